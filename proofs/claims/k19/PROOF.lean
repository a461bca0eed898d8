import PyProof.Rows.All
import Wide.All
import OpenK.AllK
import Wide.FinOn
import Lean
import PyProof.EqAt
import PyProof.EqKinds
import PyProof.TupleCall
import PyProof.CompUse
import PyProof.NeData
import PyProof.WalksEnum
import PyProof.EnumMake
import PyProof.ZipIter
import PyProof.Rows.EnumRows
import PyProof.Rows.FactsT2
import KE.KDictList
import PyProof.Rows.SortRuns
import PyProof.Rows.SortWalk
import KE.KSortTup
import PyProof.Rows.SortStr
import PyProof.ListRange
import PyProof.StrOps2
import PyProof.StrBlock2
import PyProof.AutoIntG3
import PyProof.ListMulRight
import PyProof.Rows.ListMulArg
import PyProof.Rows.CallKwBuiltin
import PyProof.Rows.StrMul
import KE.KMinBuiltin
import PyProof.TupleKey
import PyProof.SetKind
import PyProof.Rows.SetFrom
import PyProof.DictWalks
import KE.KRevIter
import PyProof.NsDelKeeps
import PyProof.AutoSeq1
import PyProof.P3Eq
import PyProof.MeetsSeq3
import PyProof.FactsAll.list_2
import PyProof.FactsAll.tuple_2
import PyProof.Rows.RowHeap
import PyProof.FactsAll.list_3
import KE.KItem
import PyProof.MeetsSeq
import PyProof.FactsAll.list_4
import PySem.Challenge.RW_kinlook_k19_what_is_a_scroll
open List renaming mem_cons_of_mem->xaa,mem_cons_self->xac,mem_append_right->xad,length_map->xae,mem_append->xaf,nodup_append->xah,sublist_append_right->xai,size_toArray->xak,mem_append_left->xam,mem_cons->xaq,nodup_cons->xau,getElem?_eq_some_iff->xaw,append_nil->xay,length_append->xaz,nodup_nil->xaA,map_cons->xaD,replicate_succ->xaE,length_take->xaG,nil_sublist->xaH,filterMap_cons->xaI,flatten_cons->xaK,lookup_cons->xaL,sublist_append_left->xaN,length_drop->xaO,length_cons->xaP,map_map->xaQ,getElem?_append_right->xaR,drop_eq_getElem_cons->xaT,mem_range->xaU,getElem?_map->xaV,all_eq_true->xaW,append_eq_nil_iff->xaX,map_append->xa1,getElem?_append_left->xa3,all_cons->xa4,cons_ne_nil->xa5,mem_singleton->xa6,getElem?_set_self->xa7,any_cons->xa8,find?_cons->xa9,length_range->xbb,getElem?_eq_none->xbc,mem_map->xbd,getElem?_replicate->xbg,take_of_length_le->xbj,length_replicate->xbl,mem_iff_getElem?->xbn,getElem?_set_ne->xbo,mem_of_mem_drop->xbq,mem_of_mem_take->xbr,all_map->xbt,drop_zero->xbv,contains_cons->xby,pairwise_map->xbz,not_mem_nil->xbA,getElem_mem->xbB,drop_length->xbC,nodup_range->xbD
open PySem renaming wpAny_bind->xab,wpAny_pure->xag,wpAny_mono->xaM
open Nat renaming le_refl->xaj,lt_of_lt_of_le->xan,le_trans->xat,ne_of_lt->xaB,zero_le->xaC,lt_irrefl->xa2,le_of_lt->xbf,mul_le_mul->xbh,le_of_succ_le->xbi,not_lt_zero->xbs,lt_of_le_of_lt->xbw
open PySem.Heap renaming get?_push_of_some->xal,lt_size->xao,get?_push_size->xax,size_push->xbu
open Bool renaming false_ne_true->xap,and_eq_true->xas,eq_iff_iff->xa0,false_eq_true->xbe,true_and->xbm
open Int renaming emod_lt_of_pos->xar,emod_nonneg->xav,toNat_of_nonneg->xaJ
open Array renaming length_toList->xaF,getD_eq_getD_getElem?->xaY,getElem?_toList->xaZ,getElem?_eq_none->xba,getElem?_extract->xbk,mem_toList_iff->xbp,append_assoc->xbx
open Option renaming ne_none_iff_exists'->xaS
local macro_rules | `(command| def $i:declId $s:optDeclSig $v:declVal)=>`(command| noncomputable def $i:declId $s:optDeclSig $v:declVal)
local macro_rules | `(command| abbrev $i:declId $s:optDeclSig $v:declVal)=>`(command| noncomputable abbrev $i:declId $s:optDeclSig $v:declVal)
set_option compiler.extract_closed false
local macro_rules | `(tactic| walk_at "l") => `(tactic| first | lia | omega)
local macro_rules | `(tactic| walk_at "s1") => `(tactic| solve_by_elim (maxDepth := 4) [Nat.lt_of_lt_of_le, Nat.lt_of_le_of_lt, Nat.le_trans, Nat.lt_trans, Nat.le_of_lt, Nat.le_of_not_lt])
local macro_rules | `(tactic| walk_at "s2") => `(tactic| solve_by_elim (maxDepth := 5) [Nat.lt_of_lt_of_le, Nat.lt_of_le_of_lt, Nat.le_trans, Nat.le_of_lt, Nat.le_of_not_lt, Nat.lt_of_not_le, Nat.lt_of_succ_lt, Nat.le_of_succ_le])
local macro_rules | `(tactic| walk_at "s3") => `(tactic| solve_by_elim (maxDepth := 5) [Int.lt_of_lt_of_le, Int.lt_of_le_of_lt, Int.le_trans, Int.le_of_lt, Int.not_lt.mp, Int.not_le.mp])
local macro_rules | `(tactic| walk_at "s4") => `(tactic| solve_by_elim (maxDepth := 5) [Nat.le_trans, Nat.lt_of_lt_of_le, Nat.le_of_lt, Nat.le_add_right, Nat.le_add_left, Nat.add_le_add_left, Nat.add_lt_add_left, Nat.succ_le_succ, Nat.sub_le])
theorem L2.ex2 {α β:Type _} {A B C:α->β->Prop} {G:Prop} (x:∃ a b,A a b/\B a b/\C a b) (k:∀ a b,A a b->B a b->C a b->G):G :=
  let ⟨a, b, p, q, r⟩ := x
  k a b p q r
set_option Elab.async false
set_option linter.all false
set_option maxRecDepth 100000
namespace L2
open PySem PySem.Spec PyProof.Rows

abbrev Key:=Sum Int Str
def keyIs:Key->Value->Bool
  | .inl k,v=>Value.isInt k v
  | .inr x,v=>Value.isStrOf x v
def keyH (w:World):Key->Int
  | .inl k=>hashInt k
  | .inr x=>hashStr w x
theorem keyIs_shape:∀ {k:Key} {v:Value},keyIs k v=true->(∃ i t,k=Sum.inl i/\v=Value.int i t)\/(∃ x t,k=Sum.inr x/\v=Value.str x t)
  | .inl i,v,h=>by
    obtain ⟨t,e⟩:=Value.isInt_shape (k:=i) (v:=v) h
    exact .inl ⟨i,t,rfl,e⟩
  | .inr x,v,h=>by
    obtain ⟨t,e⟩:=Value.isStrOf_shape (x:=x) (v:=v) h
    exact .inr ⟨x,t,rfl,e⟩
theorem keyIs_int (i:Int) (t:Tok):keyIs (.inl i) (.int i t)=true:=by simp [keyIs,Value.isInt]
theorem keyIs_str (x:Str) (t:Tok):keyIs (.inr x) (.str x t)=true:=by simp [keyIs,Value.isStrOf]
theorem key_ll (a b:Int):decide ((Sum.inl a:Key)=Sum.inl b)=(a == b):=by
  by_cases e:a=b
  · subst e; simp
  · have h:¬ (Sum.inl a:Key)=Sum.inl b:=fun q=>e (Sum.inl.inj q)
    rw [decide_eq_false h]
    exact (beq_eq_false_iff_ne.mpr e).symm
theorem key_rr (a b:Str):decide ((Sum.inr a:Key)=Sum.inr b)=decide (a=b):=by
  by_cases e:a=b
  · subst e; simp
  · have h:¬ (Sum.inr a:Key)=Sum.inr b:=fun q=>e (Sum.inr.inj q)
    rw [decide_eq_false h,decide_eq_false e]
theorem key_lr (a:Int) (b:Str):decide ((Sum.inl a:Key)=Sum.inr b)=false:=decide_eq_false (fun q=>nomatch q)
theorem key_rl (a:Str) (b:Int):decide ((Sum.inr a:Key)=Sum.inl b)=false:=decide_eq_false (fun q=>nomatch q)

def mixKind (prog:Program) (w:World):PySem.KeyKind prog w Key where
  is:=keyIs
  hash:=keyH w
  inj:=fun v a b ha hb=>by
    rcases keyIs_shape ha with ⟨i,t,rfl,rfl⟩ | ⟨x,t,rfl,rfl⟩
    · rcases keyIs_shape hb with ⟨j,u,rfl,e⟩ | ⟨y,u,rfl,e⟩
      · injection e with e1 _; rw [e1]
      · exact nomatch e
    · rcases keyIs_shape hb with ⟨j,u,rfl,e⟩ | ⟨y,u,rfl,e⟩
      · exact nomatch e
      · injection e with e1 _; rw [e1]
  byValue:=fun k v h=>by
    rcases keyIs_shape h with ⟨i,t,rfl,rfl⟩ | ⟨x,t,rfl,rfl⟩ <;> rfl
  pyHash:=fun hv h=>by
    rcases keyIs_shape hv with ⟨i,t,rfl,rfl⟩ | ⟨x,t,rfl,rfl⟩
    · exact wpAny_pyHash_int h
    · exact wpAny_pyHash_str h
  eqBool:=fun hu hv h=>by
    rcases keyIs_shape hu with ⟨i,t,rfl,rfl⟩ | ⟨x,t,rfl,rfl⟩
    · rcases keyIs_shape hv with ⟨j,u,rfl,rfl⟩ | ⟨y,u,rfl,rfl⟩
      · rw [key_ll] at h; exact wpAny_eqBool_int h
      · rw [key_lr] at h; exact SeqAt.EqAt.int_str i t y u _ _ _ _ h
    · rcases keyIs_shape hv with ⟨j,u,rfl,rfl⟩ | ⟨y,u,rfl,rfl⟩
      · rw [key_rl] at h; exact SeqAt.EqAt.str_int x t j u _ _ _ _ h
      · rw [key_rr] at h; exact wpAny_eqBool_str h
  «strs» := fun k x t v h=>by
    rcases keyIs_shape h with ⟨i,u,rfl,e⟩ | ⟨y,u,rfl,e⟩
    · exact nomatch e
    · injection e with e1 _
      subst e1
      cases v <;> rfl

theorem mixKind_int (prog:Program) (w:World) (i:Int) (t:Tok):(mixKind prog w).is (.inl i) (.int i t)=true:=keyIs_int i t
theorem mixKind_str (prog:Program) (w:World) (x:Str) (t:Tok):(mixKind prog w).is (.inr x) (.str x t)=true:=keyIs_str x t
end L2

namespace L2
open PySem PySem.Spec PyProof.Rows

inductive V where
  | non | bl (b:Bool) | int (i:Int) | str (x:Str) | byt (b:Array UInt8) | flt (b:UInt64) | ref (a:Addr) | ty (n:String)
  deriving DecidableEq

def RelV:V->Value->Prop
  | .non,u=>u=Value.none
  | .bl b,u=>u=Value.bool b
  | .int i,u=>∃ t,u=Value.int i t
  | .str x,u=>∃ t,u=Value.str x t
  | .byt b,u=>∃ t,u=Value.bytes b t
  | .flt b,u=>∃ t,u=Value.float b t
  | .ref a,u=>u=Value.ref a
  | .ty n,u=>u=Value.type n

abbrev Vals:List V->List Value->Prop:=Paired RelV
theorem Vals.length (r:Vals xs us):xs.length=us.length:=Paired.length r
theorem Vals.get:∀ {xs:List V} {us:List Value} {i:Nat} {x:V},Vals xs us->xs[i]? = some x->∃ u,us[i]? = some u/\RelV x u
  | _,_,_,_,.nil,e=>by simp at e
  | _,_,0,_,.cons r _,e=>by simp at e; subst e; exact ⟨_,rfl,r⟩
  | _,_,i+1,x,.cons _ t,e=>by
    obtain ⟨u,h1,h2⟩:=Vals.get (i:=i) (x:=x) t (by simpa using e)
    exact ⟨u,by simpa using h1,h2⟩
theorem Vals.set (r:RelV x u):∀ {xs:List V} {us:List Value} (i:Nat),Vals xs us->Vals (xs.set i x) (us.set i u)
  | _,_,_,.nil=>.nil
  | _,_,0,.cons _ t=>.cons r t
  | _,_,i+1,.cons q t=>.cons q (Vals.set r i t)
theorem Vals.append:∀ {xs ys:List V} {us ws:List Value},Vals xs us->Vals ys ws->Vals (xs++ys) (us++ws)
  | _,_,_,_,.nil,s=>s
  | _,_,_,_,.cons r t,s=>.cons r (Vals.append t s)
theorem Vals.take:∀ {xs:List V} {us:List Value} (n:Nat),Vals xs us->Vals (xs.take n) (us.take n)
  | _,_,0,_=>.nil
  | _,_,_+1,.nil=>.nil
  | _,_,n+1,.cons r t=>.cons r (Vals.take n t)
theorem Vals.drop:∀ {xs:List V} {us:List Value} (n:Nat),Vals xs us->Vals (xs.drop n) (us.drop n)
  | _,_,0,r=>r
  | _,_,_+1,.nil=>.nil
  | _,_,n+1,.cons _ t=>Vals.drop n t
def RelO:Option V->Option Value->Prop
  | some v,some u=>RelV v u
  | none,none=>True
  | _,_=>False
def KV {κ:Type}:List (κ × V)->List (κ × Value)->Prop:=Paired fun (p:κ × V) (q:κ × Value)=>p.1=q.1/\RelV p.2 q.2

def kV:Key->V
  | .inl i=>.int i
  | .inr x=>.str x

inductive HO where
  /-- a list -/
  | lst (xs:List V)
  /-- a tuple (never changes) -/
  | tup (xs:List V)
  /-- a dict whose keys are ints and texts; one whose keys are tuples of ints and texts (the empty one is both) -/
  | dK (kvs:List (Key × V)) | dT (kvs:List (List Key × V))
  /-- a set of ints: its members,its size -/
  | set (S:Int->Bool) (n:Nat)
  /-- an instance of the class at C,its dict at dx,its attributes -/
  | ins (C dx:Addr) (fs:List (Str × V))
  /-- the dict of the instance at x -/
  | own (x:Addr)
  /-- the dict of an exception -/
  | xd (fs:List (Str × V))
  /-- a bound method,f of x -/
  | met (f x:Addr)
  /-- a range object lo,lo+1,.. below hi -/
  | rng (lo hi:Int)
  /-- a thing that is known to the object (the script; a dict while a loop walks it): read,never written while it is so -/
  | frz (o:Obj) (u:HO)
  /-- a code object's table -/
  | tbl (ps:Array Value)
  /-- any other thing,by what is true of its one object (a def of one's own: SetO a S n:=HO.ext fun h=>..) -/
  | ext (φ:Heap->Prop)

abbrev Hp:=Addr->Option HO
def upd (H:Hp) (a:Addr) (o:HO):Hp:=fun b=>if b=a then some o else H b
theorem upd_same:upd H a o a=some o:=by unfold upd; rw [if_pos rfl]
theorem upd_ne (h:b≠a):upd H a o b=H b:=by unfold upd; rw [if_neg h]
theorem ne_of_none {H:Hp} {a b:Addr} {o:HO} (h:H a=some o) (h':H b=none):a≠b:=by
  intro e; subst e; rw [h] at h'; cases h'

section
variable (P:Program) (w:World)
def ObjOk (H:Hp) (h:Heap) (a:Addr):HO->Prop
  | .lst xs=>xs.length<=sizeLine/\∃ (its:List Value) (n:Nat),Vals xs its/\h.get? a=some { cls:=.type "list",data:=.seq its.toArray n }
  | .tup xs=>xs.length<=sizeLine/\∃ its:List Value,Vals xs its/\IsTup h a its.toArray
  | .dK kvs=>kvs.length<=sizeLine/\(a == sysModules)=false/\∃ vs,KV kvs vs/\h.DictOf (mixKind P w) a vs
  | .dT kvs=>kvs.length<=sizeLine/\(a == sysModules)=false/\∃ xs:List (List Key × Addr × Value),
      Paired (fun (p:List Key × V) (q:List Key × Addr × Value)=>p.1=q.1/\H q.2.1=some (.tup (p.1.map kV))/\RelV p.2 q.2.2) kvs xs /\
      ∃ o es ep,h.get? a=some o/\o.ExactDict/\o.data=.dict es ep/\es.toList=xs.map (entryOfKey (tupleKind (mixKind P w)))/\(xs.map (·.1)).Nodup
  | .set S n=>h.SetOf (intKind P w) a S n
  | .ins C dx fs=>H dx=some (.own a)/\fs.length<=1000/\dx≠a/\h.get? a=some (PySem.W.instObj C dx) /\
      ∃ mA,h.Ns1 dx mA/\(∀ f,RelO (fs.lookup f) (mA f))/\PySem.Within mA (fs.map (·.1))
  | .own _=>∃ o,h.get? a=some o
  | .xd fs=>∃ mA,h.Ns1 a mA/\∀ f,RelO (fs.lookup f) (mA f)
  | .rng lo hi=>∃ t u v,h.get? a=some { cls:=.type "range",data:=.fields #[.int lo t,.int hi u,.int 1 v] }
  | .frz o u=>h.get? a=some o/\ObjOk H h a u
  | .tbl ps=>h.get? a=some { cls:=.none,data:=.fields ps }
  | .met f x=>h.get? a=some (PySem.W.methodObj (.ref f) (.ref x))
  | .ext φ=>φ h/\(∃ o,h.get? a=some o)/\∀ h1 h2:Heap,φ h1->(∀ o,h1.get? a=some o->h2.get? a=some o)->φ h2
def HOk (H:Hp) (h:Heap):Prop:=∀ a o,H a=some o->ObjOk P w H h a o
end

section
variable {P:Program} {w:World} {H H':Hp} {h h':Heap} {a:Addr} {o:HO}
theorem ObjOk.lt (x:ObjOk P w H h a o):a<h.objs.size:=by
  cases o with
  | lst xs=>obtain ⟨_,_,_,_,e⟩:=x; exact xao e
  | tup xs=>obtain ⟨_,_,_,p⟩:=x; exact p.lt
  | dK kvs=>obtain ⟨_,_,_,_,o,_,_,e,_⟩:=x; exact xao e
  | dT kvs=>obtain ⟨_,_,_,_,o,_,_,e,_⟩:=x; exact xao e
  | set S n=>obtain ⟨o,_,_,_,e,_⟩:=x; exact xao e
  | ins C dx fs=>obtain ⟨_,_,_,e,_⟩:=x; exact xao e
  | own y=>obtain ⟨_,e⟩:=x; exact xao e
  | xd fs=>obtain ⟨_,⟨_,_,_,e,_⟩,_⟩:=x; exact xao e
  | rng lo hi=>obtain ⟨_,_,_,e⟩:=x; exact xao e
  | frz ob u=>obtain ⟨e,_⟩:=x; exact xao e
  | tbl ps=>exact xao (show h.get? a=some _ from x)
  | met f y=>exact xao (show h.get? a=some _ from x)
  | ext φ=>obtain ⟨_,⟨_,e⟩,_⟩:=x; exact xao e
theorem Paired.mapP {α β:Type} {F G:α->β->Prop}:∀ {l₁:List α} {l₂:List β},Paired F l₁ l₂->(∀ a b,F a b->G a b)->Paired G l₁ l₂
  | _,_,.nil,_=>.nil
  | _,_,.cons r t,f=>.cons (f _ _ r) (Paired.mapP t f)
theorem ObjOk.stay (x:ObjOk P w H h a o) (k:∀ b u,(b=a\/H b=some (.own a))->h.get? b=some u->h'.get? b=some u)
    (ho:∀ b,H b=some (.own a)->H' b=some (.own a)) (ht:∀ b xs,H b=some (.tup xs)->H' b=some (.tup xs)):ObjOk P w H' h' a o:=by
  induction o with
  | lst xs=>obtain ⟨z,its,n,r,e⟩:=x; exact ⟨z,its,n,r,k _ _ (.inl rfl) e⟩
  | tup xs=>obtain ⟨z,its,r,ob,e,c⟩:=x; exact ⟨z,its,r,ob,k _ _ (.inl rfl) e,c⟩
  | dK kvs=>obtain ⟨z,y,vs,r,ob,es,ep,e,c⟩:=x; exact ⟨z,y,vs,r,ob,es,ep,k _ _ (.inl rfl) e,c⟩
  | dT kvs =>
    obtain ⟨z,y,xs,r,ob,es,ep,e,c⟩:=x
    exact ⟨z,y,xs,Paired.mapP r fun p q z=>⟨z.1,ht _ _ z.2.1,z.2.2⟩,ob,es,ep,k _ _ (.inl rfl) e,c⟩
  | set S n=>obtain ⟨ob,es,ep,t,e,c⟩:=x; exact ⟨ob,es,ep,t,k _ _ (.inl rfl) e,c⟩
  | ins C dx fs =>
    obtain ⟨d,z,ne,e,mA,⟨od,es,ep,e2,c⟩,r⟩:=x
    exact ⟨ho _ d,z,ne,k _ _ (.inl rfl) e,mA,⟨od,es,ep,k _ _ (.inr d) e2,c⟩,r⟩
  | own y=>obtain ⟨ob,e⟩:=x; exact ⟨ob,k _ _ (.inl rfl) e⟩
  | xd fs=>obtain ⟨mA,⟨od,es,ep,e,c⟩,r⟩:=x; exact ⟨mA,⟨od,es,ep,k _ _ (.inl rfl) e,c⟩,r⟩
  | rng lo hi=>obtain ⟨t,u,v,e⟩:=x; exact ⟨t,u,v,k _ _ (.inl rfl) e⟩
  | frz ob u ih=>obtain ⟨e,q⟩:=x; exact ⟨k _ _ (.inl rfl) e,ih q⟩
  | tbl ps =>
    have e:h.get? a=some { cls:=.none,data:=.fields ps }:=x
    show h'.get? a=some { cls:=.none,data:=.fields ps }
    exact k a _ (.inl rfl) e
  | met f y =>
    have e:h.get? a=some (PySem.W.methodObj (.ref f) (.ref y)):=x
    show h'.get? a=some (PySem.W.methodObj (.ref f) (.ref y))
    exact k a _ (.inl rfl) e
  | ext φ=>obtain ⟨p,⟨o,e⟩,st⟩:=x; exact ⟨st _ _ p fun o q=>k _ _ (.inl rfl) q,⟨o,k _ _ (.inl rfl) e⟩,st⟩
theorem HOk.lt (x:HOk P w H h) (e:H a=some o):a<h.objs.size:=(x a o e).lt
theorem HOk.fresh (x:HOk P w H h) (e:h.objs.size<=a):H a=none:=by
  cases q:H a with
  | none=>rfl
  | some u=>exact absurd (xan (x.lt q) e) (xa2 _)
theorem HOk.kept (x:HOk P w H h) (k:∀ b u,h.get? b=some u->h'.get? b=some u):HOk P w H h':=fun a o e =>
  (x a o e).stay (fun b u _ q=>k b u q) (fun _ q=>q) fun _ _ q=>q
theorem HOk.laid (x:HOk P w H h) (k:∀ b u,h.get? b=some u->h'.get? b=some u) (hp:h.objs.size<=a) (new:ObjOk P w (upd H a o) h' a o):HOk P w (upd H a o) h':=fun b u e=>by
  have hn:=x.fresh hp
  by_cases hb:b=a
  · subst hb; rw [upd_same] at e; cases e; exact new
  · rw [upd_ne hb] at e
    exact (x b u e).stay (fun c v _ q=>k c v q) (fun c q=>by rw [upd_ne (ne_of_none q hn)]; exact q) fun c xs q=>by rw [upd_ne (ne_of_none q hn)]; exact q
end

def Rd (H:Hp) (a:Addr) (u:HO):Prop:=H a=some u\/∃ o,H a=some (.frz o u)
theorem Rd.of (h:H a=some u):Rd H a u:=.inl h
theorem Rd.ok {P:Program} (r:Rd H a u) (x:HOk P w H h):ObjOk P w H h a u:=by
  rcases r with r | ⟨o,r⟩
  · exact x a u r
  · obtain ⟨_,q⟩:=x a _ r
    exact q
def Mut:Option HO->Prop
  | some (.lst _)=>True
  | some (.dK _)=>True
  | some (.dT _)=>True
  | some (.set _ _)=>True
  | some (.ins _ _ _)=>True
  | some (.ext _)=>True
  | _=>False
section
variable {P:Program} {w:World} {H:Hp} {h h':Heap} {x e:Addr} {o':HO}
theorem HOk.write (ok:HOk P w H h) (mu:Mut (H x)) (he:e=x\/H e=some (.own x)) (k:∀ b u,b≠e->h.get? b=some u->h'.get? b=some u) (heo:∃ u,h'.get? e=some u)
    (new:ObjOk P w (upd H x o') h' x o'):HOk P w (upd H x o') h':=fun b u q=>by
  have nown:∀ c y,H c=some (.own y)->c≠x:=fun c y r z=>by subst z; rw [r] at mu; exact mu
  have ntup:∀ c xs,H c=some (.tup xs)->c≠x:=fun c xs r z=>by subst z; rw [r] at mu; exact mu
  by_cases hb:b=x
  · subst hb; rw [upd_same] at q; cases q; exact new
  · rw [upd_ne hb] at q
    by_cases hbe:b=e
    · have q':H b=some (.own x):=by
        rcases he with z | z
        · exact absurd (hbe.trans z) hb
        · rw [hbe]; exact z
      rw [q] at q'; cases q'
      obtain ⟨v,hv⟩:=heo
      exact ⟨v,by rw [hbe]; exact hv⟩
    · refine (ok b u q).stay (fun c v hc r=>k c v ?_ r) (fun c r=>by rw [upd_ne (nown c b r)]; exact r) fun c xs r=>by rw [upd_ne (ntup c xs r)]; exact r
      rcases hc with rfl | hc
      · exact hbe
      · rintro rfl
        rcases he with z | z
        · exact nown c b hc z
        · rw [hc] at z; cases z; exact hb rfl
end

structure Un (fs ex:List Addr) (H H':Hp) (h h':Heap):Prop where
  keep:∀ b o,h.get? b=some o->H b=none->b∉fs->b∉ex->h'.get? b=some o
  slot:∀ b o,h.get? b=some o->H b=none->b∈fs->b∉ex->∃ sl,h'.get? b=some { o with slots:=sl }
  free:∀ b o,h.get? b=some o->H b=none->b∉ex->H' b=none
  there:∀ b o,h.get? b=some o->b∉ex->∃ o',h'.get? b=some o'
  tups:∀ b xs,H b=some (.tup xs)->H' b=some (.tup xs)
  frzs:∀ b o u,H b=some (.frz o u)->H' b=some (.frz o u)
  tbls:∀ b ps,H b=some (.tbl ps)->∃ more,H' b=some (.tbl (ps++more))
section
variable {fs fs' ex ex':List Addr} {H H1 H2:Hp} {h h1 h2 h':Heap} {a x e:Addr} {o:HO}
theorem Un.any (u:Un fs ex H H1 h h1) (q:h.get? b=some ob) (n:H b=none) (hx:b∉ex):∃ sl,h1.get? b=some { ob with slots:=sl }:=by
  by_cases hb:b∈fs
  · exact u.slot b ob q n hb hx
  · exact ⟨ob.slots,u.keep b ob q n hb hx⟩
theorem Un.trans (a:Un fs ex H H1 h h1) (b:Un fs ex H1 H2 h1 h2):Un fs ex H H2 h h2 where
  keep:=fun c ob q n hc hx=>b.keep c ob (a.keep c ob q n hc hx) (a.free c ob q n hx) hc hx
  slot:=fun c ob q n hc hx=>by
    obtain ⟨sl,e1⟩:=a.slot c ob q n hc hx
    obtain ⟨sl',e2⟩:=b.slot c _ e1 (a.free c ob q n hx) hc hx
    exact ⟨sl',e2⟩
  free:=fun c ob q n hx=>by
    obtain ⟨o',e1⟩:=a.there c ob q hx
    exact b.free c o' e1 (a.free c ob q n hx) hx
  there:=fun c ob q hx=>by
    obtain ⟨o',e1⟩:=a.there c ob q hx
    exact b.there c o' e1 hx
  tups:=fun c xs q=>b.tups c xs (a.tups c xs q)
  frzs:=fun c ob xs q=>b.frzs c ob xs (a.frzs c ob xs q)
  tbls:=fun c ps q=>by
    obtain ⟨m1,e1⟩:=a.tbls c ps q
    obtain ⟨m2,e2⟩:=b.tbls c _ e1
    exact ⟨m1++m2,by rw [e2,xbx]⟩
theorem Un.kept (k:∀ b u,h.get? b=some u->h'.get? b=some u):Un fs ex H H h h' :=
  ⟨fun b ob q _ _ _=>k b ob q,fun b ob q _ _ _=>⟨ob.slots,k b ob q⟩,fun _ _ _ n _=>n,fun b ob q _=>⟨ob,k b ob q⟩,fun _ _ q=>q,fun _ _ _ q=>q,fun _ ps q=>⟨#[],by rw [q]; simp⟩⟩
theorem Un.refl:Un fs ex H H h h:=Un.kept fun _ _ q=>q
theorem Un.laid (k:∀ b u,h.get? b=some u->h'.get? b=some u) (hp:h.objs.size<=a) (hn:H a=none):Un fs ex H (upd H a o) h h' where
  keep:=fun b u q _ _ _=>k b u q
  slot:=fun b u q _ _ _=>⟨u.slots,k b u q⟩
  free:=fun b u q n _=>by rw [upd_ne (xaB (xan (xao q) hp))]; exact n
  there:=fun b u q _=>⟨u,k b u q⟩
  tups:=fun b xs q=>by rw [upd_ne (ne_of_none q hn)]; exact q
  frzs:=fun b u xs q=>by rw [upd_ne (ne_of_none q hn)]; exact q
  tbls:=fun b ps q=>⟨#[],by rw [upd_ne (ne_of_none q hn),q]; simp⟩
theorem Un.write (mu:Mut (H x)) (he:e=x\/H e=some (.own x)) (k:∀ b u,b≠e->h.get? b=some u->h'.get? b=some u) (heo:∃ u,h'.get? e=some u):Un fs ex H (upd H x o) h h':=by
  have hx:∀ b,H b=none->b≠x:=fun b n z=>by subst z; rw [n] at mu; exact mu
  have hb:∀ b,H b=none->b≠e:=fun b n z=>by
    subst z
    rcases he with r | r
    · exact hx b n r
    · rw [n] at r; cases r
  have hm:∀ b u,H b=some u->¬ Mut (some u)->b≠x:=fun b u q nm z=>by subst z; rw [q] at mu; exact nm mu
  refine ⟨fun b u q n _ _=>k b u (hb b n) q,fun b u q n _ _=>⟨u.slots,k b u (hb b n) q⟩,fun b u q n _=>by rw [upd_ne (hx b n)]; exact n,fun b u q _=>?_,
    fun b xs q=>by rw [upd_ne (hm b _ q fun z=>z)]; exact q,fun b u xs q=>by rw [upd_ne (hm b _ q fun z=>z)]; exact q,fun b ps q=>⟨#[],by rw [upd_ne (hm b _ q fun z=>z),q]; simp⟩⟩
  by_cases hbe:b=e
  · subst hbe; exact heo
  · exact ⟨u,k b u hbe q⟩
theorem Un.mono (u:Un fs ex H H1 h h1) (hs:∀ b∈fs,b∈fs') (hx:∀ b∈ex,b∈ex'):Un fs' ex' H H1 h h1 :=
  ⟨fun b ob q n hb he=>u.keep b ob q n (fun z=>hb (hs b z)) fun z=>he (hx b z),fun _ _ q n _ he=>u.any q n fun z=>he (hx _ z),fun b ob q n he=>u.free b ob q n fun z=>he (hx b z),fun b ob q he=>u.there b ob q fun z=>he (hx b z),u.tups,u.frzs,u.tbls⟩
end

def trk (h:Heap) (H:Hp):List Addr:=(List.range h.objs.size).filter fun a=>(H a).isSome
def hidT (h:Heap) (H:Hp):Heap:=PySem.W.hideAll h (trk h H)
theorem hidT_size (h:Heap) (H:Hp):(hidT h H).objs.size=h.objs.size:=PySem.W.hideAll_size _ _
theorem hidT_get (e:h.get? b=some o) (n:H b=none):(hidT h H).get? b=some o :=
  PySem.W.hideAll_get _ e fun hm=>by
    have q:(H b).isSome=true:=(List.mem_filter.mp hm).2
    rw [n] at q; simp at q
theorem of_hidT (e:(hidT h H).get? b=some o):h.get? b=some o/\H b=none:=by
  have e':h.get? b=some o:=PySem.W.of_hideAll (trk h H) e
  refine ⟨e',?_⟩
  cases q:H b with
  | none=>rfl
  | some x =>
    have hm:b∈trk h H:=List.mem_filter.mpr ⟨xaU.mpr (xao e'),by simp [q]⟩
    have z:(hidT h H).get? b=none:=PySem.W.hideAll_none (trk h H) hm
    rw [z] at e; cases e

def allNews (g h:Heap) (L:Addr):List (Addr × Obj):=(List.range h.objs.size).filterMap fun a=>if a=L\/(g.get? a).isSome=true then none else (h.get? a).map fun o=>(a,o)
def rest (g h:Heap) (L d:Addr):List (Addr × Obj):=(allNews g h L).filter fun p=>decide (p.1≠d)
end L2

namespace L2
open PySem PySem.Spec PyProof.Rows

structure Mod (K:PySem.W.Frag) (mg:Str->Option Value) (base:Heap):Prop where
  kin:K.In base
  glob:base.Ns mainGlobals mg
  blt:∃ mb,base.Ns builtinsNs mb/\∀ x:Str,x ≠ "__name__"->mb x=bootBuiltins x
  nolimit:base.NoLimit

structure Cx where
  prog:Program
  w:World
  K:PySem.W.Frag
  mg:Str->Option Value
  base:Heap
  A:Around
  N:List Str
  s₀:Shared
  H₀:Hp
  env:Env
  outer:List Env
  stack:List Env
  ex:List Addr
  fn:Str->Bool
  calm:Bool
  pn:List (Addr × Obj)
  xe:Value->Shared->Prop
def frs (l:List Env):List Addr:=l.filterMap (·.frame)
abbrev Cx.fs (X:Cx):List Addr:=frs X.outer

def Vis (sc:Scope) (x:Str):Prop:=sc.names.lookup x=some .local\/sc.names.lookup x=some .cell\/sc.names.lookup x=some .free
def Loc (sc:Scope) (x:Str):Prop:=sc.names.lookup x=some .local\/sc.names.lookup x=some .cell
def Look (env:Env) (h:Heap) (m:Str->Option Value) (x:Str) (u:Value):Prop :=
  (env.kindOf x=some .local/\m x=some u)\/((env.kindOf x=some .cell\/env.kindOf x=some .free)/\∃ c,env.cells.lookup x=some c/\h.IsCell c (some u))

structure Cx.Ok (X:Cx):Prop where
  mod:Mod X.K X.mg X.base
  kind:X.env.scope.kind=.function
  glob:X.env.globals=mainGlobals
  blt:X.env.builtins=builtinsNs
  above:X.s₀.heap.objs.size<=X.env.locals
  inj:∀ x y c,X.env.cells.lookup x=some c->X.env.cells.lookup y=some c->x=y
  has:∀ x,(X.env.kindOf x=some .cell\/X.env.kindOf x=some .free)->∃ c,X.env.cells.lookup x=some c
  cab:∀ x c,X.fn x=true->X.env.cells.lookup x=some c->X.s₀.heap.objs.size<=c
  hd:X.calm=true->X.A.handled=none
  frames:X.A.frames=some X.stack
  stk:X.stack=X.outer\/(X.stack=X.env :: X.outer/\X.env.frame=some X.env.locals)
  exf:∀ b∈X.ex,b≠X.env.locals/\∀ x c,X.env.cells.lookup x=some c->c≠b
  bs:∀ b o,X.base.get? b=some o->X.s₀.heap.get? b=some o/\X.H₀ b=none
  bsz:X.base.objs.size<=X.s₀.heap.objs.size
  noex:∀ b o,X.base.get? b=some o->b∉X.ex
  exfs:∀ b∈X.ex,b∉X.fs
  funs:X.s₀.heap.FunFrames X.base X.outer
  frf:∀ b∈X.fs,X.H₀ b=none

structure Inv (X:Cx) (pins:List (Addr × Obj)) (σ:List (Option V)) (H:Hp) (s:Shared):Prop where
  ok:X.Ok
  os:s.os=X.s₀.os
  bare:AllBare s.gens
  base:Un X.fs X.ex X.H₀ H X.s₀.heap s.heap
  loc:∃ m,s.heap.Ns X.env.locals m/\∀ (i:Nat) (x:Str) (v:V),X.N[i]? = some x->σ[i]? = some (some v)->Vis X.env.scope x->∃ u,RelV v u/\Look X.env s.heap m x u
  cell:∀ x c,X.env.cells.lookup x=some c->∃ v,s.heap.IsCell c v
  free:H X.env.locals=none
  freeC:∀ x c,X.env.cells.lookup x=some c->H c=none
  pin:∀ p∈X.pn++pins,s.heap.get? p.1=some p.2/\H p.1=none/\p.1≠X.env.locals/\p.1∉X.fs/\∀ v,p.2.data≠.cell v
  hok:HOk X.prog X.w H s.heap
  len:σ.length=X.N.length

section
variable {X:Cx} {pins:List (Addr × Obj)} {σ:List (Option V)} {H H':Hp} {s:Shared} {h':Heap}

theorem Cx.Ok.nofr (ok:X.Ok) (e:X.base.get? b=some o):b∉X.fs:=fun hb=>by
  have:=(ok.funs.mem hb).1
  rw [e] at this; cases this
theorem Inv.bs (I:Inv X pins σ H s):∀ b o,X.base.get? b=some o->s.heap.get? b=some o/\H b=none:=fun b o e =>
  ⟨I.base.keep b o (I.ok.bs b o e).1 (I.ok.bs b o e).2 (I.ok.nofr e) (I.ok.noex b o e),I.base.free b o (I.ok.bs b o e).1 (I.ok.bs b o e).2 (I.ok.noex b o e)⟩
theorem Inv.bk (I:Inv X pins σ H s):∀ b o,X.base.get? b=some o->s.heap.get? b=some o:=fun b o e=>(I.bs b o e).1
theorem Inv.mod (I:Inv X pins σ H s):Mod X.K X.mg X.base:=I.ok.mod
theorem Inv.kIn (I:Inv X pins σ H s):X.K.In s.heap:=I.ok.mod.kin.keeps I.bk
theorem Inv.nolimit (I:Inv X pins σ H s):s.heap.NoLimit:=I.ok.mod.nolimit.keeps I.bk
theorem Inv.fr (I:Inv X pins σ H s):∃ m,Fr X.base X.env.locals s.heap m :=
  let ⟨m, hn, _⟩ := I.loc
  ⟨m,hn,I.bk,xat I.ok.bsz I.ok.above⟩
theorem Inv.lt (I:Inv X pins σ H s):X.env.locals<s.heap.objs.size:=let ⟨_,hn,_⟩:=I.loc; hn.lt
theorem Inv.sz (I:Inv X pins σ H s):X.s₀.heap.objs.size<=s.heap.objs.size:=xat I.ok.above (xbf I.lt)
theorem Inv.nofs (I:Inv X pins σ H s) (h:s.heap.objs.size<=a):a∉X.fs:=fun hb=>by
  obtain ⟨_,o,ho,_⟩:=I.ok.funs.mem hb
  exact absurd (xan (xao ho) (xat I.sz h)) (xa2 _)
theorem Inv.cne (I:Inv X pins σ H s):∀ x c,X.env.cells.lookup x=some c->c≠X.env.locals:=fun x c e z=>by
  obtain ⟨v,o,ho,hd⟩:=I.cell x c e
  obtain ⟨m,⟨o',es,ep,ho',hd',_⟩,_⟩:=I.loc
  rw [z,ho'] at ho; cases ho; rw [hd'] at hd; cases hd
theorem Inv.funs (I:Inv X pins σ H s):s.heap.FunFrames X.base X.outer:=by
  have all:∀ (l:List Env),(∀ b∈frs l,b∈X.fs)->X.s₀.heap.FunFrames X.base l->s.heap.FunFrames X.base l:=by
    intro l
    induction l with
    | nil=>intro _ _; trivial
    | cons env r ih =>
      intro hs hl
      obtain ⟨hk,⟨L,o,hf,hn,ho,hd⟩,hr⟩:=hl
      have hL:L∈X.fs:=hs L (by unfold frs; rw [xaI,hf]; exact xac)
      obtain ⟨sl,e⟩:=I.base.slot L o ho (I.ok.frf L hL) hL fun z=>I.ok.exfs L z hL
      exact ⟨hk,⟨L,_,hf,hn,e,hd⟩,ih (fun b hb=>hs b (by unfold frs; rw [xaI,hf]; exact xaa _ hb)) hr⟩
  exact all X.outer (fun _ hb=>hb) I.ok.funs

theorem Inv.stack (I:Inv X pins σ H s):s.heap.FunFrames X.base X.stack:=by
  rcases I.ok.stk with e | ⟨e,hf⟩
  · rw [e]; exact I.funs
  · rw [e]
    obtain ⟨m,hn,_⟩:=I.loc
    refine .cons (by rw [I.ok.kind]; decide) hf hn ?_ I.funs
    exact Heap.get?_none_of_le (xat I.ok.bsz I.ok.above)
theorem Inv.stkSub (I:Inv X pins σ H s):∀ b∈frs X.stack,b∈X.env.locals :: X.fs:=fun b hb=>by
  rcases I.ok.stk with e | ⟨e,hf⟩
  · rw [e] at hb; exact xaa _ hb
  · rw [e] at hb
    unfold frs at hb
    rw [xaI,hf] at hb
    exact hb
theorem Inv.stkFree (I:Inv X pins σ H s):∀ b∈frs X.stack,H b=none:=fun b hb=>by
  rcases xaq.mp (I.stkSub b hb) with e | hb
  · rw [e]; exact I.free
  · obtain ⟨_,o,ho,_⟩:=I.ok.funs.mem hb
    exact I.base.free b o ho (I.ok.frf b hb) fun z=>I.ok.exfs b z hb

theorem Inv.step {g':Array GenState} {t':Nat} {d':Drawn} {ch:List Addr} (I:Inv X pins σ H s)
    (hch:∀ b∈ch,(b∈X.ex\/X.s₀.heap.objs.size<=b)/\b≠X.env.locals/\(∀ x c,X.env.cells.lookup x=some c->c≠b)/\∀ p∈X.pn++pins,p.1≠b)
    (keep:∀ b o,b≠X.env.locals->b∉X.fs->b∉ch->s.heap.get? b=some o->H b=none->h'.get? b=some o)
    (slot:∀ b o,b≠X.env.locals->b∈X.fs->b∉ch->s.heap.get? b=some o->H b=none->∃ sl,h'.get? b=some { o with slots:=sl }) (free:∀ b o,b∉ch->s.heap.get? b=some o->H b=none->H' b=none)
    (there:∀ b o,b∉ch->s.heap.get? b=some o->∃ o',h'.get? b=some o')
    (tups:∀ b xs,H b=some (.tup xs)->H' b=some (.tup xs)) (frzs:∀ b o u,H b=some (.frz o u)->H' b=some (.frz o u)) (tbls:∀ b ps,H b=some (.tbl ps)->∃ more,H' b=some (.tbl (ps++more)))
    (ns:∀ m,s.heap.Ns X.env.locals m->h'.Ns X.env.locals m) (hok:HOk X.prog X.w H' h') (hg:AllBare g') :
    Inv X pins σ H' { s with heap:=h',gens:=g',drawn:=d',toks:=t' }:=by
  have neL:∀ b o,X.s₀.heap.get? b=some o->b≠X.env.locals:=fun b o e=>xaB (xan (xao e) I.ok.above)
  have neC:∀ b o,X.s₀.heap.get? b=some o->b∉X.ex->b∉ch:=fun b o e hx hb=>by
    rcases (hch b hb).1 with z | z
    · exact hx z
    · exact absurd (xan (xao e) z) (xa2 _)
  have cellK:∀ x c,X.env.cells.lookup x=some c->∀ v,s.heap.IsCell c v->h'.IsCell c v:=fun x c e v hx9=>by
    obtain ⟨o,ho,hd⟩:=hx9
    have nch:c∉ch:=fun z=>(hch c z).2.2.1 x c e rfl
    by_cases hc:c∈X.fs
    · obtain ⟨sl,q⟩:=slot c o (I.cne x c e) hc nch ho (I.freeC x c e)
      exact ⟨_,q,hd⟩
    · exact ⟨o,keep c o (I.cne x c e) hc nch ho (I.freeC x c e),hd⟩
  refine ⟨I.ok,I.os,hg,⟨fun b o e n hb hx=>?_,fun b o e n hb hx=>?_,fun b o e n hx=>?_,fun b o e hx=>?_,fun b xs e=>tups b xs (I.base.tups b xs e),fun b o xs e=>frzs b o xs (I.base.frzs b o xs e),fun b ps e=>?_⟩,?_,fun x c e=>?_,?_,fun x c e=>?_,fun p hp=>?_,hok,I.len⟩
  · exact keep b o (neL b o e) hb (neC b o e hx) (I.base.keep b o e n hb hx) (I.base.free b o e n hx)
  · obtain ⟨sl,e1⟩:=I.base.slot b o e n hb hx
    obtain ⟨sl',e2⟩:=slot b _ (neL b o e) hb (neC b o e hx) e1 (I.base.free b o e n hx)
    exact ⟨sl',e2⟩
  · obtain ⟨o',e1⟩:=I.base.there b o e hx
    exact free b o' (neC b o e hx) e1 (I.base.free b o e n hx)
  · obtain ⟨o',e1⟩:=I.base.there b o e hx
    exact there b o' (neC b o e hx) e1
  · obtain ⟨m1,e1⟩:=I.base.tbls b ps e
    obtain ⟨m2,e2⟩:=tbls b _ e1
    exact ⟨m1++m2,by rw [e2,xbx]⟩
  · obtain ⟨m,hn,hl⟩:=I.loc
    refine ⟨m,ns m hn,fun i x v e1 e2 e3=>?_⟩
    obtain ⟨u,r,l⟩:=hl i x v e1 e2 e3
    refine ⟨u,r,?_⟩
    rcases l with l | ⟨k,c,e,z⟩
    · exact .inl l
    · exact .inr ⟨k,c,e,cellK x c e _ z⟩
  · obtain ⟨v,z⟩:=I.cell x c e
    exact ⟨v,cellK x c e v z⟩
  · obtain ⟨m,⟨o,_,_,ho,_⟩,_⟩:=I.loc
    exact free _ o (fun z=>(hch _ z).2.1 rfl) ho I.free
  · obtain ⟨v,o,ho,hd⟩:=I.cell x c e
    exact free c o (fun z=>(hch c z).2.2.1 x c e rfl) ho (I.freeC x c e)
  · obtain ⟨e,n,ne,nf,d⟩:=I.pin p hp
    have nch:p.1∉ch:=fun z=>(hch p.1 z).2.2.2 p hp rfl
    exact ⟨keep p.1 p.2 ne nf nch e n,free p.1 p.2 nch e n,ne,nf,d⟩
theorem Inv.un {t':Nat} (I:Inv X pins σ H s) (u:Un X.fs [] H H' s.heap h') (hok:HOk X.prog X.w H' h'):Inv X pins σ H' { s with heap:=h',toks:=t' }:=by
  obtain ⟨m,⟨o,es,ep,ho,r⟩,_⟩:=id I.loc
  obtain ⟨sl,hL⟩:=u.any ho I.free (by simp)
  exact I.step (g':=s.gens) (d':=s.drawn) (ch:=[]) (fun _ z=>nomatch z) (fun b o _ hb _ e n=>u.keep b o e n hb (by simp)) (fun b o _ hb _ e n=>u.slot b o e n hb (by simp)) (fun b o _ e n=>u.free b o e n (by simp)) (fun b o _ e=>u.there b o e (by simp)) u.tups u.frzs u.tbls (fun m' hm=>by
    obtain ⟨o',es',ep',ho',r'⟩:=hm
    rw [ho] at ho'; cases ho'
    exact ⟨_,es',ep',hL,r'⟩) hok I.bare
theorem Inv.call {g':Array GenState} {t':Nat} {d':Drawn} {ch:List Addr} (I:Inv X pins σ H s) (u:Un (frs X.stack) ch H H' s.heap h') (hok:HOk X.prog X.w H' h') (hg:AllBare g')
    (hch:∀ b∈ch,(b∈X.ex\/X.s₀.heap.objs.size<=b)/\b≠X.env.locals/\(∀ x c,X.env.cells.lookup x=some c->c≠b)/\∀ p∈X.pn++pins,p.1≠b) :
    Inv X pins σ H' { s with heap:=h',gens:=g',drawn:=d',toks:=t' }:=by
  obtain ⟨m,⟨o,es,ep,ho,r⟩,_⟩:=id I.loc
  obtain ⟨sl,hL⟩:=u.any ho I.free fun z=>(hch _ z).2.1 rfl
  exact I.step (ch:=ch) hch (fun b o hL hb hc e n=>u.keep b o e n (fun z=>(xaq.mp (I.stkSub b z)).elim hL hb) hc) (fun b o _ _ hc e n=>u.any e n hc) (fun b o hc e n=>u.free b o e n hc) (fun b o hc e=>u.there b o e hc) u.tups u.frzs u.tbls (fun m' hm=>by
    obtain ⟨o',es',ep',ho',r'⟩:=hm
    rw [ho] at ho'; cases ho'
    exact ⟨_,es',ep',hL,r'⟩) hok hg
theorem Inv.turned {t':Nat} {it:Addr} (I:Inv X pins σ H s) (k:∀ b o,b≠it->s.heap.get? b=some o->h'.get? b=some o) (hn:H it=none) (hL:it≠X.env.locals)
    (h1:it∈X.ex\/X.s₀.heap.objs.size<=it) (h2:∀ x c,X.env.cells.lookup x=some c->c≠it) (h3:∀ p∈X.pn++pins,p.1≠it):Inv X pins σ H { s with heap:=h',toks:=t' }:=by
  have nit:∀ b u,H b=some u->b≠it:=fun b u e z=>by rw [z,hn] at e; cases e
  refine I.step (g':=s.gens) (d':=s.drawn) (ch:=[it]) (fun b hb=>?_) (fun b o _ _ hc e _=>k b o (fun z=>hc (by simp [z])) e) (fun b o _ _ hc e _=>⟨o.slots,k b o (fun z=>hc (by simp [z])) e⟩) (fun _ _ _ _ n=>n)
    (fun b o hc e=>⟨o,k b o (fun z=>hc (by simp [z])) e⟩) (fun _ _ e=>e) (fun _ _ _ e=>e) (fun b ps e=>⟨#[],by rw [e]; simp⟩) (fun m hm=>?_) (fun b u e=>?_) I.bare
  · have e:b=it:=by simpa using hb
    subst e
    exact ⟨h1,hL,h2,h3⟩
  · obtain ⟨o,es,ep,ho,r⟩:=hm
    exact ⟨o,es,ep,k _ o (Ne.symm hL) ho,r⟩
  · refine (I.hok b u e).stay (fun c v hc q=>k c v ?_ q) (fun _ q=>q) fun _ _ q=>q
    rcases hc with z | z
    · rw [z]; exact nit b u e
    · exact nit c _ z
theorem Inv.tok (I:Inv X pins σ H s) (t:Nat):Inv X pins σ H { s with toks:=t }:=I.un (h':=s.heap) (t':=t) Un.refl I.hok
theorem Inv.kept (I:Inv X pins σ H s) (k:∀ b u,s.heap.get? b=some u->h'.get? b=some u):Inv X pins σ H { s with heap:=h',toks:=t' }:=I.un (Un.kept k) (I.hok.kept k)
theorem Inv.laid (I:Inv X pins σ H s) (k:∀ b u,s.heap.get? b=some u->h'.get? b=some u) (hp:s.heap.objs.size<=a) (new:ObjOk X.prog X.w (upd H a o) h' a o) :
    Inv X pins σ (upd H a o) { s with heap:=h',toks:=t' }:=I.un (Un.laid k hp (I.hok.fresh hp)) (I.hok.laid k hp new)
theorem Inv.write (I:Inv X pins σ H s) (mu:Mut (H x)) (he:e=x\/H e=some (.own x)) (k:∀ b u,b≠e->s.heap.get? b=some u->h'.get? b=some u) (heo:∃ u,h'.get? e=some u)
    (new:ObjOk X.prog X.w (upd H x o) h' x o):Inv X pins σ (upd H x o) { s with heap:=h',toks:=t' }:=I.un (Un.write mu he k heo) (I.hok.write mu he k heo new)
theorem Inv.pins_of (I:Inv X pins σ H s) (h:∀ p∈pins',s.heap.get? p.1=some p.2/\H p.1=none/\p.1≠X.env.locals/\p.1∉X.fs/\∀ v,p.2.data≠.cell v):Inv X pins' σ H s :=
  ⟨I.ok,I.os,I.bare,I.base,I.loc,I.cell,I.free,I.freeC,fun p hp=>(xaf.mp hp).elim (fun z=>I.pin p (xam _ z)) (h p),I.hok,I.len⟩

theorem nodup_ix {N:List Str} (hN:N.Nodup) {i j:Nat} {x:Str} (a:N[i]? = some x) (b:N[j]? = some x):i=j:=by
  obtain ⟨h1,e1⟩:=xaw.mp a
  obtain ⟨h2,e2⟩:=xaw.mp b
  exact (List.getElem_inj hN).mp (e1.trans e2.symm)

theorem store_ok2 {M:Model} {A:Around} {E:Value->Shared->Prop} {i:Nat} {x:Str} {v:V} {u:Value} {Q:Unit->Shared->Prop} (I:Inv X pins σ H s) (hN:X.N.Nodup) (hi:X.N[i]? = some x) (hx:Loc X.env.scope x) (r:RelV v u)
    (h:∀ s',Inv X pins (σ.set i (some v)) H s'->(∃ a,Heap.SameBut a s.heap s'.heap/\(a=X.env.locals\/X.env.cells.lookup x=some a))->Q () s') (hf:X.fn x=true\/X.env.scope.names.lookup x=some .local:=by first | exact .inl rfl | exact .inr rfl | assumption):wpAny M A (storeName X.env x u) Q E s:=by
  obtain ⟨m,hn,hl⟩:=id I.loc
  have hcls:(X.env.scope.kind == .class || (X.env.scope.kind == .module && X.env.locals != X.env.globals))=false:=by rw [I.ok.kind]; rfl
  have hiσ:i<σ.length:=by rw [I.len]; exact (xaw.mp hi).1
  have cne:=I.cne
  have tracked:∀ {a:Addr} {h':Heap},(∃ o,s.heap.get? a=some o/\H a=none)->Heap.SameBut a s.heap h'->HOk X.prog X.w H h':=fun {a h'} ha hs b ob e=>by
    obtain ⟨_,_,hfree⟩:=ha
    refine (I.hok b ob e).stay (fun c w' hc q=>(hs.2 c ?_).trans q) (fun _ q=>q) fun _ _ q=>q
    rintro rfl
    rcases hc with rfl | hc
    · rw [hfree] at e; cases e
    · rw [hfree] at hc; cases hc
  rcases hx with hk | hk
  · refine wpAny_storeName_local hk hn (fun h' hn' hs=>?_) hcls
    obtain ⟨oL,_,_,hoL,_⟩:=id hn
    refine h _ ⟨I.ok,I.os,I.bare,⟨fun b o e n hb hx=>?_,fun b o e n hb hx=>?_,I.base.free,fun b o e hx=>?_,I.base.tups,I.base.frzs,I.base.tbls⟩,⟨_,hn',fun j y v' e1 e2 e3=>?_⟩,fun y c e=>?_,I.free,I.freeC,fun p hp=>?_,tracked ⟨oL,hoL,I.free⟩ hs,by simpa using I.len⟩ ⟨_,hs,.inl rfl⟩
    · exact (hs.2 b (xaB (xan (xao e) I.ok.above))).trans (I.base.keep b o e n hb hx)
    · obtain ⟨sl,e1⟩:=I.base.slot b o e n hb hx
      exact ⟨sl,(hs.2 b (xaB (xan (xao e) I.ok.above))).trans e1⟩
    · obtain ⟨o',e1⟩:=I.base.there b o e hx
      exact ⟨o',(hs.2 b (xaB (xan (xao e) I.ok.above))).trans e1⟩
    · by_cases hj:j=i
      · subst hj
        rw [hi] at e1; cases e1
        rw [xa7 hiσ] at e2
        cases e2
        exact ⟨u,r,.inl ⟨hk,by simp⟩⟩
      · rw [xbo (Ne.symm hj)] at e2
        obtain ⟨u',r',q⟩:=hl j y v' e1 e2 e3
        refine ⟨u',r',?_⟩
        rcases q with ⟨k,e⟩ | ⟨k,c,e,z⟩
        · refine .inl ⟨k,?_⟩
          have:y≠x:=fun e=>hj (nodup_ix hN e1 (e ▸ hi))
          simp [this,e]
        · exact .inr ⟨k,c,e,z.sameBut hs (cne y c e)⟩
    · obtain ⟨w',z⟩:=I.cell y c e
      exact ⟨w',z.sameBut hs (cne y c e)⟩
    · obtain ⟨e,n,ne,nf,d⟩:=I.pin p hp
      exact ⟨(hs.2 p.1 ne).trans e,n,ne,nf,d⟩
  · have hfn:X.fn x=true:=by
      rcases hf with z | z
      · exact z
      · rw [z] at hk; cases hk
    obtain ⟨c,hc⟩:=I.ok.has x (.inl hk)
    obtain ⟨w',z⟩:=I.cell x c hc
    refine wpAny_storeName_cell I.ok.kind hk hc z (fun h' hc' hs=>?_)
    obtain ⟨oc,hoc,hocd⟩:=id z
    refine h { s with heap:=h' } ⟨I.ok,I.os,I.bare,⟨fun b o e n hb hx=>?_,fun b o e n hb hx=>?_,I.base.free,fun b o e hx=>?_,I.base.tups,I.base.frzs,I.base.tbls⟩,⟨m,hn.sameBut hs (Ne.symm (cne x c hc)),fun j y v' e1 e2 e3=>?_⟩,fun y c' e=>?_,I.free,I.freeC,fun p hp=>?_,tracked ⟨oc,hoc,I.freeC x c hc⟩ hs,by simpa using I.len⟩ ⟨c,hs,.inr hc⟩
    · exact (hs.2 b (xaB (xan (xao e) (I.ok.cab x c hfn hc)))).trans (I.base.keep b o e n hb hx)
    · obtain ⟨sl,e1⟩:=I.base.slot b o e n hb hx
      exact ⟨sl,(hs.2 b (xaB (xan (xao e) (I.ok.cab x c hfn hc)))).trans e1⟩
    · obtain ⟨o',e1⟩:=I.base.there b o e hx
      exact ⟨o',(hs.2 b (xaB (xan (xao e) (I.ok.cab x c hfn hc)))).trans e1⟩
    · by_cases hj:j=i
      · subst hj
        rw [hi] at e1; cases e1
        rw [xa7 hiσ] at e2
        cases e2
        exact ⟨u,r,.inr ⟨.inl hk,c,hc,hc'⟩⟩
      · rw [xbo (Ne.symm hj)] at e2
        obtain ⟨u',r',q⟩:=hl j y v' e1 e2 e3
        refine ⟨u',r',?_⟩
        rcases q with q | ⟨k,c',e,z'⟩
        · exact .inl q
        · refine .inr ⟨k,c',e,z'.sameBut hs ?_⟩
          rintro rfl
          exact hj (nodup_ix hN e1 (I.ok.inj _ _ _ e hc ▸ hi))
    · by_cases hcc:c'=c
      · subst hcc; exact ⟨_,hc'⟩
      · obtain ⟨w2,z2⟩:=I.cell y c' e
        exact ⟨w2,z2.sameBut hs hcc⟩
    · obtain ⟨e,n,ne,nf,d⟩:=I.pin p hp
      refine ⟨(hs.2 p.1 ?_).trans e,n,ne,nf,d⟩
      intro q
      rw [q,hoc] at e
      have q':oc=p.2:=Option.some.inj e
      exact d w' (by rw [<- q']; exact hocd)
theorem store_ok (I:Inv X pins σ H s) (hN:X.N.Nodup) (hi:X.N[i]? = some x) (hx:Loc X.env.scope x) (r:RelV v u)
    (h:∀ s',Inv X pins (σ.set i (some v)) H s'->Q () s') (hf:X.fn x=true\/X.env.scope.names.lookup x=some .local:=by first | exact .inl rfl | exact .inr rfl | assumption):wpAny M A (storeName X.env x u) Q E s :=
  store_ok2 I hN hi hx r (fun s' I' _=>h s' I') hf
theorem Inv.call' (I:Inv X pins σ H s) (ho:s'.os=s.os) (u:Un (frs X.stack) ch H H' s.heap s'.heap) (hok:HOk X.prog X.w H' s'.heap) (hg:AllBare s'.gens)
    (hch:∀ b∈ch,(b∈X.ex\/X.s₀.heap.objs.size<=b)/\b≠X.env.locals/\(∀ x c,X.env.cells.lookup x=some c->c≠b)/\∀ p∈X.pn++pins,p.1≠b):Inv X pins σ H' s':=by
  obtain ⟨h',g',d',t',o'⟩:=s'
  have e:o'=s.os:=ho
  subst e
  exact I.call (g':=g') (t':=t') (d':=d') u hok hg hch
end

abbrev XK:=Value->Option Addr->Hp->Prop
abbrev St:=List (Option V)
abbrev VK:=V->Hp->Prop
abbrev TE:=St->Hp->VK->Prop
abbrev TT:=St->Hp->(Bool->Hp->Prop)->Prop
abbrev TA:=St->Hp->(List V->Hp->Prop)->Prop
structure Ends where
  nx:St->Hp->Prop
  rt:VK
  bk:St->Hp->Prop:=fun _ _=>False
  ct:St->Hp->Prop:=fun _ _=>False
abbrev TS:=Ends->St->Hp->Prop

def EP (X:Cx) (pins:List (Addr × Obj)) (σ:St) (Q:VK) (u:Value) (s':Shared):Prop:=∃ v H',Inv X pins σ H' s'/\RelV v u/\Q v H'
def TP (X:Cx) (pins:List (Addr × Obj)) (σ:St) (Q:Bool->Hp->Prop) (b:Bool) (s':Shared):Prop:=∃ H',Inv X pins σ H' s'/\Q b H'
def AP (X:Cx) (pins:List (Addr × Obj)) (σ:St) (Q:List V->Hp->Prop) (us:List Value) (s':Shared):Prop:=∃ vs H',Inv X pins σ H' s'/\Vals vs us/\Q vs H'
def SP (X:Cx) (pins:List (Addr × Obj)) (D:Ends) (f:Flow) (s':Shared):Prop :=
  match f with
  | .next=>∃ σ' H',Inv X pins σ' H' s'/\D.nx σ' H'
  | .brk=>∃ σ' H',Inv X pins σ' H' s'/\D.bk σ' H'
  | .cont=>∃ σ' H',Inv X pins σ' H' s'/\D.ct σ' H'
  | .ret u=>∃ v σ' H',Inv X pins σ' H' s'/\RelV v u/\D.rt v H'

def PE (X:Cx) (e:Expr) (t:TE):Prop :=
  ∀ (pins:List (Addr × Obj)) (s:Shared) (σ:St) (H:Hp) (Q:VK),Inv X pins σ H s->t σ H Q->wpAny (model X.prog X.w) X.A (eval e X.env) (EP X pins σ Q) X.xe s
def PT (X:Cx) (e:Expr) (t:TT):Prop :=
  ∀ (pins:List (Addr × Obj)) (s:Shared) (σ:St) (H:Hp) (Q:Bool->Hp->Prop),Inv X pins σ H s->t σ H Q->wpAny (model X.prog X.w) X.A (isTrue e X.env (eval e X.env)) (TP X pins σ Q) X.xe s
def PW (X:Cx) (e:Expr) (t:TT):Prop :=
  ∀ (whole:Sem Value) (pins:List (Addr × Obj)) (s:Shared) (σ:St) (H:Hp) (Q:Bool->Hp->Prop),Inv X pins σ H s->t σ H Q->wpAny (model X.prog X.w) X.A (isTrue e X.env whole) (TP X pins σ Q) X.xe s
def PA (X:Cx) (es:List Expr) (t:TA):Prop :=
  ∀ (pos:Pos) (pins:List (Addr × Obj)) (s:Shared) (σ:St) (H:Hp) (Q:List V->Hp->Prop),Inv X pins σ H s->t σ H Q->wpAny (model X.prog X.w) X.A (spliced (backTo pos (starEach es X.env))) (AP X pins σ Q) X.xe s
def PS (X:Cx) (st:Stmt) (t:TS):Prop :=
  ∀ (pins:List (Addr × Obj)) (s:Shared) (σ:St) (H:Hp) (D:Ends),Inv X pins σ H s->t D σ H->wpAny (model X.prog X.w) X.A (exec st X.env) (SP X pins D) X.xe s
def PSs (X:Cx) (st:List Stmt) (t:TS):Prop :=
  ∀ (pins:List (Addr × Obj)) (s:Shared) (σ:St) (H:Hp) (D:Ends),Inv X pins σ H s->t D σ H->wpAny (model X.prog X.w) X.A (execs st X.env) (SP X pins D) X.xe s
theorem thn {α:Type} {t:Sem α} {Q Q':α->Shared->Prop} {M:Model} {A:Around} {E:Value->Shared->Prop} {s:Shared} (h:wpAny M A t Q E s) (hQ:∀ a s,Q a s->Q' a s):wpAny M A t Q' E s:=xaM h hQ fun _ _ x=>x
end L2

namespace L2
open PySem PySem.Spec PyProof.Rows
section
variable {X:Cx}

def tVar (i:Nat):TE:=fun σ H Q=>∃ v,σ[i]? = some (some v)/\Q v H
def tC (v:V):TE:=fun _ H Q=>Q v H
theorem pe_var (hN:X.N[i]? = some x) (hv:Vis X.env.scope x) (hd:(x == ("__debug__" : Str))=false:=by decide) (hcd:(x == ("__classdict__" : Str))=false:=by decide):PE X (.Name x pos) (tVar i):=by
  intro pins s σ H Q I h
  obtain ⟨v,e,h⟩:=h
  obtain ⟨m,hn,hl⟩:=I.loc
  obtain ⟨u,r,l⟩:=hl i x v hN e hv
  have fin:EP X pins σ Q u s:=⟨v,H,I,r,h⟩
  rcases l with ⟨hk,hm⟩ | ⟨hk,c,hc,hcell⟩
  · exact wpAny_Name (wpAny_loadName_local I.ok.kind hk hn hm fin) hd
  · rcases hk with hk | hk
    · exact wpAny_Name (wpAny_loadName_cell I.ok.kind hk hc hcell fin) hd
    · exact wpAny_Name (wpAny_loadName_free I.ok.kind hk hc hcell fin hcd) hd
theorem pe_int {i j pos}:PE X (.Constant (.int i) j pos) (tC (.int i)):=fun _ _ _ H _ I h=>wpAny_Constant_int ⟨.int i,H,I.tok _,⟨_,rfl⟩,h⟩
theorem pe_bl {b j pos}:PE X (.Constant (.bool b) j pos) (tC (.bl b)):=fun _ _ _ H _ I h=>Constant_bool ⟨.bl b,H,I,rfl,h⟩
theorem pe_non {j pos}:PE X (.Constant .none j pos) (tC .non):=fun _ _ _ H _ I h=>Constant_none ⟨.non,H,I,rfl,h⟩
theorem pe_str {x j pos}:PE X (.Constant (.str x) j pos) (tC (.str x)):=fun _ _ _ H _ I h=>Calls.Constant_str ⟨.str x,H,I.tok _,⟨_,rfl⟩,h⟩

def Gl (X:Cx) (x:Str):Prop:=X.env.kindOf x=some .globalImplicit
theorem ld_glob (I:Inv X pins σ H s) (hg:Gl X x) (hm:X.mg x=some u) (h:Q u s)
    (hd:(x == ("__debug__" : Str))=false:=by decide):wpAny (model X.prog X.w) X.A (eval (.Name x pos) X.env) Q E s :=
  Calls.Name_function_global I.ok.kind hg (Calls.loadGlobal_global (by rw [I.ok.glob]; exact I.mod.glob.keeps I.bk) hm h) hd
theorem ld_blt (I:Inv X pins σ H s) (hg:Gl X x) (hm:X.mg x=none) (hv:bootBuiltins x=some u) (h:Q u s)
    (hn:x ≠ "__name__" := by decide) (hd:(x == ("__debug__" : Str))=false:=by decide):wpAny (model X.prog X.w) X.A (eval (.Name x pos) X.env) Q E s:=by
  obtain ⟨mb,h1,h2⟩:=I.mod.blt
  exact Calls.Name_function_global I.ok.kind hg (Calls.loadGlobal_builtin (by rw [I.ok.glob]; exact I.mod.glob.keeps I.bk) hm (by rw [I.ok.blt]; exact h1.keeps I.bk) ((h2 x hn).trans hv) h) hd
theorem pe_glob (hg:Gl X x) (hm:X.mg x=some u) (r:RelV v u) (hd:(x == ("__debug__" : Str))=false:=by decide):PE X (.Name x pos) (tC v) :=
  fun _ _ _ H _ I h=>ld_glob I hg hm ⟨v,H,I,r,h⟩ hd
theorem pe_bltn (hg:Gl X x) (hm:X.mg x=none) (hv:bootBuiltins x=some u) (r:RelV v u) (hn:x ≠ "__name__" := by decide) (hd:(x == ("__debug__" : Str))=false:=by decide):PE X (.Name x pos) (tC v) :=
  fun _ _ _ H _ I h=>ld_blt I hg hm hv ⟨v,H,I,r,h⟩ hn hd

variable {a b:Expr} {ta tb:TE} {pos:Pos}
def tB (t:TE):TT:=fun σ H Q=>t σ H fun x H1=>∃ c,x=.bl c/\Q c H1
theorem pt_val (h:PE X e t) (he:∀ whole,isTrue e X.env whole=(do let v <- whole; standAt e.pos; holding [v] (truthy v)):=by intro _; rfl):PT X e (tB t):=by
  intro pins s σ H Q I hw
  refine isTrue_plain (thn (h pins s σ H _ I hw) fun v s1 hx5=>L2.ex2 hx5 fun x H1 I1 r1 q1=>?_) (he _)
  obtain ⟨d,rfl,q⟩:=q1
  cases r1
  exact wpAny_truthy_bool ⟨H1,I1,q⟩

variable {tA tB':TT} {rest:List Expr}
def tOr (t u:TT):TT:=fun σ H Q=>t σ H fun c H1=>if c=true then Q true H1 else u σ H1 Q
def tNot (t:TT):TT:=fun σ H Q=>t σ H fun c H1=>Q (!c) H1
theorem pw_or1 (ha:PT X a tA):PW X (.BoolOp .Or [a] pos) tA:=by
  intro wh pins s σ H Q I h
  refine isTrue_or (thn (ha pins s σ H Q I h) fun c s1 e=>?_)
  cases c with
  | false=>exact isTrue_or_nil e
  | true=>exact e
theorem pw_or (ha:PT X a tA) (hb:PW X (.BoolOp .Or (b :: rest) pos) tB'):PW X (.BoolOp .Or (a :: b :: rest) pos) (tOr tA tB'):=by
  intro wh pins s σ H Q I h
  refine isTrue_or (thn (ha pins s σ H _ I h) fun c s1 hx9=>?_)
  obtain ⟨H1,I1,q1⟩:=hx9
  cases c with
  | true=>exact ⟨H1,I1,q1⟩
  | false=>exact hb wh pins s1 σ H1 Q I1 q1
theorem pt_not (ha:PT X a tA):PT X (.UnaryOp .Not a pos) (tNot tA):=by
  intro pins s σ H Q I h
  exact isTrue_not (ha pins s σ H (fun c H1=>Q (!c) H1) I h)
def tAndV (ta tb:TE):TE:=fun σ H Q=>ta σ H fun x H1=>∃ c,x=.bl c/\if c=true then tb σ H1 Q else Q (.bl false) H1
def tOrV (ta tb:TE):TE:=fun σ H Q=>ta σ H fun x H1=>∃ c,x=.bl c/\if c=true then Q (.bl true) H1 else tb σ H1 Q
def tNotV (ta:TE):TE:=fun σ H Q=>ta σ H fun x H1=>∃ c,x=.bl c/\Q (.bl (!c)) H1
theorem pe_one {op} (h:PE X a t):PE X (.BoolOp op [a] pos) t:=fun pins s σ H Q I hw=>BoolOp_one (h pins s σ H Q I hw)
theorem pe_and (ha:PE X a ta) (hb:PE X (.BoolOp .And (b :: rest) pos) tb):PE X (.BoolOp .And (a :: b :: rest) pos) (tAndV ta tb):=by
  intro pins s σ H Q I h
  refine BoolOp_and (thn (ha pins s σ H _ I h) fun v s1 hx5=>L2.ex2 hx5 fun x H1 I1 r1 q1=>?_)
  obtain ⟨c,rfl,q1⟩:=q1
  cases r1
  refine wpAny_truthy_bool ?_
  cases c with
  | true=>exact hb pins s1 σ H1 Q I1 q1
  | false=>exact ⟨.bl false,H1,I1,rfl,q1⟩
theorem pe_or (ha:PE X a ta) (hb:PE X (.BoolOp .Or (b :: rest) pos) tb):PE X (.BoolOp .Or (a :: b :: rest) pos) (tOrV ta tb):=by
  intro pins s σ H Q I h
  refine BoolOp_or (thn (ha pins s σ H _ I h) fun v s1 hx5=>L2.ex2 hx5 fun x H1 I1 r1 q1=>?_)
  obtain ⟨c,rfl,q1⟩:=q1
  cases r1
  refine wpAny_truthy_bool ?_
  cases c with
  | false=>exact hb pins s1 σ H1 Q I1 q1
  | true=>exact ⟨.bl true,H1,I1,rfl,q1⟩
theorem pe_not (ha:PE X a ta):PE X (.UnaryOp .Not a pos) (tNotV ta):=by
  intro pins s σ H Q I h
  refine UnaryOp_ (thn (ha pins s σ H _ I h) fun v s1 hx5=>L2.ex2 hx5 fun x H1 I1 r1 q1=>?_)
  obtain ⟨c,rfl,q1⟩:=q1
  cases r1
  exact not_of (wpAny_truthy_bool ⟨.bl (!c),H1,I1,rfl,q1⟩)
end
end L2

namespace L2
open PySem PySem.Spec PyProof.Rows

def SqL (K:PySem.W.Frag) (H:Hp) (a:Addr) (xs:List V):Prop :=
  Rd H a (.lst xs) \/
    ∃ (o:Obj) (its:Array Value) (n:Nat),K.lookup a=some o/\o.cls=.type "list"/\o.dict=none/\o.data=.seq its n/\its.size<=sizeLine/\Vals xs its.toList
def SqT (K:PySem.W.Frag) (H:Hp) (a:Addr) (xs:List V):Prop :=
  Rd H a (.tup xs) \/
    ∃ (o:Obj) (its:Array Value) (n:Nat),K.lookup a=some o/\o.cls=.type "tuple"/\o.data=.seq its n/\its.size<=sizeLine/\Vals xs its.toList
def absV:Value->Option V
  | .none=>some .non
  | .bool b=>some (.bl b)
  | .int i _=>some (.int i)
  | .str x _=>some (.str x)
  | .bytes b _=>some (.byt b)
  | .float b _=>some (.flt b)
  | .ref a=>some (.ref a)
  | .type n=>some (.ty n)
  | _=>none
theorem RelV.abs (r:RelV x u):absV u=some x:=by
  cases x with
  | non=>cases r; rfl
  | bl _=>cases r; rfl
  | int _=>obtain ⟨t,rfl⟩:=r; rfl
  | str _=>obtain ⟨t,rfl⟩:=r; rfl
  | byt _=>obtain ⟨t,rfl⟩:=r; rfl
  | flt _=>obtain ⟨t,rfl⟩:=r; rfl
  | ref _=>cases r; rfl
  | ty _=>cases r; rfl
theorem RelV.inj (r:RelV x u) (q:RelV y u):x=y:=Option.some.inj (r.abs.symm.trans q.abs)
theorem Vals.inj:∀ {xs ys:List V} {us:List Value},Vals xs us->Vals ys us->xs=ys
  | _,_,_,.nil,.nil=>rfl
  | _,_,_,.cons r t,.cons r' t'=>by rw [r.inj r',Vals.inj t t']
section
variable {X:Cx} {pins:List (Addr × Obj)} {σ:St} {H:Hp} {s:Shared} {a:Addr} {xs ys:List V}
theorem SqL.of {K:PySem.W.Frag} (h:H a=some (.lst xs)):SqL K H a xs:=.inl (.inl h)
theorem SqT.of {K:PySem.W.Frag} (h:H a=some (.tup xs)):SqT K H a xs:=.inl (.inl h)
theorem Inv.list (I:Inv X pins σ H s) (h:SqL X.K H a xs):∃ its:List Value,Vals xs its/\PlainL s.heap a its.toArray/\xs.length<=sizeLine:=by
  rcases h with h | ⟨o,its,n,hk,hc,hd,hs,hz,r⟩
  · obtain ⟨z,its,n,r,e⟩:=h.ok I.hok
    exact ⟨its,r,⟨_,n,e,rfl,rfl,rfl⟩,z⟩
  · refine ⟨its.toList,r,⟨o,n,I.kIn a o hk,hc,hd,by simpa using hs⟩,?_⟩
    have e:=r.length
    simp only [xaF] at e
    lia
theorem Inv.tuple (I:Inv X pins σ H s) (h:SqT X.K H a xs):∃ its:List Value,Vals xs its/\IsTup s.heap a its.toArray/\xs.length<=sizeLine:=by
  rcases h with h | ⟨o,its,n,hk,hc,hs,hz,r⟩
  · obtain ⟨z,its,r,p⟩:=h.ok I.hok
    exact ⟨its,r,p,z⟩
  · refine ⟨its.toList,r,⟨o,I.kIn a o hk,hc,n,by simpa using hs⟩,?_⟩
    have e:=r.length
    simp only [xaF] at e
    lia
theorem Inv.list_inj (I:Inv X pins σ H s) (h:SqL X.K H a xs) (h':SqL X.K H a ys):xs=ys:=by
  obtain ⟨its,r,⟨o,n,e,_,_,d⟩,_⟩:=I.list h
  obtain ⟨its',r',⟨o',n',e',_,_,d'⟩,_⟩:=I.list h'
  rw [e] at e'; cases e'
  rw [d] at d'
  injection d' with d1 _
  have:its=its':=by simpa using congrArg Array.toList d1
  subst this
  exact r.inj r'
theorem Inv.tuple_inj (I:Inv X pins σ H s) (h:SqT X.K H a xs) (h':SqT X.K H a ys):xs=ys:=by
  obtain ⟨its,r,⟨o,e,_,n,d⟩,_⟩:=I.tuple h
  obtain ⟨its',r',⟨o',e',_,n',d'⟩,_⟩:=I.tuple h'
  rw [e] at e'; cases e'
  rw [d] at d'
  injection d' with d1 _
  have:its=its':=by simpa using congrArg Array.toList d1
  subst this
  exact r.inj r'
end

abbrev Cx.wish (X:Cx) (E:Value->Shared->Prop):Cx:={ X with xe:=E }
abbrev Cx.nox (X:Cx):Cx:=X.wish fun _ _=>False
theorem Cx.Ok.wish {X:Cx} (ok:X.Ok) (E:Value->Shared->Prop):(X.wish E).Ok :=
  ⟨ok.mod,ok.kind,ok.glob,ok.blt,ok.above,ok.inj,ok.has,ok.cab,ok.hd,ok.frames,ok.stk,ok.exf,ok.bs,ok.bsz,ok.noex,ok.exfs,ok.funs,ok.frf⟩
theorem Cx.Ok.unwish {X:Cx} (ok:(X.wish E).Ok):X.Ok :=
  ⟨ok.mod,ok.kind,ok.glob,ok.blt,ok.above,ok.inj,ok.has,ok.cab,ok.hd,ok.frames,ok.stk,ok.exf,ok.bs,ok.bsz,ok.noex,ok.exfs,ok.funs,ok.frf⟩
section
variable {X:Cx} {pins:List (Addr × Obj)} {σ:St} {H:Hp} {s:Shared} {E:Value->Shared->Prop}
theorem Inv.wish (I:Inv X pins σ H s) (E:Value->Shared->Prop):Inv (X.wish E) pins σ H s:=⟨I.ok.wish E,I.os,I.bare,I.base,I.loc,I.cell,I.free,I.freeC,I.pin,I.hok,I.len⟩
theorem Inv.unwish (I:Inv (X.wish E) pins σ H s):Inv X pins σ H s:=⟨I.ok.unwish,I.os,I.bare,I.base,I.loc,I.cell,I.free,I.freeC,I.pin,I.hok,I.len⟩
theorem SP.unwish {D:Ends} (h:SP (X.wish E) pins D f s'):SP X pins D f s':=by
  cases f with
  | next=>obtain ⟨σ',H',I,q⟩:=h; exact ⟨σ',H',I.unwish,q⟩
  | brk=>obtain ⟨σ',H',I,q⟩:=h; exact ⟨σ',H',I.unwish,q⟩
  | cont=>obtain ⟨σ',H',I,q⟩:=h; exact ⟨σ',H',I.unwish,q⟩
  | ret u=>obtain ⟨v,σ',H',I,r,q⟩:=h; exact ⟨v,σ',H',I.unwish,r,q⟩
theorem PE.nox (h:PE X.nox e t):PE X e t:=fun pins s σ H Q I hw =>
  xaM (h pins s σ H Q (I.wish _) hw) (fun _ _ hx5=>L2.ex2 hx5 fun v H' I' r q=>⟨v,H',I'.unwish,r,q⟩) fun _ _ z=>False.elim z
theorem PT.nox (h:PT X.nox e t):PT X e t:=fun pins s σ H Q I hw =>
  xaM (h pins s σ H Q (I.wish _) hw) (fun _ _ ⟨H',I',q⟩=>⟨H',I'.unwish,q⟩) fun _ _ z=>False.elim z
theorem PSs.nox {st:List Stmt} (h:PSs X.nox st t):PSs X st t:=fun pins s σ H D I hw =>
  xaM (h pins s σ H D (I.wish _) hw) (fun _ _ q=>q.unwish) fun _ _ z=>False.elim z
end

section
variable {X:Cx} {st:Stmt} {rest:List Stmt} {t u:TS} {e:Expr} {te:TE} {pos:Pos}
def tNext:TS:=fun D σ H=>D.nx σ H
def tSeq (t u:TS):TS:=fun D σ H=>t { D with nx:=u D } σ H
theorem pss_nil:PSs X [] tNext:=fun _ _ σ H _ I h=>wpAny_execs_nil ⟨σ,H,I,h⟩
theorem pss_cons (h1:PS X st t) (h2:PSs X rest u):PSs X (st :: rest) (tSeq t u):=by
  intro pins s σ H D I h
  refine wpAny_execs_cons (thn (h1 pins s σ H { D with nx:=u D } I h) fun f s1 q=>?_)
  cases f with
  | next =>
    obtain ⟨σ',H',I',q⟩:=q
    exact h2 pins s1 σ' H' D I' q
  | ret v=>exact q
  | brk=>exact q
  | cont=>exact q
theorem pss_one (h1:PS X st t):PSs X [st] t:=by
  intro pins s σ H D I h
  refine wpAny_execs_cons (thn (h1 pins s σ H D I h) fun f s1 q=>?_)
  cases f with
  | next=>exact wpAny_execs_nil q
  | ret v=>exact q
  | brk=>exact q
  | cont=>exact q
theorem Inv.quiet (I:Inv X pins σ H s):interactive X.env=false:=by simp [interactive,I.ok.kind]
def tDrop (te:TE):TS:=fun D σ H=>te σ H fun _ H1=>D.nx σ H1
theorem ps_expr (he:PE X e te) (hs:swapsWith e none pos.line X.env=pure false:=by rfl):PS X (.Expr e pos) (tDrop te):=by
  intro pins s σ H D I h
  exact wpAny_Expr_any (thn (he pins s σ H _ I h) fun v s1 hx5=>L2.ex2 hx5 fun x H1 I1 r1 q1=>⟨σ,H1,I1,q1⟩) I.quiet hs
def tRet (te:TE):TS:=fun D σ H=>te σ H D.rt
theorem ps_ret (he:PE X e te):PS X (.Return (some e) pos) (tRet te):=by
  intro pins s σ H D I h
  exact wpAny_Return_some (thn (he pins s σ H _ I h) fun v s1 hx5=>L2.ex2 hx5 fun x H1 I1 r1 q1=>⟨x,σ,H1,I1,r1,q1⟩)
def tIfS (c:TT) (t u:TS):TS:=fun D σ H=>c σ H fun b H1=>if b=true then t D σ H1 else u D σ H1
theorem ps_if (hc:PT X c tc) (ha:PSs X a t) (hb:PSs X b u):PS X (.If c a b pos) (tIfS tc t u):=by
  intro pins s σ H D I h
  refine wpAny_If (thn (hc pins s σ H _ I h) fun d s1 hx9=>?_)
  obtain ⟨H1,I1,q1⟩:=hx9
  cases d with
  | true=>exact ha pins s1 σ H1 D I1 q1
  | false=>exact hb pins s1 σ H1 D I1 q1
def tNever:TS:=fun _ _ _=>False
theorem pss_never:PSs X sts tNever:=fun _ _ _ _ _ _ h=>h.elim
end

abbrev TG:=V->St->Hp->(St->Hp->Prop)->Prop
abbrev TGs:=List V->St->Hp->(St->Hp->Prop)->Prop
def PG (X:Cx) (target:Expr) (t:TG):Prop :=
  ∀ (pins:List (Addr × Obj)) (s:Shared) (σ:St) (H:Hp) (v:V) (u:Value) (Q:St->Hp->Prop),Inv X pins σ H s->RelV v u->t v σ H Q ->
    wpAny (model X.prog X.w) X.A (assign target X.env u) (fun _ s'=>∃ σ' H',Inv X pins σ' H' s'/\Q σ' H') X.xe s
def PGs (X:Cx) (ts:List Expr) (t:TGs):Prop :=
  ∀ (pins:List (Addr × Obj)) (s:Shared) (σ:St) (H:Hp) (vs:List V) (us:List Value) (Q:St->Hp->Prop),Inv X pins σ H s->Vals vs us->t vs σ H Q ->
    wpAny (model X.prog X.w) X.A (assignInOrder ((assignEach ts X.env).map (·.2)) us) (fun _ s'=>∃ σ' H',Inv X pins σ' H' s'/\Q σ' H') X.xe s
section
variable {X:Cx} {pos:Pos}
def gName (i:Nat):TG:=fun v σ H Q=>Q (σ.set i (some v)) H
theorem pg_name (hN:X.N.Nodup) (hi:X.N[i]? = some x) (hx:Loc X.env.scope x) (hf:X.fn x=true\/X.env.scope.names.lookup x=some .local:=by first | exact .inl rfl | exact .inr rfl | assumption):PG X (.Name x pos) (gName i):=by
  intro pins s σ H v u Q I r h
  exact wpAny_assign_Name (store_ok I hN hi hx r (fun s' I'=>⟨_,H,I',h⟩) hf)
def gNil:TGs:=fun vs σ H Q=>vs=[]/\Q σ H
def gCons (t:TG) (u:TGs):TGs:=fun vs σ H Q=>∃ v r,vs=v :: r/\t v σ H fun σ' H'=>u r σ' H' Q
theorem pgs_nil:PGs X [] gNil:=by
  intro pins s σ H vs us Q I r h
  obtain ⟨e,h⟩:=h
  subst e
  cases r
  exact assignInOrder_nil ⟨σ,H,I,h⟩
theorem pgs_cons (h1:PG X e t) (h2:PGs X es u)
    (hs:(assignEach (e :: es) X.env).map (·.2)=assign e X.env :: (assignEach es X.env).map (·.2):=by rfl):PGs X (e :: es) (gCons t u):=by
  intro pins s σ H vs us Q I r h
  obtain ⟨v,vr,e1,h⟩:=h
  subst e1
  cases r with
  | cons r rr =>
    rw [hs]
    refine assignInOrder_cons (thn (h1 pins s σ H _ _ _ I r h) fun _ s1 hx9=>?_)
    obtain ⟨σ1,H1,I1,q1⟩:=hx9
    exact h2 pins s1 σ1 H1 _ _ Q I1 rr q1
def gTup (K:PySem.W.Frag) (n:Nat) (t:TGs):TG:=fun v σ H Q=>∃ a xs,v=.ref a/\SqT K H a xs/\xs.length=n/\t xs σ H Q
theorem pg_tup (hc:X.calm=true) (h:PGs X es t)
    (hn:(assignEach es X.env).length=n:=by rfl) (hst:(assignEach es X.env).findIdx? (·.1)=none:=by rfl):PG X (.Tuple es k pos) (gTup X.K n t):=by
  intro pins s σ H v u Q I r hw
  obtain ⟨a,xs,e1,hq,hl,hw⟩:=hw
  subst e1
  cases r
  obtain ⟨its,rv,ht,hz⟩:=I.tuple hq
  refine assign_Tuple_tuple (I.ok.hd hc) ht (by simp [hn,<- hl,rv.length]) hst fun h' hx=>?_
  have I1:Inv X pins σ H { s with heap:=h' }:=I.kept (t':=s.toks) fun b o e=>hx b o (xaB (xao e)) e
  exact h pins _ σ H xs _ Q I1 (by simpa using rv) hw
def tAsg (te:TE) (g:TG):TS:=fun D σ H=>te σ H fun x H1=>g x σ H1 D.nx
theorem ps_set (hN:X.N.Nodup) (hi:X.N[i]? = some x) (hx:Loc X.env.scope x) (he:PE X e te) (hs:swapsWith e (some (.Name x pos')) pos.line X.env=pure false:=by rfl) (hf:X.fn x=true\/X.env.scope.names.lookup x=some .local:=by first | exact .inl rfl | exact .inr rfl | assumption) :
    PS X (.Assign [.Name x pos'] e pos) (tAsg te (gName i)):=by
  intro pins s σ H D I h
  refine wpAny_Assign_Name (thn (he pins s σ H _ I h) fun v s1 hx5=>L2.ex2 hx5 fun y H1 I1 r1 q1=>?_) hs
  exact store_ok I1 hN hi hx r1 (fun s2 I2=>⟨_,H1,I2,q1⟩) hf
end


structure It where
  go:Nat->Hp->Prop
  yld:Nat->Hp->V->Hp->Prop
  stop:Nat->Hp->Prop
def FpOk (X:Cx) (pins:List (Addr × Obj)) (H:Hp) (b:Addr):Prop :=
  H b=none/\b≠X.env.locals/\b∉X.fs/\(b∈X.ex\/X.s₀.heap.objs.size<=b)/\(∀ x c,X.env.cells.lookup x=some c->c≠b)/\∀ p∈X.pn++pins,p.1≠b
theorem Inv.fpOk {X:Cx} (I:Inv X pins σ H s) (hb:s.heap.objs.size<=b) (hn:H' b=none):FpOk X pins H' b:=by
  refine ⟨hn,Nat.ne_of_gt (xan I.lt hb),I.nofs hb,.inr (xat I.sz hb),fun x c e z=>?_,fun p hp z=>?_⟩
  · obtain ⟨v,q⟩:=I.cell x c e
    exact absurd (xan q.lt (by rw [z]; exact hb)) (xa2 _)
  · exact absurd (xan (xao (I.pin p hp).1) (by rw [z]; exact hb)) (xa2 _)
structure Turn (P:Program) (w:World) (K:PySem.W.Frag) (tg:Expr) (J:It) (fp:List Addr) (it:Addr) (tn:Nat->Heap->Prop):Prop where
  mem:it∈fp
  obj:∀ i h,tn i h->∀ b∈fp,∃ o,h.get? b=some o/\∀ v,o.data≠.cell v
  keep:∀ i h h',tn i h->(∀ b∈fp,∀ o,h.get? b=some o->h'.get? b=some o)->tn i h'
  item:∀ (X:Cx),X.prog=P->X.w=w->X.K=K->X.calm=true->∀ (i:Nat) (pins:List (Addr × Obj)) (s:Shared) (σ:St) (H:Hp) (E:Value->Shared->Prop),Inv X pins σ H s->(∀ b∈fp,FpOk X pins H b)->tn i s.heap->J.go i H ->
    wpAny (model P w) X.A (pyNext (.ref it)) (fun r s1=>∃ u,r=some u /\
      wpAny (model P w) X.A (letOwnedTupleGo tg (.ref it) u) (fun _ s2=>∃ x H',Inv X pins σ H' s2/\RelV x u/\J.yld i H x H'/\tn (i+1) s2.heap/\∀ b∈fp,H' b=none) E s1) E s
  done:∀ (X:Cx),X.prog=P->X.w=w->X.K=K->X.calm=true->∀ (i:Nat) (pins:List (Addr × Obj)) (s:Shared) (σ:St) (H:Hp) (E:Value->Shared->Prop),Inv X pins σ H s->(∀ b∈fp,FpOk X pins H b)->tn i s.heap->J.stop i H ->
    wpAny (model P w) X.A (pyNext (.ref it)) (fun r s1=>r=none/\Inv X pins σ H s1) E s
  self:∀ (A:Around) (i:Nat) (s:Shared) (Q:Value->Shared->Prop) (E:Value->Shared->Prop),tn i s.heap->Q (.ref it) s->wpAny (model P w) A (pyIter (.ref it)) Q E s
abbrev TI:=St->Hp->(It->Hp->Prop)->Prop
def PIE (X:Cx) (pins:List (Addr × Obj)) (σ:St) (tg:Expr) (R:It->Hp->Prop) (itv:Value) (s2:Shared):Prop :=
  ∃ (it:Addr) (fp:List Addr) (tn:Nat->Heap->Prop) (J:It) (H':Hp),itv=.ref it/\Inv X pins σ H' s2/\Turn X.prog X.w X.K tg J fp it tn/\tn 0 s2.heap/\(∀ b∈fp,FpOk X pins H' b)/\R J H'
def PI (X:Cx) (tg iter:Expr) (wi:TI):Prop :=
  ∀ (pins:List (Addr × Obj)) (s:Shared) (σ:St) (H:Hp) (R:It->Hp->Prop),Inv X pins σ H s->wi σ H R ->
    wpAny (model X.prog X.w) X.A (eval iter X.env) (fun v s1=>wpAny (model X.prog X.w) X.A (pyIter v) (PIE X pins σ tg R) X.xe s1) X.xe s

theorem go_of (ho:s.heap.get? it=some o) (hc:o.cls=.type n) (hd:o.data=.fields vs)
    (hn:["enumerate", "zip", "dict_itemiterator", "dict_reverseitemiterator", "odict_iterator", "itertools.zip_longest", "itertools.pairwise"].contains n=false) (hQ:Q () s):wpAny M A (letOwnedTupleGo tg (.ref it) u) Q E s:=by
  unfold letOwnedTupleGo
  cases tg <;> first
    | exact xag hQ
    | (cases u <;> first
        | exact xag hQ
        | (refine xab (wpAny_load ho ?_)
           rw [hc,hd]
           show wpAny M A (if (["enumerate", "zip", "dict_itemiterator", "dict_reverseitemiterator", "odict_iterator", "itertools.zip_longest", "itertools.pairwise"].contains n && vs[0]? == some (rawInt _))=true then _ else _) Q E s
           rw [if_neg (by intro h; rw [hn,Bool.false_and] at h; cases h)]
           exact xag hQ))

def Itl (K:PySem.W.Frag) (a:Addr):It :=
  ⟨fun i H=>∃ xs x,SqL K H a xs/\xs[i]? = some x,fun i H x H'=>H'=H/\∀ xs,SqL K H a xs->xs[i]? = some x,fun i H=>∃ xs,SqL K H a xs/\xs.length<=i⟩
def Itt (K:PySem.W.Frag) (a:Addr):It :=
  ⟨fun i H=>∃ xs x,SqT K H a xs/\xs[i]? = some x,fun i H x H'=>H'=H/\∀ xs,SqT K H a xs->xs[i]? = some x,fun i H=>∃ xs,SqT K H a xs/\xs.length<=i⟩
def Itr (lo:Int) (n:Nat):It:=⟨fun i _=>i<n,fun i H x H'=>H'=H/\x=.int (lo+i),fun i _=>n<=i⟩
theorem turn_list {P:Program} {K:PySem.W.Frag} (a it:Addr):Turn P w K tg (Itl K a) [it] it (fun i h=>h.IsListIter it a i) where
  mem:=by simp
  obj:=fun i h st b hb=>by
    have e:b=it:=by simpa using hb
    subst e
    obtain ⟨o,e,c,d⟩:=st
    exact ⟨o,e,fun v z=>by rw [d] at z; cases z⟩
  keep:=fun i h h' st k=>st.at fun o e=>k it (by simp) o e
  item:=by
    intro X hP hw hK hc i pins s σ H E I hf st hg
    subst hP hw hK
    obtain ⟨xs,x,hq,hx⟩:=hg
    obtain ⟨its,rv,p,hz⟩:=I.list hq
    obtain ⟨u,hu,ru⟩:=rv.get hx
    obtain ⟨f0,f1,f2,f3,f4,f5⟩:=hf it (by simp)
    refine wpAny_pyNext_list_item st p.isList (x:=u) (by simpa using hu) fun h' st' sb=>?_
    have I1:Inv X pins σ H { s with heap:=h' }:=I.turned (t':=s.toks) (fun b o hb e=>(sb.2 b hb).trans e) f0 f1 f3 f4 f5
    obtain ⟨o,e,c,d⟩:=id st'
    exact ⟨u,rfl,go_of (s:={ s with heap:=h' }) e c d (by decide) ⟨x,H,I1,ru,⟨rfl,fun ys hy=>by rw [I.list_inj hy hq]; exact hx⟩,st',fun b hb=>(hf b hb).1⟩⟩
  done:=by
    intro X hP hw hK hc i pins s σ H E I hf st hg
    subst hP hw hK
    obtain ⟨xs,hq,hx⟩:=hg
    obtain ⟨its,rv,p,hz⟩:=I.list hq
    obtain ⟨f0,f1,f2,f3,f4,f5⟩:=hf it (by simp)
    have hl:=rv.length
    exact wpAny_pyNext_list_end (I.ok.hd hc) st p.isList (by simp; lia) fun h' eb=>⟨rfl,I.turned (t':=s.toks) (fun b o hb e=>eb b o hb e) f0 f1 f3 f4 f5⟩
  self:=fun _ _ _ _ _ st h=>wpAny_pyIter_listiter st h
theorem turn_tuple {P:Program} {K:PySem.W.Frag} (a it:Addr):Turn P w K tg (Itt K a) [it] it (fun i h=>h.IsTupleIter it a i) where
  mem:=by simp
  obj:=fun i h st b hb=>by
    have e:b=it:=by simpa using hb
    subst e
    obtain ⟨o,e,c,d⟩:=st
    exact ⟨o,e,fun v z=>by rw [d] at z; cases z⟩
  keep:=fun i h h' st k=>st.at fun o e=>k it (by simp) o e
  item:=by
    intro X hP hw hK hc i pins s σ H E I hf st hg
    subst hP hw hK
    obtain ⟨xs,x,hq,hx⟩:=hg
    obtain ⟨its,rv,p,hz⟩:=I.tuple hq
    obtain ⟨u,hu,ru⟩:=rv.get hx
    obtain ⟨f0,f1,f2,f3,f4,f5⟩:=hf it (by simp)
    refine wpAny_pyNext_tuple_item st (show s.heap.IsTuple a its.toArray from p) (x:=u) (by simpa using hu) fun h' st' sb=>?_
    have I1:Inv X pins σ H { s with heap:=h' }:=I.turned (t':=s.toks) (fun b o hb e=>(sb.2 b hb).trans e) f0 f1 f3 f4 f5
    obtain ⟨o,e,c,d⟩:=id st'
    exact ⟨u,rfl,go_of (s:={ s with heap:=h' }) e c d (by decide) ⟨x,H,I1,ru,⟨rfl,fun ys hy=>by rw [I.tuple_inj hy hq]; exact hx⟩,st',fun b hb=>(hf b hb).1⟩⟩
  done:=by
    intro X hP hw hK hc i pins s σ H E I hf st hg
    subst hP hw hK
    obtain ⟨xs,hq,hx⟩:=hg
    obtain ⟨its,rv,p,hz⟩:=I.tuple hq
    obtain ⟨f0,f1,f2,f3,f4,f5⟩:=hf it (by simp)
    have hl:=rv.length
    exact wpAny_pyNext_tuple_end (I.ok.hd hc) st (show s.heap.IsTuple a its.toArray from p) (by simp; lia) fun h' eb=>⟨rfl,I.turned (t':=s.toks) (fun b o hb e=>eb b o hb e) f0 f1 f3 f4 f5⟩
  self:=fun _ _ _ _ _ st h=>wpAny_pyIter_tupleiter st h
theorem turn_range {P:Program} {K:PySem.W.Frag} (it:Addr) (lo:Int) (n:Nat):Turn P w K tg (Itr lo n) [it] it (fun i h=>IsRangeIter h it (lo+(i:Nat) * 1) ((n:Int) - (i:Nat)) 1) where
  mem:=by simp
  obj:=fun i h st b hb=>by
    have e:b=it:=by simpa using hb
    subst e
    exact ⟨_,st,fun v z=>by
      have z':Data.fields _=Data.cell v:=z
      cases z'⟩
  keep:=fun i h h' st k=>k it (by simp) _ st
  item:=by
    intro X hP hw hK hc i pins s σ H E I hf st hg
    subst hP hw hK
    obtain ⟨f0,f1,f2,f3,f4,f5⟩:=hf it (by simp)
    have W:=Walks.range (prog:=X.prog) (w:=X.w) (I.ok.hd hc) it lo 1 n
    refine W.item i s _ _ hg st fun v h' tk hv st' kk=>?_
    obtain ⟨t,rfl⟩:=hv
    have I1:Inv X pins σ H { s with heap:=h',toks:=tk }:=I.turned (fun b o hb e=>kk b o (by simpa using hb) e) f0 f1 f3 f4 f5
    refine ⟨_,rfl,go_of (s:={ s with heap:=h',toks:=tk }) (n := "range_iterator") st' rfl rfl (by decide) ⟨.int (lo+i),H,I1,⟨t,?_⟩,⟨rfl,rfl⟩,st',fun b hb=>(hf b hb).1⟩⟩
    rw [Int.mul_one]
  done:=by
    intro X hP hw hK hc i pins s σ H E I hf st hg
    subst hP hw hK
    obtain ⟨f0,f1,f2,f3,f4,f5⟩:=hf it (by simp)
    exact wpAny_pyNext_range_end (I.ok.hd hc) st (by have:n<=i:=hg; lia) fun h' eb=>⟨rfl,I.turned (t':=s.toks) (fun b o hb e=>eb b o hb e) f0 f1 f3 f4 f5⟩
  self:=fun _ _ _ _ _ st h=>wpAny_pyIter_rangeiter st h
end L2

namespace L2
open PySem PySem.Spec PyProof.Rows
section
variable {X:Cx} {tg:Expr}
def iList (K:PySem.W.Frag) (tl:TE):TI:=fun σ H R=>tl σ H fun x H1=>∃ a,x=.ref a/\(∃ xs,SqL K H1 a xs)/\R (Itl K a) H1
def iTup (K:PySem.W.Frag) (tl:TE):TI:=fun σ H R=>tl σ H fun x H1=>∃ a,x=.ref a/\(∃ xs,SqT K H1 a xs)/\R (Itt K a) H1
theorem pi_list (hl:PE X l tl):PI X tg l (iList X.K tl):=by
  intro pins s σ H R I h
  refine thn (hl pins s σ H _ I h) fun v s1 hx5=>L2.ex2 hx5 fun x H1 I1 r1 q1=>?_
  obtain ⟨a,e,⟨xs,hq⟩,q⟩:=q1
  subst e
  cases r1
  obtain ⟨its,rv,p,hz⟩:=I1.list hq
  refine wpAny_pyIter_list p.isList ?_
  refine ⟨s1.heap.objs.size,[s1.heap.objs.size],_,_,H1,rfl,I1.kept (t':=s1.toks) fun b o e=>xal _ e,turn_list a _,⟨_,xax _ rfl,rfl,rfl⟩,fun b hb=>?_,q⟩
  have e:b=s1.heap.objs.size:=by simpa using hb
  subst e
  exact I1.fpOk (xaj _) (I1.hok.fresh (xaj _))
theorem pi_tup (hl:PE X l tl):PI X tg l (iTup X.K tl):=by
  intro pins s σ H R I h
  refine thn (hl pins s σ H _ I h) fun v s1 hx5=>L2.ex2 hx5 fun x H1 I1 r1 q1=>?_
  obtain ⟨a,e,⟨xs,hq⟩,q⟩:=q1
  subst e
  cases r1
  obtain ⟨its,rv,p,hz⟩:=I1.tuple hq
  refine wpAny_pyIter_tuple (show s1.heap.IsTuple a its.toArray from p) ?_
  refine ⟨s1.heap.objs.size,[s1.heap.objs.size],_,_,H1,rfl,I1.kept (t':=s1.toks) fun b o e=>xal _ e,turn_tuple a _,⟨_,xax _ rfl,rfl,rfl⟩,fun b hb=>?_,q⟩
  have e:b=s1.heap.objs.size:=by simpa using hb
  subst e
  exact I1.fpOk (xaj _) (I1.hok.fresh (xaj _))
theorem range_it {R:It->Hp->Prop} {lo hi:Int} (I:Inv X pins σ H s) (h1:-(2 ^ 62)<=lo) (h2:lo<2 ^ 62) (h3:-(2 ^ 62)<=hi) (h4:hi<2 ^ 62)
    (q:R (Itr lo (hi - lo).toNat) H):wpAny (model X.prog X.w) X.A (pyIter (.ref s.heap.objs.size)) (PIE X pins σ tg R) E { s with heap:=s.heap.push { cls:=.type "range",data:=.fields #[.int lo t,.int hi u,.int 1 v] },toks:=tk }:=by
  refine wpAny_pyIter_range (IsRange.new ..) (small_one h1 h2 h3 h4) ?_
  have I1:Inv X pins σ H { s with heap:=s.heap.push { cls:=.type "range",data:=.fields #[.int lo t,.int hi u,.int 1 v] },toks:=tk }:=I.kept fun b o e=>xal _ e
  refine ⟨(s.heap.push { cls:=.type "range",data:=.fields #[.int lo t,.int hi u,.int 1 v] }).objs.size,[(s.heap.push { cls:=.type "range",data:=.fields #[.int lo t,.int hi u,.int 1 v] }).objs.size],_,_,H,rfl,
    I1.kept (t':=tk) fun b o e=>xal _ e,turn_range _ lo (hi - lo).toNat,?_,fun b hb=>?_,q⟩
  · have e1:lo+((0:Nat):Int) * 1=lo:=by simp
    have e2:(((hi - lo).toNat:Nat):Int) - ((0:Nat):Int)=Builtin.Range.rangeSize lo hi 1:=by rw [rangeSize_one]; split <;> lia
    show IsRangeIter _ _ (lo+((0:Nat):Int) * 1) ((((hi - lo).toNat:Nat):Int) - ((0:Nat):Int)) 1
    rw [e1,e2]
    exact xax _ rfl
  · have e:b=(s.heap.push { cls:=.type "range",data:=.fields #[.int lo t,.int hi u,.int 1 v] }).objs.size:=by simpa using hb
    subst e
    exact I1.fpOk (xaj _) (I1.hok.fresh (xaj _))
def iRng1 (ta:TA):TI:=fun σ H R=>ta σ H fun vs H1=>∃ j:Int,vs=[.int j]/\-(2 ^ 62)<=j/\j<2 ^ 62/\R (Itr 0 j.toNat) H1
def iRng2 (ta:TA):TI:=fun σ H R=>ta σ H fun vs H1=>∃ i j:Int,vs=[.int i,.int j]/\(-(2 ^ 62)<=i/\i<2 ^ 62/\-(2 ^ 62)<=j/\j<2 ^ 62)/\R (Itr i (j - i).toNat) H1
theorem pi_range1 (hg:Gl X "range") (hm:X.mg "range" = none) (ha:PA X [a] ta) (hs:starEach [a] X.env=[(false,eval a X.env)]:=by rfl):PI X tg (.Call (.Name "range" p) [a] [] pos) (iRng1 ta):=by
  intro pins s σ H R I h
  refine Call_ (ld_blt I hg hm boot_range (PyProof.Rows.callWith_type1 (thn (ha pos pins s σ H _ I h) fun us s1 hx5=>L2.ex2 hx5 fun vs H1 I1 r1 q1=>?_) hs rfl))
  obtain ⟨j,e,q1,q2,q⟩:=q1
  subst e
  cases r1 with
  | cons r rr =>
    cases rr
    obtain ⟨t,rfl⟩:=r
    exact call_range_1 (range_it I1 (by lia) (by lia) q1 q2 (by simpa using q))
theorem pi_range2 (hg:Gl X "range") (hm:X.mg "range" = none) (ha:PA X [a,b] ta) (hs:starEach [a,b] X.env=[(false,eval a X.env),(false,eval b X.env)]:=by rfl) (hs2:starEach [b] X.env=[(false,eval b X.env)]:=by rfl) :
    PI X tg (.Call (.Name "range" p) [a,b] [] pos) (iRng2 ta):=by
  intro pins s σ H R I h
  refine Call_ (ld_blt I hg hm boot_range (PyProof.Rows.callWith_type1 (thn (ha pos pins s σ H _ I h) fun us s1 hx5=>L2.ex2 hx5 fun vs H1 I1 r1 q1=>?_) (by rw [hs,hs2]) (by rw [hs2]; rfl)))
  obtain ⟨i,j,e,⟨q1,q2,q3,q4⟩,q⟩:=q1
  subst e
  cases r1 with
  | cons r rr =>
    cases rr with
    | cons r' rr =>
      cases rr
      obtain ⟨t,rfl⟩:=r
      obtain ⟨t',rfl⟩:=r'
      exact call_range_2 (range_it I1 q1 q2 q3 q4 q)

def tFor (wi:TI) (g:TG) (tb:TS):TS:=fun D σ H=>wi σ H fun J H1=>∃ W:Nat->Nat->St->Hp->Prop,(∃ m,W 0 m σ H1)/\∀ i m σ H,W i m σ H ->
  (J.stop i H/\D.nx σ H)\/(J.go i H/\∃ N:St->Hp->Prop,(∀ σ' H',N σ' H'->∃ m',m'<m/\W (i+1) m' σ' H')/\∀ x H',J.yld i H x H'->g x σ H' fun σ2 H2=>tb { D with nx:=N,ct:=N,bk:=D.nx } σ2 H2)
def pinsAt (fp:List Addr) (h:Heap):List (Addr × Obj):=fp.filterMap fun b=>(h.get? b).map fun o=>(b,o)
theorem mem_pinsAt (hb:b∈fp) (e:h.get? b=some o):(b,o)∈pinsAt fp h:=List.mem_filterMap.mpr ⟨b,hb,by rw [e]; rfl⟩
theorem of_pinsAt (hp:p∈pinsAt fp h):p.1∈fp/\h.get? p.1=some p.2:=by
  obtain ⟨b,hb,e⟩:=List.mem_filterMap.mp hp
  cases q:h.get? b with
  | none=>rw [q] at e; cases e
  | some o =>
    rw [q] at e
    have e':(b,o)=p:=Option.some.inj e
    subst e'
    exact ⟨hb,q⟩
theorem Inv.pinned (I:Inv X pins σ H s) (hf:∀ b∈fp,FpOk X pins H b) (ho:∀ b∈fp,∃ o,s.heap.get? b=some o/\∀ v,o.data≠.cell v):Inv X (pins++pinsAt fp s.heap) σ H s :=
  I.pins_of fun p hp=>(xaf.mp hp).elim (fun z=>I.pin p (xad _ z)) fun z=>by
    obtain ⟨hb,e⟩:=of_pinsAt z
    obtain ⟨f0,f1,f2,_⟩:=hf p.1 hb
    obtain ⟨o,e',d⟩:=ho p.1 hb
    rw [e] at e'; cases e'
    exact ⟨e,f0,f1,f2,d⟩
theorem Inv.unpinned (I:Inv X (pins++pl) σ H s):Inv X pins σ H s:=I.pins_of fun p hp=>I.pin p (xad _ (xam _ hp))
theorem ps_for (hp:PassesOwn (model X.prog X.w) X.A X.env X.xe) (hc:X.calm=true) (hi:PI X tg iter wi) (hg:PG X tg g) (hb:PSs X body tb)
    (hs:∀ x,foldedSetIterable iter X.env x=pure x:=by intro _; rfl):PS X (.For tg iter body [] pos) (tFor wi g tb):=by
  intro pins s σ H D I h
  refine wpAny_For (thn (hi pins s σ H _ I h) fun v s1 h1=>thn h1 fun itv s2 h2=>?_) hs
  obtain ⟨it,fp,tn,J,H2,e,I2,T,st2,f2,W,⟨m0,w0⟩,turn⟩:=h2
  subst e
  -- what stays true of the iterator's objects through the loop
  have stat:∀ {H':Hp},(∀ b∈fp,H' b=none)->∀ b∈fp,FpOk X pins H' b:=fun hn b hb=>⟨hn b hb,(f2 b hb).2⟩
  refine codeAny_forLoop_any (fun n s'=>∃ i σ' H',Inv X pins σ' H' s'/\tn i s'.heap/\(∀ b∈fp,H' b=none)/\W i n σ' H') ?_ m0 ⟨0,σ,H2,I2,st2,fun b hb=>(f2 b hb).1,w0⟩
  rintro n s3 ⟨i,σ3,H3,I3,st3,fr3,w3⟩
  rcases turn i n σ3 H3 w3 with ⟨stop,qn⟩ | ⟨go,N,hN,step⟩
  · refine wpAny_passesOwn hp (thn (T.done X rfl rfl rfl hc i pins s3 σ3 H3 X.xe I3 (stat fr3) st3 stop) fun r s4 hx9=>?_)
    obtain ⟨hr,I4⟩:=hx9
    subst hr
    exact wpAny_execs_nil ⟨σ3,H3,I4,qn⟩
  · refine wpAny_passesOwn hp (thn (T.item X rfl rfl rfl hc i pins s3 σ3 H3 X.xe I3 (stat fr3) st3 go) fun r s4 hx9=>?_)
    obtain ⟨u,hr,h4⟩:=hx9
    subst hr
    refine wpAny_passesOwn hp (thn h4 fun _ s5 hx9=>?_)
    obtain ⟨x,H5,I5,r5,y5,st5,fr5⟩:=hx9
    have I5':=I5.pinned (stat fr5) (T.obj _ _ st5)
    refine wpAny_passesOwn hp (thn (hg _ s5 σ3 H5 x u _ I5' r5 (step x H5 y5)) fun _ s6 hx9=>?_)
    obtain ⟨σ6,H6,I6,q6⟩:=hx9
    refine wpAny_passesOwn hp (thn (hb _ s6 σ6 H6 _ I6 q6) fun f s7 q7=>?_)
    have again:∀ {σ7:St} {H7:Hp},Inv X (pins++pinsAt fp s5.heap) σ7 H7 s7->N σ7 H7->∃ m,m<n/\∃ i σ' H',Inv X pins σ' H' s7/\tn i s7.heap/\(∀ b∈fp,H' b=none)/\W i m σ' H':=fun {σ7 H7} I7 n7=>by
      obtain ⟨m',hm,w7⟩:=hN σ7 H7 n7
      refine ⟨m',hm,i+1,σ7,H7,I7.unpinned,T.keep _ _ _ st5 fun b hb o e=>(I7.pin (b,o) (xad _ (xad _ (mem_pinsAt hb e)))).1,fun b hb=>?_,w7⟩
      obtain ⟨o,e,d⟩:=T.obj _ _ st5 b hb
      exact (I7.pin (b,o) (xad _ (xad _ (mem_pinsAt hb e)))).2.1
    cases f with
    | next=>obtain ⟨σ7,H7,I7,n7⟩:=q7; exact again I7 n7
    | cont=>obtain ⟨σ7,H7,I7,n7⟩:=q7; exact again I7 n7
    | brk=>obtain ⟨σ7,H7,I7,q7⟩:=q7; exact ⟨σ7,H7,I7.unpinned,q7⟩
    | ret v=>obtain ⟨x7,σ7,H7,I7,r7,q7⟩:=q7; exact ⟨x7,σ7,H7,I7.unpinned,r7,q7⟩
end

end L2

namespace L2
open PySem PySem.Spec PyProof.Rows

abbrev R2:=V->V->Hp->VK->Prop
def OpR (X:Cx) (f:Value->Value->Sem Value) (r:R2):Prop :=
  ∀ (pins:List (Addr × Obj)) (s:Shared) (σ:St) (H:Hp) (x y:V) (v u:Value) (Q:VK),Inv X pins σ H s->RelV x v->RelV y u->r x y H Q ->
    wpAny (model X.prog X.w) X.A (f v u) (EP X pins σ Q) X.xe s
def UnR (X:Cx) (f:Value->Sem Value) (r:V->Hp->VK->Prop):Prop :=
  ∀ (pins:List (Addr × Obj)) (s:Shared) (σ:St) (H:Hp) (x:V) (v:Value) (Q:VK),Inv X pins σ H s->RelV x v->r x H Q ->
    wpAny (model X.prog X.w) X.A (f v) (EP X pins σ Q) X.xe s
def CallR (X:Cx) (f:Value) (r:List V->Hp->VK->Prop):Prop :=
  ∀ (pins:List (Addr × Obj)) (s:Shared) (σ:St) (H:Hp) (xs:List V) (us:List Value) (Q:VK),Inv X pins σ H s->Vals xs us->r xs H Q ->
    wpAny (model X.prog X.w) X.A (call f us) (EP X pins σ Q) X.xe s
def tOp (r:R2) (ta tb:TE):TE:=fun σ H Q=>ta σ H fun x H1=>tb σ H1 fun y H2=>r x y H2 Q
def tUn (r:V->Hp->VK->Prop) (ta:TE):TE:=fun σ H Q=>ta σ H fun x H1=>r x H1 Q
def rI (C:Int->Int->Prop) (g:Int->Int->V):R2:=fun x y H Q=>∃ i j,x=.int i/\y=.int j/\C i j/\Q (g i j) H
def rI0 (g:Int->Int->V):R2:=fun x y H Q=>∃ i j,x=.int i/\y=.int j/\Q (g i j) H
def rU (g:Int->V):V->Hp->VK->Prop:=fun x H Q=>∃ i,x=.int i/\Q (g i) H

section
variable {X:Cx} {a b c:Expr} {ta tb tc:TE} {pos:Pos}

theorem binT (ha:PE X a ta) (hb:PE X b tb) {pins:List (Addr × Obj)} {s:Shared} {σ:St} {H:Hp} {R:V->V->Hp->Prop} (I:Inv X pins σ H s)
    (h:ta σ H fun x H1=>tb σ H1 fun y H2=>R x y H2) {Q:Value->Shared->Prop} {f:Value->Value->Sem Value}
    (hf:∀ v u s2 x y H2,Inv X pins σ H2 s2->RelV x v->RelV y u->R x y H2->wpAny (model X.prog X.w) X.A (f v u) Q X.xe s2) :
    wpAny (model X.prog X.w) X.A (eval a X.env) (fun v s₁=>wpAny (model X.prog X.w) X.A (eval b X.env) (fun u s₂=>wpAny (model X.prog X.w) X.A (f v u) Q X.xe s₂) X.xe s₁) X.xe s:=by
  refine thn (ha pins s σ H _ I h) fun v s1 hx5=>L2.ex2 hx5 fun x H1 I1 r1 q1=>?_
  refine thn (hb pins s1 σ H1 _ I1 q1) fun u s2 hx5=>L2.ex2 hx5 fun y H2 I2 r2 q2=>?_
  exact hf v u s2 x y H2 I2 r1 r2 q2

theorem pe_op {op:Operator} {r:R2} (ho:OpR X (binaryOp op) r) (ha:PE X a ta) (hb:PE X b tb):PE X (.BinOp a op b pos) (tOp r ta tb):=by
  intro pins s σ H Q I h
  exact wpAny_BinOp (binT ha hb I h fun v u s2 x y H2 I2 rx ry q=>ho pins s2 σ H2 x y v u Q I2 rx ry q)
theorem pe_un (ho:UnR X (unaryOp op) r) (ha:PE X a ta):PE X (.UnaryOp op a pos) (tUn r ta):=by
  intro pins s σ H Q I h
  exact UnaryOp_ (thn (ha pins s σ H _ I h) fun v s1 hx5=>L2.ex2 hx5 fun x H1 I1 r1 q1=>ho pins s1 σ H1 x v Q I1 r1 q1)
theorem opI {f:Value->Value->Sem Value} {C:Int->Int->Prop} {g:Int->Int->Int}
    (rule:∀ (i j:Int) (t u:Tok) (s:Shared) (Q:Value->Shared->Prop) (E:Value->Shared->Prop),C i j->Q (.int (g i j) s.toks) { s with toks:=s.toks+1 }->wpAny (model X.prog X.w) X.A (f (.int i t) (.int j u)) Q E s) :
    OpR X f (rI C fun i j=>.int (g i j)):=by
  intro pins s σ H x y v u Q I rx ry h
  obtain ⟨i,j,rfl,rfl,hc,q⟩:=h
  obtain ⟨t,rfl⟩:=rx
  obtain ⟨t',rfl⟩:=ry
  exact rule i j t t' s _ _ hc ⟨.int (g i j),H,I.tok _,⟨_,rfl⟩,q⟩
theorem opI0 {f:Value->Value->Sem Value} {g:Int->Int->Int}
    (rule:∀ (i j:Int) (t u:Tok) (s:Shared) (Q:Value->Shared->Prop) (E:Value->Shared->Prop),Q (.int (g i j) s.toks) { s with toks:=s.toks+1 }->wpAny (model X.prog X.w) X.A (f (.int i t) (.int j u)) Q E s) :
    OpR X f (rI0 fun i j=>.int (g i j)):=by
  intro pins s σ H x y v u Q I rx ry h
  obtain ⟨i,j,rfl,rfl,q⟩:=h
  obtain ⟨t,rfl⟩:=rx
  obtain ⟨t',rfl⟩:=ry
  exact rule i j t t' s _ _ ⟨.int (g i j),H,I.tok _,⟨_,rfl⟩,q⟩
theorem opB0 {f:Value->Value->Sem Value} {g:Int->Int->Bool}
    (rule:∀ (i j:Int) (t u:Tok) (s:Shared) (Q:Value->Shared->Prop) (E:Value->Shared->Prop),Q (.bool (g i j)) s->wpAny (model X.prog X.w) X.A (f (.int i t) (.int j u)) Q E s) :
    OpR X f (rI0 fun i j=>.bl (g i j)):=by
  intro pins s σ H x y v u Q I rx ry h
  obtain ⟨i,j,rfl,rfl,q⟩:=h
  obtain ⟨t,rfl⟩:=rx
  obtain ⟨t',rfl⟩:=ry
  exact rule i j t t' s _ _ ⟨.bl (g i j),H,I,rfl,q⟩

def CDiv (i j:Int):Prop:=0<j/\j<1073741824
def CPow (i j:Int):Prop:=0<=j/\j<=1000000/\i.natAbs<2 ^ 64
def CMul (i j:Int):Prop:=(-(2 ^ 64)<i/\i<2 ^ 64)\/(-(2 ^ 64)<j/\j<2 ^ 64)
theorem CMul.ok (h:CMul i j):IntMulOk i j:=by
  rcases h with ⟨h1,h2⟩ | ⟨h1,h2⟩
  · exact .of_left (intBits_le_64 h1 h2)
  · exact .of_right (intBits_le_64 h1 h2)
theorem op_add:OpR X (binaryOp .Add) (rI0 fun i j=>.int (i+j)):=opI0 fun _ _ _ _ _ _ _ q=>add_int q
theorem op_sub:OpR X (binaryOp .Sub) (rI0 fun i j=>.int (i - j)):=opI0 fun _ _ _ _ _ _ _ q=>sub_int q
theorem op_mul:OpR X (binaryOp .Mult) (rI CMul fun i j=>.int (i * j)):=opI fun _ _ _ _ _ _ _ hc q=>mul_int q hc.ok
theorem op_fdiv:OpR X (binaryOp .FloorDiv) (rI CDiv fun i j=>.int (i / j)):=opI fun i j _ _ _ _ _ hc q=>by
  have h1:(0:Int)<j:=hc.1
  have h2:j<1073741824:=hc.2
  exact floordiv_int (by lia) (by rw [Int.fdiv_eq_ediv_of_nonneg i (by exact Int.le_of_lt ‹_›)]; exact q) (.inl (PyProof.noPylong_small (by lia)))
theorem op_mod:OpR X (binaryOp .Mod) (rI (fun _ j=>0<j) fun i j=>.int (i % j)):=opI fun i j _ _ _ _ _ hc q=>by
  have h1:(0:Int)<j:=hc
  exact mod_int' (by lia) (by rw [Int.fmod_eq_emod_of_nonneg i (by exact Int.le_of_lt ‹_›)]; exact q)
theorem op_pow:OpR X (binaryOp .Pow) (rI CPow fun i j=>.int (i ^ j.toNat)):=opI fun _ _ _ _ _ _ _ hc q=>pow_int_small hc.1 hc.2.1 hc.2.2 q
theorem unI {f:Value->Sem Value} {g:Int->Int}
    (rule:∀ (i:Int) (t:Tok) (s:Shared) (Q:Value->Shared->Prop) (E:Value->Shared->Prop),Q (.int (g i) s.toks) { s with toks:=s.toks+1 }->wpAny (model X.prog X.w) X.A (f (.int i t)) Q E s) :
    UnR X f (rU fun i=>.int (g i)):=by
  intro pins s σ H x v Q I rx h
  obtain ⟨i,rfl,q⟩:=h
  obtain ⟨t,rfl⟩:=rx
  exact rule i t s _ _ ⟨.int (g i),H,I.tok _,⟨_,rfl⟩,q⟩
theorem un_neg:UnR X (unaryOp .USub) (rU fun i=>.int (-i)):=unI fun _ _ _ _ _ q=>neg_int q
end

def scal:V->V->Bool
  | .non,.non=>true | .non,.int _=>true | .int _,.non=>true | .non,.bl _=>true | .bl _,.non=>true | .non,.str _=>true | .str _,.non=>true
  | .int _,.int _=>true | .bl _,.bl _=>true | .str _,.str _=>true | .byt _,.byt _=>true
  | .int _,.str _=>true | .str _,.int _=>true | .bl _,.str _=>true | .str _,.bl _=>true
  | _,_=>false
def rEq:R2:=fun x y H Q=>scal x y=true/\Q (.bl (decide (x=y))) H
def rNe:R2:=fun x y H Q=>scal x y=true/\Q (.bl (!decide (x=y))) H

theorem dec_int:decide (V.int i=V.int j)=(i == j):=by
  rw [xa0]
  simp
theorem dec_bl:decide (V.bl i=V.bl j)=(i == j):=by
  rw [xa0]
  simp
theorem dec_str:decide (V.str i=V.str j)=(i == j):=by
  rw [xa0]
  simp
theorem dec_byt:decide (V.byt i=V.byt j)=(i.toList == j.toList):=by
  rw [xa0]
  cases i
  cases j
  simp

section
variable {X:Cx} {a b c:Expr} {ta tb tc:TE} {pos:Pos}
theorem fin_bl (I:Inv X pins σ H s) (q:Q (.bl k) H) (e:k=k'):EP X pins σ Q (.bool k') s:=by
  subst e
  exact ⟨.bl k,H,I,rfl,q⟩
theorem op_eq:OpR X (compareOp .Eq) rEq:=by
  intro pins s σ H x y v u Q I rx ry h
  obtain ⟨hs,q⟩:=h
  cases x with
  | non =>
    cases rx
    cases y with
    | non=>cases ry; exact PySem.EqNone.eq_none_none (fin_bl I q (by simp))
    | bl j=>cases ry; exact PySem.EqNone.eq_none_bool (fin_bl I q (by simp))
    | int j=>obtain ⟨t',rfl⟩:=ry; exact PySem.EqNone.eq_none_int (fin_bl I q (by simp))
    | str j=>obtain ⟨t',rfl⟩:=ry; exact PySem.EqNone.eq_none_str (fin_bl I q (by simp))
    | _=>exact absurd (show false=true from hs) xap
  | bl i =>
    cases rx
    cases y with
    | non=>cases ry; exact PySem.EqNone.eq_bool_none (fin_bl I q (by simp))
    | bl j=>cases ry; exact eq_bool (fin_bl I q dec_bl)
    | str j=>obtain ⟨t',rfl⟩:=ry; exact PySem.EqMixed.eq_bool_str (fin_bl I q (by simp))
    | _=>exact absurd (show false=true from hs) xap
  | int i =>
    obtain ⟨t,rfl⟩:=rx
    cases y with
    | non=>cases ry; exact PySem.EqNone.eq_int_none (fin_bl I q (by simp))
    | int j=>obtain ⟨t',rfl⟩:=ry; exact eq_int (fin_bl I q dec_int)
    | str j=>obtain ⟨t',rfl⟩:=ry; exact PySem.EqMixed.eq_int_str (fin_bl I q (by simp))
    | _=>exact absurd (show false=true from hs) xap
  | str i =>
    obtain ⟨t,rfl⟩:=rx
    cases y with
    | non=>cases ry; exact PySem.EqNone.eq_str_none (fin_bl I q (by simp))
    | bl j=>cases ry; exact PySem.EqMixed.eq_str_bool (fin_bl I q (by simp))
    | int j=>obtain ⟨t',rfl⟩:=ry; exact PySem.EqMixed.eq_str_int (fin_bl I q (by simp))
    | str j=>obtain ⟨t',rfl⟩:=ry; exact eq_str (fin_bl I q dec_str)
    | _=>exact absurd (show false=true from hs) xap
  | byt i =>
    obtain ⟨t,rfl⟩:=rx
    cases y with
    | byt j=>obtain ⟨t',rfl⟩:=ry; exact PySem.W.eq_bytes (fin_bl I q dec_byt)
    | _=>exact absurd (show false=true from hs) xap
  | _=>cases y <;> exact absurd (show false=true from hs) xap
theorem op_ne:OpR X (compareOp .NotEq) rNe:=by
  intro pins s σ H x y v u Q I rx ry h
  obtain ⟨hs,q⟩:=h
  cases x with
  | non =>
    cases rx
    cases y with
    | non=>cases ry; exact PySem.EqNone.ne_none_none (fin_bl I q (by simp))
    | bl j=>cases ry; exact PySem.EqNone.ne_none_bool (fin_bl I q (by simp))
    | int j=>obtain ⟨t',rfl⟩:=ry; exact PySem.EqNone.ne_none_int (fin_bl I q (by simp))
    | str j=>obtain ⟨t',rfl⟩:=ry; exact PySem.EqNone.ne_none_str (fin_bl I q (by simp))
    | _=>exact absurd (show false=true from hs) xap
  | bl i =>
    cases rx
    cases y with
    | non=>cases ry; exact PySem.EqNone.ne_bool_none (fin_bl I q (by simp))
    | bl j=>cases ry; exact ne_bool (fin_bl I q (congrArg not dec_bl))
    | str j=>obtain ⟨t',rfl⟩:=ry; exact PySem.EqMixed.ne_bool_str (fin_bl I q (by simp))
    | _=>exact absurd (show false=true from hs) xap
  | int i =>
    obtain ⟨t,rfl⟩:=rx
    cases y with
    | non=>cases ry; exact PySem.EqNone.ne_int_none (fin_bl I q (by simp))
    | int j=>obtain ⟨t',rfl⟩:=ry; exact ne_int (fin_bl I q (congrArg not dec_int))
    | str j=>obtain ⟨t',rfl⟩:=ry; exact PySem.EqMixed.ne_int_str (fin_bl I q (by simp))
    | _=>exact absurd (show false=true from hs) xap
  | str i =>
    obtain ⟨t,rfl⟩:=rx
    cases y with
    | non=>cases ry; exact PySem.EqNone.ne_str_none (fin_bl I q (by simp))
    | bl j=>cases ry; exact PySem.EqMixed.ne_str_bool (fin_bl I q (by simp))
    | int j=>obtain ⟨t',rfl⟩:=ry; exact PySem.EqMixed.ne_str_int (fin_bl I q (by simp))
    | str j=>obtain ⟨t',rfl⟩:=ry; exact ne_str (fin_bl I q (congrArg not dec_str))
    | _=>exact absurd (show false=true from hs) xap
  | byt i =>
    obtain ⟨t,rfl⟩:=rx
    cases y with
    | byt j=>obtain ⟨t',rfl⟩:=ry; exact PySem.W.ne_bytes (fin_bl I q (congrArg not dec_byt))
    | _=>exact absurd (show false=true from hs) xap
  | _=>cases y <;> exact absurd (show false=true from hs) xap

theorem op_lt:OpR X (compareOp .Lt) (rI0 fun i j=>.bl (decide (i<j))):=opB0 fun _ _ _ _ _ _ _ q=>lt_int q
theorem op_le:OpR X (compareOp .LtE) (rI0 fun i j=>.bl (decide (i<=j))):=opB0 fun _ _ _ _ _ _ _ q=>le_int q
theorem op_gt:OpR X (compareOp .Gt) (rI0 fun i j=>.bl (decide (j<i))):=opB0 fun _ _ _ _ _ _ _ q=>gt_int q
theorem op_lt_str:OpR X (compareOp .Lt) (fun x y H Q=>∃ i j,x=.str i/\y=.str j/\Q (.bl (decide (i.cps.toList<j.cps.toList))) H):=by
  intro pins s σ H x y v u Q I rx ry h
  obtain ⟨i,j,rfl,rfl,q⟩:=h
  obtain ⟨t,rfl⟩:=rx
  obtain ⟨t',rfl⟩:=ry
  exact lt_str (fin_bl I q rfl)
theorem op_in_str:OpR X (compareOp .In) (fun x y H Q=>∃ i j,x=.str i/\y=.str j/\Q (.bl (!(Builtin.Str.occurrences j i 0 j.length 1).isEmpty)) H):=by
  intro pins s σ H x y v u Q I rx ry h
  obtain ⟨i,j,rfl,rfl,q⟩:=h
  obtain ⟨t,rfl⟩:=rx
  obtain ⟨t',rfl⟩:=ry
  exact in_str (fin_bl I q rfl)

theorem OpR.or (h:OpR X f r) (h':OpR X f r'):OpR X f (fun x y H Q=>r x y H Q\/r' x y H Q):=by
  intro pins s σ H x y v u Q I rx ry q
  rcases q with q | q
  · exact h pins s σ H x y v u Q I rx ry q
  · exact h' pins s σ H x y v u Q I rx ry q

theorem nomark (b:Expr) (h:op≠.In:=by decide) (h2:op≠.NotIn:=by decide):behindInMarks op b=false:=by
  have e1:(op == CmpOp.In)=false:=by cases op <;> first | rfl | exact absurd rfl h
  have e2:(op == CmpOp.NotIn)=false:=by cases op <;> first | rfl | exact absurd rfl h2
  cases b <;> simp [behindInMarks,e1,e2]
theorem pe_cmpR {op:CmpOp} {r:R2} (ho:OpR X (compareOp op) r) (ha:PE X a ta) (hb:PE X b tb) (hm:behindInMarks op b=false):PE X (.Compare a [op] [b] pos) (tOp r ta tb):=by
  intro pins s σ H Q I h
  exact wpAny_Compare1 (binT ha hb I h fun v u s2 x y H2 I2 rx ry q=>ho pins s2 σ H2 x y v u Q I2 rx ry q) hm
def tTest (t:TE):TT:=fun σ H Q=>t σ H fun x H'=>∃ k,x=.bl k/\Q k H'
theorem pt_cmpR (ho:OpR X (compareOp op) r) (ha:PE X a ta) (hb:PE X b tb) (hm:behindInMarks op b=false):PT X (.Compare a [op] [b] pos) (tTest (tOp r ta tb)):=by
  intro pins s σ H Q I h
  refine wpAny_isTrue_Compare1 (thn (ha pins s σ H _ I h) fun v s1 hx5=>L2.ex2 hx5 fun x H1 I1 r1 q1=>thn (hb pins s1 σ H1 _ I1 q1) fun u s2 hx5=>L2.ex2 hx5 fun y H2 I2 r2 q2 =>
    thn (ho pins s2 σ H2 x y v u _ I2 r1 r2 q2) fun c s3 ⟨z,H3,I3,r3,k,e,q3⟩=>?_) hm
  subst e
  cases r3
  exact wpAny_truthy_bool ⟨H3,I3,q3⟩
def tChain (r r':R2) (ta tb tc:TE):TE:=fun σ H Q=>ta σ H fun x H1=>tb σ H1 fun y H2=>r x y H2 fun z H3=>∃ k,z=.bl k /\
  (if k=true then tc σ H3 fun w' H4=>r' y w' H4 Q else Q (.bl false) H3)
theorem pe_chain (ho:OpR X (compareOp op) r) (ho':OpR X (compareOp op') r') (ha:PE X a ta) (hb:PE X b tb) (hc:PE X c tc)
    (hm:lastMarks [op,op'] [b,c]=false:=by with_unfolding_all rfl):PE X (.Compare a [op,op'] [b,c] pos) (tChain r r' ta tb tc):=by
  intro pins s σ H Q I h
  refine Compare_chain (thn (ha pins s σ H _ I h) fun v s1 hx5=>L2.ex2 hx5 fun x H1 I1 r1 q1=>chain_link (thn (hb pins s1 σ H1 _ I1 q1) fun u s2 hx5=>L2.ex2 hx5 fun y H2 I2 r2 q2 =>
    thn (ho pins s2 σ H2 x y v u _ I2 r1 r2 q2) fun d s3 ⟨z,H3,I3,r3,k,e,q3⟩=>?_)) hm
  subst e
  cases r3
  refine wpAny_truthy_bool ?_
  cases k with
  | false=>exact ite_ff ⟨.bl false,H3,I3,rfl,q3⟩
  | true=>exact ite_tt (chain_last (thn (hc pins s3 σ H3 _ I3 q3) fun w' s4 ⟨z',H4,I4,r4,q4⟩=>ho' pins s4 σ H4 y z' u w' Q I4 r2 r4 q4))
theorem pt_chain (ho:OpR X (compareOp op) r) (ho':OpR X (compareOp op') r') (ha:PE X a ta) (hb:PE X b tb) (hc:PE X c tc)
    (hm:lastMarks [op,op'] [b,c]=false:=by with_unfolding_all rfl):PT X (.Compare a [op,op'] [b,c] pos) (tTest (tChain r r' ta tb tc)):=by
  intro pins s σ H Q I h
  refine isTrue_chain (thn (ha pins s σ H _ I h) fun v s1 hx5=>L2.ex2 hx5 fun x H1 I1 r1 q1=>test_link (thn (hb pins s1 σ H1 _ I1 q1) fun u s2 hx5=>L2.ex2 hx5 fun y H2 I2 r2 q2 =>
    thn (ho pins s2 σ H2 x y v u _ I2 r1 r2 q2) fun d s3 ⟨z,H3,I3,r3,k,e,q3⟩=>?_)) hm
  subst e
  cases r3
  refine wpAny_truthy_bool ?_
  cases k with
  | false =>
    obtain ⟨k',e',q'⟩:=q3
    cases e'
    exact ite_ff ⟨H3,I3,q'⟩
  | true =>
    refine ite_tt (test_last (thn (hc pins s3 σ H3 _ I3 q3) fun w' s4 ⟨z',H4,I4,r4,q4⟩=>thn (ho' pins s4 σ H4 y z' u w' _ I4 r2 r4 q4) fun d' s5 hx9=>?_))
    obtain ⟨z2,H5,I5,r5,k2,e2,q5⟩:=hx9
    subst e2
    cases r5
    exact wpAny_truthy_bool ⟨H5,I5,q5⟩

theorem line63:(sizeLine:Nat)<2 ^ 63:=by rw [sizeLine_eq]; decide
theorem op_add_str:OpR X (binaryOp .Add) (fun x y H Q=>∃ i j,x=.str i/\y=.str j/\i.length+j.length<=sizeLine/\Q (.str (i++j)) H):=by
  intro pins s σ H x y v u Q I rx ry h
  obtain ⟨i,j,rfl,rfl,hz,q⟩:=h
  obtain ⟨t,rfl⟩:=rx
  obtain ⟨t',rfl⟩:=ry
  exact add_str (fun t' tk=>⟨.str (i++j),H,I.tok _,⟨_,rfl⟩,q⟩) hz
theorem vals1 (r:Vals [x] us):∃ u,us=[u]/\RelV x u:=by
  cases r with
  | cons r1 r2=>cases r2; exact ⟨_,rfl,r1⟩
theorem vals2 (r:Vals [x,y] us):∃ u w',us=[u,w']/\RelV x u/\RelV y w':=by
  cases r with
  | cons r1 r2 =>
    cases r2 with
    | cons r3 r4=>cases r4; exact ⟨_,_,rfl,r1,r3⟩
theorem call_min2 (hc:X.calm=true):CallR X (.builtin "min") (fun xs H Q=>∃ i j,xs=[.int i,.int j]/\Q (.int (if j<i then j else i)) H):=by
  intro pins s σ H xs us Q I r h
  obtain ⟨i,j,rfl,q⟩:=h
  obtain ⟨u,w',rfl,⟨t,rfl⟩,⟨t',rfl⟩⟩:=vals2 r
  refine min_two_ints (I.ok.hd hc) fun h' tk k=>⟨_,H,I.kept k,?_,q⟩
  by_cases hj:j<i
  · rw [if_pos hj,if_pos hj]; exact ⟨_,rfl⟩
  · rw [if_neg hj,if_neg hj]; exact ⟨_,rfl⟩
def LenV (K:PySem.W.Frag) (x:V) (H:Hp) (n:Nat):Prop :=
  match x with
  | .str y=>y.length<=sizeLine/\n=y.length
  | .byt y=>y.size<=sizeLine/\n=y.size
  | .ref p=>(∃ xs,SqL K H p xs/\n=xs.length)\/∃ xs,SqT K H p xs/\n=xs.length
  | _=>False
theorem call_len:CallR X (.builtin "len") (fun xs H Q=>∃ x n,xs=[x]/\LenV X.K x H n/\Q (.int n) H):=by
  intro pins s σ H xs us Q I r h
  obtain ⟨x,n,rfl,e,q⟩:=h
  obtain ⟨u,rfl,rx⟩:=vals1 r
  have hl:=line63
  have hs:sizeLine=16777216:=sizeLine_eq
  cases x with
  | str y =>
    obtain ⟨t,rfl⟩:=rx
    obtain ⟨hy,e'⟩:y.length<=sizeLine/\n=y.length:=e
    subst e'
    exact len_str (by lia) ⟨.int _,H,I.tok _,⟨_,rfl⟩,q⟩
  | byt y =>
    obtain ⟨t,rfl⟩:=rx
    obtain ⟨hy,e'⟩:y.size<=sizeLine/\n=y.size:=e
    subst e'
    exact PySem.W.len_bytes (by lia) ⟨.int _,H,I.tok _,⟨_,rfl⟩,q⟩
  | ref p =>
    cases rx
    have e':(∃ xs,SqL X.K H p xs/\n=xs.length)\/∃ xs,SqT X.K H p xs/\n=xs.length:=e
    rcases e' with ⟨xs,hx,e'⟩ | ⟨xs,hx,e'⟩
    · subst e'
      obtain ⟨its,r',pl,hz⟩:=I.list hx
      have hlen:=r'.length
      exact Calls.call_len_list pl.isList (by simp only [xak]; lia) ⟨.int xs.length,H,I.tok _,⟨_,by simp only [xak]; rw [hlen]⟩,q⟩
    · subst e'
      obtain ⟨its,r',pl,hz⟩:=I.tuple hx
      have hlen:=r'.length
      exact len_tuple pl (by simp only [xak]; lia) ⟨.int xs.length,H,I.tok _,⟨_,by simp only [xak]; rw [hlen]⟩,q⟩
  | _=>exact (show False from e).elim
end
end L2

namespace L2
open PySem PySem.Spec PyProof.Rows

structure ObjM (h:Heap) (x dx C:Addr) (mA:Str->Option Value):Prop where
  obj:h.get? x=some (PySem.W.instObj C dx)
  ns:h.Ns1 dx mA
  ne:dx≠x

theorem lookIn_ns {h:Heap} {dx:Addr} {mA:Str->Option Value} (n:h.Ns1 dx mA):∃ od,h.get? dx=some od/\∀ name,PySem.W.lookIn name od=some (mA name):=by
  obtain ⟨o,es,ep,ho,hd,hk,_,hm⟩:=n
  refine ⟨o,ho,fun name=>?_⟩
  have e:=hm name
  unfold nsFind findBy at e
  rw [<- Array.find?_toList] at e
  unfold PySem.W.lookIn
  rw [hd]
  dsimp only
  split
  · rename_i y q
    rw [q] at e
    exact congrArg some e
  · rename_i q
    rw [q] at e
    have a:es.toList.any (·.refKey)=false:=by
      rw [List.any_eq_false]
      intro y hy
      obtain ⟨z,t,hkey⟩:=hk y (xbp.mp hy)
      simp [DictEntry.refKey,hkey]
    have a':¬ es.toList.any (·.refKey)=true:=by rw [a]; exact xap
    rw [if_neg a']
    exact congrArg some e

theorem ObjM.look (I:ObjM h x dx C mA):∃ od,PySem.W.InstAt h x (PySem.W.instObj C dx) C (some od)/\∀ name,PySem.W.lookIn name od=some (mA name) :=
  let ⟨od, ho, hl⟩ := lookIn_ns I.ns
  ⟨od,⟨I.obj,rfl,rfl,ho⟩,hl⟩

section
variable {prog:Program} {w:World} {A:Around} {E:Value->Shared->Prop} {s:Shared} {K:PySem.W.Frag} {x dx C f:Addr} {mA:Str->Option Value} {name:Str} {v:Value}

end

theorem RelO.some_of (r:RelO (some v) o):∃ u,o=some u/\RelV v u:=by
  cases o with
  | none=>exact (show False from r).elim
  | some u=>exact ⟨u,rfl,r⟩
section
variable {P:Program} {w:World} {H:Hp} {h:Heap} {a C dx:Addr} {fs:List (Str × V)}
theorem ins_get (hok:HOk P w H h) (e:H a=some (.ins C dx fs)):∃ mA,ObjM h a dx C mA/\(∀ f,RelO (fs.lookup f) (mA f))/\PySem.Within mA (fs.map (·.1))/\fs.length<=1000/\H dx=some (.own a):=by
  obtain ⟨d,z,ne,ob,mA,n,r,q⟩:=(show ObjOk P w H h a (.ins C dx fs) from hok a _ e)
  exact ⟨mA,⟨ob,n,ne⟩,r,q,z,d⟩
end

structure Cls (K:PySem.W.Frag) (C:Addr):Prop where
  pg:PySem.W.plainGet K C Str.empty=true
  hd:PySem.W.hasDictIn K C=true
  po:PySem.W.plainOver K C=true
  sa:PySem.W.findIn K (.ref C) "__setattr__" = some (some (.builtin "object.__setattr__"))
theorem Cls.get {K:PySem.W.Frag} (c:Cls K C) (f:Str):PySem.W.plainGet K C f=true:=c.pg
structure Con (K:PySem.W.Frag) (C:Addr) (f:Str) (v:V) (u:Value):Prop where
  at_:PySem.W.findIn K (.ref C) f=some (some u)
  rel:RelV v u
  get:PySem.W.specialIn K u "__get__" = some none
  cp:PySem.W.copiedNames.contains f=false
structure Meth (K:PySem.W.Frag) (C:Addr) (m:Str) (f:Addr):Prop where
  at_:PySem.W.findIn K (.ref C) m=some (some (.ref f))
  fn:PySem.W.isFn K (.ref f)=true
  kp:PySem.W.keepIn K (.ref f)=true

section
variable {X:Cx} {pins:List (Addr × Obj)} {σ:St} {H:Hp} {s:Shared} {a C dx:Addr} {fs:List (Str × V)} {f:Str} {v:V} {A:Around} {E:Value->Shared->Prop}

end


section
variable {X:Cx} {pins:List (Addr × Obj)} {σ:St} {H:Hp} {s:Shared} {A:Around} {E:Value->Shared->Prop} {Q:Value->Shared->Prop} {c:Value} {b:Bool}
inductive TyOf (K:PySem.W.Frag) (H:Hp):V->Value->Prop where
  | non:TyOf K H .non (.type "NoneType")
  | bl (x:Bool):TyOf K H (.bl x) (.type "bool")
  | int (i:Int):TyOf K H (.int i) (.type "int")
  | str (x:Str):TyOf K H (.str x) (.type "str")
  | flt (x:UInt64):TyOf K H (.flt x) (.type "float")
  | lst {a:Addr} {xs:List V} (e:H a=some (.lst xs)):TyOf K H (.ref a) (.type "list")
  | frz {a:Addr} {o:Obj} {xs:List V} (e:H a=some (.frz o (.lst xs))):TyOf K H (.ref a) (.type "list")
  | tup {a:Addr} {xs:List V} (e:H a=some (.tup xs)):TyOf K H (.ref a) (.type "tuple")
  | dK {a:Addr} {kvs:List (Key × V)} (e:H a=some (.dK kvs)):TyOf K H (.ref a) (.type "dict")
  | dT {a:Addr} {kvs:List (List Key × V)} (e:H a=some (.dT kvs)):TyOf K H (.ref a) (.type "dict")
  | ins {a C dx:Addr} {fs:List (Str × V)} (e:H a=some (.ins C dx fs)) (cl:Cls K C) (ha:PySem.W.findIn K (.ref C) "__class__" = some (some (.builtin "object.__class__")))
      (hn:PySem.W.specialIn K (.builtin "object.__class__") "__get__" = some (some (.builtin "getset_descriptor.__get__"))) (htk:PySem.W.takesIn K (.builtin "object.__class__")=some true)
      (hm:PySem.W.mroIn K C (.type "object")=some true):TyOf K H (.ref a) (.ref C)
theorem isinst_ok (I:Inv X pins σ H s) (rx:RelV x u) (ty:TyOf X.K H x t) (e:PySem.W.kitOne X.K t c=some b) (h:∀ tk,Q (.bool b) { s with toks:=tk }) :
    wpAny (model X.prog X.w) A (call (.builtin "isinstance") [u,c]) Q E s:=by
  cases ty with
  | non=>cases (show u=Value.none from rx); exact PySem.W.kia_one PySem.W.kitx_none I.kIn True.intro e (fun z=>nomatch z) h
  | bl y=>cases (show u=Value.bool y from rx); exact PySem.W.kia_one PySem.W.kitx_bool I.kIn True.intro e (fun z=>nomatch z) h
  | int i=>obtain ⟨t,q⟩:=(show ∃ t,u=Value.int i t from rx); cases q; exact PySem.W.kia_one PySem.W.kitx_int I.kIn True.intro e (fun z=>nomatch z) h
  | str y=>obtain ⟨t,q⟩:=(show ∃ t,u=Value.str y t from rx); cases q; exact PySem.W.kia_one PySem.W.kitx_str I.kIn True.intro e (fun z=>nomatch z) h
  | flt y=>obtain ⟨t,q⟩:=(show ∃ t,u=Value.float y t from rx); cases q; exact PySem.W.kia_one PySem.W.kitx_float I.kIn True.intro e (fun z=>nomatch z) h
  | @lst a xs ea =>
    cases (show u=Value.ref a from rx)
    obtain ⟨_,_,n,_,h1⟩:=(show ObjOk X.prog X.w H s.heap a (.lst xs) from I.hok a _ ea)
    exact PySem.W.kia_one PySem.W.kitx_list I.kIn ⟨_,h1,rfl⟩ e (fun z=>nomatch z) h
  | @frz a ob xs ea =>
    cases (show u=Value.ref a from rx)
    obtain ⟨_,_,_,n,_,h1⟩:=(show ObjOk X.prog X.w H s.heap a (.frz ob (.lst xs)) from I.hok a _ ea)
    exact PySem.W.kia_one PySem.W.kitx_list I.kIn ⟨_,h1,rfl⟩ e (fun z=>nomatch z) h
  | @tup a xs ea =>
    cases (show u=Value.ref a from rx)
    obtain ⟨_,_,_,p⟩:=(show ObjOk X.prog X.w H s.heap a (.tup xs) from I.hok a _ ea)
    obtain ⟨o,h1,h2,_⟩:=p
    exact PySem.W.kia_one PySem.W.kitx_tuple I.kIn ⟨o,h1,h2⟩ e (fun z=>nomatch z) h
  | @dK a kvs ea =>
    cases (show u=Value.ref a from rx)
    obtain ⟨_,_,vs,_,p⟩:=(show ObjOk X.prog X.w H s.heap a (.dK kvs) from I.hok a _ ea)
    obtain ⟨o,es,ep,h1,h2,_⟩:=p
    exact PySem.W.kia_one PySem.W.kitx_dict I.kIn ⟨o,h1,h2.1⟩ e (fun z=>nomatch z) h
  | @dT a kvs ea =>
    cases (show u=Value.ref a from rx)
    obtain ⟨_,_,xs,_,o,es,ep,h1,h2,_⟩:=(show ObjOk X.prog X.w H s.heap a (.dT kvs) from I.hok a _ ea)
    exact PySem.W.kia_one PySem.W.kitx_dict I.kIn ⟨o,h1,h2.1⟩ e (fun z=>nomatch z) h
  | @ins a C dx fs ea cl ha hn htk hm =>
    cases (show u=Value.ref a from rx)
    obtain ⟨mA,O,_⟩:=ins_get I.hok ea
    obtain ⟨od,J,_⟩:=O.look
    exact PySem.W.kia_one (PySem.W.kitx_own (cl.get _) cl.hd ha hn htk hm) I.kIn J e (fun z=>nomatch z) h
end
end L2

namespace L2
open PySem PySem.Spec PyProof.Rows

structure Room (k:Nat) (A:Around):Prop where
  hd:A.handled=none
  dp:A.depth+3 * k+5<recursionLimit
  un:A.units+16 * k+200<cLine
theorem Room.mono (r:Room k A) (h:j<=k):Room j A:=⟨r.hd,by have:=r.dp; lia,by have:=r.un; lia⟩
theorem Room.deeper (r:Room (k+1) A) (env:Env):Room k (A.deeper env) :=
  ⟨r.hd,by have:=r.dp; show A.depth+1+3 * k+5<_; lia,by have:=r.un; show A.units+3+16 * k+200<_; lia⟩
theorem Room.in1 (r:Room (k+1) A):Room k A.in1 :=
  ⟨r.hd,by have:=r.dp; show A.depth+3 * k+5<_; lia,by have:=r.un; show A.units+1+16 * k+200<_; lia⟩
theorem Room.depth (r:Room k A):A.depth<recursionLimit:=by have:=r.dp; lia
theorem Room.units (r:Room k A):A.units+64<cLine:=by have:=r.un; lia
def tNil:TA:=fun _ H Q=>Q [] H
def tCons (ta:TE) (tr:TA):TA:=fun σ H Q=>ta σ H fun x H1=>tr σ H1 fun xs H2=>Q (x :: xs) H2
section
variable {X:Cx} {e:Expr} {es:List Expr} {te:TE} {t:TA} {pos:Pos}
theorem pa_nil:PA X [] tNil:=fun _ _ _ _ H Q I h=>Calls.spliced_nil ⟨[],H,I,.nil,h⟩
theorem pa_cons (ha:PE X e te) (hr:PA X es t) (hs:starEach (e :: es) X.env=(false,eval e X.env) :: starEach es X.env:=by rfl):PA X (e :: es) (tCons te t):=by
  intro pos pins s σ H Q I h
  rw [hs]
  show wpAny _ _ (spliced ((false,eval e X.env) :: backTo pos (starEach es X.env))) _ _ s
  refine Calls.spliced_cons (thn (ha pins s σ H _ I h) fun u s1 hx5=>L2.ex2 hx5 fun x H1 I1 r1 q1=>?_)
  exact thn (hr pos pins s1 σ H1 _ I1 q1) fun us s2 hx5=>L2.ex2 hx5 fun xs H2 I2 r2 q2=>⟨x :: xs,H2,I2,.cons r1 r2,q2⟩

def tTup (t:TA):TE:=fun σ H Q=>t σ H fun xs H1=>xs.length<=sizeLine/\∀ p,H1 p=none->Q (.ref p) (upd H1 p (.tup xs))
def tLst (t:TA):TE:=fun σ H Q=>t σ H fun xs H1=>xs.length<=sizeLine/\∀ p,H1 p=none->Q (.ref p) (upd H1 p (.lst xs))
theorem pe_tup {x1} (h:PA X es t):PE X (.Tuple es x1 pos) (tTup t):=by
  intro pins s σ H Q I hq
  refine wpAny_Tuple_spliced (thn (h pos pins s σ H _ I hq) fun us s1 ⟨xs,H1,I1,r,z,q⟩=>⟨by rw [<- r.length]; exact z,?_⟩)
  have hf:H1 s1.heap.objs.size=none:=I1.hok.fresh (xaj _)
  refine ⟨.ref s1.heap.objs.size,upd H1 s1.heap.objs.size (.tup xs),I1.laid (t':=s1.toks) (fun b u e=>xal _ e) (xaj _) ?_,rfl,q _ hf⟩
  exact ⟨z,us,r,⟨_,xax _ rfl,rfl,_,rfl⟩⟩
theorem pe_lst (h:PA X es t):PE X (.List es pos) (tLst t):=by
  intro pins s σ H Q I hq
  refine wpAny_List_spliced (thn (h pos pins s σ H _ I hq) fun us s1 ⟨xs,H1,I1,r,z,q⟩=>⟨by rw [<- r.length]; exact z,?_⟩)
  have hf:H1 s1.heap.objs.size=none:=I1.hok.fresh (xaj _)
  refine ⟨.ref s1.heap.objs.size,upd H1 s1.heap.objs.size (.lst xs),I1.laid (t':=s1.toks) (fun b u e=>xal _ e) (xaj _) ?_,rfl,q _ hf⟩
  exact ⟨z,us,0,r,xax _ rfl⟩
end

abbrev Sp:=List V->Hp->VK->XK->Prop
abbrev CXT:=List Env->Hp->Shared->XK->Value->Shared->Prop

structure Env0 (P:Program) (w:World) (K:PySem.W.Frag) (mg:Str->Option Value) (base:Heap) (A:Around) (outer:List Env) (s:Shared) (H:Hp):Prop where
  frames:A.frames=some outer
  mod:Mod K mg base
  bs:∀ b o,base.get? b=some o->s.heap.get? b=some o/\H b=none
  bsz:base.objs.size<=s.heap.objs.size
  funs:s.heap.FunFrames base outer
  frf:∀ b∈frs outer,H b=none
  hok:HOk P w H s.heap
  bare:AllBare s.gens
def CE (outer:List Env) (P:Program) (w:World) (H:Hp) (s:Shared) (Q:VK) (u:Value) (s':Shared):Prop :=
  ∃ v H',s'.os=s.os/\AllBare s'.gens/\Un (frs outer) [] H H' s.heap s'.heap/\HOk P w H' s'.heap/\RelV v u/\Q v H'
def CR (CX:CXT) (outer:List Env) (P:Program) (w:World) (H:Hp) (s:Shared) (Q:VK) (E:XK) (r:Result) (s':Shared):Prop :=
  match r with
  | .ok (.ret u)=>CE outer P w H s Q u s'
  | .ok _=>False
  | .error e=>CX outer H s E e s'
structure FnOk (P:Program) (w:World) (K:PySem.W.Frag) (mg:Str->Option Value) (base:Heap) (CX:CXT) (k:Nat) (f:Addr) (fd:FuncData) (ps:List Str) (sp:Sp):Prop where
  len:∀ vs H Q E,sp vs H Q E->vs.length=ps.length
  run:∀ (A:Around) (outer:List Env) (s:Shared) (H:Hp) (args:Args) (us:List Value) (vs:List V) (Q:VK) (E:XK),Room k A->Env0 P w K mg base A outer s H->BindsTo s fd args (ps.zip us)->Vals vs us->sp vs H Q E ->
    codeAny (model P w) A (.call (.ref f) args) (CR CX outer P w H s Q E) s
theorem FnOk.mono {P:Program} {K:PySem.W.Frag} {ps:List Str} (F:FnOk P w K mg base CX j f fd ps sp) (h:j<=k) :
    FnOk P w K mg base CX k f fd ps sp:=⟨F.len,fun A outer s H args us vs Q E hr=>F.run A outer s H args us vs Q E (hr.mono h)⟩
theorem FnOk.imp {P:Program} {K:PySem.W.Frag} {ps:List Str} (F:FnOk P w K mg base CX k f fd ps sp)
    (h:∀ vs H Q E,sp' vs H Q E->sp vs H Q E):FnOk P w K mg base CX k f fd ps sp' :=
  ⟨fun vs H Q E q=>F.len vs H Q E (h _ _ _ _ q),fun A outer s H args us vs Q E hr he hb hv hs=>F.run A outer s H args us vs Q E hr he hb hv (h _ _ _ _ hs)⟩

theorem Env0.in1 {P:Program} {K:PySem.W.Frag} (e:Env0 P w K mg base A outer s H) :
    Env0 P w K mg base A.in1 outer s H:=⟨e.frames,e.mod,e.bs,e.bsz,e.funs,e.frf,e.hok,e.bare⟩

section
variable {X:Cx} {pins:List (Addr × Obj)} {σ:St} {H:Hp} {s s':Shared}
theorem Inv.env0 (I:Inv X pins σ H s):Env0 X.prog X.w X.K X.mg X.base X.A X.stack s H :=
  ⟨I.ok.frames,I.ok.mod,I.bs,xat I.ok.bsz I.sz,I.stack,I.stkFree,I.hok,I.bare⟩
theorem Inv.after (I:Inv X pins σ H s) (h:CE X.stack X.prog X.w H s Q u s'):EP X pins σ Q u s':=by
  obtain ⟨v,H',os,bare,un,hok,r,q⟩:=h
  obtain ⟨hh,g,d,t,os'⟩:=s'
  obtain rfl:os'=s.os:=os
  exact ⟨v,H',I.call (h':=hh) (g':=g) (d':=d) (t':=t) (ch:=[]) un hok bare (fun b z=>absurd z (by simp)),r,q⟩
end

def tCall (sp:Sp) (dvs:List V) (E:XK) (t:TA):TE:=fun σ H Q=>t σ H fun vs H1=>sp (vs++dvs) H1 Q E
def Binds (K:PySem.W.Frag) (fd:FuncData) (ps:List Str) (ds:List Value):Prop :=
  ∀ (s:Shared) (us:List Value),K.In s.heap->(us++ds).length=ps.length->BindsTo s fd ⟨us,[]⟩ (ps.zip (us++ds))
theorem Binds.all {K:PySem.W.Frag} {ps:List Str} (h:∀ us:List Value,us.length=ps.length->bindArgs fd ⟨us,[]⟩=pure (ps.zip us)):Binds K fd ps []:=fun s us _ hl=>by
  rw [xay] at hl ⊢
  exact .of_eq (h us hl)

def Passes (CX:CXT) (X:Cx) (E:XK):Prop:=∀ (pins:List (Addr × Obj)) (σ:St) (H:Hp) (s:Shared) (e:Value) (s':Shared),Inv X pins σ H s->CX X.stack H s E e s'->X.xe e s'

section
variable {X:Cx} {CX:CXT} {k:Nat} {f C:Addr} {fd:FuncData} {ps:List Str} {sp:Sp} {dvs:List V} {ds:List Value} {E:XK} {x m:Str} {p pos apos:Pos} {e o:Expr} {es:List Expr} {ta:TE} {t:TA}

theorem run_fn (F:FnOk X.prog X.w X.K X.mg X.base CX k f fd ps sp) (hr:Room k X.A) (hb:Binds X.K fd ps ds) (hd:Vals dvs ds) (hx:Passes CX X E)
    (I:Inv X pins σ H s) (r:Vals vs us) (h:sp (vs++dvs) H Q E):wpAny (model X.prog X.w) X.A (call (.ref f) us) (EP X pins σ Q) X.xe s:=by
  have r2:Vals (vs++dvs) (us++ds):=r.append hd
  have hl:(us++ds).length=ps.length:=by rw [<- r2.length]; exact F.len _ _ _ _ h
  refine wpAny_call (codeAny_mono (F.run X.A X.stack s H ⟨us,[]⟩ (us++ds) (vs++dvs) Q E hr I.env0 (hb s us I.kIn hl) r2 h) fun r s' hq=>?_)
  cases r with
  | error e=>exact hx pins σ H s e s' I hq
  | ok fl =>
    cases fl with
    | ret u=>exact I.after hq
    | next=>exact False.elim hq
    | brk=>exact False.elim hq
    | cont=>exact False.elim hq

theorem pe_call (F:FnOk X.prog X.w X.K X.mg X.base CX k f fd ps sp) (hr:Room k X.A) (hg:Gl X x) (hm:X.mg x=some (.ref f)) (hk:PySem.W.keepIn X.K (.ref f)=true) (hb:Binds X.K fd ps ds) (hd:Vals dvs ds) (hx:Passes CX X E)
    (ha:PA X (e :: es) t) (hdb:(x == ("__debug__" : Str))=false:=by decide) (he:starEach (e :: es) X.env=(false,eval e X.env) :: starEach es X.env:=by rfl) (hpl:(backTo pos (starEach es X.env)).any (·.1)=false:=by rfl) :
    PE X (.Call (.Name x p) (e :: es) [] pos) (tCall sp dvs E t):=by
  intro pins s σ H Q I h
  refine wpAny_Call_Name_kw (ld_glob I hg hm ?_ hdb)
  refine PySem.W.callWith_K (h₀:=X.base) I.ok.mod.kin hk (thn (ha pos pins s σ H _ I h) fun us s1 hx5=>L2.ex2 hx5 fun vs H1 I1 r q=>⟨I1.kIn,?_⟩) he hpl
  exact run_fn F hr hb hd hx I1 r q
structure Mk (K:PySem.W.Frag) (C f:Addr):Prop where
  makes:PySem.W.makesIn K C=true
  init:PySem.W.findIn K (.ref C) "__init__" = some (some (.ref f))
  fn:PySem.W.isFn K (.ref f)=true
  kp:PySem.W.keepIn K (.ref C)=true

end

section
variable {fd:FuncData} {ps ks:List Str}
structure KBinds (K:PySem.W.Frag) (fd:FuncData) (ps ks:List Str) (g:List Value->List Value->List Value) (gV:List V->List V->List V):Prop where
  to:∀ (s:Shared) (us ws:List Value),K.In s.heap->(g us ws).length=ps.length->BindsTo s fd ⟨us,ks.zip ws⟩ (ps.zip (g us ws))
  rel:∀ {vs:List V} {us:List Value} {zs:List V} {ws:List Value},Vals vs us->Vals zs ws->Vals (gV vs zs) (g us ws)
end

structure FnScope (N P:List Str) (sc:Scope):Prop where
  kind:sc.kind=.function
  co:sc.isCoroutine=false
  gen:sc.isGenerator=false
  nd:N.Nodup
  pre:N.take P.length=P
  par:∀ x∈P,sc.names.lookup x=some .local\/sc.names.lookup x=some .cell
  nofree:∀ y∈sc.names,y.2≠.free

theorem bindL_out {kindOf:Str->Option NameKind}:∀ {binds:List (Str × Value)} {m:Str->Option Value},(∀ v,(x,v)∉binds)->bindL kindOf binds m x=m x
  | [],_,_=>rfl
  | (n,v) :: r,m,h=>by
    unfold bindL
    rw [bindL_out fun w hw=>h w (xaa _ hw)]
    split
    · have:x≠n:=by rintro rfl; exact h v xac
      simp [this]
    · rfl
theorem bindC_out {kindOf:Str->Option NameKind}:∀ {binds:List (Str × Value)} {m:Str->Option Value},(∀ v,(x,v)∉binds)->bindC kindOf binds m x=m x
  | [],_,_=>rfl
  | (n,v) :: r,m,h=>by
    unfold bindC
    rw [bindC_out fun w hw=>h w (xaa _ hw)]
    split
    · rfl
    · have:x≠n:=by rintro rfl; exact h v xac
      simp [this]
theorem bindL_get {kindOf:Str->Option NameKind}:∀ {P:List Str} {vs:List Value} {i:Nat} {m:Str->Option Value},P.Nodup->P[i]? = some x->vs[i]? = some v->kindOf x=some .local ->
    bindL kindOf (P.zip vs) m x=some v
  | [],_,_,_,_,h,_,_=>by simp at h
  | _ :: _,[],_,_,_,_,h,_=>by simp at h
  | p :: P,w :: vs,0,m,nd,h1,h2,hk=>by
    simp at h1 h2; subst h1; subst h2
    show bindL kindOf ((p,w) :: P.zip vs) m p=_
    unfold bindL
    rw [bindL_out fun v hv=>(xau.mp nd).1 (List.of_mem_zip hv).1,if_pos hk]
    simp
  | p :: P,w :: vs,i+1,m,nd,h1,h2,hk=>by
    show bindL kindOf ((p,w) :: P.zip vs) m x=_
    unfold bindL
    exact bindL_get (i:=i) (xau.mp nd).2 (by simpa using h1) (by simpa using h2) hk
theorem bindC_get {kindOf:Str->Option NameKind}:∀ {P:List Str} {vs:List Value} {i:Nat} {m:Str->Option Value},P.Nodup->P[i]? = some x->vs[i]? = some v->kindOf x≠some .local ->
    bindC kindOf (P.zip vs) m x=some v
  | [],_,_,_,_,h,_,_=>by simp at h
  | _ :: _,[],_,_,_,_,h,_=>by simp at h
  | p :: P,w :: vs,0,m,nd,h1,h2,hk=>by
    simp at h1 h2; subst h1; subst h2
    show bindC kindOf ((p,w) :: P.zip vs) m p=_
    unfold bindC
    rw [bindC_out fun v hv=>(xau.mp nd).1 (List.of_mem_zip hv).1,if_neg hk]
    simp
  | p :: P,w :: vs,i+1,m,nd,h1,h2,hk=>by
    show bindC kindOf ((p,w) :: P.zip vs) m x=_
    unfold bindC
    exact bindC_get (i:=i) (xau.mp nd).2 (by simpa using h1) (by simpa using h2) hk

def start (N:List Str) (vs:List V):St:=vs.map some++List.replicate (N.length - vs.length) none

def cxOf (CX:CXT) (P:Program) (w:World) (K:PySem.W.Frag) (mg:Str->Option Value) (base:Heap) (N:List Str) (qual:Str) (scope:Scope) (f:Addr) (cd:Value) (A:Around) (outer:List Env) (s:Shared) (H:Hp) (E:XK):Cx where
  prog:=P
  w:=w
  K:=K
  mg:=mg
  base:=base
  A:=A.deeper (envOfC qual scope s.heap.objs.size f cd)
  N:=N
  s₀:=s
  H₀:=H
  env:=envOfC qual scope s.heap.objs.size f cd
  outer:=outer
  stack:=envOfC qual scope s.heap.objs.size f cd :: outer
  ex:=[]
  calm:=true
  fn:=fun _=>true
  pn:=[]
  xe:=fun e s'=>wpAny (model P w) (A.deeper (envOfC qual scope s.heap.objs.size f cd)) (leaving (envOfC qual scope s.heap.objs.size f cd) e) (fun _ s''=>CX outer H s E e s'') (fun e' s''=>CX outer H s E e' s'') s'

theorem cell_has {sc:Scope} {n:Nat} {x:Str} (h:sc.names.lookup x=some .cell):∃ c,(cellsFrom n sc.names []).lookup x=some c:=by
  have q:=PySem.W.cellsFrom_some sc.names n [] (.inl h)
  exact Option.isSome_iff_exists.mp q

theorem inv_start {CX:CXT} {P:Program} {w:World} {K:PySem.W.Frag} {mg:Str->Option Value} {base:Heap} {N ps:List Str} {qual:Str} {scope:Scope} {f:Addr} {cd:Value} {A:Around} {outer:List Env} {s s1:Shared} {H:Hp} {E:XK} {us:List Value} {vs:List V}
    (S:FnScope N ps scope) (hd:A.handled=none) (e0:Env0 P w K mg base A outer s H) (hl:vs.length=ps.length) (r:Vals vs us)
    (x:InCallC s s.heap.objs.size (bindL (envOfC qual scope s.heap.objs.size f cd).kindOf (ps.zip us) fun _=>none) (cellsFrom (s.heap.objs.size+1) scope.names []) (bindC (envOfC qual scope s.heap.objs.size f cd).kindOf (ps.zip us) fun _=>none) s1) :
    Inv (cxOf CX P w K mg base N qual scope f cd A outer s H E) [] (start N vs) H s1:=by
  have hpl:ps.length<=N.length:=by have:=congrArg List.length S.pre; rw [xaG] at this; lia
  obtain ⟨h1,tk,rfl,hk⟩:=x.done
  have noA:∀ b:Addr,b∉(cxOf CX P w K mg base N qual scope f cd A outer s H E).ex:=fun b z=>absurd (show b∈([]:List Addr) from z) (by simp)
  refine ⟨⟨e0.mod,S.kind,rfl,rfl,xaj _,fun y z c h1 h2=>?_,fun y hy=>?_,fun y c _ h=>?_,fun _=>hd,Around.frames_deeper e0.frames,.inr ⟨rfl,rfl⟩,fun b z=>absurd z (noA b),e0.bs,e0.bsz,fun b _ _=>noA b,fun b z=>absurd z (noA b),e0.funs,e0.frf⟩,
    rfl,e0.bare,Un.kept hk,⟨_,x.toInCall.ns,fun i y v h1 h2 h3=>?_⟩,fun y c h=>⟨_,x.cell y c h⟩,e0.hok.fresh (xaj _),fun y c h=>?_,fun p hp=>absurd (show p∈([]:List (Addr × Obj)) from hp) (by simp),e0.hok.kept hk,?_⟩
  · exact name_of_addr x.apart (PySem.mem_of_lookup h1) (PySem.mem_of_lookup h2)
  · have hy:scope.names.lookup y=some .cell\/scope.names.lookup y=some .free:=hy
    rcases hy with hy | hy
    · exact cell_has hy
    · exact absurd rfl (S.nofree _ (PySem.mem_of_lookup hy))
  · exact xbf (x.above y c (PySem.mem_of_lookup h))
  · have hi:i<vs.length:=by
      unfold start at h2
      by_cases hi:i<vs.length
      · exact hi
      · rw [xaR (by simpa using hi)] at h2
        rw [xbg] at h2
        split at h2 <;> cases h2
    have ha:vs[i]? = some v:=by
      unfold start at h2
      rw [xa3 (by simpa using hi),xaV] at h2
      cases e:vs[i]? with
      | none=>rw [e] at h2; cases h2
      | some a=>rw [e] at h2; cases h2; rfl
    obtain ⟨u,hu,rv⟩:=r.get ha
    have hp:ps[i]? = some y:=by
      rw [<- S.pre,List.getElem?_take_of_lt (by lia)]; exact h1
    have ndP:ps.Nodup:=by rw [<- S.pre]; exact S.nd.sublist (List.take_sublist _ _)
    refine ⟨u,rv,?_⟩
    rcases S.par y (List.mem_of_getElem? hp) with k | k
    · exact .inl ⟨k,bindL_get ndP hp hu k⟩
    · obtain ⟨c,e⟩:=cell_has (n:=s.heap.objs.size+1) k
      refine .inr ⟨.inl k,c,e,?_⟩
      have q:=x.cell y c e
      rw [bindC_get ndP hp hu (by show scope.names.lookup y≠_; rw [k]; decide)] at q
      exact q
  · exact e0.hok.fresh (xbf (x.above y c (PySem.mem_of_lookup h)))
  · unfold start
    show _=N.length
    rw [xaz,xae,xbl]
    lia

theorem fn_of {P:Program} {K:PySem.W.Frag} {dV kV doc pm cdv ct oc:Value} 
    {N ps:List Str} (lk:K.lookup f=some ⟨oc,od,.func (PySem.W.fnOf name qual params body scope dV kV doc pm an cdv ct),osl⟩) (hcd:PySem.W.codeIn K cdv qual=true) (S:FnScope N ps scope)
    (len:∀ vs H Q E,sp vs H Q E->vs.length=ps.length)
    (hbody:∀ (A:Around) (outer:List Env) (s:Shared) (H:Hp) (vs:List V) (Q:VK) (E:XK),Room k (A.deeper (envOfC qual scope s.heap.objs.size f cdv))->sp vs H Q E ->
      ∃ t,PSs (cxOf CX P w K mg base N qual scope f cdv A outer s H E) body t/\t { nx:=fun _ H'=>Q .non H',rt:=Q } (start N vs) H) :
    FnOk P w K mg base CX (k+1) f (PySem.W.fnOf name qual params body scope dV kV doc pm an cdv ct) ps sp:=by
  refine ⟨len,fun A outer s H args us vs Q E hr e0 hb r hsp=>?_⟩
  have hl:=len _ _ _ _ hsp
  have KX:K.In s.heap:=e0.mod.kin.keeps fun b o e=>(e0.bs b o e).1
  have lim:s.heap.NoLimit:=e0.mod.nolimit.keeps fun b o e=>(e0.bs b o e).1
  have hkind:∀ y∈ps.zip us,scope.names.lookup y.1=some .local\/(scope.names.lookup y.1=some .cell/\((cellsFrom (s.heap.objs.size+1) scope.names []).lookup y.1).isSome=true):=fun ⟨n,v⟩ hy=>by
    rcases S.par n (List.of_mem_zip hy).1 with q | q
    · exact .inl q
    · exact .inr ⟨q,PySem.W.cellsFrom_some _ _ _ (.inl q)⟩
  refine codeAny_call_function hr.depth (KX _ _ lk) rfl S.co S.gen rfl (PySem.W.codeRec_of KX hcd) (hb _ _ _ _ ?_)
  refine wpAny_newFunctionEnv_cells S.kind hkind fun env he s1 x=>?_
  subst he
  refine ⟨lim.keeps x.toInCall.keep,codeAny_func ?_⟩
  obtain ⟨t,ht,hq⟩:=hbody A outer s H vs Q E (hr.deeper _) hsp
  have I:Inv (cxOf CX P w K mg base N qual scope f cdv A outer s H E) [] (start N vs) H s1:=inv_start S hr.hd e0 hl r x
  refine xaM (ht [] s1 (start N vs) H _ I hq) (fun fl s' hs=>?_) fun e s' hs=>hs
  have fin:∀ {σ':St} {H':Hp} {v:V} {u:Value},Inv (cxOf CX P w K mg base N qual scope f cdv A outer s H E) [] σ' H' s'->RelV v u->Q v H'->CE outer P w H s Q u s' :=
    fun {σ' H' v u} J rv q=>⟨v,H',J.os,J.bare,J.base,J.hok,rv,q⟩
  cases fl with
  | ret u =>
    obtain ⟨v,σ',H',J,rv,q⟩:=hs
    exact fin J rv q
  | next =>
    obtain ⟨σ',H',J,q⟩:=hs
    exact fin (v:=V.non) (u:=Value.none) J rfl q
  | brk =>
    obtain ⟨_,_,_,q⟩:=hs
    exact False.elim q
  | cont =>
    obtain ⟨_,_,_,q⟩:=hs
    exact False.elim q
end L2

namespace L2
open PySem PySem.Spec PyProof.Rows
section
variable {X:Cx} {x:Str} {p pos:Pos} {e:Expr} {es:List Expr} {t:TA} {id T:String} {r:List V->Hp->VK->Prop}

def tCB (r:List V->Hp->VK->Prop) (t:TA):TE:=fun σ H Q=>t σ H fun vs H1=>r vs H1 Q
theorem pe_callB (hc:CallR X (.builtin id) r) (hg:Gl X x) (hm:X.mg x=none) (hv:bootBuiltins x=some (.builtin id)) (ha:PA X (e :: es) t) (hn:x ≠ "__name__" := by decide) (hdb:(x == ("__debug__" : Str))=false:=by decide)
    (he:starEach (e :: es) X.env=(false,eval e X.env) :: starEach es X.env:=by rfl) (hpl:(backTo pos (starEach es X.env)).any (·.1)=false:=by rfl):PE X (.Call (.Name x p) (e :: es) [] pos) (tCB r t):=by
  intro pins s σ H Q I h
  refine wpAny_Call_Name_kw (ld_blt I hg hm hv ?_ hn hdb)
  exact PyProof.Rows.callWith_builtin1 (thn (ha pos pins s σ H _ I h) fun us s1 hx5=>L2.ex2 hx5 fun vs H1 I1 r1 q1=>hc pins s1 σ H1 vs us Q I1 r1 q1) he hpl
theorem pe_callTy (hc:CallR X (.type T) r) (hg:Gl X x) (hm:X.mg x=none) (hv:bootBuiltins x=some (.type T)) (ha:PA X (e :: es) t) (hn:x ≠ "__name__" := by decide) (hdb:(x == ("__debug__" : Str))=false:=by decide)
    (he:starEach (e :: es) X.env=(false,eval e X.env) :: starEach es X.env:=by rfl) (hpl:(backTo pos (starEach es X.env)).any (·.1)=false:=by rfl):PE X (.Call (.Name x p) (e :: es) [] pos) (tCB r t):=by
  intro pins s σ H Q I h
  refine wpAny_Call_Name_kw (ld_blt I hg hm hv ?_ hn hdb)
  exact PyProof.Rows.callWith_type1 (thn (ha pos pins s σ H _ I h) fun us s1 hx5=>L2.ex2 hx5 fun vs H1 I1 r1 q1=>hc pins s1 σ H1 vs us Q I1 r1 q1) he hpl
end
end L2

namespace HT
open PySem PyProof.Rows

section
open PySem.SeqAt
open PySem.AutoSeq1 (wpAny_loadPart')
open PySem.MeetsSeq PySem.MeetsSeq2 PySem.MeetsSeq3

end

section
variable {prog:Program} {w:World} {A:Around} {E:Value->Shared->Prop} {s:Shared}

theorem cat_tup (ht:IsTup s.heap t vs.toArray) (hb:IsTup s.heap b ws.toArray) (hv:vs≠[])
    (h1:ws=[]->Q (.ref t) s) (h2:ws≠[]->Q (.ref s.heap.objs.size) { s with heap:=s.heap.push { cls:=.type "tuple",data:=.seq (vs++ws).toArray } })
    (hsz:vs.length+ws.length<=sizeLine):wpAny (model prog w) A (binaryOp .Add (.ref t) (.ref b)) Q E s:=by
  obtain ⟨⟨cls,dd,data,sl⟩,ho,hc,n,hd⟩:=id ht
  obtain ⟨⟨cls2,dd2,data2,sl2⟩,ho2,hc2,n2,hd2⟩:=id hb
  simp only at hc hd hc2 hd2
  subst hc hd hc2 hd2
  have e:vs.toArray++ws.toArray=(vs++ws).toArray:=by simp
  by_cases hw:ws=[]
  · exact concat_meets ⟨_,ho,rfl⟩ ⟨_,ho2,rfl⟩ noFill_tuple_add seq_tuple_add PySem.F.slot_tuple_add PySem.F.entry_tuple_add (PySem.F.args_tuple_add_2 _ _)
      (tuple_addW1 t b vs.toArray ws.toArray n n2 dd dd2 sl sl2 (by simpa using hv) (by simp [hw])) ⟨ho,ho2,h1 hw⟩
  · refine concat_meets ⟨_,ho,rfl⟩ ⟨_,ho2,rfl⟩ noFill_tuple_add seq_tuple_add PySem.F.slot_tuple_add PySem.F.entry_tuple_add (PySem.F.args_tuple_add_2 _ _)
      (tuple_addW2 t b vs.toArray ws.toArray n n2 dd dd2 sl sl2 (by simpa using hv) (by simpa using hw) (by rw [xak,xak]; exact hsz)) ⟨ho,ho2,?_⟩
    rw [e]
    exact h2 hw

def sIx (n d:Nat):Option Int->Nat
  | none=>d
  | some v=>if v<0 then (v+(n:Int)).toNat else min v.toNat n
theorem sIx_le (n d:Nat) (hd:d<=n) (o:Option Int):sIx n d o<=n:=by
  cases o with
  | none=>exact hd
  | some v =>
    show (if v<0 then (v+(n:Int)).toNat else min v.toNat n)<=n
    by_cases hv:v<0
    · rw [if_pos hv]; lia
    · rw [if_neg hv]; exact Nat.min_le_right _ _
theorem clip_eq (v:Int) (n d:Nat):(if v<0 then max (v+(n:Int)) 0 else min v (n:Int))=((sIx n d (some v):Nat):Int):=by
  show (if v<0 then max (v+(n:Int)) 0 else min v (n:Int))=(((if v<0 then (v+(n:Int)).toNat else min v.toNat n):Nat):Int)
  by_cases hv:v<0
  · simp only [if_pos hv]; lia
  · simp only [if_neg hv]; lia
theorem adjust_gen (lo hi:Option Int) (n:Nat):Builtin.Slice.sliceAdjust lo hi 1 (n:Int)=(((sIx n 0 lo:Nat):Int),((sIx n n hi:Nat):Int)):=by
  have h1:¬ ((1:Int)<0):=by lia
  unfold Builtin.Slice.sliceAdjust
  simp only [h1,if_false]
  refine Prod.ext ?_ ?_
  · cases lo with
    | none=>rfl
    | some v=>exact clip_eq v n 0
  · cases hi with
    | none=>rfl
    | some v=>exact clip_eq v n n
theorem places_gen (i j:Nat):Builtin.Slice.slicePlaces (i:Int) (j:Int) 1=j - i:=by
  unfold Builtin.Slice.slicePlaces
  have h1:(1:Int)>0:=by exact Int.le_refl _
  simp only [h1,if_true,Int.ediv_one]
  split <;> lia
theorem slicePart_ (p:IsPart v o) (h:Q o s):wpAny (model prog w) A (Builtin.Slice.slicePartIndex v) Q E s:=by
  cases p with
  | none=>exact slicePart_none h
  | int i t=>exact slicePart_int h
theorem sliceApplied_gen {sl:Addr} {vl vu:Value} {lo hi:Option Int} {n:Nat} {Q:Int × Int × Nat->Shared->Prop} (hs:s.heap.IsSliceOf sl vl vu .none) (pl:IsPart vl lo) (pu:IsPart vu hi)
    (h:Q (((sIx n 0 lo:Nat):Int),1,sIx n n hi - sIx n 0 lo) s):wpAny (model prog w) A (Builtin.Slice.sliceApplied (.ref sl) (pure (n:Int))) Q E s:=by
  obtain ⟨os,hos,hcs,hds⟩:=id hs
  unfold Builtin.Slice.sliceApplied Builtin.Slice.sliceFields
  refine xab (xab (wpAny_field hos hds (x:=vl) rfl (xab (wpAny_field hos hds (x:=vu) rfl (xab (wpAny_field hos hds (x:=.none) rfl (xag ?_)))))))
  refine xab (slicePart_none ?_)
  show wpAny _ _ (if ((1:Int) == 0)=true then _ else _) _ _ s
  rw [if_neg (by decide)]
  refine xab (slicePart_ pl (xab (slicePart_ pu (xab (xag ?_)))))
  show wpAny _ _ (match Builtin.Slice.sliceAdjust lo hi 1 (n:Int) with | (lo,hi)=>pure (lo,(1:Int),Builtin.Slice.slicePlaces lo hi 1)) _ _ s
  rw [adjust_gen lo hi n]
  show wpAny _ _ (pure (((sIx n 0 lo:Nat):Int),(1:Int),Builtin.Slice.slicePlaces ((sIx n 0 lo:Nat):Int) ((sIx n n hi:Nat):Int) 1)) _ _ s
  rw [places_gen]
  exact xag h
theorem pick_gen (xs:Array Value) (i k:Nat):((List.range k).filterMap fun (m:Nat)=>xs[((i:Int)+(m:Int) * 1).toNat]?).toArray=((xs.toList.drop i).take k).toArray:=by
  have e:(fun (m:Nat)=>xs[((i:Int)+(m:Int) * 1).toNat]?)=fun m=>xs[i+m]? := by
    funext m
    have:((i:Int)+(m:Int) * 1).toNat=i+m:=by lia
    rw [this]
  rw [e]
  have:=pick_run xs i k
  rw [List.filterMap_map] at this
  have e2:((fun x=>xs[x]?) ∘ fun x=>i+x)=fun m=>xs[i+m]? := rfl
  rw [e2] at this
  rw [this]

theorem getItem_tuple_cut {lo hi:Option Int} (ht:IsTup s.heap t items) (hs:s.heap.IsSliceOf sl vl vu .none) (pl:IsPart vl lo) (pu:IsPart vu hi)
    (hw:¬ (sIx items.size 0 lo=0/\sIx items.size items.size hi=items.size))
    (h:Q (.ref s.heap.objs.size) { s with heap:=s.heap.push { cls:=.type "tuple",data:=.seq ((items.toList.drop (sIx items.size 0 lo)).take (sIx items.size items.size hi - sIx items.size 0 lo)).toArray } })
    (hsz:items.size<=sizeLine):wpAny (model prog w) A (getItem (.ref t) (.ref sl)) Q E s:=by
  have htake:sizeOk (.seq ((items.toList.drop (sIx items.size 0 lo)).take (sIx items.size items.size hi - sIx items.size 0 lo)).toArray):=by
    show ((items.toList.drop (sIx items.size 0 lo)).take (sIx items.size items.size hi - sIx items.size 0 lo)).toArray.size<=sizeLine
    rw [xak,xaG,xaO,xaF]
    lia
  have hj:sIx items.size items.size hi<=items.size:=sIx_le _ _ (xaj _) hi
  obtain ⟨os,hos,hcs,hds⟩:=id hs
  have hTs:s.TypeIs (.ref sl) "slice" := ⟨os,hos,hcs⟩
  unfold getItem
  try with_reducible refine wpAny_holding ?_
  first | refine xab (xag ?_) | skip
  refine xab (wpAny_sequenceKey ht.typeIs (by decide) ?_)
  refine xab (wpAny_callSpecial?_slot (name:=Str.ofString "__getitem__") ht.typeIs PyProof.Rows.slot_tuple_getitem
    (wpAny_call_entry PyProof.Rows.slot_tuple_getitem ht.typeIs entry_tuple_getitem ?_ (args_tuple_getitem _ _)))
  show wpAny _ _ (Builtin.Tuple.tupleItemsOf (.ref t) >>= _) _ _ s
  refine xab (tupleItemsOf_ ht ?_)
  refine xab (wpAny_typeOf hTs ?_)
  rw [if_pos (by decide)]
  refine xab (sliceApplied_gen hs pl pu ?_)
  have hno:¬ ((((sIx items.size 0 lo:Nat):Int) == 0 && (1:Int) == 1 && (sIx items.size items.size hi - sIx items.size 0 lo) == items.size)=true):=by
    intro q
    rw [xas,xas] at q
    have q1:((sIx items.size 0 lo:Nat):Int)=0:=eq_of_beq q.1.1
    have q2:sIx items.size items.size hi - sIx items.size 0 lo=items.size:=eq_of_beq q.2
    exact hw ⟨by lia,by lia⟩
  show wpAny _ _ (if (((sIx items.size 0 lo:Nat):Int) == 0 && (1:Int) == 1 && (sIx items.size items.size hi - sIx items.size 0 lo) == items.size)=true then _ else _) _ _ s
  rw [if_neg hno,pick_gen]
  first
    | exact xab (m:=Builtin.Tuple.tupleExact _) (wpAny_newObj_type (xag ⟨_,rfl,xag h⟩) htake)
    | exact xab (m:=Builtin.Tuple.tupleExact _) (wpAny_newObj_type (xab (xag (xag ⟨_,rfl,xag h⟩))) htake)
    | exact xab (xab (m:=Builtin.Tuple.tupleExact _) (wpAny_newObj_type (xag (xag ⟨_,rfl,xag h⟩)) htake))
    | exact xab (xab (m:=Builtin.Tuple.tupleExact _) (wpAny_newObj_type (xag ⟨_,rfl,xag h⟩) htake))
end
end HT

namespace L2
open PySem PySem.Spec PyProof.Rows

abbrev TO:=St->Hp->(Option Int->Hp->Prop)->Prop
def PO (X:Cx) (e:Option Expr) (t:TO):Prop :=
  ∀ (pins:List (Addr × Obj)) (s:Shared) (σ:St) (H:Hp) (Q:Option Int->Hp->Prop),Inv X pins σ H s->t σ H Q ->
    wpAny (model X.prog X.w) X.A (evalPart e X.env) (fun u s'=>∃ o H',Inv X pins σ H' s'/\IsPart u o/\Q o H') X.xe s
def tNoPart:TO:=fun _ H Q=>Q none H
def tPart (t:TE):TO:=fun σ H Q=>t σ H fun x H1=>∃ i,x=.int i/\Q (some i) H1

section
variable {X:Cx} {e:Expr} {te:TE} {lo hi:Option Expr} {tl th:TO} {pos p2:Pos}

theorem po_none:PO X none tNoPart:=by
  intro pins s σ H Q I h
  rw [evalPart_none]
  exact xag ⟨none,H,I,.none,h⟩
theorem po_some (h:PE X e te):PO X (some e) (tPart te):=by
  intro pins s σ H Q I hw
  rw [evalPart_some]
  refine thn (h pins s σ H _ I hw) fun u s1 hx5=>L2.ex2 hx5 fun x H1 I1 r1 q1=>?_
  obtain ⟨i,rfl,q⟩:=q1
  obtain ⟨t,rfl⟩:=r1
  exact ⟨some i,H1,I1,.int i t,q⟩

def SlR (X:Cx) (r:V->Option Int->Option Int->Hp->VK->Prop):Prop :=
  ∀ (pins:List (Addr × Obj)) (s:Shared) (σ:St) (H:Hp) (x:V) (v vl vu:Value) (lo hi:Option Int) (sl:Addr) (Q:VK),Inv X pins σ H s->RelV x v->s.heap.IsSliceOf sl vl vu .none->IsPart vl lo->IsPart vu hi->r x lo hi H Q ->
    ∃ T id,typeLookup (.type T) "__getitem__" = pure (some (.builtin id))/\s.TypeIs v T/\wpAny (model X.prog X.w) X.A (getItem v (.ref sl)) (EP X pins σ Q) X.xe s
theorem SlR.or (h:SlR X r) (h':SlR X r'):SlR X (fun x lo hi H Q=>r x lo hi H Q\/r' x lo hi H Q):=by
  intro pins s σ H x v vl vu lo hi sl Q I rx hs pl pu q
  rcases q with q | q
  · exact h pins s σ H x v vl vu lo hi sl Q I rx hs pl pu q
  · exact h' pins s σ H x v vl vu lo hi sl Q I rx hs pl pu q
def tSl (r:V->Option Int->Option Int->Hp->VK->Prop) (te:TE) (tl th:TO):TE:=fun σ H Q=>te σ H fun x H1=>tl σ H1 fun l H2=>th σ H2 fun u H3=>r x l u H3 Q
theorem pe_slice (hr:SlR X r) (he:PE X e te) (hl:PO X lo tl) (hu:PO X hi th):PE X (.Subscript e (.Slice lo hi none p2) pos) (tSl r te tl th):=by
  intro pins s σ H Q I h
  refine Subscript_ (thn (he pins s σ H _ I h) fun v s1 hx5=>L2.ex2 hx5 fun x H1 I1 r1 q1=>?_)
  refine wpAny_Slice (thn (hl pins s1 σ H1 _ I1 q1) fun vl s2 hx5=>L2.ex2 hx5 fun l H2 I2 pl q2=>thn (hu pins s2 σ H2 _ I2 q2) fun vu s3 hx5=>L2.ex2 hx5 fun u H3 I3 pu q3=>?_)
  rw [evalPart_none]
  refine xag ?_
  have I4:Inv X pins σ H3 { s3 with heap:=s3.heap.push { cls:=.type "slice",data:=.fields #[vl,vu,.none] } }:=I3.kept (t':=s3.toks) fun b ob q=>xal _ q
  obtain ⟨T,id,hT,ht,hg⟩:=hr pins { s3 with heap:=s3.heap.push { cls:=.type "slice",data:=.fields #[vl,vu,.none] } } σ H3 x v vl vu l u s3.heap.objs.size Q I4 r1 (Heap.IsSliceOf.new ..) pl pu q3
  show wpAny (model X.prog X.w) X.A (subscriptTail e (.Slice lo hi none p2) v (.ref s3.heap.objs.size)) (EP X pins σ Q) X.xe { s3 with heap:=s3.heap.push { cls:=.type "slice",data:=.fields #[vl,vu,.none] } }
  exact tail_any (ops:=[.ref s3.heap.objs.size,v]) ht hT hg (by with_unfolding_all rfl)

def cutV (xs:List V) (lo hi:Option Int):List V:=(xs.drop (HT.sIx xs.length 0 lo)).take (HT.sIx xs.length xs.length hi - HT.sIx xs.length 0 lo)
theorem cutV_length (xs:List V) (lo hi:Option Int):(cutV xs lo hi).length<=xs.length:=by
  unfold cutV
  rw [xaG,xaO]
  lia
def rSlT (K:PySem.W.Frag):V->Option Int->Option Int->Hp->VK->Prop:=fun x lo hi H Q=>∃ a xs,x=.ref a/\SqT K H a xs /\
  ¬ (HT.sIx xs.length 0 lo=0/\HT.sIx xs.length xs.length hi=xs.length)/\∀ p,H p=none->Q (.ref p) (upd H p (.tup (cutV xs lo hi)))
theorem sl_tup:SlR X (rSlT X.K):=by
  intro pins s σ H x v vl vu lo hi sl Q I rx hs pl pu h
  obtain ⟨a,xs,rfl,hx,hw,q⟩:=h
  cases rx
  obtain ⟨its,r,ht,hz⟩:=I.tuple hx
  have hlen:its.toArray.size=xs.length:=by rw [xak]; exact r.length.symm
  refine ⟨"tuple",_,PyProof.Rows.slot_tuple_getitem.lookup,ht.typeIs,?_⟩
  refine HT.getItem_tuple_cut ht hs pl pu (by rw [hlen]; exact hw) ?_ (by rw [hlen]; exact hz)
  rw [hlen]
  refine ⟨.ref s.heap.objs.size,_,I.laid (t':=s.toks) (o:=.tup (cutV xs lo hi)) (fun b ob q=>xal _ q) (xaj _) ?_,rfl,q _ (I.hok.fresh (xaj _))⟩
  exact ⟨xat (cutV_length xs lo hi) hz,_,(r.drop (HT.sIx xs.length 0 lo)).take (HT.sIx xs.length xs.length hi - HT.sIx xs.length 0 lo),IsTup.new _ _⟩

def rCatT (K:PySem.W.Frag):R2:=fun x y H Q=>∃ a b xs ys,x=.ref a/\y=.ref b/\SqT K H a xs/\SqT K H b ys/\xs≠[]/\xs.length+ys.length<=sizeLine /\
  (ys=[]->Q (.ref a) H)/\(ys≠[]->∀ p,H p=none->Q (.ref p) (upd H p (.tup (xs++ys))))
theorem Vals.nil_iff (r:Vals xs us):us=[]↔xs=[]:=by
  cases r with
  | nil=>simp
  | cons _ _=>simp
theorem op_catT:OpR X (binaryOp .Add) (rCatT X.K):=by
  intro pins s σ H x y v u Q I rx ry h
  obtain ⟨a,b,xs,ys,rfl,rfl,ha,hb,hx,hz,q1,q2⟩:=h
  cases rx
  cases ry
  obtain ⟨its,r1,p1,_⟩:=I.tuple ha
  obtain ⟨its2,r2,p2,_⟩:=I.tuple hb
  refine HT.cat_tup p1 p2 (fun z=>hx (r1.nil_iff.mp z)) (fun z=>⟨.ref a,H,I,rfl,q1 (r2.nil_iff.mp z)⟩) (fun z=>?_) (by rw [<- r1.length,<- r2.length]; exact hz)
  refine ⟨.ref s.heap.objs.size,_,I.laid (t':=s.toks) (o:=.tup (xs++ys)) (fun b ob q=>xal _ q) (xaj _) ?_,rfl,q2 (fun w=>z (r2.nil_iff.mpr w)) _ (I.hok.fresh (xaj _))⟩
  exact ⟨by rw [xaz]; exact hz,_,r1.append r2,IsTup.new _ _⟩
end
end L2

namespace L2
open PySem PySem.Spec PyProof.Rows

def ixN (n:Nat) (i:Int):Option Nat:=if 0<=i then (if i<n then some i.toNat else none) else if -(n:Int)<=i then some (i+n).toNat else none
def atI {α:Type} (xs:List α) (i:Int):Option α:=(ixN xs.length i).bind fun j=>xs[j]?
theorem ixN_seq (h:ixN n i=some j):seqIndex? i n=some j/\j<n/\-(n:Int)<=i/\i<n:=by
  unfold ixN at h
  by_cases h0:0<=i
  · rw [if_pos h0] at h
    by_cases h1:i<n
    · rw [if_pos h1] at h
      have e:i.toNat=j:=Option.some.inj h
      exact ⟨by rw [seqIndex_of h0 h1,e],by lia,by lia,h1⟩
    · rw [if_neg h1] at h; cases h
  · rw [if_neg h0] at h
    by_cases h1:-(n:Int)<=i
    · rw [if_pos h1] at h
      have e:(i+n).toNat=j:=Option.some.inj h
      exact ⟨by rw [seqIndex_neg (by lia) h1,e],by lia,h1,by lia⟩
    · rw [if_neg h1] at h; cases h
theorem atI_get {α:Type} {xs:List α} {i:Int} {v:α} (h:atI xs i=some v):∃ j,seqIndex? i xs.length=some j/\xs[j]? = some v/\j<xs.length/\-(xs.length:Int)<=i/\i<xs.length:=by
  unfold atI at h
  cases e:ixN xs.length i with
  | none=>rw [e] at h; cases h
  | some j =>
    rw [e] at h
    obtain ⟨h1,h2,h3,h4⟩:=ixN_seq e
    exact ⟨j,h1,h,h2,h3,h4⟩
theorem atI_nat {α:Type} {xs:List α} {j:Nat} {v:α} (h:xs[j]? = some v):atI xs (j:Int)=some v:=by
  have hj:j<xs.length:=(xaw.mp h).1
  have e:ixN xs.length (j:Int)=some j:=by
    unfold ixN
    rw [if_pos (by walk_at "s1"),if_pos (by lia)]; simp
  unfold atI; rw [e]; exact h
def PlainIx (b:Expr):Prop:=∀ o i,subscripted b false o i=operate [o,i] (getItem o i)
def IxR (X:Cx) (r:R2):Prop :=
  ∀ (value slice:Expr) (pins:List (Addr × Obj)) (s:Shared) (σ:St) (H:Hp) (x y:V) (v u:Value) (Q:VK),Inv X pins σ H s->RelV x v->RelV y u->r x y H Q ->
    subscripted slice false v u=operate [v,u] (getItem v u)->wpAny (model X.prog X.w) X.A (subscriptTail value slice v u) (EP X pins σ Q) X.xe s
def MtR (X:Cx) (id:String) (r:V->List V->Hp->VK->Prop):Prop :=
  ∀ (pins:List (Addr × Obj)) (s:Shared) (σ:St) (H:Hp) (x:V) (xs:List V) (v:Value) (us:List Value) (Q:VK),Inv X pins σ H s->RelV x v->Vals xs us->r x xs H Q ->
    wpAny (model X.prog X.w) X.A (call (.builtin id) (v :: us)) (EP X pins σ Q) X.xe s
section
variable {X:Cx} {a b:Expr} {ta tb:TE} {pos:Pos}
theorem IxR.or (h:IxR X r) (h':IxR X r'):IxR X (fun x y H Q=>r x y H Q\/r' x y H Q):=by
  intro value slice pins s σ H x y v u Q I rx ry q hs
  rcases q with q | q
  · exact h value slice pins s σ H x y v u Q I rx ry q hs
  · exact h' value slice pins s σ H x y v u Q I rx ry q hs
theorem MtR.or {id:String} (h:MtR X id r) (h':MtR X id r'):MtR X id (fun x xs H Q=>r x xs H Q\/r' x xs H Q):=by
  intro pins s σ H x xs v us Q I rx rs q
  rcases q with q | q
  · exact h pins s σ H x xs v us Q I rx rs q
  · exact h' pins s σ H x xs v us Q I rx rs q
theorem pe_ix {r:R2} (hr:IxR X r) (ha:PE X a ta) (hb:PE X b tb) (hs:PlainIx b):PE X (.Subscript a b pos) (tOp r ta tb):=by
  intro pins s σ H Q I h
  exact Subscript_ (binT ha hb I h fun v u s2 x y H2 I2 rx ry q=>hr a b pins s2 σ H2 x y v u Q I2 rx ry q (hs _ _))

def rIxL (K:PySem.W.Frag):R2:=fun x y H Q=>∃ p xs i v,x=.ref p/\y=.int i/\SqL K H p xs/\atI xs i=some v/\Q v H
def rIxT (K:PySem.W.Frag):R2:=fun x y H Q=>∃ p xs i v,x=.ref p/\y=.int i/\SqT K H p xs/\atI xs i=some v/\Q v H
def rIxS:R2:=fun x y H Q=>∃ z i c,x=.str z/\y=.int i/\z.length<=sizeLine/\atI z.cps.toList i=some c/\Q (.str ⟨#[c]⟩) H
theorem ix_list:IxR X (rIxL X.K):=by
  intro value slice pins s σ H x y v u Q I rx ry h hs
  obtain ⟨p,xs,i,z,rfl,rfl,hq,he,q⟩:=h
  cases rx
  obtain ⟨t,rfl⟩:=ry
  obtain ⟨its,r,pl,hz⟩:=I.list hq
  obtain ⟨j,h1,h2,h3,h4,h5⟩:=atI_get he
  obtain ⟨w,ew,rw'⟩:=r.get h2
  have hl:=r.length
  have hn:=line63
  have fin:EP X pins σ Q w s:=⟨z,H,I,rw',q⟩
  by_cases h0:0<=i
  · have hj:i.toNat=j:=by
      rw [seqIndex_of h0 h5] at h1
      exact Option.some.inj h1
    exact item_listR pl.isList h0 (by lia) (by rw [hj]; simpa using ew) fin hs
  · have hj:(i+(its.toArray.size:Int)).toNat=j:=by
      rw [seqIndex_neg (by lia) h4] at h1
      rw [xak,<- hl]
      exact Option.some.inj h1
    exact subscriptTail_builtinR (x:=w) pl.isList.typeIs slot_list_getitem.lookup
      (wpAny_getItem_list_neg (Q:=fun r s'=>r=w/\EP X pins σ Q r s') pl.isList (by lia) (by rw [xak] <;> lia) (by lia) (by rw [hj]; simpa using ew) ⟨rfl,fin⟩) hs
theorem ix_tup:IxR X (rIxT X.K):=by
  intro value slice pins s σ H x y v u Q I rx ry h hs
  obtain ⟨p,xs,i,z,rfl,rfl,hq,he,q⟩:=h
  cases rx
  obtain ⟨t,rfl⟩:=ry
  obtain ⟨its,r,pl,hz⟩:=I.tuple hq
  obtain ⟨j,h1,h2,h3,h4,h5⟩:=atI_get he
  obtain ⟨w,ew,rw'⟩:=r.get h2
  have hl:=r.length
  have hn:=line63
  have fin:EP X pins σ Q w s:=⟨z,H,I,rw',q⟩
  exact subscriptTail_builtinR (x:=w) pl.typeIs slot_tuple_getitem.lookup
    (getItem_tuple (j:=j) (Q:=fun r s'=>r=w/\EP X pins σ Q r s') pl (by lia) (by lia) (by rw [xak,<- hl]; exact h1) (by simpa using ew) ⟨rfl,fin⟩) hs
theorem ix_str:IxR X rIxS:=by
  intro value slice pins s σ H x y v u Q I rx ry h hs
  obtain ⟨z,i,c,rfl,rfl,hz,he,q⟩:=h
  obtain ⟨t,rfl⟩:=rx
  obtain ⟨t',rfl⟩:=ry
  obtain ⟨j,h1,h2,h3,h4,h5⟩:=atI_get he
  have hl:z.cps.toList.length=z.length:=by simp [Str.length]
  rw [hl] at h1 h4 h5
  have hn:=line63
  exact tail_any (typeIs_str s z t) slot_str_getitem.lookup (getItem_str (c:=c) (by
    have e1:decide (i < -(2 ^ 63:Int))=false:=decide_eq_false (by lia)
    have e2:decide (i >= 2 ^ 63)=false:=decide_eq_false (by lia)
    rw [e1,e2,Bool.or_false]) (by rw [h1]; simpa using h2) ⟨.str ⟨#[c]⟩,H,I.tok _,⟨_,rfl⟩,q⟩) hs
def rIx (K:PySem.W.Frag):R2:=fun x y H Q=>rIxL K x y H Q\/rIxT K x y H Q\/rIxS x y H Q
theorem ix_seq:IxR X (rIx X.K):=ix_list.or (ix_tup.or ix_str)

theorem Inv.lst (I:Inv X pins σ H s) (h:H p=some (.lst xs)) :
    ∃ (its:List Value) (n:Nat),Vals xs its/\s.heap.get? p=some { cls:=.type "list",data:=.seq its.toArray n }/\xs.length<=sizeLine:=by
  obtain ⟨z,its,n,r,e⟩:=I.hok p _ h
  exact ⟨its,n,r,e,z⟩
theorem slice_bounds (lo hi:Option Int) (n:Nat):(sliceBounds lo hi none n).1=((HT.sIx n 0 lo:Nat):Int)/\(sliceBounds lo hi none n).2.1=((HT.sIx n n hi:Nat):Int)/\(sliceBounds lo hi none n).2.2=1:=by
  refine ⟨?_,?_,rfl⟩
  · cases lo with
    | none=>simp [sliceBounds,HT.sIx]
    | some i =>
      simp only [sliceBounds,HT.sIx,Option.getD_none,show (1:Int)>0 by decide,if_true]
      by_cases h:i<0
      · simp only [h,if_true] <;> lia
      · simp only [h,if_false] <;> lia
  · cases hi with
    | none=>simp [sliceBounds,HT.sIx]
    | some i =>
      simp only [sliceBounds,HT.sIx,Option.getD_none,show (1:Int)>0 by decide,if_true]
      by_cases h:i<0
      · simp only [h,if_true] <;> lia
      · simp only [h,if_false] <;> lia
theorem slicePick_cut (its:List Value) (lo hi:Option Int):slicePick its.toArray lo hi none=((its.drop (HT.sIx its.length 0 lo)).take (HT.sIx its.length its.length hi - HT.sIx its.length 0 lo)).toArray:=by
  obtain ⟨h1,h2,h3⟩:=slice_bounds lo hi its.toArray.size
  unfold slicePick
  rw [h1,h2,h3]
  simp only [sliceRange_one,pick_run,xak] <;> rfl
def rSlL (K:PySem.W.Frag):V->Option Int->Option Int->Hp->VK->Prop:=fun x lo hi H Q=>∃ a xs,x=.ref a/\SqL K H a xs/\∀ p,H p=none->Q (.ref p) (upd H p (.lst (cutV xs lo hi)))
theorem sl_list:SlR X (rSlL X.K):=by
  intro pins s σ H x v vl vu lo hi sl Q I rx hs pl pu h
  obtain ⟨a,xs,rfl,hx,q⟩:=h
  cases rx
  obtain ⟨its,r,ht,hz⟩:=I.list hx
  have hlen:=r.length
  refine ⟨"list",_,slot_list_getitem.lookup,ht.isList.typeIs,?_⟩
  refine wpAny_getItem_list_slice ht.isList hs pl pu .none (by simp) ?_ (by rw [xak] <;> lia)
  rw [slicePick_cut,<- hlen]
  refine ⟨.ref s.heap.objs.size,_,I.laid (t':=s.toks) (o:=.lst (cutV xs lo hi)) (fun b ob q=>xal _ q) (xaj _) ?_,rfl,q _ (I.hok.fresh (xaj _))⟩
  exact ⟨xat (cutV_length xs lo hi) hz,_,0,(r.drop (HT.sIx xs.length 0 lo)).take (HT.sIx xs.length xs.length hi - HT.sIx xs.length 0 lo),xax _ rfl⟩

def flatV:V->Bool
  | .non=>true
  | .bl _=>true
  | .int _=>true
  | .str _=>true
  | _=>false
def eqV:V->V->Bool
  | .non,.non=>true
  | .bl a,.bl b=>a == b
  | .bl a,.int b=>(if a then 1 else 0) == b
  | .int a,.bl b=>a == (if b then 1 else 0)
  | .int a,.int b=>a == b
  | .str a,.str b=>a == b
  | _,_=>false
theorem eqAt_V (ry:RelV y u) (rx:RelV x v) (fy:flatV y=true) (fx:flatV x=true):SeqAt.EqAt A s u v (eqV y x):=by
  cases y with
  | non =>
    cases ry
    cases x with
    | non=>cases rx; exact SeqAt.EqAt.same _
    | bl b=>cases rx; exact SeqAt.EqAt.none_bool b
    | int b=>obtain ⟨t,rfl⟩:=rx; exact SeqAt.EqAt.none_int b t
    | str b=>obtain ⟨t,rfl⟩:=rx; exact SeqAt.EqAt.none_str b t
    | _=>exact absurd (show false=true from fx) xap
  | bl a =>
    cases ry
    cases x with
    | non=>cases rx; exact SeqAt.EqAt.bool_none a
    | bl b=>cases rx; exact SeqAt.EqAt.bool_bool a b
    | int b=>obtain ⟨t,rfl⟩:=rx; exact SeqAt.EqAt.bool_int a b t
    | str b=>obtain ⟨t,rfl⟩:=rx; exact SeqAt.EqAt.bool_str a b t
    | _=>exact absurd (show false=true from fx) xap
  | int a =>
    obtain ⟨t',rfl⟩:=ry
    cases x with
    | non=>cases rx; exact SeqAt.EqAt.int_none a t'
    | bl b=>cases rx; exact SeqAt.EqAt.int_bool a t' b
    | int b=>obtain ⟨t,rfl⟩:=rx; exact SeqAt.EqAt.int_int a t' b t
    | str b=>obtain ⟨t,rfl⟩:=rx; exact SeqAt.EqAt.int_str a t' b t
    | _=>exact absurd (show false=true from fx) xap
  | str a =>
    obtain ⟨t',rfl⟩:=ry
    cases x with
    | non=>cases rx; exact SeqAt.EqAt.str_none a t'
    | bl b=>cases rx; exact SeqAt.EqAt.str_bool a t' b
    | int b=>obtain ⟨t,rfl⟩:=rx; exact SeqAt.EqAt.str_int a t' b t
    | str b=>obtain ⟨t,rfl⟩:=rx; exact SeqAt.EqAt.str_str a t' b t
    | _=>exact absurd (show false=true from fx) xap
  | _=>exact absurd (show false=true from fy) xap
def eqU (x:V) (u:Value):Bool:=match u with
  | .none=>eqV .non x
  | .bool b=>eqV (.bl b) x
  | .int i _=>eqV (.int i) x
  | .str z _=>eqV (.str z) x
  | _=>false
theorem eqU_of (r:RelV y u) (f:flatV y=true):eqU x u=eqV y x:=by
  cases y with
  | non=>cases r; rfl
  | bl b=>cases r; rfl
  | int i=>obtain ⟨t,rfl⟩:=r; rfl
  | str z=>obtain ⟨t,rfl⟩:=r; rfl
  | _=>exact absurd (show false=true from f) xap
theorem any_eqU:∀ {xs:List V} {us:List Value},Vals xs us->xs.all flatV=true->us.any (eqU x)=xs.any fun y=>eqV y x
  | _,_,.nil,_=>rfl
  | y :: xs,u :: us,.cons r t,f=>by
    rw [xa4,xas] at f
    rw [xa8,xa8,eqU_of r f.1,any_eqU t f.2]
theorem mem_eqAt (rx:RelV x v) (fx:flatV x=true):∀ {xs:List V} {us:List Value},Vals xs us->xs.all flatV=true->∀ u∈us,SeqAt.EqAt A s u v (eqU x u)
  | _,_,.nil,_=>fun u hu=>by cases hu
  | y :: xs,u :: us,.cons r t,f=>fun u' hu=>by
    rw [xa4,xas] at f
    rcases xaq.mp hu with rfl | hu
    · rw [eqU_of r f.1]; exact eqAt_V r rx f.1 fx
    · exact mem_eqAt rx fx t f.2 u' hu
def inV (x:V) (xs:List V):Bool:=xs.any fun y=>eqV y x
def rIn (K:PySem.W.Frag) (neg:Bool):R2:=fun x y H Q=>∃ p xs,y=.ref p/\(SqL K H p xs\/SqT K H p xs)/\flatV x=true/\xs.all flatV=true/\Q (.bl (if neg then !inV x xs else inV x xs)) H
theorem op_in_seq:OpR X (compareOp .In) (rIn X.K false):=by
  intro pins s σ H x y v u Q I rx ry h
  obtain ⟨p,xs,rfl,hq,fx,fs,q⟩:=h
  cases ry
  rcases hq with hq | hq
  · obtain ⟨its,r,pl,hz⟩:=I.list hq
    refine SeqAt.in_listAt (eqU x) pl.isList (fun w hw=>mem_eqAt rx fx r fs w (by simpa using hw)) ⟨.bl _,H,I,rfl,?_⟩
    rw [show its.toArray.any (eqU x)=its.any (eqU x) by simp,any_eqU r fs]
    exact q
  · obtain ⟨its,r,pl,hz⟩:=I.tuple hq
    refine SeqAt.in_tupleAt (eqU x) pl (fun w hw=>mem_eqAt rx fx r fs w (by simpa using hw)) ⟨.bl _,H,I,rfl,?_⟩
    rw [show its.toArray.any (eqU x)=its.any (eqU x) by simp,any_eqU r fs]
    exact q
theorem CallR.or (h:CallR X f r) (h':CallR X f r'):CallR X f (fun xs H Q=>r xs H Q\/r' xs H Q):=by
  intro pins s σ H xs us Q I rs q
  rcases q with q | q
  · exact h pins s σ H xs us Q I rs q
  · exact h' pins s σ H xs us Q I rs q
theorem call_list_of:CallR X (.type "list") (fun xs H Q=>∃ p ys,xs=[.ref p]/\(SqL X.K H p ys\/SqT X.K H p ys)/\∀ l,H l=none->Q (.ref l) (upd H l (.lst ys))):=by
  intro pins s σ H xs us Q I r h
  obtain ⟨p,ys,rfl,hq,q⟩:=h
  obtain ⟨u,rfl,rx⟩:=vals1 r
  cases rx
  have fin:∀ (its:List Value),Vals ys its->ys.length<=sizeLine->∀ (h':Heap) (c':Nat),(∀ b o',s.heap.get? b=some o'->h'.get? b=some o') ->
      h'.get? s.heap.objs.size=some { cls:=.type "list",dict:=none,data:=.seq its.toArray c',slots:=#[] }->EP X pins σ Q (.ref s.heap.objs.size) { s with heap:=h' }:=fun its r' hz h' c' kp e =>
    ⟨.ref s.heap.objs.size,_,I.laid (t':=s.toks) kp (xaj _) (show ObjOk X.prog X.w _ h' _ (.lst ys) from ⟨hz,its,c',r',e⟩),rfl,q _ (I.hok.fresh (xaj _))⟩
  rcases hq with hq | hq
  · obtain ⟨its,r',pl,hz⟩:=I.list hq
    have hlen:=r'.length
    obtain ⟨o,ho,hc,n,hd⟩:=pl.isList
    exact call_list_seq p (.inl rfl) ho hc hd (fun h' c' kp e=>fin its r' hz h' c' kp e) (by simp only [xak] <;> lia)
  · obtain ⟨its,r',pl,hz⟩:=I.tuple hq
    have hlen:=r'.length
    obtain ⟨o,ho,hc,n,hd⟩:=pl
    exact call_list_seq p (.inr rfl) ho hc hd (fun h' c' kp e=>fin its r' hz h' c' kp e) (by simp only [xak] <;> lia)
theorem call_tuple_of:CallR X (.type "tuple") (fun xs H Q=>∃ p ys,xs=[.ref p]/\((SqL X.K H p ys/\∀ l,H l=none->Q (.ref l) (upd H l (.tup ys)))\/(SqT X.K H p ys/\Q (.ref p) H))):=by
  intro pins s σ H xs us Q I r h
  obtain ⟨p,ys,rfl,h⟩:=h
  obtain ⟨u,rfl,rx⟩:=vals1 r
  cases rx
  rcases h with ⟨hq,q⟩ | ⟨hq,q⟩
  · obtain ⟨its,r',pl,hz⟩:=I.list hq
    have hlen:=r'.length
    refine call_tuple_list pl.isList (fun h' kp=>?_) (by simp only [xak] <;> lia)
    have I1:Inv X pins σ H { s with heap:=h' }:=I.kept (t':=s.toks) kp
    have I2:Inv X pins σ (upd H h'.objs.size (.tup ys)) { s with heap:=h'.push { cls:=.type "tuple",data:=.seq its.toArray } } :=
      I1.laid (t':=s.toks) (fun b o e=>xal _ e) (xaj _) (show ObjOk X.prog X.w _ _ _ (.tup ys) from ⟨hz,its,r',IsTup.new _ _⟩)
    exact ⟨.ref h'.objs.size,_,I2,rfl,q _ (I1.hok.fresh (xaj _))⟩
  · obtain ⟨its,r',pl,hz⟩:=I.tuple hq
    exact call_tuple_same pl ⟨.ref p,H,I,rfl,q⟩

def tyV (K:PySem.W.Frag) (T:String) (x:V) (H:Hp):Prop:=match x with
  | .str _=>T = "str"
  | .int _=>T = "int"
  | .ref p=>(T = "list"/\∃ xs,SqL K H p xs)\/(T = "tuple"/\∃ o,K.lookup p=some o/\o.cls=.type "tuple"/\o.dict=none) \/
      (T = "dict"/\((∃ kvs,H p=some (.dK kvs))\/∃ kvs,H p=some (.dT kvs)))\/(T = "set"/\∃ S n,H p=some (.set S n))
  | _=>False
theorem tyV_is {T:String} (I:Inv X pins σ H s) (r:RelV x v) (ty:tyV X.K T x H) :
    s.TypeIs v T/\∀ a,v=.ref a->∃ ob,s.heap.get? a=some ob/\ob.dict=none:=by
  cases x with
  | str z =>
    obtain ⟨t,rfl⟩:=r
    cases (show T = "str" from ty)
    exact ⟨typeIs_str s z t,fun _ e=>nomatch e⟩
  | int i =>
    obtain ⟨t,rfl⟩:=r
    cases (show T = "int" from ty)
    exact ⟨typeIs_int s i t,fun _ e=>nomatch e⟩
  | ref p =>
    cases r
    rcases ty with ⟨rfl,xs,hq⟩ | ⟨rfl,o,hk,hc,hd⟩ | ⟨rfl,hk⟩ | ⟨rfl,S,n,hk⟩
    · obtain ⟨its,_,pl,_⟩:=I.list hq
      refine ⟨pl.isList.typeIs,fun a e=>?_⟩
      cases e
      obtain ⟨o,n,e,c,hd,_⟩:=pl
      exact ⟨o,e,hd⟩
    · refine ⟨⟨o,I.kIn p o hk,hc⟩,fun a e=>?_⟩
      cases e
      exact ⟨o,I.kIn _ o hk,hd⟩
    · have z:∃ o,s.heap.get? p=some o/\o.ExactDict:=by
        rcases hk with ⟨kvs,hk⟩ | ⟨kvs,hk⟩
        · obtain ⟨_,_,_,_,o,_,_,e,ex,_⟩:=I.hok p _ hk
          exact ⟨o,e,ex⟩
        · obtain ⟨_,_,_,_,o,_,_,e,ex,_⟩:=I.hok p _ hk
          exact ⟨o,e,ex⟩
      obtain ⟨o,e,ex⟩:=z
      refine ⟨⟨o,e,ex.1⟩,fun a e2=>?_⟩
      cases e2
      exact ⟨o,e,ex.2.1⟩
    · obtain ⟨o,_,_,_,e,ex,_⟩:=I.hok p _ hk
      refine ⟨⟨o,e,ex.1⟩,fun a e2=>?_⟩
      cases e2
      exact ⟨o,e,ex.2.1⟩
  | _=>exact False.elim ty
def tBM0 (K:PySem.W.Frag) (T:String) (r:V->List V->Hp->VK->Prop) (to:TE):TE:=fun σ H Q=>to σ H fun x H1=>tyV K T x H1/\r x [] H1 Q
def tBM (K:PySem.W.Frag) (T:String) (r:V->List V->Hp->VK->Prop) (to:TE) (t:TA):TE:=fun σ H Q=>to σ H fun x H1=>tyV K T x H1/\t σ H1 fun xs H2=>r x xs H2 Q
variable {o e:Expr} {es:List Expr} {to:TE} {t:TA} {name:Str} {apos cpos:Pos} {T id:String} {r:V->List V->Hp->VK->Prop}
theorem pe_bm0 (pa:PlainAttrs T) (slot:Slot T name id) (hty:typeOf (.builtin id)=pure (.type "method_descriptor")) (hm:MtR X id r) (ho:PE X o to)
    (hbase:attributeBase o name X.env (eval o X.env)=eval o X.env:=by rfl) (hline:(apos.endLine == cpos.line)=true:=by rfl):PE X (.Call (.Attribute o name apos) [] [] cpos) (tBM0 X.K T r to):=by
  intro pins s σ H Q I h
  refine wpAny_Call_method0_late hbase hline (thn (ho pins s σ H _ I h) fun v s1 hx9=>?_)
  obtain ⟨x,H1,I1,r1,ty,q1⟩:=hx9
  obtain ⟨h1,h2⟩:=tyV_is I1 r1 ty
  exact ⟨T,id,pa,slot,hty,h1,h2,Calls.callWith_builtin rfl (PySem.evalArgs_none (hm pins s1 σ H1 x [] v [] Q I1 r1 .nil q1))⟩
theorem pe_bm (pa:PlainAttrs T) (slot:Slot T name id) (hty:typeOf (.builtin id)=pure (.type "method_descriptor")) (hm:MtR X id r) (ho:PE X o to) (ha:PA X (e :: es) t)
    (hbase:attributeBase o name X.env (eval o X.env)=eval o X.env:=by rfl)
    (hfew:((backTo cpos (starEach (e :: es) X.env)).all (fun x=>!x.1) && (backToKw cpos (keywordEach [] X.env)).all (fun x=>x.1.isSome)
      && decide ((e :: es).length+([]:List Keyword).length+(if ([]:List Keyword).isEmpty then 0 else 1)<30))=true:=by rfl)
    (hline:(apos.endLine == cpos.line)=true:=by rfl) (hs:starEach (e :: es) X.env=(false,eval e X.env) :: starEach es X.env:=by rfl) (hplain:(backTo cpos (starEach es X.env)).any (·.1)=false:=by rfl) :
    PE X (.Call (.Attribute o name apos) (e :: es) [] cpos) (tBM X.K T r to t):=by
  intro pins s σ H Q I h
  refine wpAny_Call_method_late hbase hfew hline rfl (thn (ho pins s σ H _ I h) fun v s1 hx9=>?_)
  obtain ⟨x,H1,I1,r1,ty,q1⟩:=hx9
  obtain ⟨h1,h2⟩:=tyV_is I1 r1 ty
  refine ⟨T,id,pa,slot,hty,h1,h2,?_⟩
  have hA:=ha cpos pins s1 σ H1 _ I1 q1
  rw [hs] at hA ⊢
  refine Calls.callWith_builtin (by show (false || (backTo cpos (starEach es X.env)).any (·.1))=false; rw [hplain] <;> rfl) (Calls.evalArgs_plain ?_)
  exact thn hA fun us s2 hx5=>L2.ex2 hx5 fun vs H2 I2 r2 q2=>hm pins s2 σ H2 x vs v us Q I2 r1 r2 q2
end
end L2

namespace L2
open PySem PySem.Spec PyProof.Rows

def MtM (X:Cx) (id:String) (r:V->List V->Hp->VK->Prop):Prop :=
  ∀ (pins:List (Addr × Obj)) (s:Shared) (σ:St) (H:Hp) (x:V) (xs:List V) (v:Value) (us:List Value) (Q:VK),Inv X pins σ H s->RelV x v->Vals xs us->r x xs H Q ->
    wpAny (model X.prog X.w) X.A (call (.builtin id) (v :: us)) (EP X pins σ Q) X.xe s

theorem Vals.one {x:V} {us:List Value} (h:Vals [x] us):∃ u,us=[u]/\RelV x u:=by
  cases h
  rename_i r h
  cases h
  exact ⟨_,rfl,‹_›⟩
theorem Vals.two {x y:V} {us:List Value} (h:Vals [x,y] us):∃ u v,us=[u,v]/\RelV x u/\RelV y v:=by
  cases h
  rename_i r h
  cases h
  rename_i q h
  cases h
  exact ⟨_,_,rfl,‹_›,‹_›⟩
theorem Vals.zero:∀ {us:List Value},Vals [] us->us=[]
  | _,.nil=>rfl
theorem Vals.dropLast (h:Vals xs us):Vals xs.dropLast us.dropLast:=by
  induction h with
  | nil=>exact .nil
  | cons r t ih =>
    cases t with
    | nil=>exact .nil
    | cons q t'=>exact .cons r ih
theorem Vals.eraseIdx:∀ {xs:List V} {us:List Value} (i:Nat),Vals xs us->Vals (xs.eraseIdx i) (us.eraseIdx i)
  | _,_,_,.nil=>.nil
  | _,_,0,.cons _ t=>t
  | _,_,i+1,.cons r t=>.cons r (Vals.eraseIdx i t)
theorem Vals.reverse (h:Vals xs us):Vals xs.reverse us.reverse:=by
  induction h with
  | nil=>exact .nil
  | cons r t ih=>rw [List.reverse_cons,List.reverse_cons]; exact Vals.append ih (.cons r .nil)
theorem Vals.rep (h:Vals xs us):∀ k:Nat,Vals (List.replicate k xs).flatten (List.replicate k us).flatten
  | 0=>.nil
  | k+1=>by
    rw [xaE,xaE,xaK,xaK]
    exact Vals.append h (Vals.rep h k)
section
variable {X:Cx} {pins:List (Addr × Obj)} {σ:St} {H:Hp} {s:Shared} {l b:Addr} {xs ys zs:List V}

theorem Inv.lset {its its':List Value} {n:Nat} {f:Array Value->Array Value} {t':Nat} (I:Inv X pins σ H s) (hH:H l=some (.lst xs))
    (e:s.heap.get? l=some { cls:=.type "list",data:=.seq its.toArray n }) (hf:f its.toArray=its'.toArray) (hv:Vals ys its') (hz:ys.length<=sizeLine) :
    Inv X pins σ (upd H l (.lst ys)) { s with heap:=s.heap.update l (Obj.mapSeq f),toks:=t' }:=by
  have q:=PySem.IsL.update e f
  rw [hf] at q
  refine I.write (x:=l) (e:=l) (by rw [hH]; exact trivial) (.inl rfl) (fun b' u hb hu=>(Heap.get?_update_other s.heap (Obj.mapSeq f) (Ne.symm hb)).trans hu) ⟨_,q⟩ ?_
  exact ⟨hz,its',_,hv,q⟩
theorem Inv.lnew (I:Inv X pins σ H s) (hv:Vals ys its) (hz:ys.length<=sizeLine) :
    Inv X pins σ (upd H s.heap.objs.size (.lst ys)) { s with heap:=s.heap.push { cls:=.type "list",data:=.seq its.toArray },toks:=t' } :=
  I.laid (fun _ _ q=>xal _ q) (xaj _) ⟨hz,its,0,hv,xax _ rfl⟩
theorem Inv.fresh (I:Inv X pins σ H s):H s.heap.objs.size=none:=I.hok.fresh (xaj _)
theorem Inv.lstM (I:Inv X pins σ H s) (hH:H l=some (.lst xs)):xs.length<=sizeLine/\∃ (its:List Value) (n:Nat),Vals xs its/\xs.length=its.length/\s.heap.get? l=some { cls:=.type "list",data:=.seq its.toArray n }:=by
  obtain ⟨z,its,n,r,e⟩:=I.hok l _ hH
  exact ⟨z,its,n,r,r.length,e⟩

end

section
variable {X:Cx}

def rAppend:V->List V->Hp->VK->Prop:=fun x vs H Q=>∃ l xs y,x=.ref l/\vs=[y]/\H l=some (.lst xs)/\xs.length<sizeLine/\Q .non (upd H l (.lst (xs++[y])))
theorem mt_append:MtM X "list.append" rAppend:=by
  intro pins s σ H x vs v us Q I rx rv h
  obtain ⟨l,xs,y,rfl,rfl,hH,hz,q⟩:=h
  cases rx
  obtain ⟨u,rfl,ru⟩:=rv.one
  obtain ⟨z,its,n,r,hl,e⟩:=I.lstM hH
  refine call_meets F.slot_list_append ⟨_,e,rfl⟩ F.entry_list_append (F.args_list_append_2 _ _) (PySem.list_append l its.toArray n u (by rw [xak]; lia)) ⟨e,?_⟩
  refine ⟨.non,_,I.lset (its':=its++[u]) hH e (by simp) (r.append (.cons ru .nil)) ?_,rfl,q⟩
  rw [xaz,List.length_singleton]
  lia

theorem len_rep {α:Type} (xs:List α) (k:Nat):(List.replicate k xs).flatten.length=k * xs.length:=by
  induction k with
  | zero=>simp
  | succ k ih=>rw [xaE,xaK,xaz,ih,Nat.succ_mul,Nat.add_comm]
end

section
set_option maxRecDepth 100000 in
end

end L2

namespace L2
open PySem PySem.Spec PyProof.Rows

section
variable {κ:Type} [DecidableEq κ]
def valV (kvs:List (κ × V)) (k:κ):Option V:=(kvs.find? fun kv=>decide (kv.1=k)).map (·.2)
def putK (kvs:List (κ × V)) (k:κ) (v:V):List (κ × V) :=
  if (kvs.any fun kv=>decide (kv.1=k))=true then kvs.map (fun kv=>if kv.1=k then (kv.1,v) else kv) else kvs++[(k,v)]
def dropK (kvs:List (κ × V)) (k:κ):List (κ × V):=kvs.filter fun kv=>decide (kv.1≠k)

theorem valV_pos {p:κ × V} {r:List (κ × V)} {k:κ} (e:p.1=k):valV (p :: r) k=some p.2:=by simp [valV,xa9,e]
theorem valV_neg {p:κ × V} {r:List (κ × V)} {k:κ} (e:¬ p.1=k):valV (p :: r) k=valV r k:=by simp [valV,xa9,e]
theorem valV_any (k:κ):∀ kvs:List (κ × V),(kvs.any fun kv=>decide (kv.1=k))=(valV kvs k).isSome
  | []=>rfl
  | p :: r=>by
    rw [xa8]
    by_cases e:p.1=k
    · simp only [valV_pos e,decide_eq_true e,Bool.true_or,Option.isSome_some]
    · rw [valV_neg e,decide_eq_false e,Bool.false_or]; exact valV_any k r
theorem RelO.isSome_eq (r:RelO o u):o.isSome=u.isSome:=by
  cases o with
  | none=>cases u with
    | none=>rfl
    | some _=>exact (show False from r).elim
  | some _=>cases u with
    | none=>exact (show False from r).elim
    | some _=>rfl
theorem RelO.getD (r:RelO o u) (rd:RelV d d'):RelV (o.getD d) (u.getD d'):=by
  cases o with
  | none=>cases u with
    | none=>exact rd
    | some _=>exact (show False from r).elim
  | some _=>cases u with
    | none=>exact (show False from r).elim
    | some _=>exact r

theorem KV.val {kvs:List (κ × V)} {vs:List (κ × Value)} (r:KV kvs vs) (k:κ):RelO (valV kvs k) (valueAt vs k):=by
  unfold KV at r
  induction r with
  | nil=>exact True.intro
  | @cons p q ps qs h t ih =>
    obtain ⟨h1,h2⟩:=h
    by_cases e:p.1=k
    · have e':q.1=k:=h1.symm.trans e
      have b:valueAt (q :: qs) k=some q.2:=by simp [valueAt,xa9,e']
      rw [valV_pos e,b]; exact h2
    · have e':¬ q.1=k:=fun z=>e (h1.trans z)
      have b:valueAt (q :: qs) k=valueAt qs k:=by simp [valueAt,xa9,e']
      rw [valV_neg e,b]; exact ih
theorem KV.any (r:KV kvs vs) (k:κ):(kvs.any fun kv=>decide (kv.1=k))=vs.any fun kv=>decide (kv.1=k):=by
  unfold KV at r
  induction r with
  | nil=>rfl
  | cons h t ih=>rw [xa8,xa8,ih,h.1]
theorem KV.repl (r:KV kvs vs) (k:κ) (ry:RelV y u) :
    KV (kvs.map fun kv=>if kv.1=k then (kv.1,y) else kv) (vs.map fun kv=>if kv.1=k then (kv.1,u) else kv):=by
  unfold KV at r ⊢
  induction r with
  | nil=>exact .nil
  | @cons p q ps qs h t ih =>
    rw [xaD,xaD]
    refine .cons ?_ ih
    obtain ⟨h1,h2⟩:=h
    by_cases e:p.1=k
    · rw [if_pos e,if_pos (h1.symm.trans e)]; exact ⟨h1,ry⟩
    · rw [if_neg e,if_neg (fun z=>e (h1.trans z))]; exact ⟨h1,h2⟩
theorem KV.put (r:KV kvs vs) (k:κ) (ry:RelV y u):KV (putK kvs k y) (stored vs k u):=by
  unfold putK stored
  rw [r.any k]
  by_cases e:(vs.any fun kv=>decide (kv.1=k))=true
  · rw [if_pos e,if_pos e]; exact r.repl k ry
  · rw [if_neg e,if_neg e]; exact Paired.snoc r ⟨rfl,ry⟩
theorem KV.drop (r:KV kvs vs) (k:κ):KV (dropK kvs k) (without vs k):=by
  unfold KV at r ⊢
  unfold dropK without
  induction r with
  | nil=>exact .nil
  | @cons p q ps qs h t ih =>
    obtain ⟨h1,h2⟩:=h
    rw [List.filter_cons,List.filter_cons]
    by_cases e:p.1=k
    · have a:¬ decide (p.1≠k)=true:=by simp [e]
      have b:¬ decide (q.1≠k)=true:=by simp [h1.symm.trans e]
      rw [if_neg a,if_neg b]; exact ih
    · have e':¬ q.1=k:=fun z=>e (h1.trans z)
      have a:decide (p.1≠k)=true:=by simp [e]
      have b:decide (q.1≠k)=true:=by simp [e']
      rw [if_pos a,if_pos b]; exact .cons ⟨h1,h2⟩ ih
theorem KV.keys {kvs:List (κ × V)} {vs:List (κ × Value)} (r:KV kvs vs):kvs.map (·.1)=vs.map (·.1):=by
  unfold KV at r
  induction r with
  | nil=>rfl
  | cons h t ih=>rw [xaD,xaD,ih,h.1]
theorem KV.length (r:KV kvs vs):kvs.length=vs.length:=Paired.length r
end


theorem kV_is {P:Program} (r:RelV (kV k) u):(mixKind P w).is k u=true:=by
  cases k with
  | inl i=>obtain ⟨t,e⟩:=(show ∃ t,u=Value.int i t from r); subst e; exact mixKind_int P w i t
  | inr x=>obtain ⟨t,e⟩:=(show ∃ t,u=Value.str x t from r); subst e; exact mixKind_str P w x t
theorem items_are {P:Program}:∀ {ks:List Key} {us:List Value},Vals (ks.map kV) us->ItemsAre (mixKind P w) ks us
  | [],_,r=>by rw [List.map_nil] at r; cases r; exact .nil
  | k :: ks,_,r=>by
    rw [xaD] at r
    cases r with
    | cons h t=>exact .cons (kV_is h) (items_are t)

abbrev KT (H:Hp):List (List Key × V)->List (List Key × Addr × Value)->Prop:=Paired fun p q=>p.1=q.1/\H q.2.1=some (.tup (p.1.map kV))/\RelV p.2 q.2.2
theorem KT.val {H:Hp} {kvs:List (List Key × V)} {xs:List (List Key × Addr × Value)} (r:KT H kvs xs) (k:List Key):RelO (valV kvs k) ((atKey xs k).map (·.2)):=by
  induction r with
  | nil=>exact True.intro
  | @cons p q ps qs h t ih =>
    obtain ⟨h1,_,h2⟩:=h
    by_cases e:p.1=k
    · have e':q.1=k:=h1.symm.trans e
      have b:atKey (q :: qs) k=some q.2:=by simp [atKey,xa9,e']
      rw [valV_pos e,b]; exact h2
    · have e':¬ q.1=k:=fun z=>e (h1.trans z)
      have b:atKey (q :: qs) k=atKey qs k:=by simp [atKey,xa9,e']
      rw [valV_neg e,b]; exact ih
theorem KT.repl (r:KT H kvs xs) (k:List Key) (ry:RelV y u) :
    KT H (kvs.map fun kv=>if kv.1=k then (kv.1,y) else kv) (xs.map (putAt k u)):=by
  induction r with
  | nil=>exact .nil
  | @cons p q ps qs h t ih =>
    rw [xaD,xaD]
    refine .cons ?_ ih
    obtain ⟨h1,h2,h3⟩:=h
    unfold putAt
    by_cases e:p.1=k
    · rw [if_pos e,if_pos (h1.symm.trans e)]; exact ⟨h1,h2,ry⟩
    · rw [if_neg e,if_neg (fun z=>e (h1.trans z))]; exact ⟨h1,h2,h3⟩
theorem KT.put (r:KT H kvs xs) (k:List Key) (hb:H b=some (.tup (k.map kV))) (ry:RelV y u) :
    KT H (putK kvs k y) (storedH xs k b u):=by
  have e:(kvs.any fun kv=>decide (kv.1=k))=(atKey xs k).isSome:=by
    rw [valV_any,(r.val k).isSome_eq,Option.isSome_map]
  unfold putK storedH
  rw [e]
  by_cases q:(atKey xs k).isSome=true
  · rw [if_pos q,if_pos q]; exact r.repl k ry
  · rw [if_neg q,if_neg q]; exact Paired.snoc r ⟨rfl,hb,ry⟩
theorem KT.keeps (r:KT H kvs xs) (ht:∀ b ys,H b=some (.tup ys)->H' b=some (.tup ys)):KT H' kvs xs :=
  Paired.mapP r fun _ _ z=>⟨z.1,ht _ _ z.2.1,z.2.2⟩

section
variable {P:Program} {w:World} {H:Hp} {h:Heap} {a:Addr}
theorem rd_of (ok:HOk P w H h) (e:Rd H a u):ObjOk P w H h a u:=e.ok ok
theorem dk_rd (ok:HOk P w H h) (e:Rd H a (.dK kvs)):kvs.length<=sizeLine/\(a == sysModules)=false/\∃ vs,KV kvs vs/\h.DictOf (mixKind P w) a vs :=
  show ObjOk P w H h a (.dK kvs) from rd_of ok e
theorem key_of (ok:HOk P w H h) (e:H a=some (.tup (ks.map kV))):(tupleKind (mixKind P w)).is h ks a:=by
  obtain ⟨_,its,r,o,h1,h2,n,h3⟩:=(show ObjOk P w H h a (.tup (ks.map kV)) from ok a _ e)
  exact ⟨o,its.toArray,n,h1,h2,h3,by simpa using items_are r⟩
theorem dt_rd (ok:HOk P w H h) (e:Rd H a (.dT kvs)):kvs.length<=sizeLine/\(a == sysModules)=false /\
    ∃ xs,KT H kvs xs/\h.DictOfH (tupleKind (mixKind P w)) a xs:=by
  obtain ⟨z,y,xs,r,o,es,ep,h1,h2,h3,h4,h5⟩:=(show ObjOk P w H h a (.dT kvs) from rd_of ok e)
  refine ⟨z,y,xs,r,o,es,ep,h1,h2,h3,h4,fun x hx=>?_,h5⟩
  have all:∀ {l:List (List Key × V)} {m:List (List Key × Addr × Value)},KT H l m->∀ x∈m,(tupleKind (mixKind P w)).is h x.1 x.2.1:=by
    intro l m q
    induction q with
    | nil=>intro x hx; exact nomatch hx
    | @cons p q ps qs hq t ih =>
      intro x hx
      rcases xaq.mp hx with e | hx
      · subst e
        exact key_of ok (by rw [<- hq.1]; exact hq.2.1)
      · exact ih x hx
  exact all r x hx
end

def DGet (H:Hp) (a:Addr) (y:V) (r:Option V):Prop :=
  (∃ kvs k,Rd H a (.dK kvs)/\y=kV k/\r=valV kvs k)\/∃ kvs k b,Rd H a (.dT kvs)/\y=.ref b/\H b=some (.tup (k.map kV))/\r=valV kvs k
def DPut (H:Hp) (a:Addr) (y v:V) (H':Hp):Prop :=
  (∃ kvs k,H a=some (.dK kvs)/\y=kV k/\kvs.length<sizeLine/\H'=upd H a (.dK (putK kvs k v))) \/
  ∃ kvs k b,H a=some (.dT kvs)/\y=.ref b/\H b=some (.tup (k.map kV))/\kvs.length<sizeLine/\H'=upd H a (.dT (putK kvs k v))
theorem DGet.k {H:Hp} {a:Addr} {kvs:List (Key × V)} {k:Key} (e:H a=some (.dK kvs)):DGet H a (kV k) (valV kvs k):=.inl ⟨kvs,k,.inl e,rfl,rfl⟩
theorem DGet.t {H:Hp} {a b:Addr} {kvs:List (List Key × V)} {k:List Key} (e:H a=some (.dT kvs)) (eb:H b=some (.tup (k.map kV))):DGet H a (.ref b) (valV kvs k):=.inr ⟨kvs,k,b,.inl e,rfl,eb,rfl⟩
theorem DPut.k {H:Hp} {a:Addr} {kvs:List (Key × V)} {k:Key} {v:V} (e:H a=some (.dK kvs)) (hl:kvs.length<sizeLine):DPut H a (kV k) v (upd H a (.dK (putK kvs k v))):=.inl ⟨kvs,k,e,rfl,hl,rfl⟩
theorem DPut.t {H:Hp} {a b:Addr} {kvs:List (List Key × V)} {k:List Key} {v:V} (e:H a=some (.dT kvs)) (eb:H b=some (.tup (k.map kV))) (hl:kvs.length<sizeLine) :
    DPut H a (.ref b) v (upd H a (.dT (putK kvs k v))):=.inr ⟨kvs,k,b,e,rfl,eb,hl,rfl⟩


section
variable {X:Cx} {pins:List (Addr × Obj)} {σ:St} {H:Hp} {s:Shared} {a:Addr} {y v:V} {u r:Value} {o:Option V} {A:Around} {E:Value->Shared->Prop}

theorem Inv.big (I:Inv X pins σ H s):sysModules<s.heap.objs.size:=by
  have h:mainGlobals<s.heap.objs.size:=(I.mod.glob.keeps I.bk).lt
  exact Nat.lt_trans (by decide) h

theorem d_getItem (hu:A.units+1<cLine) (I:Inv X pins σ H s) (g:DGet H a y (some v)) (ry:RelV y u) (h:∀ w' s',Inv X pins σ H s'->RelV v w'->Q w' s') :
    wpAny (model X.prog X.w) A (getItem (.ref a) u) Q E s:=by
  rcases g with ⟨kvs,k,e,ey,l⟩ | ⟨kvs,k,b,e,ey,eb,l⟩
  · subst ey
    obtain ⟨z,hd,vs,rel,dd⟩:=dk_rd I.hok e
    obtain ⟨w',hw,rw'⟩:=RelO.some_of (v:=v) (o:=valueAt vs k) (by rw [l]; exact rel.val k)
    exact wpAny_getItem_of (kV_is ry) dd.mapOf hw (h w' _ (I.tok _) rw')
  · subst ey
    cases (show u=Value.ref b from ry)
    obtain ⟨z,hd,xs,rel,dd⟩:=dt_rd I.hok e
    obtain ⟨w',hw,rw'⟩:=RelO.some_of (v:=v) (o:=(atKey xs k).map (·.2)) (by rw [l]; exact rel.val k)
    obtain ⟨p,hp,hp2⟩:=Option.map_eq_some_iff.mp hw
    refine wpAny_getItem_heap (tupleKind_room_in1 hu) (key_of I.hok eb) dd hp ?_
    rw [hp2]
    exact h w' _ (I.tok _) rw'
theorem d_in (hu:A.units+1<cLine) (I:Inv X pins σ H s) (g:DGet H a y o) (ry:RelV y u) (h:∀ s',Inv X pins σ H s'->Q (.bool o.isSome) s') :
    wpAny (model X.prog X.w) A (compareOp .In u (.ref a)) Q E s:=by
  rcases g with ⟨kvs,k,e,ey,l⟩ | ⟨kvs,k,b,e,ey,eb,l⟩
  · subst ey
    obtain ⟨z,hd,vs,rel,dd⟩:=dk_rd I.hok e
    refine wpAny_in_of (kV_is ry) hd dd.mapOf ?_
    rw [<- (rel.val k).isSome_eq,<- l]
    exact h _ (I.tok _)
  · subst ey
    cases (show u=Value.ref b from ry)
    obtain ⟨z,hd,xs,rel,dd⟩:=dt_rd I.hok e
    refine wpAny_in_heap (tupleKind_room_in1 hu) (key_of I.hok eb) hd dd ?_
    have q:=(rel.val k).isSome_eq
    rw [Option.isSome_map] at q
    rw [<- q,<- l]
    exact h _ (I.tok _)
end

section
variable {X:Cx} {pins:List (Addr × Obj)} {σ:St} {H:Hp} {s:Shared} {a:Addr} {kvs:List (Key × V)} {A:Around} {E:Value->Shared->Prop}
theorem d_len (I:Inv X pins σ H s) (e:Rd H a (.dK kvs)) (h:∀ t s',Inv X pins σ H s'->Q (.int kvs.length t) s'):wpAny (model X.prog X.w) A (call (.builtin "len") [.ref a]) Q E s:=by
  obtain ⟨z,hd,vs,rel,dd⟩:=dk_rd I.hok e
  refine call_len_dict hd dd (by rw [<- rel.length]; rw [sizeLine_eq] at z; lia) ?_
  rw [<- rel.length]
  exact h _ _ (I.tok _)
end


theorem dict_typeIs {X:Cx} (I:Inv X pins σ H s) (g:DGet H a y o):s.TypeIs (.ref a) "dict" := by
  rcases g with ⟨kvs,k,e,_,_⟩ | ⟨kvs,k,b,e,_,_,_⟩
  · obtain ⟨_,_,vs,_,dd⟩:=dk_rd I.hok e
    exact dd.typeIs
  · obtain ⟨_,_,xs,_,dd⟩:=dt_rd I.hok e
    exact dd.typeIs


theorem dk_empty {P:Program} (h:Heap) (hb:sysModules<h.objs.size):ObjOk P w H (h.push { cls:=.type "dict",data:=.dict #[] }) h.objs.size (.dK []) :=
  ⟨xaC _,beq_eq_false_iff_ne.mpr (Ne.symm (xaB hb)),[],.nil,Heap.DictOf.new h⟩
def tDNewK:TE:=fun _ H Q=>∀ p,H p=none->Q (.ref p) (upd H p (.dK []))
section
variable {X:Cx} {pos:Pos}
theorem pe_dnewK:PE X (.Dict [] [] pos) tDNewK:=fun pins s σ H Q I h =>
  wpAny_Dict_empty ⟨.ref s.heap.objs.size,_,I.laid (a:=s.heap.objs.size) (o:=.dK []) (t':=s.toks) (fun _ _ q=>xal _ q) (xaj _) (dk_empty s.heap I.big),rfl,h _ (I.hok.fresh (xaj _))⟩
end

structure M1 (X:Cx) (o:Expr) (m:Str) (apos:Pos) (e:Expr) (cpos:Pos):Prop where
  base:attributeBase o m X.env (eval o X.env)=eval o X.env
  few:((backTo cpos (starEach [e] X.env)).all (fun x=>!x.1) && (backToKw cpos (keywordEach [] X.env)).all (fun x=>x.1.isSome)
    && decide (([e]:List Expr).length+([]:List Keyword).length+(if ([]:List Keyword).isEmpty then 0 else 1)<30))=true
  line:(apos.endLine == cpos.line)=true
  trees:backTo cpos (starEach [e] X.env)=[(false,eval e X.env)]
structure M2 (X:Cx) (o:Expr) (m:Str) (apos:Pos) (e f:Expr) (cpos:Pos):Prop where
  base:attributeBase o m X.env (eval o X.env)=eval o X.env
  few:((backTo cpos (starEach [e,f] X.env)).all (fun x=>!x.1) && (backToKw cpos (keywordEach [] X.env)).all (fun x=>x.1.isSome)
    && decide (([e,f]:List Expr).length+([]:List Keyword).length+(if ([]:List Keyword).isEmpty then 0 else 1)<30))=true
  line:(apos.endLine == cpos.line)=true
  trees:backTo cpos (starEach [e,f] X.env)=[(false,eval e X.env),(false,eval f X.env)]





end L2

namespace Att
open PySem PySem.W PySem.Calls PyProof.Rows

theorem ints_of_wellAll {P:Params}:∀ (ns:List Int) (vs:List Value),WellAll P h vs (ns.map WData.int)->IntsAre vs ns:=by
  intro ns
  induction ns with
  | nil =>
    intro vs w
    rw [List.map_nil] at w
    cases w
    exact .nil
  | cons n ns ih =>
    intro vs w
    rw [xaD] at w
    cases w with
    | cons a b =>
      cases a
      exact .cons _ _ (ih _ b)

theorem script_of {l:OpenLaw} {n:Nat} (hn:l.most=some n) {P:Params} {h:Heap} {args:List WData} {vals:List Value}
    (hpre:l.row.toRowW.claim.pre args=true) (hwl:WellAll P h vals args) :
    ∃ a vs ns,vals=[Value.ref a]/\args=[WData.list (ns.map WData.int)]/\h.get? a=some { cls:=.type "list",data:=.seq vs.toArray }/\IntsAre vs ns/\ns.length<=n:=by
  have hsh:WShape.hasAll [] args [.list .int]=true:=(pre_splitW hpre).1
  have hc:l.pre.holds [] { args:=args }=true:=(pre_splitW hpre).2
  obtain ⟨d,r,rfl,h1,h2⟩:=hasAllW_cons hsh
  obtain rfl:=hasAllW_nil h2
  obtain ⟨xs,rfl,h3⟩:=hasW_list h1
  obtain ⟨ns,rfl⟩:=items_int h3
  have hlen:ns.length<=n:=by
    unfold OpenLaw.pre at hc
    have h4:(WTm.not (.lt (.lit (.int (n:Int))) (.len (.arg 0)))).holds [] { args:=[.list (ns.map .int)] }=true:=by
      have h4:=(holds_andW hc).1
      rw [hn] at h4
      exact h4
    have h5:=condW_of h4 (w_not (w_lt w_lit (w_len_list (w_arg rfl))))
    rw [xae] at h5
    refine Nat.le_of_not_lt fun q=>?_
    have q':(n:Int)<((ns.length:Nat):Int):=by lia
    first
      | (rw [decide_eq_true q'] at h5; exact absurd h5 (by decide))
      | (simp at h5; lia)
  cases hwl with
  | cons w1 w2 =>
    cases w2
    cases w1 with
    | list ho hall=>exact ⟨_,_,ns,rfl,rfl,ho,ints_of_wellAll ns _ hall,hlen⟩

theorem post_true (l:OpenLaw) (args:List WData):l.row.toRowW.claim.post args (.bool true) args=true :=
  postW_of (r:=l.row.toRowW) (X:=(true == true))
    (show WShape.has [] (.bool true) .bool=true by first | rfl | decide | simp [WShape.has,WShape.arms,WShape.armsAll])
    (show (WTm.eq .res (.lit (.bool true))).value [] { args:=args,res:=some (.bool true),after:=args }=some (.bool (true == true)) from w_eq_bool (w_res rfl) w_lit) rfl

theorem attach_call {l:OpenLaw} {n:Nat} {q:Program} {loose:List Str} {XP:(Str->Option Value)->Heap->Prop} {YP:World->Heap->Prop} {d:DefRec}
    (hn:l.most=some n) (hdf:d.params.defaults=[])
    (call:∀ (w:World) (s₀ s₁:Shared) (mg mb:Str->Option Value) (fa:Addr) (o:Obj) (pm cd doc:Value) (a:Addr) (vs:List Value) (ns:List Int),
      Ground q loose [] XP w s₀ mg mb s₁.heap->YP w s₁.heap ->
      s₁.heap.get? fa=some o->o.data=.func (docDef d.name d.params d.body d.scope pm cd doc)->s₁.heap.CodeRec cd d.name->mg d.name=some (.ref fa) ->
      s₁.heap.get? a=some { cls:=.type "list",data:=.seq vs.toArray }->IntsAre vs ns->ns.length<=n->s₁.gens = #[] ->
      codeAny (model l.prog w) callerA (.call (.ref fa) ⟨[.ref a],[]⟩) (fun r s'=>r=.ok (.ret (.bool true))/\OldK s₁.heap s'.heap/\s'.os=s₁.os/\AllBare s'.gens) s₁) :
    WalkO q loose XP YP l.row.toRowW d [] (fun f vs=>PySem.call f vs):=by
  intro w s₀ s₁ mg mb G Y fa o pm cd doc dV kV ho hd hcd hD hmg hg args vals as hpre hlay hrd hwl hlo
  obtain rfl:dV=.none:=Dflts.none hD hdf
  obtain rfl:kV=.none:=Dflts.noKw hD
  obtain ⟨a,vs,ns,rfl,rfl,hobj,hints,hlen⟩:=script_of hn hpre hwl
  refine enter_call (codeAny_mono (call w s₀ s₁ mg mb fa o pm cd doc a vs ns G Y ho (fd_plain hd) hcd hmg hobj hints hlen hg) fun r s' hq=>?_)
  obtain ⟨rfl,h2,h3,h4⟩:=hq
  exact ⟨.inl ⟨.bool true,.bool true,[],rfl,fun _=>rfl,.bool true,post_true l _,fun _=>⟨List.Pairwise.nil,fun _ hm=>(nomatch hm)⟩⟩,h2,h3,h4⟩

section
variable {prog:Program} {w:World} {A:Around} {E:Value->Shared->Prop} {s:Shared} {K:Frag}

end
end Att

namespace L2
open PySem PySem.Spec PyProof.Rows

theorem vals_ints:∀ {vs:List Value} {ns:List Int},IntsAre vs ns->Vals (ns.map V.int) vs
  | _,_,.nil=>.nil
  | _,_,.cons n t h=>.cons ⟨t,rfl⟩ (vals_ints h)

def Only (H:Hp):Prop:=∀ b,H b=none\/∃ o xs,H b=some (.frz o (.lst xs))

theorem law_call {P:Program} {K:PySem.W.Frag} 
    (KX:K.In s₁.heap) (hns:s₁.heap.Ns mainGlobals mg) (hb:s₁.heap.Ns builtinsNs mb) (hbb:∀ x:Str,x ≠ "__name__"->mb x=bootBuiltins x) (hlim:s₁.heap.NoLimit) (hg:s₁.gens = #[])
    (ha:s₁.heap.get? a=some { cls:=.type "list",data:=.seq vs.toArray }) (hi:IntsAre vs ns) (hl:ns.length<=sizeLine) (hr:Room k callerA)
    (F:∀ base:Heap,K.In base->base.Ns mainGlobals mg->FnOk P w K mg base CX k fa fd [x] sp) (hbind:∀ (s:Shared) (u:Value),BindsTo s fd ⟨[u],[]⟩ [(x,u)])
    (hsp:∀ H:Hp,Only H->SqL K H a (ns.map V.int)->sp [.ref a] H (fun v _=>v=.bl true) fun _ _ _=>False)
    (hCX:∀ H e s',CX [] H s₁ (fun _ _ _=>False) e s'->False) :
    codeAny (model P w) callerA (.call (.ref fa) ⟨[.ref a],[]⟩) (fun r s'=>r=.ok (.ret (.bool true))/\OldK s₁.heap s'.heap/\s'.os=s₁.os/\AllBare s'.gens) s₁:=by
  have rv:=vals_ints hi
  have lenV:=hi.length
  -- from an abstract heap in which nothing but the script may be tracked
  have core:∀ H:Hp,Only H->SqL K H a (ns.map V.int)->HOk P w H s₁.heap->(∀ b,H b≠none->b=a)->(H a≠none->K.lookup a=none) ->
      codeAny (model P w) callerA (.call (.ref fa) ⟨[.ref a],[]⟩) (fun r s'=>r=.ok (.ret (.bool true))/\OldK s₁.heap s'.heap/\s'.os=s₁.os/\AllBare s'.gens) s₁:=by
    intro H hO hS hok hA hK
    have base_of:∀ {b:Addr} {o:Obj},s₁.heap.get? b=some o->H b=none->(hidT s₁.heap H).get? b=some o:=fun e n=>hidT_get e n
    have noA:∀ {b:Addr} {o:Obj} {es:Array DictEntry} {ep:Nat},s₁.heap.get? b=some o->o.data=.dict es ep->H b=none:=fun {b o es ep} e d=>by
      cases q:H b with
      | none=>rfl
      | some u =>
        have e':b=a:=hA b (by rw [q]; simp)
        subst e'
        rw [ha] at e; cases e
        have d':Data.seq vs.toArray _=Data.dict es ep:=d
        cases d'
    have nsK:∀ {b:Addr} {m:Str->Option Value},s₁.heap.Ns b m->(hidT s₁.heap H).Ns b m:=fun {b m} ⟨o,es,ep,e,d,r⟩=>⟨o,es,ep,base_of e (noA e d),d,r⟩
    have hKb:K.In (hidT s₁.heap H):=fun b o e=>base_of (KX b o e) (by
      cases q:H b with
      | none=>rfl
      | some u =>
        have e':b=a:=hA b (by rw [q]; simp)
        subst e'
        rw [hK (by rw [q]; simp)] at e; cases e)
    have hM:Mod K mg (hidT s₁.heap H):=⟨hKb,nsK hns,⟨mb,nsK hb,hbb⟩,let ⟨mc,h1,h2⟩:=hlim; ⟨mc,nsK h1,h2⟩⟩
    have e0:Env0 P w K mg (hidT s₁.heap H) callerA [] s₁ H:=⟨rfl,hM,fun b o e=>of_hidT e,Nat.le_of_eq (hidT_size _ _),trivial,fun b hb=>absurd (show b∈([]:List Addr) from hb) (by simp),hok,.of_eq hg⟩
    refine codeAny_mono ((F _ hKb (nsK hns)).run callerA [] s₁ H ⟨[.ref a],[]⟩ [.ref a] [.ref a] _ _ hr e0 (hbind s₁ (.ref a)) (.cons rfl .nil) (hsp H hO hS)) fun r s' h=>?_
    cases r with
    | error e=>exact (hCX H e s' h).elim
    | ok fl =>
      cases fl with
      | next=>exact False.elim h
      | brk=>exact False.elim h
      | cont=>exact False.elim h
      | ret u =>
        obtain ⟨v,H',os,bare,un,hok',r',q⟩:=h
        have q':v=.bl true:=q
        subst q'
        obtain rfl:u=Value.bool true:=r'
        refine ⟨rfl,OldK.of_keep fun b o e=>?_,os,bare⟩
        cases q:H b with
        | none=>exact un.keep b o e q (by intro z; exact absurd (show b∈([]:List Addr) from z) (by simp)) (by simp)
        | some u =>
          rcases hO b with z | ⟨ob,xs,z⟩
          · rw [q] at z; cases z
          · have z2:=un.frzs b ob _ z
            obtain ⟨e1,_⟩:=hok b _ z
            obtain ⟨e2,_⟩:=hok' b _ z2
            rw [e] at e1; cases e1
            exact e2
  cases hk:K.lookup a with
  | some o =>
    -- the script is one of the module's own objects
    have e:=KX a o hk
    rw [ha] at e
    cases e
    refine core (fun _=>none) (fun _=>.inl rfl) (.inr ⟨_,vs.toArray,_,hk,rfl,rfl,rfl,by rw [xak,lenV]; exact hl,by simpa using rv⟩) (fun b u z=>by have z':(none:Option HO)=some u:=z; cases z') (fun b z=>absurd rfl z) fun z=>absurd rfl z
  | none =>
    refine core (fun b=>if b=a then some (.frz { cls:=.type "list",data:=.seq vs.toArray } (.lst (ns.map V.int))) else none) (fun b=>?_) (.inl (.inr ⟨{ cls:=.type "list",data:=.seq vs.toArray },if_pos rfl⟩)) (fun b u z=>?_) (fun b z=>?_) fun _=>hk
    · by_cases hb:b=a
      · exact .inr ⟨_,_,if_pos hb⟩
      · exact .inl (if_neg hb)
    · by_cases hb:b=a
      · have z':=(if_pos hb).symm.trans z
        cases z'
        subst hb
        exact ⟨ha,by rw [xae]; exact hl,vs,_,rv,ha⟩
      · have z':=(if_neg hb).symm.trans z
        cases z'
    · by_cases hb:b=a
      · exact hb
      · exact absurd (if_neg hb) z
end L2

namespace L2
open PySem PySem.Spec PyProof.Rows

theorem walk_of {l:PySem.W.OpenLaw} {n k:Nat} {q:Program} {loose:List Str} {XP:(Str->Option Value)->Heap->Prop} {YP:World->Heap->Prop} {d:DefRec} {K:Params->PySem.W.Frag} {CX:World->CXT} {sp:World->Sp} {x:Str}
    (hn:l.most=some n) (hn2:n<=sizeLine) (hdf:d.params.defaults=[]) (hr:Room k callerA)
    (hY:∀ (w:World) (h:Heap),YP w h->(K w.params).In h)
    (F:∀ (w:World) (mg:Str->Option Value) (fa:Addr) (h:Heap),(K w.params).In h->h.Ns mainGlobals mg->mg d.name=some (.ref fa) ->
      ∃ fd:FuncData,(∀ (s:Shared) (u:Value),BindsTo s fd ⟨[u],[]⟩ [(x,u)]) /\
        ∀ base:Heap,(K w.params).In base->base.Ns mainGlobals mg->FnOk l.prog w (K w.params) mg base (CX w) k fa fd [x] (sp w))
    (hsp:∀ (w:World) (H:Hp) (a:Addr) (ns:List Int),ns.length<=n->Only H->SqL (K w.params) H a (ns.map V.int)->sp w [.ref a] H (fun v _=>v=.bl true) fun _ _ _=>False)
    (hCX:∀ (w:World) (H:Hp) (s:Shared) (e:Value) (s':Shared),CX w [] H s (fun _ _ _=>False) e s'->False) :
    PySem.W.WalkO q loose XP YP l.row.toRowW d [] (fun f vs=>PySem.call f vs):=by
  refine Att.attach_call hn hdf fun w s₀ s₁ mg mb fa o pm cd doc a vs ns G Y ho hd hcd hmg hobj hints hlen hg=>?_
  have KX:=hY w _ Y
  obtain ⟨fd,hb,hF⟩:=F w mg fa _ KX G.T.g hmg
  exact law_call KX G.T.g G.T.b G.T.builtins G.T.nolimit hg hobj hints (xat hlen hn2) hr hF hb (fun H hO hS=>hsp w H a ns hlen hO hS) fun H e s'=>hCX w H s₁ e s'
end L2


namespace L2
open PySem PySem.Spec PyProof.Rows

def defArgs (s:Stmt):Arguments:=match s with
  | .FunctionDef _ a _ _ _ _ _ _ _ _=>a
  | _=>{ posonlyargs:=[],args:=[],vararg:=none,kwonlyargs:=[],kw_defaults:=[],kwarg:=none,defaults:=[] }
def defBody (s:Stmt):List Stmt:=match s with
  | .FunctionDef _ _ b _ _ _ _ _ _ _=>b
  | _=>[]
def defScope (s:Stmt):Scope:=match s with
  | .FunctionDef _ _ _ _ _ _ sc _ _ _=>sc
  | _=>{ kind:=.function,names:=[],isGenerator:=false,isCoroutine:=false }

abbrev CX0:CXT:=fun _ _ _ _ _ _=>False
abbrev E0:XK:=fun _ _ _=>False
theorem pass0 {X:Cx}:Passes CX0 X E0:=fun _ _ _ _ _ _ _ h=>h.elim

structure Fun (K:PySem.W.Frag) (x qual:Str) (st:Stmt) (f:Addr) (fd:FuncData):Prop where
  ex:∃ (oc:Value) (od:Option Addr) (kV doc pm:Value) (an:Option Addr) (cdv ct:Value) (osl:Array (Option Value)),
    fd=PySem.W.fnOf x qual (defArgs st) (defBody st) (defScope st) .none kV doc pm an cdv ct/\K.lookup f=some ⟨oc,od,.func fd,osl⟩/\PySem.W.codeIn K cdv qual=true
  kp:PySem.W.keepIn K (.ref f)=true
section
variable {P:Program} {w:World} {K:PySem.W.Frag} {mg:Str->Option Value} {base:Heap}
theorem Fun.ok {st:Stmt} {N ps:List Str} (F:Fun K x qual st f fd) (S:FnScope N ps (defScope st)) (len:∀ vs H Q E,sp vs H Q E->vs.length=ps.length)
    (hbody:∀ (cdv:Value) (A:Around) (outer:List Env) (s:Shared) (H:Hp) (vs:List V) (Q:VK) (E:XK),Room k (A.deeper (envOfC qual (defScope st) s.heap.objs.size f cdv))->sp vs H Q E ->
      ∃ t,PSs (cxOf CX0 P w K mg base N qual (defScope st) f cdv A outer s H E).nox (defBody st) t/\t { nx:=fun _ H'=>Q .non H',rt:=Q } (start N vs) H):FnOk P w K mg base CX0 (k+1) f fd ps sp:=by
  obtain ⟨oc,od,kV,doc,pm,an,cdv,ct,osl,rfl,lk,hcd⟩:=F.ex
  refine fn_of lk hcd S len fun A outer s H vs Q E hr hsp=>?_
  obtain ⟨t,h,q⟩:=hbody cdv A outer s H vs Q E hr hsp
  exact ⟨t,h.nox,q⟩
theorem Fun.binds {st:Stmt} {ps:List Str} (F:Fun K x qual st f fd)
    (h:∀ (kV doc pm:Value) (an:Option Addr) (cdv ct:Value) (us:List Value),us.length=ps.length->bindArgs (PySem.W.fnOf x qual (defArgs st) (defBody st) (defScope st) .none kV doc pm an cdv ct) ⟨us,[]⟩=pure (ps.zip us)):Binds K fd ps []:=by
  obtain ⟨oc,od,kV,doc,pm,an,cdv,ct,osl,rfl,lk,hcd⟩:=F.ex
  exact .all (h kV doc pm an cdv ct)
theorem fun_mk {st:Stmt} {kV doc pm cdv ct:Value} (l:K.lookup f=some ⟨oc,od,.func (PySem.W.fnOf x qual (defArgs st) (defBody st) (defScope st) .none kV doc pm an cdv ct),osl⟩)
    (c:PySem.W.codeIn K cdv qual=true) (k:PySem.W.keepIn K (.ref f)=true):Fun K x qual st f (PySem.W.fnOf x qual (defArgs st) (defBody st) (defScope st) .none kV doc pm an cdv ct):=⟨⟨oc,od,kV,doc,pm,an,cdv,ct,osl,rfl,l,c⟩,k⟩
end
section
variable {X:Cx}
theorem pv (i:Nat) (hN:X.N[i]? = some x:=by rfl) (hv:Vis X.env.scope x:=by first | exact Or.inl rfl | exact Or.inr (Or.inl rfl) | exact Or.inr (Or.inr rfl)) (hd:(x == ("__debug__" : Str))=false:=by decide)
    (hcd:(x == ("__classdict__" : Str))=false:=by decide):PE X (.Name x pos) (tVar i):=pe_var hN hv hd hcd
end

def Same (H H':Hp):Prop:=∀ b o,H b=some o->H' b=some o
theorem Same.refl (H:Hp):Same H H:=fun _ _ h=>h
theorem Same.trans (a:Same H H1) (b:Same H1 H2):Same H H2:=fun c o h=>b c o (a c o h)
theorem Same.free (e:Same H H') (h:H' l=Option.none):H l=Option.none:=by
  cases q:H l with
  | none=>rfl
  | some o =>
    rw [e l o q] at h
    cases h
theorem Same.seq {K:PySem.W.Frag} (e:Same H H') (h:SqL K H a xs):SqL K H' a xs:=by
  rcases h with (h | ⟨o,h⟩) | h
  · exact .inl (.inl (e _ _ h))
  · exact .inl (.inr ⟨o,e _ _ h⟩)
  · exact .inr h

end L2

set_option maxHeartbeats 4000000

namespace L2
open PySem PySem.Spec PyProof.Rows

def clOf (env:Env):List (Str × NameKind)->List (Str × Addr)->List (Str × Addr)
  | [],cs=>cs
  | (n,k) :: r,cs=>clOf env r (if k == NameKind.free then (n,(env.cells.lookup n).getD 0) :: cs else cs)

theorem gF (env:Env):∀ (names:List (Str × NameKind)) (cs:List (Str × Addr)),(∀ y∈names,y.2=.free->∃ c,env.cells.lookup y.1=some c) ->
    (forIn names cs fun x r=>match x with
      | (name,kind)=>if (kind == NameKind.free)=true then do let a <- cellOf env name; pure (ForInStep.yield ((name,a) :: r)) else pure (ForInStep.yield r):Sem (List (Str × Addr)))=pure (clOf env names cs)
  | [],cs,_=>rfl
  | (n,k) :: r,cs,h=>by
    rw [List.forIn_cons]
    have ih:=gF env r
    by_cases hk:k=.free
    · subst hk
      obtain ⟨c,e⟩:=h (n,.free) xac rfl
      have e:env.cells.lookup n=some c:=e
      have e2:cellOf env n=pure c:=by unfold cellOf; rw [e]
      have e3:clOf env ((n,.free) :: r) cs=clOf env r ((n,c) :: cs):=by
        show clOf env r (if (NameKind.free == NameKind.free)=true then (n,(env.cells.lookup n).getD 0) :: cs else cs)=_
        rw [e]; rfl
      rw [e3,<- ih ((n,c) :: cs) fun y hy=>h y (xaa _ hy)]
      simp only [beq_self_eq_true,if_true,e2]
      rfl
    · have hb:(k == NameKind.free)=false:=by simpa using hk
      have e3:clOf env ((n,k) :: r) cs=clOf env r cs:=by
        show clOf env r (if (k == NameKind.free)=true then _ else cs)=_
        rw [hb]; rfl
      rw [e3,<- ih cs fun y hy=>h y (xaa _ hy)]
      simp only [hb,xbe,if_false]
      rfl
theorem lY (h:∀ y∈scope.names,y.2=.free->∃ c,env.cells.lookup y.1=some c):closureFor scope env=pure (clOf env scope.names []):=by
  have:=gF env scope.names [] h
  unfold closureFor
  rw [<- bind_pure (forIn scope.names [] _)] at this
  exact this

theorem mW:∀ {names:List (Str × NameKind)} {cs:List (Str × Addr)},(∀ y∈names,y.2=.free->∃ c,env.cells.lookup y.1=some c)->(∀ y d,cs.lookup y=some d->env.cells.lookup y=some d) ->
    (clOf env names cs).lookup x=some c->env.cells.lookup x=some c
  | [],cs,_,h,e=>h x c e
  | (n,k) :: r,cs,hf,h,e=>by
    refine mW (names:=r) (fun y hy=>hf y (xaa _ hy)) ?_ e
    intro y d hd
    by_cases hk:k=.free
    · subst hk
      obtain ⟨c',e'⟩:=hf (n,.free) xac rfl
      have e':env.cells.lookup n=some c':=e'
      simp only [beq_self_eq_true,if_true,e',Option.getD_some,xaL] at hd
      cases hb:y == n with
      | true=>rw [hb] at hd; have:y=n:=eq_of_beq hb; subst this; rw [e']; exact hd
      | false=>rw [hb] at hd; exact h y d hd
    · have hb:(k == NameKind.free)=false:=by simpa using hk
      simp only [hb,xbe,if_false] at hd
      exact h y d hd
theorem jc:∀ {names:List (Str × NameKind)} {cs:List (Str × Addr)},((x,NameKind.free)∈names\/∃ c,cs.lookup x=some c)->∃ c,(clOf env names cs).lookup x=some c
  | [],cs,h=>by
    rcases h with h | h
    · exact nomatch h
    · exact h
  | (n,k) :: r,cs,h=>by
    refine jc (names:=r) ?_
    rcases h with h | ⟨c,h⟩
    · rcases xaq.mp h with e | h
      · cases e
        refine .inr ⟨(env.cells.lookup x).getD 0,?_⟩
        simp only [beq_self_eq_true,if_true,xaL]
      · exact .inl h
    · refine .inr ?_
      by_cases hk:(k == NameKind.free)=true
      · simp only [hk,if_true,xaL]
        cases hb:x == n with
        | true=>exact ⟨_,rfl⟩
        | false=>exact ⟨c,h⟩
      · simp only [hk,if_false]
        exact ⟨c,h⟩

def eQ (X:Cx) (scope:Scope) (C:Addr) (N:List Str) (fp:List Addr) (s₃:Shared) (H₃:Hp):Cx :=
  { X with N:=N,s₀:=s₃,H₀:=H₃,env:=compEnvC scope (clOf X.env scope.names []) C X.env,outer:=X.stack,stack:=X.stack,ex:=fp,fn:=fun _=>false,pn:=[],xe:=fun _ _=>False }

def PTs (X:Cx) (ifs:List Expr) (t:TT):Prop :=
  ∀ (pins:List (Addr × Obj)) (s:Shared) (σ:St) (H:Hp) (Q:Bool->Hp->Prop),Inv X pins σ H s->t σ H Q ->
    wpAny (model X.prog X.w) X.A (forIn ifs true fun c r=>if r=true then do let ok <- isTrue c X.env (eval c X.env); pure (ForInStep.yield ok) else pure (ForInStep.yield r)) (TP X pins σ Q) X.xe s
def tYes:TT:=fun _ H Q=>Q true H
theorem xT {X:Cx}:PTs X [] tYes:=fun _ _ _ H _ I h=>wpAny_tests_nil ⟨H,I,h⟩
theorem fC {R:Result->Shared->Prop} (I:Nat->Shared->Prop) (E:Value->Shared->Prop)
    (turn:∀ n s,I n s->wpAny (model prog w) A (pyNext it) (fun r s₁=>match r with
      | none=>R (.ok .next) s₁
      | some v=>wpAny (model prog w) A (letOwnedTupleGo target it v) (fun _ s₀=>wpAny (model prog w) A (assign target env v) (fun _ s₂ =>
          wpAny (model prog w) A (forIn ifs true fun c r=>if r=true then do let ok <- isTrue c env (eval c env); pure (ForInStep.yield ok) else pure (ForInStep.yield r)) (fun ok s₃ =>
            if ok=true then wpAny (model prog w) A (eval elt env) (fun x s₄ =>
              wpAny (model prog w) A (call (.builtin "list.append") [acc,x]) (fun _ s₅=>∃ m,m<n/\I m s₅) E s₄) E s₃
            else ∃ m,m<n/\I m s₃) E s₂) E s₀) E s₁) E s)
    (hE:∀ e s',E e s'->notedBy (model prog w) A env (fun e s'=>R (.error e) s') e s')
    (n:Nat) (h:I n s) :
    codeAny (model prog w) A (.compLoop (.ListComp elt [⟨target,iter,ifs,0⟩] scope pos) 0 it acc env) R s:=by
  refine codeAny_loop rfl I (fun n s hI=>?_) n h
  show wpAny _ A ((compTurn (.ListComp elt [⟨target,iter,ifs,0⟩] scope pos) 0 it acc env).onRaise (fun x=>do noteFrame x env; theTreesLotGoes x)) _ _ s
  refine wpAny_noted ?_
  rw [compTurn_list]
  refine xaM (Q:=_) (E:=E) ?_ (fun _ _ q=>q) hE
  refine xab (wpAny_standAt (xab (xaM (turn n s hI) (fun r s₁ h₁=>?_) fun _ _ h'=>h')))
  cases r with
  | none=>exact xag h₁
  | some v =>
    refine xab (xaM h₁ (fun _ s₀ h₀=>?_) fun _ _ h'=>h')
    refine xab (xaM h₀ (fun _ s₂ h₂=>xab (xaM h₂ (fun ok s₃ h₃=>?_) fun _ _ h'=>h')) fun _ _ h'=>h')
    cases ok with
    | false=>exact xag ⟨rfl,h₃⟩
    | true =>
      exact xab (xab (xaM h₃ (fun x s₄ h₄=>xab (xaM h₄ (fun _ s₅ h₅=>xag (xag ⟨rfl,h₅⟩)) fun _ _ h'=>h')) fun _ _ h'=>h'))

def lL (tn:Nat) (ix:List Nat) (σ:St):St:=List.replicate tn none++ix.map fun j=>(σ[j]?).join
def rJ (wi:TI) (g:TG) (tc:TT) (te:TE) (tn:Nat) (ix:List Nat):TE:=fun σ H Q=>wi σ H fun J H1=>∀ D,H1 D=none ->
  ∃ W:Nat->Nat->St->Hp->Prop,(∃ m,W 0 m (lL tn ix σ) (upd H1 D (.lst [])))/\∀ i m τ H,W i m τ H ->
    (J.stop i H/\Q (.ref D) H)\/(J.go i H/\∃ (N1:St->V->Hp->Prop) (N2:St->Hp->Prop),
      (∀ τ2 v H4,N1 τ2 v H4->∃ ys m',H4 D=some (.lst ys)/\ys.length<sizeLine/\m'<m/\W (i+1) m' τ2 (upd H4 D (.lst (ys++[v])))) /\
      (∀ τ2 H3,N2 τ2 H3->∃ m',m'<m/\W (i+1) m' τ2 H3) /\
      ∀ x H',J.yld i H x H'->g x τ H' fun τ2 H2=>tc τ2 H2 fun b H3=>if b=true then te τ2 H3 (N1 τ2) else N2 τ2 H3)

section
variable {X:Cx} {tg iter elt:Expr} {ifs:List Expr} {scope:Scope} {pos:Pos} {wi:TI} {g:TG} {tc:TT} {te:TE} {tn cn:List Str} {ix:List Nat}

structure cQ (X:Cx) (scope:Scope) (tn cn:List Str) (ix:List Nat):Prop where
  kind:scope.kind=.function
  nocell:∀ y∈scope.names,y.2≠.cell
  free:∀ y∈scope.names,y.2=.free->X.env.scope.names.lookup y.1=some .cell\/X.env.scope.names.lookup y.1=some .free
  names:∀ y∈scope.names,y.2=.local->scope.names.lookup y.1=some .local
  len:ix.length=cn.length
  cap:∀ (k j:Nat),ix[k]? = some j->∃ y,cn[k]? = some y/\X.N[j]? = some y/\(X.env.scope.names.lookup y=some .cell\/X.env.scope.names.lookup y=some .free)/\(y,NameKind.free)∈scope.names /\
    ((relabel scope X.env).names.lookup y=some .cell\/(relabel scope X.env).names.lookup y=some .free)
  all:∀ x,(relabel scope X.env).names.lookup x=some .cell\/(relabel scope X.env).names.lookup x=some .free->(x,NameKind.free)∈scope.names

end
end L2


namespace L2
open PySem PySem.Spec PyProof.Rows
def ceOf (scope:Scope) (env:Env) (C:Addr):List (Str × Addr):=cellsFrom (C+1) scope.names (clOf env scope.names [])
theorem uq:∀ (names:List (Str × NameKind)) (n:Nat) (acc:List (Str × Addr)),(∀ y c,acc.lookup y=some c->c<n)->(∀ x y c,acc.lookup x=some c->acc.lookup y=some c->x=y) ->
    ∀ x y c,(cellsFrom n names acc).lookup x=some c->(cellsFrom n names acc).lookup y=some c->x=y
  | [],_,_,_,hi,x,y,c,h1,h2=>hi x y c h1 h2
  | (nm,k) :: r,n,acc,hb,hi,x,y,c,h1,h2=>by
    unfold cellsFrom at h1 h2
    split at h1
    · rename_i hk
      rw [if_pos hk] at h2
      refine uq r (n+1) ((nm,n) :: acc) (fun y c e=>?_) (fun x y c e1 e2=>?_) x y c h1 h2
      · rw [xaL] at e
        cases hq:y == nm with
        | true=>rw [hq] at e; cases e; exact Nat.lt_succ_self _
        | false=>rw [hq] at e; exact Nat.lt_succ_of_lt (hb y c e)
      · rw [xaL] at e1 e2
        cases hq:x == nm with
        | true =>
          rw [hq] at e1; cases e1
          cases hz:y == nm with
          | true=>rw [eq_of_beq hq,eq_of_beq hz]
          | false=>rw [hz] at e2; exact absurd (hb y _ e2) (xa2 _)
        | false =>
          rw [hq] at e1
          cases hz:y == nm with
          | true=>rw [hz] at e2; cases e2; exact absurd (hb x _ e1) (xa2 _)
          | false=>rw [hz] at e2; exact hi x y c e1 e2
    · rename_i hk
      rw [if_neg hk] at h2
      exact uq r n acc hb hi x y c h1 h2
theorem qG:∀ (names:List (Str × NameKind)) (n:Nat) (acc:List (Str × Addr)) (x:Str),(x,NameKind.cell)∉names->(cellsFrom n names acc).lookup x=acc.lookup x
  | [],_,_,_,_=>rfl
  | (nm,k) :: r,n,acc,x,h=>by
    unfold cellsFrom
    have hr:(x,NameKind.cell)∉r:=fun z=>h (xaa _ z)
    split
    · rename_i hk
      rw [qG r _ _ x hr,xaL]
      have:(x == nm)=false:=by
        cases hq:x == nm with
        | false=>rfl
        | true=>exact absurd (by rw [eq_of_beq hq,<- eq_of_beq hk]; exact xac) h
      rw [this]
    · exact qG r n acc x hr
theorem uT:∀ (names:List (Str × NameKind)) (n:Nat) (acc:List (Str × Addr)) (x:Str) (c:Addr),(cellsFrom n names acc).lookup x=some c->n<=c\/acc.lookup x=some c
  | [],_,_,_,_,h=>.inr h
  | (nm,k) :: r,n,acc,x,c,h=>by
    unfold cellsFrom at h
    split at h
    · rcases uT r (n+1) _ x c h with z | z
      · exact .inl (by lia)
      · rw [xaL] at z
        cases hq:x == nm with
        | true=>rw [hq] at z; cases z; exact .inl (xaj _)
        | false=>rw [hq] at z; exact .inr z
    · exact uT r n acc x c h
theorem pP:∀ (names:List (Str × NameKind)) (n:Nat) (acc:List (Str × Addr)) (x:Str),(∃ c,acc.lookup x=some c)->∃ c,(cellsFrom n names acc).lookup x=some c
  | [],_,_,_,h=>h
  | (nm,k) :: r,n,acc,x,⟨c,h⟩=>by
    unfold cellsFrom
    split
    · refine pP r (n+1) _ x ?_
      rw [xaL]
      cases hq:x == nm with
      | true=>exact ⟨_,rfl⟩
      | false=>exact ⟨c,h⟩
    · exact pP r n acc x ⟨c,h⟩
theorem pU:∀ (names:List (Str × NameKind)) (n:Nat) (acc:List (Str × Addr)) (x:Str),(x,NameKind.cell)∈names->∃ c,(cellsFrom n names acc).lookup x=some c/\n<=c
  | [],_,_,_,h=>nomatch h
  | (nm,k) :: r,n,acc,x,h=>by
    unfold cellsFrom
    by_cases hr:(x,NameKind.cell)∈r
    · split
      · obtain ⟨c,e,z⟩:=pU r (n+1) ((nm,n) :: acc) x hr
        exact ⟨c,e,by lia⟩
      · exact pU r n acc x hr
    · rcases xaq.mp h with e | z
      · cases e
        rw [if_pos (by rfl),qG r _ _ _ hr]
        exact ⟨n,by simp [xaL],xaj _⟩
      · exact absurd z hr
theorem jL:∀ (names:List (Str × NameKind)) (h:Heap) (acc:List (Str × Addr)),(∀ x c,acc.lookup x=some c->∃ v,h.IsCell c v)->∀ x c,(cellsFrom h.objs.size names acc).lookup x=some c->∃ v,(pushCells h names).IsCell c v
  | [],_,_,hc,x,c,e=>hc x c e
  | (nm,k) :: r,h,acc,hc,x,c,e=>by
    unfold pushCells
    unfold cellsFrom at e
    split at e
    · rename_i hk
      rw [if_pos hk]
      refine jL r (h.push { cls:=.type "cell",data:=.cell none }) ((nm,h.objs.size) :: acc) (fun y d z=>?_) x c (by rw [xbu]; exact e)
      rw [xaL] at z
      cases hq:y == nm with
      | true=>rw [hq] at z; cases z; exact ⟨none,_,xax _ rfl,rfl⟩
      | false =>
        rw [hq] at z
        obtain ⟨v,o,ho,hd⟩:=hc y d z
        exact ⟨v,o,xal _ ho,hd⟩
    · rename_i hk
      rw [if_neg hk]
      exact jL r h acc hc x c e
theorem di 
    (hc:∀ x c,cl.lookup x=some c->∃ v,s.heap.IsCell c v)
    (hQ:∀ h',h'.Ns s.heap.objs.size (fun _=>none)->(∀ b o,s.heap.get? b=some o->h'.get? b=some o)->(∀ x c,(cellsFrom (s.heap.objs.size+1) scope.names cl).lookup x=some c->∃ v,h'.IsCell c v) ->
      Q (newEnv scope s.heap.objs.size globals (cellsFrom (s.heap.objs.size+1) scope.names cl) qual none .none (some env) builtinsNs) { s with heap:=h' }) :
    wpAny M A (newFunctionEnv scope globals cl [] qual none .none (some env)) Q E s:=by
  simp only [newFunctionEnv,Option.isSome_some,if_true]
  refine xab (wpAny_alloc ?_)
  refine xab (wpAny_layCells _ (fun name kind cells=>by cases hkc:kind == NameKind.cell <;> simp [hkc]) _ _ _ _ ?_)
  rw [show ({ s with heap:=s.heap.push { cls:=.type "dict",data:=.dict #[] } }:Shared).heap.objs.size=s.heap.objs.size+1 from xbu ..]
  refine xab ?_
  rw [List.forIn_nil]
  refine xag (xag (hQ _ ((Heap.Ns.new s.heap (.type "dict")).keeps (pushCells_keeps _ _)) (fun b o e=>pushCells_keeps _ _ b o (xal _ e)) fun x c e=>?_))
  refine jL scope.names (s.heap.push { cls:=.type "dict",data:=.dict #[] }) cl (fun y d z=>?_) x c (by rw [xbu]; exact e)
  obtain ⟨v,o,ho,hd⟩:=hc y d z
  exact ⟨v,o,xal _ ho,hd⟩
def aZ (X:Cx) (scope:Scope) (C:Addr) (N:List Str) (fp:List Addr) (s₃:Shared) (H₃:Hp):Cx :=
  { X with N:=N,s₀:=s₃,H₀:=H₃,env:=compEnvC scope (ceOf scope X.env C) C X.env,outer:=X.stack,stack:=X.stack,ex:=fp,fn:=fun x=>scope.names.lookup x == some .cell,pn:=[],xe:=fun _ _=>False }
section
variable {X:Cx} {tg iter elt:Expr} {ifs:List Expr} {scope:Scope} {pos:Pos} {wi:TI} {g:TG} {tc:TT} {te:TE} {tn cn:List Str} {ix:List Nat}
structure gW (X:Cx) (scope:Scope) (tn cn:List Str) (ix:List Nat):Prop where
  kind:scope.kind=.function
  free:∀ y∈scope.names,y.2=.free->X.env.scope.names.lookup y.1=some .cell\/X.env.scope.names.lookup y.1=some .free
  names:∀ y∈scope.names,y.2=.local->scope.names.lookup y.1=some .local
  len:ix.length=cn.length
  cap:∀ (k j:Nat),ix[k]? = some j->∃ y,cn[k]? = some y/\X.N[j]? = some y/\(X.env.scope.names.lookup y=some .cell\/X.env.scope.names.lookup y=some .free)/\(y,NameKind.free)∈scope.names /\
    ((relabel scope X.env).names.lookup y=some .cell\/(relabel scope X.env).names.lookup y=some .free)/\(y,NameKind.cell)∉scope.names
  all:∀ x,(relabel scope X.env).names.lookup x=some .cell\/(relabel scope X.env).names.lookup x=some .free->(x,NameKind.free)∈scope.names\/(x,NameKind.cell)∈scope.names

theorem qZ (O:gW X scope tn cn ix) (I:Inv X pins σ H s) (hf:∀ b∈fp,FpOk X pins H b) (hfs:∀ b∈fp,b<s.heap.objs.size) (hC:s.heap.objs.size<=C) :
    (aZ X scope C (tn++cn) fp s H).Ok:=by
  have hcl:∀ y∈scope.names,y.2=.free->∃ c,X.env.cells.lookup y.1=some c:=fun y hy hk=>I.ok.has y.1 (O.free y hy hk)
  have sub:∀ x c,(clOf X.env scope.names []).lookup x=some c->X.env.cells.lookup x=some c:=fun x c e=>mW hcl (fun y d h=>by simp at h) e
  have clt:∀ x c,(clOf X.env scope.names []).lookup x=some c->c<C+1:=fun x c e=>by
    obtain ⟨v,hv⟩:=I.cell x c (sub x c e)
    exact Nat.lt_succ_of_lt (xan hv.lt hC)
  refine ⟨I.ok.mod,O.kind,I.ok.glob,I.ok.blt,hC,uq _ _ _ clt fun x y c h1 h2=>I.ok.inj x y c (sub x c h1) (sub y c h2),fun x hx=>?_,fun x c h e=>?_,I.ok.hd,I.ok.frames,.inl rfl,fun b hb=>⟨?_,fun x c e=>?_⟩,
    I.bs,xat I.ok.bsz I.sz,fun b o e hb=>?_,fun b hb=>?_,I.stack,I.stkFree⟩
  · rcases O.all x hx with z | z
    · exact pP _ _ _ _ (jc (.inl z))
    · obtain ⟨c,e,_⟩:=pU scope.names (C+1) (clOf X.env scope.names []) x z
      exact ⟨c,e⟩
  · have h:scope.names.lookup x=some .cell:=eq_of_beq h
    obtain ⟨c',e',z⟩:=pU scope.names (C+1) (clOf X.env scope.names []) x (PySem.mem_of_lookup h)
    have e:(ceOf scope X.env C).lookup x=some c:=e
    unfold ceOf at e
    rw [e'] at e
    cases e
    exact xat hC (xbi z)
  · exact xaB (xan (hfs b hb) hC)
  · rcases uT _ _ _ _ _ e with z | z
    · exact Nat.ne_of_gt (xan (hfs b hb) (xat hC (xbi z)))
    · exact (hf b hb).2.2.2.2.1 x c (sub x c z)
  · rcases (hf b hb).2.2.2.1 with z | z
    · exact I.ok.noex b o e z
    · exact absurd (xan (xao e) (xat I.ok.bsz z)) (xa2 _)
  · intro hz
    rcases xaq.mp (I.stkSub b hz) with e | e
    · exact (hf b hb).2.1 e
    · exact (hf b hb).2.2.1 e

theorem nR {P:Value->Shared->Prop} (hc:X.calm=true) (hi:PI X tg iter wi) (O:gW X scope tn cn ix)
    (hg:∀ C fp s₃ H₃,PG (aZ X scope C (tn++cn) fp s₃ H₃) tg g) (hcs:∀ C fp s₃ H₃,PTs (aZ X scope C (tn++cn) fp s₃ H₃) ifs tc) (he:∀ C fp s₃ H₃,PE (aZ X scope C (tn++cn) fp s₃ H₃) elt te)
    (hs:∀ x,foldedSetIterable iter X.env x=pure x) (I:Inv X pins σ H s) (h:rJ wi g tc te tn.length ix σ H Q)
    (fin:∀ (C D:Addr) (m:Str->Option Value) (H5:Hp) (s6:Shared) (r:Flow),Inv X pins σ H5 s6->s6.heap.Ns C m->H5 C=none->FpOk X pins H5 C->Q (.ref D) H5->compPost (model X.prog X.w) X.A X.xe use P (.ref D) C (.ok r) s6) :
    wpAny (model X.prog X.w) X.A (comprehension (.ListComp elt [⟨tg,iter,ifs,0⟩] scope pos) scope X.env pos1 (newList []) false (eval iter X.env) use) P X.xe s:=by
  have hcl:∀ y∈scope.names,y.2=.free->∃ c,X.env.cells.lookup y.1=some c:=fun y hy hk=>I.ok.has y.1 (O.free y hy hk)
  have sub:∀ x c,(clOf X.env scope.names []).lookup x=some c->X.env.cells.lookup x=some c:=fun x c e=>mW hcl (fun y d h=>by simp at h) e
  refine wpAny_comprehension_free (use:=use) rfl hs (lY hcl) O.kind O.names (thn (hi pins s σ H _ I h) fun v s1 h1=>thn h1 fun itv s2 h2=>?_)
  obtain ⟨it,fp,tnn,J,H2,e,I2,T,st2,f2,h2⟩:=h2
  subst e
  obtain ⟨W,⟨m0,w0⟩,turn⟩:=h2 s2.heap.objs.size (I2.hok.fresh (xaj _))
  refine wpAny_newObj_type ?_
  have I3:Inv X pins σ (upd H2 s2.heap.objs.size (.lst [])) { s2 with heap:=s2.heap.push { cls:=.type "list",data:=.seq ([]:List Value).toArray } }:=I2.lnew (its:=[]) (t':=s2.toks) .nil (xaC _)
  generalize hD:s2.heap.objs.size=D at *
  generalize hs3:({ s2 with heap:=s2.heap.push { cls:=.type "list",data:=.seq ([]:List Value).toArray } }:Shared)=s3 at *
  have k23:∀ b o,s2.heap.get? b=some o->s3.heap.get? b=some o:=fun b o e=>by rw [<- hs3]; exact xal _ e
  have sz3:s3.heap.objs.size=D+1:=by rw [<- hs3,<- hD]; exact xbu ..
  have f3:∀ b∈fp,FpOk X pins (upd H2 D (.lst [])) b:=fun b hb=>by
    obtain ⟨f0,fr⟩:=f2 b hb
    obtain ⟨o,ho,_⟩:=T.obj _ _ st2 b hb
    refine ⟨?_,fr⟩
    rw [upd_ne (xaB (by rw [<- hD]; exact xao ho))]
    exact f0
  have st3:tnn 0 s3.heap:=T.keep _ _ _ st2 fun b hb o e=>k23 b o e
  have lt3:∀ b∈fp,b<s3.heap.objs.size:=fun b hb=>by
    obtain ⟨o,ho,_⟩:=T.obj _ _ st3 b hb
    exact xao ho
  refine di (fun x c e=>I3.cell x c (sub x c e)) (fun h₁ hns₁ k34 hce=>?_)
  -- the block's context
  have ok':=qZ (C:=s3.heap.objs.size) O I3 f3 lt3 (xaj _)
  have I4:Inv (aZ X scope s3.heap.objs.size (tn++cn) fp s3 (upd H2 D (.lst []))) [] (lL tn.length ix σ) (upd H2 D (.lst [])) { s3 with heap:=h₁ }:=by
    refine ⟨ok',rfl,I3.bare,Un.kept k34,⟨_,hns₁,fun i x v e1 e2 e3=>?_⟩,fun x c e=>?_,I3.hok.fresh (xaj _),fun x c e=>(uT _ _ _ _ _ e).elim (fun z=>I3.hok.fresh (xbi z)) fun z=>I3.freeC x c (sub x c z),fun p hp=>absurd hp (by simp [aZ]),I3.hok.kept k34,?_⟩
    · have hi':tn.length<=i:=by
        by_cases q:i<tn.length
        · unfold lL at e2
          rw [xa3 (by simpa using q),xbg] at e2
          simp [q] at e2
        · lia
      unfold lL at e2
      rw [xaR (by simpa using hi'),xbl,xaV] at e2
      have e1:(tn++cn)[i]? = some x:=e1
      rw [xaR hi'] at e1
      cases q:ix[i - tn.length]? with
      | none=>rw [q] at e2; cases e2
      | some j =>
        rw [q] at e2
        obtain ⟨y,c1,c2,c3,c4,c5,c6⟩:=O.cap _ _ q
        rw [c1] at e1; cases e1
        have e2:σ[j]?.join=some v:=Option.some.inj e2
        have ej:σ[j]? = some (some v):=by
          cases z:σ[j]? with
          | none=>rw [z] at e2; cases e2
          | some o=>rw [z] at e2; exact congrArg some e2
        obtain ⟨m,hn,hl⟩:=I3.loc
        obtain ⟨u,r,l⟩:=hl j x v c2 ej (c3.elim (fun z=>.inr (.inl z)) fun z=>.inr (.inr z))
        refine ⟨u,r,.inr ⟨c5,?_⟩⟩
        rcases l with ⟨hk,_⟩ | ⟨hk,c,hcc,hce⟩
        · have hk:X.env.scope.names.lookup x=some .local:=hk
          rcases c3 with z | z
          · rw [z] at hk; cases hk
          · rw [z] at hk; cases hk
        · obtain ⟨c',hc'⟩:=jc (env:=X.env) (cs:=[]) (Or.inl c4)
          have:=sub x c' hc'
          rw [hcc] at this; cases this
          obtain ⟨o,ho,hd⟩:=hce
          exact ⟨c,(qG _ _ _ _ c6).trans hc',o,k34 _ _ ho,hd⟩
    · exact hce x c e
    · show (lL tn.length ix σ).length=(tn++cn).length
      unfold lL
      simp [O.len]
  -- from the block back to the body
  have back:∀ {τ:St} {H':Hp} {s':Shared},Inv (aZ X scope s3.heap.objs.size (tn++cn) fp s3 (upd H2 D (.lst []))) [] τ H' s'->Inv X pins σ H' s':=fun {τ H' s'} I' =>
    Inv.call' (ch:=fp) I3 I'.os I'.base I'.hok I'.bare fun b hb=>by
      obtain ⟨_,f1,_,f3',f4,f5⟩:=f3 b hb
      exact ⟨f3',f1,f4,f5⟩
  have fpC:∀ {H':Hp},(∀ b∈fp,H' b=none)->∀ b∈fp,FpOk (aZ X scope s3.heap.objs.size (tn++cn) fp s3 (upd H2 D (.lst []))) [] H' b:=fun hn b hb =>
    ⟨hn b hb,(ok'.exf b hb).1,ok'.exfs b hb,.inl hb,(ok'.exf b hb).2,fun p hp=>absurd hp (by simp [aZ])⟩
  have loop:∀ s4:Shared,Inv (aZ X scope s3.heap.objs.size (tn++cn) fp s3 (upd H2 D (.lst []))) [] (lL tn.length ix σ) (upd H2 D (.lst [])) s4->tnn 0 s4.heap ->
      codeAny (model X.prog X.w) X.A (.compLoop (.ListComp elt [⟨tg,iter,ifs,0⟩] scope pos) 0 (.ref it) (.ref D) (compEnvC scope (ceOf scope X.env s3.heap.objs.size) s3.heap.objs.size X.env))
        (compPost (model X.prog X.w) X.A X.xe use P (.ref D) s3.heap.objs.size) s4:=by
    intro s4 I4 st4
    refine fC (fun n s'=>∃ i τ H',Inv (aZ X scope s3.heap.objs.size (tn++cn) fp s3 (upd H2 D (.lst []))) [] τ H' s'/\tnn i s'.heap/\(∀ b∈fp,H' b=none)/\W i n τ H') (fun _ _=>False) ?_ (fun _ _ z=>z.elim) m0
      ⟨0,_,_,I4,st4,fun b hb=>(f3 b hb).1,w0⟩
    rintro n s5 ⟨i,τ,H5,I5,st5,fr5,w5⟩
    rcases turn i n τ H5 w5 with ⟨stop,qn⟩ | ⟨go,N1,N2,hN1,hN2,step⟩
    · refine thn (T.done (aZ X scope s3.heap.objs.size (tn++cn) fp s3 (upd H2 D (.lst []))) rfl rfl rfl hc i [] s5 τ H5 (fun _ _=>False) I5 (fpC fr5) st5 stop) fun r s6 hx9=>?_
      obtain ⟨hr,I6⟩:=hx9
      subst hr
      have J6:=back I6
      obtain ⟨m,hn,_⟩:=I6.loc
      exact fin _ D m H5 s6 _ J6 hn I6.free (I3.fpOk (b:=s3.heap.objs.size) (H':=H5) (xaj _) I6.free) qn
    · refine thn (T.item (aZ X scope s3.heap.objs.size (tn++cn) fp s3 (upd H2 D (.lst []))) rfl rfl rfl hc i [] s5 τ H5 (fun _ _=>False) I5 (fpC fr5) st5 go) fun r s6 hx9=>?_
      obtain ⟨u,hr,h6⟩:=hx9
      subst hr
      refine thn h6 fun _ s7 hx9=>?_
      obtain ⟨x,H7,I7,r7,y7,st7,fr7⟩:=hx9
      have I7':=I7.pinned (fpC fr7) (T.obj _ _ st7)
      refine thn (hg _ _ _ _ _ s7 τ H7 x u _ I7' r7 (step x H7 y7)) fun _ s8 hx9=>?_
      obtain ⟨τ8,H8,I8,q8⟩:=hx9
      refine thn (hcs _ _ _ _ _ s8 τ8 H8 _ I8 q8) fun ok s9 hx9=>?_
      obtain ⟨H9,I9,q9⟩:=hx9
      have again:∀ {s':Shared} {H':Hp} {m':Nat},Inv (aZ X scope s3.heap.objs.size (tn++cn) fp s3 (upd H2 D (.lst []))) ([]++pinsAt fp s7.heap) τ8 H' s'->m'<n->W (i+1) m' τ8 H' ->
          ∃ m,m<n/\∃ i τ H',Inv (aZ X scope s3.heap.objs.size (tn++cn) fp s3 (upd H2 D (.lst []))) [] τ H' s'/\tnn i s'.heap/\(∀ b∈fp,H' b=none)/\W i m τ H':=fun {s' H' m'} J hm w'=>by
        refine ⟨m',hm,i+1,τ8,H',J.unpinned,T.keep _ _ _ st7 fun b hb o e=>(J.pin (b,o) (xad _ (xad _ (mem_pinsAt hb e)))).1,fun b hb=>?_,w'⟩
        obtain ⟨o,e,d⟩:=T.obj _ _ st7 b hb
        exact (J.pin (b,o) (xad _ (xad _ (mem_pinsAt hb e)))).2.1
      cases ok with
      | false =>
        rw [if_neg xap] at q9 ⊢
        obtain ⟨m',hm,w'⟩:=hN2 _ _ q9
        exact again I9 hm w'
      | true =>
        rw [if_pos rfl] at q9 ⊢
        refine thn (he _ _ _ _ _ s9 τ8 H9 _ I9 q9) fun x9 s10 hx5=>L2.ex2 hx5 fun v10 H10 I10 r10 q10=>?_
        obtain ⟨ys,m',hH,hz,hm,w'⟩:=hN1 _ _ _ q10
        refine thn (mt_append _ s10 τ8 H10 (.ref D) [v10] (.ref D) [x9] (fun _ H'=>H'=upd H10 D (.lst (ys++[v10]))) I10 rfl (.cons r10 .nil) ⟨D,ys,v10,rfl,rfl,hH,hz,rfl⟩) fun _ s11 hx5=>L2.ex2 hx5 fun _ H11 I11 _ q11=>?_
        subst q11
        exact again I11 hm w'
  exact codeAny_compStart_list (loop _ I4 (T.keep _ _ _ st3 fun b hb o e=>k34 b o e)) (T.self _ 0 _ _ _ (T.keep _ _ _ st3 fun b hb o e=>k34 b o e) (loop _ I4 (T.keep _ _ _ st3 fun b hb o e=>k34 b o e)))
theorem vd (hc:X.calm=true) (hi:PI X tg iter wi) (O:gW X scope tn cn ix)
    (hg:∀ C fp s₃ H₃,PG (aZ X scope C (tn++cn) fp s₃ H₃) tg g) (hcs:∀ C fp s₃ H₃,PTs (aZ X scope C (tn++cn) fp s₃ H₃) ifs tc) (he:∀ C fp s₃ H₃,PE (aZ X scope C (tn++cn) fp s₃ H₃) elt te)
    (hs:∀ x,foldedSetIterable iter X.env x=pure x:=by intro _; rfl):PE X (.ListComp elt [⟨tg,iter,ifs,0⟩] scope pos) (rJ wi g tc te tn.length ix):=by
  intro pins s σ H Q I h
  rw [eval_ListComp]
  refine nR (use:=none) (P:=EP X pins σ Q) hc hi O hg hcs he hs I h fun C D m H5 s6 r J6 hn hf ⟨_,g1,_,g3,g4,g5⟩ qn=>⟨m,hn,fun h' hsb=>⟨.ref D,H5,?_,rfl,qn⟩⟩
  exact J6.turned (t':=s6.toks) (fun b o hb e=>hsb.extBut b o hb e) hf g1 g3 g4 g5
end
end L2

namespace L2
open PySem PySem.Spec PyProof.Rows
section
variable {X:Cx} {tg iter elt:Expr} {ifs:List Expr} {scope:Scope} {pos:Pos} {wi:TI} {g:TG} {tc:TT} {te:TE} {tn cn:List Str} {ix:List Nat}
theorem tV:∀ (names:List (Str × NameKind)) (n:Nat) (acc:List (Str × Addr)),(∀ y∈names,y.2≠.cell)->cellsFrom n names acc=acc
  | [],_,_,_=>rfl
  | (nm,k) :: r,n,acc,h=>by
    unfold cellsFrom
    rw [if_neg fun z=>h (nm,k) xac (eq_of_beq z)]
    exact tV r n acc fun y hy=>h y (xaa _ hy)
theorem jZ (O:cQ X scope tn cn ix) (C:Addr) (N:List Str) (fp:List Addr) (s:Shared) (H:Hp):aZ X scope C N fp s H=eQ X scope C N fp s H:=by
  unfold aZ eQ ceOf
  rw [tV _ _ _ O.nocell]
  have:(fun x=>scope.names.lookup x == some NameKind.cell)=fun _=>false:=by
    funext x
    cases e:scope.names.lookup x with
    | none=>rfl
    | some k =>
      have:=O.nocell _ (PySem.mem_of_lookup e)
      cases k <;> simp_all
  rw [this]
theorem qm (O:cQ X scope tn cn ix):gW X scope tn cn ix :=
  ⟨O.kind,O.free,O.names,O.len,fun k j h=>by
    obtain ⟨y,a,b,c,d,e⟩:=O.cap k j h
    exact ⟨y,a,b,c,d,e,fun z=>O.nocell _ z rfl⟩,fun x h=>.inl (O.all x h)⟩
theorem Aw {pos1:Pos} {use:Option (Value->Sem Unit)} {P:Value->Shared->Prop} (hc:X.calm=true) (hi:PI X tg iter wi) (O:cQ X scope tn cn ix)
    (hg:∀ C fp s₃ H₃,PG (eQ X scope C (tn++cn) fp s₃ H₃) tg g) (hcs:∀ C fp s₃ H₃,PTs (eQ X scope C (tn++cn) fp s₃ H₃) ifs tc) (he:∀ C fp s₃ H₃,PE (eQ X scope C (tn++cn) fp s₃ H₃) elt te)
    (hs:∀ x,foldedSetIterable iter X.env x=pure x) {pins:List (Addr × Obj)} {s:Shared} {σ:St} {H:Hp} {Q:V->Hp->Prop} (I:Inv X pins σ H s) (h:rJ wi g tc te tn.length ix σ H Q)
    (fin:∀ (C D:Addr) (m:Str->Option Value) (H5:Hp) (s6:Shared) (r:Flow),Inv X pins σ H5 s6->s6.heap.Ns C m->H5 C=none->FpOk X pins H5 C->Q (.ref D) H5->compPost (model X.prog X.w) X.A X.xe use P (.ref D) C (.ok r) s6) :
    wpAny (model X.prog X.w) X.A (comprehension (.ListComp elt [⟨tg,iter,ifs,0⟩] scope pos) scope X.env pos1 (newList []) false (eval iter X.env) use) P X.xe s :=
  nR hc hi (qm O) (fun C fp s₃ H₃=>by rw [jZ O]; exact hg C fp s₃ H₃) (fun C fp s₃ H₃=>by rw [jZ O]; exact hcs C fp s₃ H₃) (fun C fp s₃ H₃=>by rw [jZ O]; exact he C fp s₃ H₃) hs I h fin
theorem yg (hc:X.calm=true) (hi:PI X tg iter wi) (O:cQ X scope tn cn ix)
    (hg:∀ C fp s₃ H₃,PG (eQ X scope C (tn++cn) fp s₃ H₃) tg g) (hcs:∀ C fp s₃ H₃,PTs (eQ X scope C (tn++cn) fp s₃ H₃) ifs tc) (he:∀ C fp s₃ H₃,PE (eQ X scope C (tn++cn) fp s₃ H₃) elt te)
    (hs:∀ x,foldedSetIterable iter X.env x=pure x:=by intro _; rfl):PE X (.ListComp elt [⟨tg,iter,ifs,0⟩] scope pos) (rJ wi g tc te tn.length ix) :=
  vd hc hi (qm O) (fun C fp s₃ H₃=>by rw [jZ O]; exact hg C fp s₃ H₃) (fun C fp s₃ H₃=>by rw [jZ O]; exact hcs C fp s₃ H₃) (fun C fp s₃ H₃=>by rw [jZ O]; exact he C fp s₃ H₃) hs
end
end L2


namespace L2
open PySem PySem.Spec PyProof.Rows
end L2


namespace L2
open PySem PySem.Spec PyProof.Rows

def isiT (a b:String):Bool:=a == b || (a == "bool" && b == "int")
def okTy (b:String):Bool:=["str", "int", "bool", "list", "tuple", "dict"].contains b
theorem iy (K:PySem.W.Frag) (a b:String) (ha:a∈["NoneType", "bool", "int", "str", "list", "tuple", "dict"]) (hb:b∈["str", "int", "bool", "list", "tuple", "dict"]):PySem.W.kitOne K (.type a) (.type b)=some (isiT a b):=by
  simp only [xaq,xbA,or_false] at ha hb
  rcases ha with rfl | rfl | rfl | rfl | rfl | rfl | rfl <;> rcases hb with rfl | rfl | rfl | rfl | rfl | rfl <;> kernel_rfl
section
variable {X:Cx}
theorem OpR.imp (h:OpR X f r) (hi:∀ x y H Q,r' x y H Q->r x y H Q):OpR X f r' :=
  fun pins s σ H x y v u Q I rx ry q=>h pins s σ H x y v u Q I rx ry (hi x y H Q q)
def Dd (K:PySem.W.Frag):R2:=fun x y H Q=>∃ l b xs zs,x=.ref l/\y=.ref b/\SqL K H l xs/\SqL K H b zs/\xs.length+zs.length<=sizeLine/\∀ p,H p=none->Q (.ref p) (upd H p (.lst (xs++zs)))
theorem xY:OpR X (binaryOp .Add) (Dd X.K):=by
  intro pins s σ H x y v u Q I rx ry h
  obtain ⟨l,b,xs,zs,rfl,rfl,hH,hB,hz,q⟩:=h
  cases rx
  cases ry
  obtain ⟨its,r,pl,z⟩:=I.list hH
  obtain ⟨its2,r2,pl2,z2⟩:=I.list hB
  have hl:=r.length
  have hl2:=r2.length
  obtain ⟨⟨cls,dd,data,sl⟩,ho,hc,n,hd⟩:=id pl.isList
  obtain ⟨⟨cls2,dd2,data2,sl2⟩,ho2,hc2,n2,hd2⟩:=id pl2.isList
  simp only at hc hd hc2 hd2
  subst hc hd hc2 hd2
  have ea:its.toArray++its2.toArray=(its++its2).toArray:=by simp
  refine concat_meets ⟨_,ho,rfl⟩ ⟨_,ho2,rfl⟩ noFill_list_add seq_list_add PySem.F.slot_list_add PySem.F.entry_list_add (PySem.F.args_list_add_2 _ _) (list_addW l b its.toArray its2.toArray n n2 dd dd2 sl sl2 (by simp only [xak]; lia)) ⟨ho,ho2,?_⟩
  rw [ea]
  exact ⟨.ref _,_,I.lnew (t':=s.toks) (r.append r2) (by rw [xaz]; lia),rfl,q _ I.fresh⟩
def vm (K:PySem.W.Frag):R2:=fun x y H Q=>match x,y with
  | .int i,.int j=>Q (.int (i+j)) H
  | .str i,.str j=>i.length+j.length<=sizeLine/\Q (.str (i++j)) H
  | .ref a,.ref b=>∃ xs zs,SqL K H a xs/\SqL K H b zs/\xs.length+zs.length<=sizeLine/\∀ p,H p=none->Q (.ref p) (upd H p (.lst (xs++zs)))
  | _,_=>False
theorem pQ:OpR X (binaryOp .Add) (vm X.K):=by
  refine (op_add.or (op_add_str.or xY)).imp fun x y H Q h=>?_
  unfold vm at h
  split at h
  · exact .inl ⟨_,_,rfl,rfl,h⟩
  · exact .inr (.inl ⟨_,_,rfl,rfl,h.1,h.2⟩)
  · obtain ⟨xs,zs,h1,h2,h3,h4⟩:=h
    exact .inr (.inr ⟨_,_,xs,zs,rfl,rfl,h1,h2,h3,h4⟩)
  · exact h.elim
def zf:R2:=fun x y H Q=>match x,y with
  | .int i,.int j=>Q (.int (i - j)) H
  | _,_=>False
theorem yo:OpR X (binaryOp .Sub) zf:=op_sub.imp fun x y H Q h=>by
  unfold zf at h
  split at h
  · exact ⟨_,_,rfl,rfl,h⟩
  · exact h.elim
def xm:R2:=fun x y H Q=>match x,y with
  | .int i,.int j=>CMul i j/\Q (.int (i * j)) H
  | _,_=>False
theorem xU:OpR X (binaryOp .Mult) xm:=op_mul.imp fun x y H Q h=>by
  unfold xm at h
  split at h
  · exact ⟨_,_,rfl,rfl,h.1,h.2⟩
  · exact h.elim
def zb:R2:=fun x y H Q=>match x,y with
  | .int i,.int j=>(0<j/\j<1073741824)/\Q (.int (i / j)) H
  | _,_=>False
theorem wY:OpR X (binaryOp .FloorDiv) zb:=op_fdiv.imp fun x y H Q h=>by
  unfold zb at h
  split at h
  · exact ⟨_,_,rfl,rfl,h.1,h.2⟩
  · exact h.elim
def yU:R2:=fun x y H Q=>match x,y with
  | .int i,.int j=>0<j/\Q (.int (i % j)) H
  | _,_=>False
theorem xJ:OpR X (binaryOp .Mod) yU:=op_mod.imp fun x y H Q h=>by
  unfold yU at h
  split at h
  · exact ⟨_,_,rfl,rfl,h.1,h.2⟩
  · exact h.elim
def zg:R2:=fun x y H Q=>match x,y with
  | .int i,.int j=>CPow i j/\Q (.int (i ^ j.toNat)) H
  | _,_=>False
theorem yX:OpR X (binaryOp .Pow) zg:=op_pow.imp fun x y H Q h=>by
  unfold zg at h
  split at h
  · exact ⟨_,_,rfl,rfl,h.1,h.2⟩
  · exact h.elim
def ltS (x y:Str):Bool:=decide (x.cps.toList<y.cps.toList)
def rLtU:R2:=fun x y H Q=>match x,y with
  | .int i,.int j=>Q (.bl (decide (i<j))) H
  | .str i,.str j=>Q (.bl (ltS i j)) H
  | _,_=>False
theorem sE:OpR X (compareOp .Lt) rLtU:=(op_lt.or op_lt_str).imp fun x y H Q h=>by
  unfold rLtU at h
  split at h
  · exact .inl ⟨_,_,rfl,rfl,h⟩
  · exact .inr ⟨_,_,rfl,rfl,h⟩
  · exact h.elim
theorem tL:OpR X (compareOp .LtE) (fun x y H Q=>∃ i j,x=.str i/\y=.str j/\Q (.bl (!ltS j i)) H):=by
  intro pins s σ H x y v u Q I rx ry h
  obtain ⟨i,j,rfl,rfl,q⟩:=h
  obtain ⟨t,rfl⟩:=rx
  obtain ⟨t',rfl⟩:=ry
  exact PySem.P.le_str ⟨.bl _,H,I,rfl,q⟩
def rLeU:R2:=fun x y H Q=>match x,y with
  | .int i,.int j=>Q (.bl (decide (i<=j))) H
  | .str i,.str j=>Q (.bl (!ltS j i)) H
  | _,_=>False
theorem oO:OpR X (compareOp .LtE) rLeU:=(op_le.or tL).imp fun x y H Q h=>by
  unfold rLeU at h
  split at h
  · exact .inl ⟨_,_,rfl,rfl,h⟩
  · exact .inr ⟨_,_,rfl,rfl,h⟩
  · exact h.elim
def rGtU:R2:=fun x y H Q=>match x,y with
  | .int i,.int j=>Q (.bl (decide (j<i))) H
  | _,_=>False
theorem Am:OpR X (compareOp .Gt) rGtU:=op_gt.imp fun x y H Q h=>by
  unfold rGtU at h
  split at h
  · exact ⟨_,_,rfl,rfl,h⟩
  · exact h.elim
theorem Inv.rd (I:Inv X pins σ H s) (e:Rd H a u):ObjOk X.prog X.w H s.heap a u:=e.elim (I.hok a _) fun ⟨o,e⟩=>(show ObjOk X.prog X.w H s.heap a (.frz o u) from I.hok a _ e).2
def rLen (K:PySem.W.Frag):List V->Hp->VK->Prop:=fun xs H Q=>match xs with
  | [.str y]=>y.length<=sizeLine/\Q (.int y.length) H
  | [.ref p]=>(∃ ys,SqL K H p ys/\Q (.int ys.length) H)\/(∃ ys,SqT K H p ys/\Q (.int ys.length) H)\/∃ kvs,Rd H p (.dK kvs)/\Q (.int kvs.length) H
  | _=>False
theorem tU:CallR X (.builtin "len") (rLen X.K):=by
  intro pins s σ H xs us Q I r h
  unfold rLen at h
  split at h
  · exact call_len pins s σ H _ us Q I r ⟨_,_,rfl,⟨h.1,rfl⟩,h.2⟩
  · rcases h with ⟨ys,h1,h2⟩ | ⟨ys,h1,h2⟩ | ⟨kvs,h1,h2⟩
    · exact call_len pins s σ H _ us Q I r ⟨_,_,rfl,.inl ⟨ys,h1,rfl⟩,h2⟩
    · exact call_len pins s σ H _ us Q I r ⟨_,_,rfl,.inr ⟨ys,h1,rfl⟩,h2⟩
    · obtain ⟨u,rfl,ru⟩:=vals1 r
      cases ru
      exact d_len I h1 fun t s' I'=>⟨.int kvs.length,H,I',⟨t,rfl⟩,h2⟩
  · exact h.elim

def rIxU (K:PySem.W.Frag):R2:=fun x y H Q=>match x,y with
  | .ref p,.int i=>(∃ xs v,SqL K H p xs/\atI xs i=some v/\Q v H)\/∃ xs v,SqT K H p xs/\atI xs i=some v/\Q v H
  | .str z,.int i=>z.length<=sizeLine/\∃ c,atI z.cps.toList i=some c/\Q (.str ⟨#[c]⟩) H
  | _,_=>False
theorem wR:IxR X (rIxU X.K):=by
  intro value slice pins s σ H x y v u Q I rx ry h hs
  refine ix_seq value slice pins s σ H x y v u Q I rx ry ?_ hs
  unfold rIxU at h
  split at h
  · rcases h with ⟨xs,w,h1,h2,h3⟩ | ⟨xs,w,h1,h2,h3⟩
    · exact .inl ⟨_,xs,_,w,rfl,rfl,h1,h2,h3⟩
    · exact .inr (.inl ⟨_,xs,_,w,rfl,rfl,h1,h2,h3⟩)
  · obtain ⟨h1,c,h2,h3⟩:=h
    exact .inr (.inr ⟨_,_,c,rfl,rfl,h1,h2,h3⟩)
  · exact h.elim

def cutS (z:Str) (lo hi:Option Int):Str:=⟨((z.cps.toList.drop (HT.sIx z.length 0 lo)).take (HT.sIx z.length z.length hi - HT.sIx z.length 0 lo)).toArray⟩
end
end L2

namespace L2
open PySem PySem.Spec PyProof.Rows
theorem uP (l:List Nat) (lo hi:Option Int) (h:((l.drop (HT.sIx l.length 0 lo)).take (HT.sIx l.length l.length hi - HT.sIx l.length 0 lo)).length=l.length) :
    (l.drop (HT.sIx l.length 0 lo)).take (HT.sIx l.length l.length hi - HT.sIx l.length 0 lo)=l:=by
  generalize HT.sIx l.length 0 lo=a at *
  generalize HT.sIx l.length l.length hi=b at *
  by_cases hl:l.length=0
  · have:l=[]:=List.length_eq_zero_iff.mp hl
    subst this; simp
  · rw [xaG,xaO] at h
    have h1:a=0:=by lia
    subst h1
    rw [xbv]
    exact xbj (by lia)
theorem tW (lo hi:Option Int) (n:Nat):Builtin.Str.strSliceIndices lo hi 1 n=(List.range (HT.sIx n n hi - HT.sIx n 0 lo)).map (HT.sIx n 0 lo + ·):=by
  unfold Builtin.Str.strSliceIndices
  have e1:(match lo with | none=>(0:Int) | some i=>max 0 (min (if i<0 then i+n else i) n))=((HT.sIx n 0 lo:Nat):Int):=by
    cases lo with
    | none=>simp [HT.sIx]
    | some i =>
      simp only [HT.sIx]
      by_cases h:i<0
      · simp only [h,if_true] <;> lia
      · simp only [h,if_false] <;> lia
  have e2:(match hi with | none=>(n:Int) | some i=>max 0 (min (if i<0 then i+n else i) n))=((HT.sIx n n hi:Nat):Int):=by
    cases hi with
    | none=>simp [HT.sIx]
    | some i =>
      simp only [HT.sIx]
      by_cases h:i<0
      · simp only [h,if_true] <;> lia
      · simp only [h,if_false] <;> lia
  rw [<- sliceRange_one,<- e1,<- e2]
  simp only [show (1:Int)>0 by decide,if_true]
  cases lo <;> cases hi <;> rfl
section
variable {X:Cx}
theorem part_of (h:IsPart v o):∃ p:Option (Int × Tok),v=partValue p/\p.map (·.1)=o:=by
  cases h with
  | none=>exact ⟨none,rfl,rfl⟩
  | int i t=>exact ⟨some (i,t),rfl,rfl⟩
def rSlS (K:PySem.W.Frag):V->Option Int->Option Int->Hp->VK->Prop:=fun x lo hi H Q=>match x with
  | .str z=>z.length<=sizeLine/\Q (.str (cutS z lo hi)) H
  | .ref a=>∃ xs,SqL K H a xs/\∀ p,H p=none->Q (.ref p) (upd H p (.lst (cutV xs lo hi)))
  | _=>False
theorem Ah:SlR X (fun x lo hi H Q=>∃ z,x=.str z/\z.length<=sizeLine/\Q (.str (cutS z lo hi)) H):=by
  intro pins s σ H x v vl vu lo hi sl Q I rx hs pl pu h
  obtain ⟨z,rfl,hz,q⟩:=h
  obtain ⟨t,rfl⟩:=rx
  obtain ⟨p1,rfl,e1⟩:=part_of pl
  obtain ⟨p2,rfl,e2⟩:=part_of pu
  refine ⟨"str",_,F.slot_str_getitem.lookup,typeIs_str s z t,wpAny_getItem_str_slice (l:=p1) (u:=p2) (st:=none) hs rfl ?_⟩
  have hl:z.cps.toList.length=z.length:=by simp [Str.length]
  have ep:slicePicked z p1 p2 none=(List.range (HT.sIx z.length z.length hi - HT.sIx z.length 0 lo)).map (HT.sIx z.length 0 lo + ·):=by
    unfold slicePicked
    rw [e1,e2]
    exact tW lo hi z.length
  have ef:(slicePicked z p1 p2 none).filterMap (z.cps[·]?)=(z.cps.toList.drop (HT.sIx z.length 0 lo)).take (HT.sIx z.length z.length hi - HT.sIx z.length 0 lo):=by
    rw [ep]; exact pick_run z.cps _ _
  unfold sliceMade
  split
  · rename_i hc
    have hw:(slicePicked z p1 p2 none).length=z.length:=by simpa using hc
    have:cutS z lo hi=z:=by
      unfold cutS
      have e3:((z.cps.toList.drop (HT.sIx z.cps.toList.length 0 lo)).take (HT.sIx z.cps.toList.length z.cps.toList.length hi - HT.sIx z.cps.toList.length 0 lo)).length=z.cps.toList.length:=by
        rw [hl,xaG,xaO,hl]
        rw [ep,xae,xbb] at hw
        have h0:HT.sIx z.length 0 lo<=z.length:=by
          cases lo with
          | none=>simp [HT.sIx]
          | some i=>simp only [HT.sIx]; split <;> lia
        have h1:HT.sIx z.length z.length hi<=z.length:=by
          cases hi with
          | none=>simp [HT.sIx]
          | some i=>simp only [HT.sIx]; split <;> lia
        lia
      have:=uP z.cps.toList lo hi e3
      rw [hl] at this
      rw [this]
    rw [this] at q
    exact ⟨.str z,H,I,⟨t,rfl⟩,q⟩
  · rw [ef]
    exact ⟨by
      show (cutS z lo hi).length<=sizeLine
      unfold cutS Str.length
      simp only [xak,xaG,xaO,hl]
      have:z.cps.toList.length=z.length:=hl
      lia,⟨.str (cutS z lo hi),H,I.tok _,⟨_,rfl⟩,q⟩⟩
theorem Al:SlR X (rSlS X.K):=by
  intro pins s σ H x v vl vu lo hi sl Q I rx hs pl pu h
  unfold rSlS at h
  split at h
  · exact Ah pins s σ H _ v vl vu lo hi sl Q I rx hs pl pu ⟨_,rfl,h.1,h.2⟩
  · obtain ⟨xs,h1,h2⟩:=h
    exact sl_list pins s σ H _ v vl vu lo hi sl Q I rx hs pl pu ⟨_,xs,rfl,h1,h2⟩
  · exact h.elim

def Its (z:Str):It:=⟨fun i _=>i<z.cps.size,fun i H x H'=>H'=H/\∃ c,z.cps[i]? = some c/\x=.str ⟨#[c]⟩,fun i _=>z.cps.size<=i⟩
theorem pZ {P:Program} {K:PySem.W.Frag} (hty:ty = "str_ascii_iterator"\/ty = "str_iterator") :
    Turn P w K tg (Its z) [it] it (fun i h=>h.IsStrIter it ty z t i/\i<=z.cps.size) where
  mem:=by simp
  obj:=fun i h st b hb=>by
    have e:b=it:=by simpa using hb
    subst e
    obtain ⟨⟨o,e,c,d⟩,_⟩:=st
    exact ⟨o,e,fun v z=>by rw [d] at z; cases z⟩
  keep:=fun i h h' st k=>let ⟨⟨o,e,c,d⟩,l⟩:=st; ⟨⟨o,k it (by simp) o e,c,d⟩,l⟩
  item:=by
    intro X hP hw hK hc i pins s σ H E I hf st hg
    subst hP hw hK
    obtain ⟨f0,f1,f2,f3,f4,f5⟩:=hf it (by simp)
    obtain ⟨st,_⟩:=st
    have hg:i<z.cps.size:=hg
    have W:Walks X.prog X.w X.A it [it] [it] z.cps.size (SignAt z) (fun i h=>h.IsStrIter it ty z t i):=by
      rcases hty with rfl | rfl
      · exact Walks.strAscii (I.ok.hd hc) it z t
      · exact Walks.strWide (I.ok.hd hc) it z t
    refine W.item i s _ _ hg st fun v h' tk hv st' kk=>?_
    obtain ⟨c,u,ec,rfl⟩:=hv
    have I1:Inv X pins σ H { s with heap:=h',toks:=tk }:=I.turned (fun b o hb e=>kk b o (by simpa using hb) e) f0 f1 f3 f4 f5
    obtain ⟨o,e,c',d⟩:=id st'
    exact ⟨_,rfl,go_of (s:={ s with heap:=h',toks:=tk }) e c' d (by rcases hty with rfl | rfl <;> decide) ⟨.str ⟨#[c]⟩,H,I1,⟨u,rfl⟩,⟨rfl,c,ec,rfl⟩,⟨st',hg⟩,fun b hb=>(hf b hb).1⟩⟩
  done:=by
    intro X hP hw hK hc i pins s σ H E I hf st hg
    subst hP hw hK
    obtain ⟨f0,f1,f2,f3,f4,f5⟩:=hf it (by simp)
    obtain ⟨st,hle⟩:=st
    have hg:z.cps.size<=i:=hg
    have e:i=z.cps.size:=Nat.le_antisymm hle hg
    subst e
    have W:Walks X.prog X.w X.A it [it] [it] z.cps.size (SignAt z) (fun i h=>h.IsStrIter it ty z t i):=by
      rcases hty with rfl | rfl
      · exact Walks.strAscii (I.ok.hd hc) it z t
      · exact Walks.strWide (I.ok.hd hc) it z t
    exact W.done s _ _ st fun h' tk kk=>⟨rfl,I.turned (fun b o hb e=>kk b o (by simpa using hb) e) f0 f1 f3 f4 f5⟩
  self:=fun A i s Q E st h=>by
    rcases hty with rfl | rfl
    · exact wpAny_pyIter_striter_ascii st.1 h
    · exact wpAny_pyIter_striter_wide st.1 h
theorem Ao (hl:PE X l tl):PI X tg l (fun σ H R=>tl σ H fun x H1=>∃ z,x=.str z/\R (Its z) H1):=by
  intro pins s σ H R I h
  refine thn (hl pins s σ H _ I h) fun v s1 hx5=>L2.ex2 hx5 fun x H1 I1 r1 q1=>?_
  obtain ⟨z,rfl,q⟩:=q1
  obtain ⟨t,rfl⟩:=r1
  have fp:∀ b∈[s1.heap.objs.size],FpOk X pins H1 b:=fun b hb=>by
    have e:b=s1.heap.objs.size:=by simpa using hb
    subst e
    exact I1.fpOk (xaj _) (I1.hok.fresh (xaj _))
  cases ha:z.cps.all (· < 128)
  · exact wpAny_pyIter_wide ha ⟨s1.heap.objs.size,[s1.heap.objs.size],_,_,H1,rfl,I1.kept (t':=s1.toks) fun b o e=>xal _ e,pZ (.inr rfl),⟨⟨_,xax _ rfl,rfl,rfl⟩,xaC _⟩,fp,q⟩
  · exact wpAny_pyIter_ascii ha ⟨s1.heap.objs.size,[s1.heap.objs.size],_,_,H1,rfl,I1.kept (t':=s1.toks) fun b o e=>xal _ e,pZ (.inl rfl),⟨⟨_,xax _ rfl,rfl,rfl⟩,xaC _⟩,fp,q⟩
end
end L2


namespace L2
open PySem PySem.Spec PyProof.Rows

structure jK (J:It) (its:List V) (cond:Hp->Prop):Prop where
  go:∀ i H,cond H->i<its.length->J.go i H
  yld:∀ i H x H',cond H->i<its.length->J.yld i H x H'->H'=H/\its[i]? = some x
  stop:∀ H,cond H->J.stop its.length H
def sgnV (z:Str):List V:=z.cps.toList.map fun c=>.str ⟨#[c]⟩
theorem xX (z:Str):jK (Its z) (sgnV z) (fun _=>True) where
  go:=fun i H _ h=>by simpa [sgnV,Its] using h
  yld:=fun i H x H' _ _ h=>by
    obtain ⟨rfl,c,e,rfl⟩:=h
    refine ⟨rfl,?_⟩
    unfold sgnV
    rw [xaV,xaZ,e]
    rfl
  stop:=fun H _=>by simp [sgnV,Its]
theorem za (K:PySem.W.Frag) (a:Addr) (xs:List V):jK (Itt K a) xs (fun H=>SqT K H a xs) where
  go:=fun i H h hi=>⟨xs,xs[i],h,by simp [hi]⟩
  yld:=fun i H x H' h _ y=>⟨y.1,y.2 xs h⟩
  stop:=fun H h=>⟨xs,h,xaj _⟩
def su (lo:Int) (n:Nat):List V:=(List.range n).map fun i=>.int (lo+(i:Nat))
theorem rZ (lo:Int) (n:Nat):jK (Itr lo n) (su lo n) (fun _=>True) where
  go:=fun i H _ h=>by simpa [su,Itr] using h
  yld:=fun i H x H' _ hi h=>by
    have hi:i<n:=by simpa [su] using hi
    obtain ⟨rfl,rfl⟩:=h
    refine ⟨rfl,?_⟩
    simp [su,hi]
  stop:=fun H _=>by simp [su,Itr]

def ForW (J:It) (g:TG) (tb:TS) (D:Ends) (σ:St) (H:Hp):Prop :=
  ∃ W:Nat->Nat->St->Hp->Prop,(∃ m,W 0 m σ H)/\∀ i m σ H,W i m σ H ->
      (J.stop i H/\D.nx σ H)\/(J.go i H/\∃ N:St->Hp->Prop,(∀ σ' H',N σ' H'->∃ m',m'<m/\W (i+1) m' σ' H')/\∀ x H',J.yld i H x H'->g x σ H' fun σ2 H2=>tb { D with nx:=N,ct:=N,bk:=D.nx } σ2 H2)
theorem xH (wi:TI) (g:TG) (tb:TS) (D:Ends) (σ:St) (H:Hp):tFor wi g tb D σ H=wi σ H fun J H1=>ForW J g tb D σ H1:=rfl
def Bl (J:It) (g:TG) (tc:TT) (te:TE) (τ0:St) (H1:Hp) (D:Addr) (Q:VK):Prop :=
  ∃ W:Nat->Nat->St->Hp->Prop,(∃ m,W 0 m τ0 (upd H1 D (.lst [])))/\∀ i m τ H,W i m τ H ->
    (J.stop i H/\Q (.ref D) H)\/(J.go i H/\∃ (N1:St->V->Hp->Prop) (N2:St->Hp->Prop),
      (∀ τ2 v H4,N1 τ2 v H4->∃ ys m',H4 D=some (.lst ys)/\ys.length<sizeLine/\m'<m/\W (i+1) m' τ2 (upd H4 D (.lst (ys++[v])))) /\
      (∀ τ2 H3,N2 τ2 H3->∃ m',m'<m/\W (i+1) m' τ2 H3) /\
      ∀ x H',J.yld i H x H'->g x τ H' fun τ2 H2=>tc τ2 H2 fun b H3=>if b=true then te τ2 H3 (N1 τ2) else N2 τ2 H3)
theorem vq (wi:TI) (g:TG) (tc:TT) (te:TE) (tn:Nat) (ix:List Nat) (σ:St) (H:Hp) (Q:VK):rJ wi g tc te tn ix σ H Q=wi σ H fun J H1=>∀ D,H1 D=none->Bl J g tc te (lL tn ix σ) H1 D Q:=rfl
mutual
inductive Rep (K:PySem.W.Frag) (H:Hp):PyData->V->Prop
  | none:Rep K H .none .non
  | bool (b:Bool):Rep K H (.bool b) (.bl b)
  | int (i:Int):Rep K H (.int i) (.int i)
  | str (x:Str):Rep K H (.str x) (.str x)
  | list {a:Addr} {vs:List V} {ds:List PyData}:SqL K H a vs->Reps K H ds vs->Rep K H (.list ds) (.ref a)
  | tuple {a:Addr} {vs:List V} {ds:List PyData}:SqT K H a vs->Reps K H ds vs->Rep K H (.tuple ds) (.ref a)
inductive Reps (K:PySem.W.Frag) (H:Hp):List PyData->List V->Prop
  | nil:Reps K H [] []
  | cons {d:PyData} {v:V} {ds:List PyData} {vs:List V}:Rep K H d v->Reps K H ds vs->Reps K H (d :: ds) (v :: vs)
end
section
variable {X:Cx} {pins:List (Addr × Obj)} {σ:St} {H:Hp} {s:Shared}
mutual
theorem Rep.reads (I:Inv X pins σ H s):∀ {d:PyData} {v:V} {u:Value},Rep X.K H d v->RelV v u->∃ as,Reads s.heap u d as
  | _,_,_,.none,r=>by cases (show _=Value.none from r); exact ⟨_,.none⟩
  | _,_,_,.bool b,r=>by cases (show _=Value.bool b from r); exact ⟨_,.bool b⟩
  | _,_,_,.int i,r=>by obtain ⟨t,e⟩:=r; subst e; exact ⟨_,.int i t⟩
  | _,_,_,.str x,r=>by obtain ⟨t,e⟩:=r; subst e; exact ⟨_,.str x t⟩
  | _,_,_,.list h hs,r=>by
    cases r
    obtain ⟨its,rv,pl,_⟩:=I.list h
    obtain ⟨o,e,c,n,d⟩:=pl.isList
    obtain ⟨as,q⟩:=Reps.reads I hs rv
    exact ⟨_,.list e c d q⟩
  | _,_,_,.tuple h hs,r=>by
    cases r
    obtain ⟨its,rv,⟨o,e,c,n,d⟩,_⟩:=I.tuple h
    obtain ⟨as,q⟩:=Reps.reads I hs rv
    exact ⟨_,.tuple e c d q⟩
theorem Reps.reads (I:Inv X pins σ H s):∀ {ds:List PyData} {vs:List V} {us:List Value},Reps X.K H ds vs->Vals vs us->∃ as,ReadsAll s.heap us ds as
  | _,_,_,.nil,.nil=>⟨_,.nil⟩
  | _,_,_,.cons h hs,.cons r rs=>by
    obtain ⟨as,q⟩:=Rep.reads I h r
    obtain ⟨bs,q'⟩:=Reps.reads I hs rs
    exact ⟨_,.cons q q'⟩
end
def rEqD (K:PySem.W.Frag):R2:=fun x y H Q=>∃ d e,Rep K H d x/\Rep K H e y/\d.canLay0=true/\e.canLay0=true/\d.depth<=60/\Q (.bl (PyData.eqv d e)) H
def rNeD (K:PySem.W.Frag):R2:=fun x y H Q=>∃ d e,Rep K H d x/\Rep K H e y/\d.canLay0=true/\e.canLay0=true/\d.depth<=60/\Q (.bl (!PyData.eqv d e)) H
theorem Ak (hu:X.A.units+64<cLine):OpR X (compareOp .Eq) (rEqD X.K):=by
  intro pins s σ H x y v u Q I rx ry h
  obtain ⟨d,e,h1,h2,h3,h4,h5,q⟩:=h
  obtain ⟨as,r1⟩:=h1.reads I rx
  obtain ⟨bs,r2⟩:=h2.reads I ry
  exact PySem.SeqAt.rcAt_reads r1 r2 h3 h4 (by lia) X.prog X.w X.xe _ ⟨.bl _,H,I,rfl,q⟩
theorem zA (hu:X.A.units+64<cLine):OpR X (compareOp .NotEq) (rNeD X.K):=by
  intro pins s σ H x y v u Q I rx ry h
  obtain ⟨d,e,h1,h2,h3,h4,h5,q⟩:=h
  obtain ⟨as,r1⟩:=h1.reads I rx
  obtain ⟨bs,r2⟩:=h2.reads I ry
  exact PySem.SeqAt.rcNeAt_reads r1 r2 h3 h4 (by lia) X.prog X.w X.xe _ ⟨.bl _,H,I,rfl,q⟩
def rEqU (K:PySem.W.Frag):R2:=fun x y H Q=>match x,y with
  | .int i,.int j=>Q (.bl (decide (i=j))) H
  | .str i,.str j=>Q (.bl (decide (i=j))) H
  | .bl i,.bl j=>Q (.bl (decide (i=j))) H
  | _,_=>rEqD K x y H Q
theorem zQ (hu:X.A.units+64<cLine):OpR X (compareOp .Eq) (rEqU X.K):=(op_eq.or (Ak hu)).imp fun x y H Q h=>by
  unfold rEqU at h
  split at h
  · refine .inl ⟨rfl,?_⟩; simpa using h
  · refine .inl ⟨rfl,?_⟩; simpa using h
  · refine .inl ⟨rfl,?_⟩; simpa using h
  · exact .inr h
def rNeU (K:PySem.W.Frag):R2:=fun x y H Q=>match x,y with
  | .int i,.int j=>Q (.bl (!decide (i=j))) H
  | .str i,.str j=>Q (.bl (!decide (i=j))) H
  | .bl i,.bl j=>Q (.bl (!decide (i=j))) H
  | _,_=>rNeD K x y H Q
theorem Ad (hu:X.A.units+64<cLine):OpR X (compareOp .NotEq) (rNeU X.K):=(op_ne.or (zA hu)).imp fun x y H Q h=>by
  unfold rNeU at h
  split at h
  · refine .inl ⟨rfl,?_⟩; simpa using h
  · refine .inl ⟨rfl,?_⟩; simpa using h
  · refine .inl ⟨rfl,?_⟩; simpa using h
  · exact .inr h

def rAll (K:PySem.W.Frag):List V->Hp->VK->Prop:=fun xs H Q=>match xs with
  | [.ref a]=>∃ bs:List Bool,SqL K H a (bs.map V.bl)/\Q (.bl (bs.all id)) H
  | _=>False
theorem uI (hc:X.calm=true):CallR X (.builtin "all") (rAll X.K):=by
  intro pins s σ H xs us Q I r h
  unfold rAll at h
  split at h
  · rename_i a
    obtain ⟨bs,e,q⟩:=h
    obtain ⟨u,rfl,ru⟩:=Vals.one r
    cases ru
    obtain ⟨its,rv,pl,hz⟩:=I.list e
    have hl:s.heap.IsList a its.toArray:=pl.isList
    obtain ⟨o,ho,hoc,n,hod⟩:=id hl
    have hlen:=rv.length
    rw [xae] at hlen
    refine call_all_walk (wpAny_pyIter_list hl ?_)
    have hne:a≠s.heap.objs.size:=xaB (xao ho)
    have hhd:X.A.in1.handled=none:=I.ok.hd hc
    refine ⟨s.heap.objs.size,_,_,_,_,_,fun i=>bs.getD i true,rfl,Walks.list hhd s.heap.objs.size a hne its.toArray,⟨⟨_,xax _ rfl,rfl,rfl⟩,⟨_,xal _ ho,hoc,n,hod⟩⟩,?_,fun h' tk hk=>?_⟩
    · intro i v s' Q' E' hv hq
      have hv:its.toArray[i]? = some v:=hv
      have hv':its[i]? = some v:=by simpa using hv
      have hi:i<bs.length:=by
        have:=(xaw.mp hv').1
        lia
      obtain ⟨w',e1,r1⟩:=rv.get (i:=i) (x:=V.bl bs[i]) (by simp [hi])
      rw [hv'] at e1
      cases e1
      cases (show v=Value.bool bs[i] from r1)
      have e2:bs.getD i true=bs[i]:=by simp [List.getD,hi]
      have hq:Q' (bs.getD i true) s':=hq
      rw [e2] at hq
      exact wpAny_truthy_bool hq
    · have e3:((List.range its.toArray.size).all fun i=>bs.getD i true)=bs.all id:=by
        rw [xak,<- hlen]
        apply xa0.mpr
        simp only [xaW,xaU,id]
        constructor
        · intro h b hb
          obtain ⟨i,hi,rfl⟩:=List.mem_iff_getElem.mp hb
          have:=h i hi
          simpa [List.getD,hi] using this
        · intro h i hi
          have:=h bs[i] (xbB hi)
          simpa [List.getD,hi] using this
      rw [e3]
      refine ⟨.bl (bs.all id),H,?_,rfl,q⟩
      exact I.kept (t':=tk) fun b o e=>hk b o (by simp; exact xaB (xao e)) (xal _ e)
  · exact h.elim
end
end L2


namespace L2
open PySem PySem.Spec PyProof.Rows
section
variable {X:Cx} {pins:List (Addr × Obj)} {σ:St} {H:Hp} {s:Shared} {h':Heap}
theorem Inv.Dh {t':Nat} {fp:List Addr} (I:Inv X pins σ H s) (hf:∀ b∈fp,FpOk X pins H b) (k:∀ b o,b∉fp->s.heap.get? b=some o->h'.get? b=some o):Inv X pins σ H { s with heap:=h',toks:=t' }:=by
  have nit:∀ b u,H b=some u->b∉fp:=fun b u e z=>by rw [(hf b z).1] at e; cases e
  refine I.step (g':=s.gens) (d':=s.drawn) (ch:=fp) (fun b hb=>?_) (fun b o _ _ hc e _=>k b o hc e) (fun b o _ _ hc e _=>⟨o.slots,k b o hc e⟩) (fun _ _ _ _ n=>n)
    (fun b o hc e=>⟨o,k b o hc e⟩) (fun _ _ e=>e) (fun _ _ _ e=>e) (fun b ps e=>⟨#[],by rw [e]; simp⟩) (fun m hm=>?_) (fun b u e=>?_) I.bare
  · obtain ⟨f0,f1,f2,f3,f4,f5⟩:=hf b hb
    exact ⟨f3,f1,f4,f5⟩
  · obtain ⟨o,es,ep,ho,r⟩:=hm
    exact ⟨o,es,ep,k _ o (fun z=>(hf _ z).2.1 rfl) ho,r⟩
  · refine (I.hok b u e).stay (fun c v hc q=>k c v ?_ q) (fun _ q=>q) fun _ _ q=>q
    rcases hc with z | z
    · rw [z]; exact nit b u e
    · exact nit c _ z
theorem Inv.turnT {t':Nat} {fp:List Addr} {p:Addr} {xs:List V} (I:Inv X pins σ H s) (hf:∀ b∈fp,FpOk X pins H b) (k:∀ b o,b∉fp->s.heap.get? b=some o->h'.get? b=some o) (hp:s.heap.objs.size<=p)
    (new:ObjOk X.prog X.w (upd H p (.tup xs)) h' p (.tup xs)):Inv X pins σ (upd H p (.tup xs)) { s with heap:=h',toks:=t' }:=by
  have hn:=I.hok.fresh hp
  have nit:∀ b u,H b=some u->b∉fp:=fun b u e z=>by rw [(hf b z).1] at e; cases e
  have lt:∀ b o,s.heap.get? b=some o->b≠p:=fun b o e=>xaB (xan (xao e) hp)
  refine I.step (g':=s.gens) (d':=s.drawn) (ch:=fp) (fun b hb=>?_) (fun b o _ _ hc e _=>k b o hc e) (fun b o _ _ hc e _=>⟨o.slots,k b o hc e⟩) (fun b o _ e n=>by rw [upd_ne (lt b o e)]; exact n)
    (fun b o hc e=>⟨o,k b o hc e⟩) (fun _ _ e=>by rw [upd_ne (ne_of_none e hn)]; exact e) (fun _ _ _ e=>by rw [upd_ne (ne_of_none e hn)]; exact e) (fun b ps e=>⟨#[],by rw [upd_ne (ne_of_none e hn),e]; simp⟩) (fun m hm=>?_) (fun b u e=>?_) I.bare
  · obtain ⟨f0,f1,f2,f3,f4,f5⟩:=hf b hb
    exact ⟨f3,f1,f4,f5⟩
  · obtain ⟨o,es,ep,ho,r⟩:=hm
    exact ⟨o,es,ep,k _ o (fun z=>(hf _ z).2.1 rfl) ho,r⟩
  · by_cases hb:b=p
    · subst hb; rw [upd_same] at e; cases e; exact new
    · rw [upd_ne hb] at e
      refine (I.hok b u e).stay (fun c v hc q=>k c v ?_ q) (fun c q=>by rw [upd_ne (ne_of_none q hn)]; exact q) fun c xs q=>by rw [upd_ne (ne_of_none q hn)]; exact q
      rcases hc with z | z
      · rw [z]; exact nit b u e
      · exact nit c _ z
end
def Ite (K:PySem.W.Frag) (a:Addr):It :=
  ⟨fun i H=>∃ xs x,SqL K H a xs/\xs[i]? = some x,fun i H x H'=>∃ p v,x=.ref p/\H p=none/\H'=upd H p (.tup [.int i,v])/\∀ xs,SqL K H a xs->xs[i]? = some v,fun i H=>∃ xs,SqL K H a xs/\xs.length<=i⟩
theorem uL:(2:Nat)<=sizeLine:=by rw [sizeLine_eq]; decide
theorem sJ {P:Program} {w:World} {K:PySem.W.Frag} {elts:List Expr} {k:Nat} {pos:Pos} (a e it:Addr) (hei:e≠it):Turn P w K (.Tuple elts k pos) (Ite K a) [e,it] e (fun i h=>(∃ old,IsEnum h e it i old)/\h.IsListIter it a i) where
  mem:=by simp
  obj:=fun i h ⟨⟨old,he⟩,st⟩ b hb=>by
    rcases xaq.mp hb with rfl | hb
    · exact ⟨_,he,fun v z=>nomatch z⟩
    · have e:b=it:=by simpa using hb
      subst e
      obtain ⟨o,e,c,d⟩:=st
      exact ⟨o,e,fun v z=>by rw [d] at z; cases z⟩
  keep:=fun i h h' ⟨⟨old,he⟩,st⟩ k=>⟨⟨old,k e (by simp) _ he⟩,st.at fun o e=>k it (by simp) o e⟩
  item:=by
    intro X hP hw hK hc i pins s σ H E I hf st hg
    subst hP hw hK
    obtain ⟨xs,x,hq,hx⟩:=hg
    obtain ⟨its,rv,p,hz⟩:=I.list hq
    obtain ⟨u,hu,ru⟩:=rv.get hx
    obtain ⟨⟨old,he⟩,hit⟩:=st
    refine wpAny_pyNext_enum_item he hit p.isList (x:=u) (by simpa using hu) hei fun h1 ho hit1 hT hsz hk=>⟨_,rfl,?_⟩
    refine wpAny_letOwnedTupleGo_enum (s:={ s with heap:=h1,toks:=s.toks+1 }) ho fun h2 he2 hs2=>?_
    have ke:∀ b o,b∉[e,it]->s.heap.get? b=some o->h2.get? b=some o:=fun b o hb q=>(hs2.2 b fun z=>hb (by simp [z])).trans (hk b o (fun z=>hb (by simp [z])) (fun z=>hb (by simp [z])) q)
    have hlt:e<s.heap.objs.size:=xao he
    have hT2:h2.get? s.heap.objs.size=some { cls:=.type "tuple",data:=.seq #[.int i s.toks,u] }:=(hs2.2 _ (Nat.ne_of_gt hlt)).trans hT
    have I1:Inv X pins σ (upd H s.heap.objs.size (.tup [.int i,x])) { s with heap:=h2,toks:=s.toks+1 } :=
      I.turnT hf ke (xaj _) ⟨uL,[.int i s.toks,u],.cons ⟨s.toks,rfl⟩ (.cons ru .nil),_,hT2,rfl,_,rfl⟩
    refine ⟨.ref s.heap.objs.size,_,I1,rfl,⟨_,x,rfl,I.fresh,rfl,fun ys hy=>by rw [I.list_inj hy hq]; exact hx⟩,⟨⟨u,by simpa using he2⟩,hit1.at fun o q=>(hs2.2 it hei.symm).trans q⟩,fun b hb=>?_⟩
    rw [upd_ne]
    · exact (hf b hb).1
    · rcases xaq.mp hb with rfl | hb
      · exact xaB hlt
      · have e:b=it:=by simpa using hb
        subst e
        obtain ⟨o,q,_⟩:=hit
        exact xaB (xao q)
  done:=by
    intro X hP hw hK hc i pins s σ H E I hf st hg
    subst hP hw hK
    obtain ⟨xs,hq,hx⟩:=hg
    obtain ⟨its,rv,p,hz⟩:=I.list hq
    obtain ⟨⟨old,he⟩,hit⟩:=st
    have hl:=rv.length
    exact wpAny_pyNext_enum_end (I.ok.hd hc) he hit p.isList (by simp; lia) fun h' eb=>⟨rfl,I.Dh (t':=s.toks) hf fun b o hb q=>eb b o (fun z=>hb (by simp [z])) q⟩
  self:=fun _ _ _ _ _ ⟨⟨old,he⟩,_⟩ h=>wpAny_pyIter_enum he h
def Itz (K:PySem.W.Frag) (a b:Addr):It :=
  ⟨fun i H=>∃ xs ys x y,SqL K H a xs/\SqL K H b ys/\xs[i]? = some x/\ys[i]? = some y,fun i H x H'=>∃ p u v,x=.ref p/\H p=none/\H'=upd H p (.tup [u,v])/\(∀ xs,SqL K H a xs->xs[i]? = some u)/\∀ ys,SqL K H b ys->ys[i]? = some v,
   fun i H=>∃ xs ys,SqL K H a xs/\SqL K H b ys/\(xs.length<=i\/ys.length<=i)⟩
theorem zL (h:b∈[n+1,n]):n<=b:=by simp at h; lia
section
variable {X:Cx}
def Bg (K:PySem.W.Frag) (ta:TA):TI:=fun σ H R=>ta σ H fun vs H1=>∃ a,vs=[.ref a]/\(∃ xs,SqL K H1 a xs)/\R (Ite K a) H1
theorem yN (hg:Gl X "enumerate") (hm:X.mg "enumerate" = none) (ha:PA X [a] ta) (hs:starEach [a] X.env=[(false,eval a X.env)]:=by rfl) :
    PI X (.Tuple elts k tp) (.Call (.Name "enumerate" p) [a] [] pos) (Bg X.K ta):=by
  intro pins s σ H R I h
  refine Call_ (ld_blt I hg hm boot_enumerate (PyProof.Rows.callWith_type1 (thn (ha pos pins s σ H _ I h) fun us s1 hx5=>L2.ex2 hx5 fun vs H1 I1 r1 q1=>?_) hs rfl))
  obtain ⟨l,e,⟨xs,hq⟩,q⟩:=q1
  subst e
  cases r1 with
  | cons r rr =>
    cases rr
    cases r
    obtain ⟨its,rv,pl,hz⟩:=I1.list hq
    refine call_enumerate_list pl.isList fun h2 he hit hsz hk=>?_
    refine wpAny_pyIter_enum (s:={ s1 with heap:=h2 }) he ?_
    refine ⟨s1.heap.objs.size+1,[s1.heap.objs.size+1,s1.heap.objs.size],_,_,H1,rfl,I1.kept (t':=s1.toks) hk,sJ l _ _ (Nat.succ_ne_self _),⟨⟨_,he⟩,hit⟩,fun b hb=>?_,q⟩
    have e:s1.heap.objs.size<=b:=zL hb
    exact I1.fpOk e (I1.hok.fresh e)
end
end L2


namespace L2
open PySem PySem.Spec PyProof.Rows

def rlN (sc:Scope) (names:List (Str × NameKind)):List (Str × NameKind):=names.map fun y=>if (y.2 == NameKind.free && sc.kind == .function && sc.names.lookup y.1 == some .cell)=true then (y.1,NameKind.cell) else (y.1,y.2)
def vis2 (o:Option NameKind):Bool:=o == some .cell || o == some .free
def zy (sc scope:Scope) (N cn:List Str) (ix:List Nat):Bool :=
  scope.kind == .function && scope.names.all (fun y=>y.2 != .cell) && scope.names.all (fun y=>y.2 != .free || vis2 (sc.names.lookup y.1)) && scope.names.all (fun y=>y.2 != .local || scope.names.lookup y.1 == some .local) &&
  ix.length == cn.length && (List.range ix.length).all (fun k=>match ix[k]?,cn[k]? with
    | some j,some y=>N[j]? == some y && vis2 (sc.names.lookup y) && scope.names.contains (y,NameKind.free) && vis2 ((rlN sc scope.names).lookup y)
    | _,_=>false) &&
  (rlN sc scope.names).all (fun y=>!(y.2 == .cell || y.2 == .free) || scope.names.contains (y.1,NameKind.free))
theorem gR (h:vis2 o=true):o=some .cell\/o=some .free:=by
  unfold vis2 at h
  simpa using h
theorem cQ.of {X:Cx} (hsc:X.env.scope=sc) (hN:X.N=N) (h:zy sc scope N cn ix=true):cQ X scope tn cn ix:=by
  unfold zy at h
  simp only [xas] at h
  obtain ⟨⟨⟨⟨⟨⟨h1,h2⟩,h3⟩,h4⟩,h5⟩,h6⟩,h7⟩:=h
  rw [xaW] at h2 h3 h4 h6 h7
  have erl:(relabel scope X.env).names=rlN sc scope.names:=by
    unfold relabel rlN
    rw [<- hsc]
    rfl
  refine ⟨by simpa using h1,fun y hy=>by simpa using h2 y hy,fun y hy hk=>?_,fun y hy hk=>?_,by simpa using h5,fun k j hk=>?_,fun x hx=>?_⟩
  · have:=h3 y hy
    rw [hk] at this
    rw [hsc]
    exact gR (by simpa using this)
  · have:=h4 y hy
    rw [hk] at this
    simpa using this
  · have hk':k<ix.length:=(xaw.mp hk).1
    have:=h6 k (xaU.mpr hk')
    rw [hk] at this
    cases e:cn[k]? with
    | none=>rw [e] at this; cases this
    | some y =>
      rw [e] at this
      simp only [xas] at this
      obtain ⟨⟨⟨a1,a2⟩,a3⟩,a4⟩:=this
      refine ⟨y,rfl,by rw [hN]; simpa using a1,by rw [hsc]; exact gR a2,by simpa using a3,by rw [erl]; exact gR a4⟩
  · rw [erl] at hx
    have mem:∃ k,(x,k)∈rlN sc scope.names/\(k=.cell\/k=.free):=by
      rcases hx with hx | hx
      · exact ⟨_,PySem.mem_of_lookup hx,.inl rfl⟩
      · exact ⟨_,PySem.mem_of_lookup hx,.inr rfl⟩
    obtain ⟨k,hm,hk⟩:=mem
    have:=h7 _ hm
    rcases hk with rfl | rfl <;> simpa using this

structure Cal (P:Program) (w:World) (K:PySem.W.Frag) (mg:Str->Option Value) (base:Heap) (k:Nat) (x:Str) (ps:List Str) (sp:Sp):Prop where
  ex:∃ (g:Addr) (fd:FuncData),mg x=some (.ref g)/\PySem.W.keepIn K (.ref g)=true/\Binds K fd ps []/\FnOk P w K mg base CX0 k g fd ps sp
section
variable {X:Cx} {k:Nat} {x:Str} {ps:List Str} {sp:Sp} {p pos:Pos} {e:Expr} {es:List Expr} {t:TA}
theorem zZ (C:Cal X.prog X.w X.K X.mg X.base k x ps sp) (hr:Room k X.A) (ha:PA X (e :: es) t) (hg:Gl X x:=by rfl) (hdb:(x == ("__debug__" : Str))=false:=by decide) (he:starEach (e :: es) X.env=(false,eval e X.env) :: starEach es X.env:=by rfl)
    (hpl:(backTo pos (starEach es X.env)).any (·.1)=false:=by rfl):PE X (.Call (.Name x p) (e :: es) [] pos) (tCall sp [] E0 t):=by
  obtain ⟨g,fd,hm,hk,hb,F⟩:=C.ex
  exact pe_call F hr hg hm hk hb .nil pass0 ha hdb he hpl
end
theorem Fun.cal {P:Program} {K:PySem.W.Frag} {st:Stmt} {ps:List Str} (F:Fun K x qual st f fd) (hm:mg x=some (.ref f))
    (G:FnOk P w K mg base CX0 k f fd ps sp)
    (h:∀ (kV doc pm:Value) (an:Option Addr) (cdv ct:Value) (us:List Value),us.length=ps.length->bindArgs (PySem.W.fnOf x qual (defArgs st) (defBody st) (defScope st) .none kV doc pm an cdv ct) ⟨us,[]⟩=pure (ps.zip us)):Cal P w K mg base k x ps sp :=
  ⟨f,fd,hm,F.kp,F.binds h,G⟩
def GlS (mg:Str->Option Value) (x:Str) (z:Str):Prop:=∃ t,mg x=some (.str z t)
def GlI (mg:Str->Option Value) (x:Str) (i:Int):Prop:=∃ t,mg x=some (.int i t)
theorem Cm {X:Cx} (h:GlS X.mg x z) (hg:Gl X x:=by rfl) (hd:(x == ("__debug__" : Str))=false:=by decide):PE X (.Name x pos) (tC (.str z)):=by
  obtain ⟨t,e⟩:=h
  exact pe_glob hg e ⟨t,rfl⟩ hd
theorem Dc {X:Cx} (h:GlI X.mg x i) (hg:Gl X x:=by rfl) (hd:(x == ("__debug__" : Str))=false:=by decide):PE X (.Name x pos) (tC (.int i)):=by
  obtain ⟨t,e⟩:=h
  exact pe_glob hg e ⟨t,rfl⟩ hd
theorem rY:bootBuiltins "str" = some (.type "str"):=by decide +kernel
theorem wA:bootBuiltins "int" = some (.type "int"):=by decide +kernel
theorem xK:bootBuiltins "bool" = some (.type "bool"):=by decide +kernel
theorem lW:bootBuiltins "list" = some (.type "list"):=by decide +kernel
theorem fc:bootBuiltins "tuple" = some (.type "tuple"):=by decide +kernel
theorem dF:bootBuiltins "isinstance" = some (.builtin "isinstance"):=by decide +kernel
theorem sS:bootBuiltins "all" = some (.builtin "all"):=by decide +kernel
theorem cI:bootBuiltins "len" = some (.builtin "len"):=by decide +kernel
theorem lZ {X:Cx} {T:String} (hm:X.mg x=none) (hv:bootBuiltins x=some (.type T)) (hg:Gl X x:=by rfl) (hn:x ≠ "__name__" := by decide) (hd:(x == ("__debug__" : Str))=false:=by decide):PE X (.Name x pos) (tC (.ty T)) :=
  pe_bltn hg hm hv rfl hn hd

def inS (i j:Str):Bool:=!(Builtin.Str.occurrences j i 0 j.length 1).isEmpty
theorem xg (c:Nat) (j:Str):inS ⟨#[c]⟩ j=decide (c∈j.cps.toList):=PySem.StrLaws.found_one j c
def rInU (K:PySem.W.Frag) (neg:Bool):R2:=fun x y H Q=>match x,y with
  | .str i,.str j=>Q (.bl (if neg then !inS i j else inS i j)) H
  | _,.ref p=>(∃ o,DGet H p x o/\Q (.bl (if neg then !o.isSome else o.isSome)) H)\/rIn K neg x y H Q
  | _,_=>False
theorem zu {X:Cx} (hu:X.A.units+64<cLine):OpR X (compareOp .In) (rInU X.K false):=by
  intro pins s σ H x y v u Q I rx ry h
  unfold rInU at h
  split at h
  · exact op_in_str pins s σ H _ _ v u Q I rx ry ⟨_,_,rfl,rfl,h⟩
  · rcases h with ⟨o,g,q⟩ | h
    · cases ry
      exact d_in (by lia) I g rx fun s3 I3=>⟨.bl o.isSome,H,I3,rfl,q⟩
    · exact op_in_seq pins s σ H _ _ v u Q I rx ry h
  · exact h.elim
theorem Same.upd (h:Same H H') (hp:H' p=none):Same H (upd H' p o):=fun b u e=>by
  have e':=h b u e
  rw [upd_ne (ne_of_none e' hp)]
  exact e'
theorem Same.lst {K:PySem.W.Frag} (e:Same H H') (h:SqL K H a xs):SqL K H' a xs:=e.seq h
theorem Same.tup {K:PySem.W.Frag} (e:Same H H') (h:SqT K H a xs):SqT K H' a xs:=by
  rcases h with (h | ⟨o,h⟩) | h
  · exact .inl (.inl (e _ _ h))
  · exact .inl (.inr ⟨o,e _ _ h⟩)
  · exact .inr h
mutual
theorem Rep.same {K:PySem.W.Frag} (s:Same H H'):∀ {d:PyData} {v:V},Rep K H d v->Rep K H' d v
  | _,_,.none=>.none
  | _,_,.bool b=>.bool b
  | _,_,.int i=>.int i
  | _,_,.str x=>.str x
  | _,_,.list h hs=>.list (s.lst h) (Reps.same s hs)
  | _,_,.tuple h hs=>.tuple (s.tup h) (Reps.same s hs)
theorem Reps.same {K:PySem.W.Frag} (s:Same H H'):∀ {ds:List PyData} {vs:List V},Reps K H ds vs->Reps K H' ds vs
  | _,_,.nil=>.nil
  | _,_,.cons h hs=>.cons (Rep.same s h) (Reps.same s hs)
end
theorem SqL.new {K:PySem.W.Frag}:SqL K (upd H p (.lst xs)) p xs:=.inl (.inl upd_same)
theorem SqT.new {K:PySem.W.Frag}:SqT K (upd H p (.tup xs)) p xs:=.inl (.inl upd_same)
section
variable {X:Cx} {K:PySem.W.Frag}
theorem kIx (hK:X.K=K:=by rfl):IxR X (rIxU K):=by subst hK; exact wR
theorem kEq (hu:X.A.units+64<cLine) (hK:X.K=K:=by rfl):OpR X (compareOp .Eq) (rEqU K):=by subst hK; exact zQ hu
theorem kNe (hu:X.A.units+64<cLine) (hK:X.K=K:=by rfl):OpR X (compareOp .NotEq) (rNeU K):=by subst hK; exact Ad hu
theorem kIn (hu:X.A.units+64<cLine) (hK:X.K=K:=by rfl):OpR X (compareOp .In) (rInU K false):=by subst hK; exact zu hu
theorem kAll (hc:X.calm=true:=by rfl) (hK:X.K=K:=by rfl):CallR X (.builtin "all") (rAll K):=by subst hK; exact uI hc
end

theorem G5 {α:Type} {a:α} {p:α->Prop}:(∃ v,a=v/\p v)↔p a:=⟨fun ⟨_,e,h⟩=>e ▸ h,fun h=>⟨a,rfl,h⟩⟩
end L2


namespace L2
open PySem PySem.Spec PyProof.Rows

abbrev Ents:=Array DictEntry
def RawD (h:Heap) (d:Addr) (es:Ents) (ep:Nat):Prop:=∃ o,h.get? d=some o/\o.ExactDict/\o.data=.dict es ep
theorem RawD.typ {s:Shared} {d:Addr} {es:Ents} {ep:Nat} (x:RawD s.heap d es ep):s.TypeIs (.ref d) "dict" := let ⟨o,e,c,_⟩:=x; ⟨o,e,c.1⟩
section
variable {prog:Program} {w:World} {A:Around} {E:Value->Shared->Prop} {s:Shared} {d it:Addr} {es:Ents} {ep i:Nat}
theorem uR {Q:Value->Shared->Prop} (lo:(d == sysModules)=false) (x:RawD s.heap d es ep)
    (q:Q (.ref s.heap.objs.size) { s with heap:=s.heap.push { cls:=.type "dict_keyiterator",data:=.fields #[.ref d,.int 0 0,.int es.size 0,.int ep 0] } }):wpAny (model prog w) A (pyIter (.ref d)) Q E s:=by
  obtain ⟨o,ho,hc,hdat⟩:=id x
  refine wpAny_pyIter_slot x.typ F.slot_dict_iter (wpAny_call_entry F.slot_dict_iter x.typ F.entry_dict_iter ?_ (F.args_dict_iter_1 _))
  unfold Builtin.«dict.__iter__»
  refine xab ?_
  unfold Builtin.Dict.dictSlotNone
  refine xab (wpAny_notOrdered_dict x.typ ?_)
  refine (show wpAny _ _ (pure (Value.ref d)) _ _ s from xag ?_)
  refine (show wpAny _ _ (Builtin.Dict.showsAll d >>= _) _ _ s from ?_)
  unfold Builtin.Dict.showsAll
  rw [if_neg (by rw [lo]; decide)]
  refine xab (xag (xab (wpAny_dictEntries ho hdat (xab (wpAny_dictEpoch ho hdat (xab (wpAny_newObj_type (xag ⟨_,rfl, "dict_keyiterator",_,⟨_,xax _ rfl,rfl⟩,F.slot_dict_keyiterator_next.lookup,?_⟩))))))))
  simpa [rawInt] using q
theorem vJ (hit:s.heap.IsKeyIter it d i es.size ep) (x:RawD s.heap d es ep) (hx:i<es.size)
    (q:∀ h',h'.IsKeyIter it d (i+1) es.size ep->Heap.SameBut it s.heap h'->Q (some es[i].key) { s with heap:=h' }):wpAny (model prog w) A (pyNext (.ref it)) Q E s:=by
  obtain ⟨o,ho,hc,hd⟩:=id hit
  obtain ⟨od,hod,hcd,hdd⟩:=id x
  have ty:=hit.typeIs
  unfold pyNext
  refine xab (wpAny_attempt (wpAny_callSpecial?_slot (name:=Str.ofString "__next__") ty F.slot_dict_keyiterator_next (wpAny_call_entry F.slot_dict_keyiterator_next ty F.entry_dict_keyiterator_next ?_ (F.args_dict_keyiterator_next_1 _))))
  refine xab (xag (xab (xab ?_)))
  first | refine xab (wpAny_typeNameOfWhole_keyiter ty (xag ?_)) | refine xab (wpAny_typeNameOf_keyiter ty (xag ?_))
  refine xab (wpAny_fieldsOf ho hd ?_)
  simp only [show Builtin.Dict_items.ownsTuple "dict_keyiterator" = false by decide,xbe,if_false]
  refine (show wpAny _ _ (if (Value.ref d == Value.none)=true then _ else _) _ _ s from ?_)
  rw [if_neg (show ¬ ((Value.ref d == Value.none)=true) by intro h; cases h)]
  refine xab (xag (xab (wpAny_dictEntries hod hdd ?_)))
  rw [if_neg (by intro h; simp at h)]
  refine xab (xag (xab (wpAny_dictEpoch hod hdd ?_)))
  rw [if_neg (by intro h; simp at h)]
  refine xag ?_
  simp only [show ¬ ((i:Int)<0) by lia,if_false,Int.toNat_natCast,Array.getElem?_eq_getElem hx]
  refine xab ?_
  first | refine xab (wpAny_typeNameOfWhole_keyiter ty (xag ?_)) | refine xab (wpAny_typeNameOf_keyiter ty (xag ?_))
  refine xab (wpAny_isOneOf_keyiter ty ?_)
  refine (show wpAny _ _ (setField (.ref it) 1 (rawInt ((i:Int)+1)) >>= _) _ _ s from xab (wpAny_setField ho hd (by simp) ?_))
  have hit':(s.heap.update it (Obj.mapFields (·.setIfInBounds 1 (rawInt ((i:Int)+1))))).IsKeyIter it d (i+1) es.size ep :=
    ⟨_,Heap.get?_update_self _ ho (Obj.isFreed_of_fields (Obj.data_mapFields hd _)),(Obj.cls_mapFields ..).trans hc,by rw [Obj.data_mapFields hd]; simp [rawInt]⟩
  refine xab (wpAny_holding (xab (wpAny_isOneOf_keyiter (s:={ s with heap:=s.heap.update it (Obj.mapFields (·.setIfInBounds 1 (rawInt ((i:Int)+1)))) }) hit'.typeIs ?_)))
  refine (show wpAny _ _ (pure es[i].key) _ _ _ from xag (xag ⟨_,rfl,xag (q _ hit' (Heap.SameBut.update ..))⟩))
theorem wj (hh:A.handled=none) (hit:s.heap.IsKeyIter it d es.size es.size ep) (x:RawD s.heap d es ep) (q:∀ h',Heap.ExtBut it s.heap h'->Q none { s with heap:=h' }) :
    wpAny (model prog w) A (pyNext (.ref it)) Q E s:=by
  obtain ⟨o,ho,hc,hd⟩:=id hit
  obtain ⟨od,hod,hcd,hdd⟩:=id x
  have ty:=hit.typeIs
  unfold pyNext
  refine xab (wpAny_attempt (wpAny_callSpecial?_slot (name:=Str.ofString "__next__") ty F.slot_dict_keyiterator_next (wpAny_call_entry F.slot_dict_keyiterator_next ty F.entry_dict_keyiterator_next ?_ (F.args_dict_keyiterator_next_1 _))))
  refine xab (xag (xab (xab ?_)))
  first | refine xab (wpAny_typeNameOfWhole_keyiter ty (xag ?_)) | refine xab (wpAny_typeNameOf_keyiter ty (xag ?_))
  refine xab (wpAny_fieldsOf ho hd ?_)
  simp only [show Builtin.Dict_items.ownsTuple "dict_keyiterator" = false by decide,xbe,if_false]
  refine (show wpAny _ _ (if (Value.ref d == Value.none)=true then _ else _) _ _ s from ?_)
  rw [if_neg (show ¬ ((Value.ref d == Value.none)=true) by intro h; cases h)]
  refine xab (xag (xab (wpAny_dictEntries hod hdd ?_)))
  rw [if_neg (by intro h; simp at h)]
  refine xab (xag (xab (wpAny_dictEpoch hod hdd ?_)))
  rw [if_neg (by intro h; simp at h)]
  refine xag ?_
  simp only [show ¬ ((es.size:Int)<0) by lia,if_false,Int.toNat_natCast,xba (xaj es.size)]
  refine xab ?_
  first | refine xab (wpAny_typeNameOfWhole_keyiter ty (xag ?_)) | refine xab (wpAny_typeNameOf_keyiter ty (xag ?_))
  refine (show wpAny _ _ (setField (.ref it) 0 .none >>= _) _ _ s from xab (wpAny_setField ho hd (by simp) ?_))
  refine (show wpAny _ _ (newExc (.type "StopIteration") [] >>= _) _ _ _ from xab ?_)
  simp only [newExc,newTuple]
  refine xab (wpAny_newObj_type ?_ (by size_fits))
  refine xab (m:=firstArgMember _ _) (wpAny_of_eq (a:=Value.none) (by first | rfl | (simp only [firstArgMember]; rfl)) (wpAny_newObj_type ?_ (by size_fits)))
  simp only [raiseNew]
  refine xab (wpAny_handled ?_)
  rw [show A.in1.handled=none from hh]
  refine xab (xag (wpAny_throw ?_))
  refine xab (wpAny_isInstance (b:=true) (T := "StopIteration") ⟨_,xax _ rfl,rfl⟩ isSubtype_stop ?_)
  exact xag (q _ (((Heap.SameBut.update ..).extBut.push _).push _))
theorem RawD.at (x:RawD h d es ep) (e:∀ o,h.get? d=some o->h'.get? d=some o):RawD h' d es ep:=let ⟨o,ho,r⟩:=x; ⟨o,e o ho,r⟩
theorem RawD.lt (x:RawD h d es ep):d<h.objs.size:=let ⟨_,e,_⟩:=x; xao e
theorem tX (hh:A.handled=none) (I:Addr) (hne:d≠I):Walks prog w A I [I,d] [I] es.size (fun i v=>∃ e,es[i]? = some e/\v=e.key) (fun i h=>h.IsKeyIter I d i es.size ep/\RawD h d es ep) where
  sub:=fun b hb=>by simp at hb; simp [hb]
  frame:=fun _ _ _ st hk=>⟨st.1.at fun o e=>hk I (by simp) o e,st.2.at fun o e=>hk d (by simp) o e⟩
  item:=fun i s Q E hi st hQ=>vJ st.1 st.2 hi fun h' a b=>hQ _ h' s.toks ⟨es[i],by simp [hi],rfl⟩ ⟨a,st.2.at fun o e=>b.extBut d o hne e⟩ fun c o hb e=>b.extBut c o (fun h=>hb (by simp [h])) e
  done:=fun s Q E st hQ=>wj hh st.1 st.2 fun h' he'=>hQ h' s.toks fun b o hb e=>he' b o (fun h=>hb (by simp [h])) e
  self:=fun _ _ _ _ st hQ=>wpAny_pyIter_keyiter st.1 hQ
theorem xq (lo:(d == sysModules)=false):PySem.W.KdlSrc prog w "dict" d d es.size (fun i v=>∃ e,es[i]? = some e/\v=e.key) (fun h=>RawD h d es ep) where
  type:=fun _ x=>x.typ
  there:=fun _ x=>⟨x.lt,x.lt⟩
  keep:=fun _ _ x hk=>x.at fun o e=>hk d (.inl rfl) o e
  notList:=by decide
  notTuple:=by decide
  hint:=fun _ _ _ _ x hq=>PySem.W.kdl_hint_dict x.typ hq
  iter:=fun _ _ hh x=>⟨_,_,(fun _ _ hq=>uR lo x hq),tX hh _ (xaB x.lt),⟨⟨_,xax _ rfl,rfl,rfl⟩,x.at fun o e=>xal _ e⟩⟩
end

theorem Paired.n0 {α β:Type} {R:α->β->Prop} {bs:List β} (h:Paired R [] bs):bs=[]:=by cases h; rfl
theorem Paired.c {α β:Type} {R:α->β->Prop} {a:α} {as:List α} {bs:List β} (h:Paired R (a :: as) bs):∃ b cs,bs=b :: cs/\R a b/\Paired R as cs:=by
  cases h with
  | cons r t=>exact ⟨_,_,rfl,r,t⟩
def gB (H:Hp) (ys:List V) (ks:List (List Key)):Prop:=Paired (fun (v:V) (k:List Key)=>∃ b,v=.ref b/\H b=some (.tup (k.map kV))) ys ks
section
variable {X:Cx}
def qN:List V->Hp->VK->Prop:=fun xs H Q=>match xs with
  | [.ref p]=>∃ kvs,Rd H p (.dT kvs)/\∀ ys l,gB H ys (kvs.map (·.1))->H l=none->Q (.ref l) (upd H l (.lst ys))
  | _=>False
theorem yG 
    (h:Paired (fun (p:List Key × V) (q:List Key × Addr × Value)=>p.1=q.1/\H q.2.1=some (.tup (p.1.map kV))/\RelV p.2 q.2.2) kvs xs) :
    gB H (xs.map fun q=>.ref q.2.1) (kvs.map (·.1))/\Vals (xs.map fun q=>.ref q.2.1) ((xs.map (entryOfKey (tupleKind (mixKind prog w)))).map (·.key)):=by
  induction h with
  | nil=>exact ⟨.nil,.nil⟩
  | cons r t ih=>exact ⟨.cons ⟨_,rfl,r.2.1⟩ ih.1,.cons rfl ih.2⟩
theorem rF (hc:X.calm=true):CallR X (.type "list") qN:=by
  intro pins s σ H xs us Q I r h
  unfold qN at h
  split at h
  · rename_i p
    obtain ⟨kvs,e,q⟩:=h
    obtain ⟨u,rfl,ru⟩:=Vals.one r
    cases ru
    obtain ⟨z,y,ps,rel,o,es,ep,h1,h2,h3,h4,h5⟩:=(show ObjOk X.prog X.w H s.heap p (.dT kvs) from I.rd e)
    obtain ⟨ta,va⟩:=yG (prog:=X.prog) (w:=X.w) rel
    have hlen:es.size=kvs.length:=by
      have:=congrArg List.length h4
      rw [xaF,xae] at this
      rw [this]; exact rel.length.symm
    refine PySem.W.kdl_call (xq (es:=es) (ep:=ep) y) (I.ok.hd hc) ⟨o,h1,h2,h3⟩ (by lia) fun h' tk acc c kp eo hacc=>?_
    have hv:acc.toList=(ps.map (entryOfKey (tupleKind (mixKind X.prog X.w)))).map (·.key):=by
      apply List.ext_getElem?
      intro i
      by_cases hi:i<es.size
      · have hi2:i<acc.size:=by rw [hacc.1]; exact hi
        obtain ⟨en,e1,e2⟩:=hacc.2 i acc[i] (by simp [hi2])
        rw [<- h4,xaV,xaZ,xaZ,e1]
        simp [hi2,e2]
      · rw [<- h4,xaV,xaZ,xaZ,xba (by rw [hacc.1]; lia),xba (by lia)]
        rfl
    refine ⟨.ref s.heap.objs.size,_,I.laid (t':=tk) kp (xaj _) (show ObjOk X.prog X.w _ h' _ (.lst (ps.map fun q=>.ref q.2.1)) from ⟨?_,acc.toList,c,?_,?_⟩),rfl,q _ _ ta (I.hok.fresh (xaj _))⟩
    · rw [xae,<- rel.length]; exact z
    · rw [hv]; exact va
    · rw [Array.toArray_toList]; exact eo
  · exact h.elim
end
end L2

namespace Tim
open PySem PyProof.Rows

def R (r:Value->Int) (xs:Array Keyed) (i:Nat):Int:=match xs[i]? with
  | some p=>r p.1
  | none=>0
theorem pJ (h:xs[i]? = ys[j]?):R r xs i=R r ys j:=by unfold R; rw [h]
def Cmp (prog:Program) (w:World) (A:Around) (s:Shared) (κ:SortKind) (r:Value->Int) (P:Value->Prop):Prop :=
  ∀ x y,P x->P y->∀ (Q:Bool->Shared->Prop) (E:Value->Shared->Prop),Q (decide (r x<r y)) s->wpAny (model prog w) A (keyLt' κ x y) Q E s
def AllP (P:Value->Prop) (xs:Array Keyed):Prop:=∀ p∈xs.toList,P p.1
theorem AllP.perm {P:Value->Prop} (h:AllP P xs) (hp:ys.Perm xs):AllP P ys:=fun p hm=>h p ((Array.perm_iff_toList_perm.mp hp).mem_iff.mp hm)
theorem AllP.at {P:Value->Prop} {xs:Array Keyed} (h:AllP P xs) {i:Nat} {p:Keyed} (e:xs[i]? = some p):P p.1:=h p (by
  obtain ⟨hi,rfl⟩:=Array.getElem?_eq_some_iff.mp e
  simp)
structure Win (lo hi:Nat) (st st':SortSt):Prop where
  kind:kindOf st'=kindOf st
  failed:failedOf st'=failedOf st
  pend:pendingOf st'=pendingOf st
  perm:(arrOf st').Perm (arrOf st)
  out:∀ k,k<lo\/hi<=k->(arrOf st')[k]? = (arrOf st)[k]?
theorem Win.refl (lo hi:Nat) (st:SortSt):Win lo hi st st:=⟨rfl,rfl,rfl,Array.Perm.refl _,fun _ _=>rfl⟩
theorem Win.trans {lo hi:Nat} {a b c:SortSt} (h:Win lo hi a b) (g:Win lo hi b c):Win lo hi a c :=
  ⟨g.kind.trans h.kind,g.failed.trans h.failed,g.pend.trans h.pend,g.perm.trans h.perm,fun k hk=>(g.out k hk).trans (h.out k hk)⟩
theorem Win.mono {lo hi lo' hi':Nat} {a b:SortSt} (h:Win lo hi a b) (h1:lo'<=lo) (h2:hi<=hi'):Win lo' hi' a b :=
  ⟨h.kind,h.failed,h.pend,h.perm,fun k hk=>h.out k (by lia)⟩
theorem Win.size {lo hi:Nat} {a b:SortSt} (h:Win lo hi a b):(arrOf b).size=(arrOf a).size:=h.perm.size_eq
def Up (r:Value->Int) (xs:Array Keyed) (lo hi:Nat):Prop:=∀ i j,lo<=i->i<=j->j<hi->R r xs i<=R r xs j
section
variable {prog:Program} {w:World} {A:Around} {E:Value->Shared->Prop} {s:Shared} {κ:SortKind} {r:Value->Int} {P:Value->Prop}

end

section
variable {prog:Program} {w:World} {A:Around} {E:Value->Shared->Prop} {s:Shared} {κ:SortKind} {r:Value->Int} {P:Value->Prop}

end
end Tim

namespace Tim
open PySem PyProof.Rows

def yM:Bool->Keyed->Array Keyed->Nat->Nat->Nat->StateT SortSt Sem (Option Nat):=sortPriv% PySem.Builtin.gallop
end Tim

namespace Tim
open PySem PyProof.Rows

abbrev Le (r:Value->Int) (x y:Keyed):Prop:=r x.1<=r y.1
structure MI (r:Value->Int) (a b out:Array Keyed) (ia ib:Nat):Prop where
  ha:ia<=a.size
  hb:ib<=b.size
  perm:out.toList.Perm (a.toList.take ia++b.toList.take ib)
  up:out.toList.Pairwise (Le r)
  la:∀ x∈out.toList,∀ i,ia<=i->i<a.size->r x.1<=R r a i
  lb:∀ x∈out.toList,∀ j,ib<=j->j<b.size->r x.1<=R r b j
section
variable {r:Value->Int} {a b out:Array Keyed}
def wQ (r:Value->Int) (a b out:Array Keyed):Prop:=out.toList.Perm (a.toList++b.toList)/\out.toList.Pairwise (Le r)
theorem MI.whole (M:MI r a b out a.size b.size):wQ r a b out:=by
  refine ⟨?_,M.up⟩
  have h:=M.perm
  rw [xbj (by simp),xbj (by simp)] at h
  exact h
theorem MI.start (hA:Up r a 0 a.size) (hB:Up r b 0 b.size):MI r a b #[] 0 0:=⟨xaC _,xaC _,by simp,by simp,fun x hx=>by simp at hx,fun x hx=>by simp at hx⟩
end

def Mg (st st':SortSt):Prop:=∃ g,st'=SortSt.mk' (kindOf st) (arrOf st) (pendingOf st) g (failedOf st)
theorem Mg.refl (st:SortSt):Mg st st:=⟨gallopOf st,rfl⟩
theorem Mg.kind {st st':SortSt} (h:Mg st st'):kindOf st'=kindOf st:=by obtain ⟨g,rfl⟩:=h; rfl
theorem Mg.set {st st':SortSt} (h:Mg st st') (g:Nat):Mg st (SortSt.mk' (kindOf st') (arrOf st') (pendingOf st') g (failedOf st')):=by obtain ⟨g',rfl⟩:=h; exact ⟨g,rfl⟩

theorem Mg.trans {a b c:SortSt} (h:Mg a b) (g:Mg b c):Mg a c:=by obtain ⟨x,rfl⟩:=h; obtain ⟨y,rfl⟩:=g; exact ⟨y,rfl⟩
abbrev SM:=StateT SortSt Sem
section
variable {prog:Program} {w:World} {A:Around} {s:Shared} {κ:SortKind} {r:Value->Int} {P:Value->Prop} {a b:Array Keyed}
structure MC (prog:Program) (w:World) (A:Around) (s:Shared) (κ:SortKind) (r:Value->Int) (P:Value->Prop) (a b:Array Keyed):Prop where
  C:Cmp prog w A s κ r P
  pa:AllP P a
  pb:AllP P b
  hA:Up r a 0 a.size
  hB:Up r b 0 b.size
  hl:∀ i,i<a.size->R r b 0<=R r a i
  hg:∀ j,j<b.size->R r b j<=R r a (a.size - 1)
end
end Tim

namespace Tim
open PySem PyProof.Rows

abbrev Ge (r:Value->Int) (x y:Keyed):Prop:=r y.1<=r x.1
structure MH (r:Value->Int) (a b out:Array Keyed) (na nb:Nat):Prop where
  ha:na<=a.size
  hb:nb<=b.size
  perm:out.toList.Perm (a.toList.drop na++b.toList.drop nb)
  down:out.toList.Pairwise (Ge r)
  ga:∀ x∈out.toList,∀ i,i<na->R r a i<=r x.1
  gb:∀ x∈out.toList,∀ j,j<nb->R r b j<=r x.1
section
variable {r:Value->Int} {a b out:Array Keyed}
theorem MH.whole (M:MH r a b out 0 0):wQ r a b out.reverse:=by
  refine ⟨?_,?_⟩
  · have h:=M.perm
    rw [xbv,xbv] at h
    rw [Array.toList_reverse]
    exact (List.reverse_perm _).trans h
  · rw [Array.toList_reverse,List.pairwise_reverse]
    exact M.down
theorem MH.start:MH r a b #[] a.size b.size:=⟨xaj _,xaj _,by simp,by simp,fun x hx=>by simp at hx,fun x hx=>by simp at hx⟩
end
abbrev S3:=Option (Array Keyed) × Nat × Nat × Array Keyed × Nat × Nat × Nat
def hiE (a b out:Array Keyed) (na nb:Nat):Array Keyed:=a.extract 0 na++b.extract 0 nb++out.reverse
def hiF (a b out:Array Keyed) (na nb:Nat):Array Keyed:=b.extract 0 nb++a.extract 0 na++out.reverse
def hi3 (a b:Array Keyed) (mg ac bc na nb:Nat) (out:Array Keyed):SM (ForInStep S3):=elem' a (na - 1) >>= fun p =>
  if (na - 1 == 0)=true then pure (.done (some (hiE a b (out.push p) (na - 1) nb),na - 1,nb,out.push p,mg,ac,bc))
  else if (decide (ac<7) && decide (bc<7))=true then pure (.done (none,na - 1,nb,out.push p,mg,ac,bc)) else pure (.yield (none,na - 1,nb,out.push p,mg,ac,bc))
def hi2 (a b:Array Keyed) (mg ac bc na nb:Nat) (out:Array Keyed):SM (ForInStep S3):=elem' a (na - 1) >>= fun p=>yM true p b 0 nb (nb - 1) >>= fun x=>match x with
  | some k=>if nb - k>0 then
      if (k == 1)=true then pure (.done (some (hiF a b (out++(b.extract k nb).reverse) na k),na,k,out++(b.extract k nb).reverse,mg,ac,nb - k))
      else if (k == 0)=true then pure (.done (some (hiE a b (out++(b.extract k nb).reverse) na k),na,k,out++(b.extract k nb).reverse,mg,ac,nb - k))
      else hi3 a b mg ac (nb - k) na k (out++(b.extract k nb).reverse)
    else hi3 a b mg ac (nb - k) na nb out
  | _=>pure (.done (some (hiE a b out na nb),na,nb,out,mg,ac,bc))
def hi1 (a b:Array Keyed) (mg ac bc na nb:Nat) (out:Array Keyed):SM (ForInStep S3):=elem' b (nb - 1) >>= fun p =>
  if (nb - 1 == 1)=true then pure (.done (some (hiF a b (out.push p) na (nb - 1)),na,nb - 1,out.push p,mg,ac,bc)) else hi2 a b mg ac bc na (nb - 1) (out.push p)
end Tim

namespace Tim
open PySem PyProof.Rows

def wr (p:Nat) (m:List Keyed) (n:Nat) (xs:Array Keyed):Array Keyed:=(m.zipIdx n).foldl (fun a (q:Keyed × Nat)=>a.setIfInBounds (p+q.2) q.1) xs
def Runs (r:Value->Int) (xs:Array Keyed):List (Nat × Nat × Nat)->Nat->Nat->Prop
  | [],a,b=>a=b
  | (s,n,_) :: rest,a,b=>s=a/\1<=n/\Up r xs s (s+n)/\Runs r xs rest (s+n) b
section
variable {r:Value->Int} {xs ys:Array Keyed}
theorem Runs.le:∀ {ps:List (Nat × Nat × Nat)} {a b:Nat},Runs r xs ps a b->a+ps.length<=b
  | [],a,b,h=>by simp only [Runs] at h; simp; lia
  | (s,n,p) :: rest,a,b,h=>by
    obtain ⟨rfl,h1,_,h3⟩:=h
    have:=Runs.le h3
    simp only [xaP]; lia
theorem Runs.append:∀ {ps qs:List (Nat × Nat × Nat)} {a b:Nat},Runs r xs (ps++qs) a b↔∃ c,Runs r xs ps a c/\Runs r xs qs c b
  | [],qs,a,b=>by simp [Runs]
  | (s,n,p) :: rest,qs,a,b=>by
    simp only [List.cons_append,Runs]
    constructor
    · rintro ⟨h1,h2,h3,h4⟩
      obtain ⟨c,h5,h6⟩:=Runs.append.mp h4
      exact ⟨c,⟨h1,h2,h3,h5⟩,h6⟩
    · rintro ⟨c,⟨h1,h2,h3,h5⟩,h6⟩
      exact ⟨h1,h2,h3,Runs.append.mpr ⟨c,h5,h6⟩⟩
theorem Up.congr (h:Up r xs a b) (e:∀ k,a<=k->k<b->ys[k]? = xs[k]?):Up r ys a b:=fun i j h1 h2 h3=>by
  rw [pJ (e i h1 (by lia)),pJ (e j (by lia) h3)]; exact h i j h1 h2 h3
theorem Runs.congr:∀ {ps:List (Nat × Nat × Nat)} {a b:Nat},Runs r xs ps a b->(∀ k,a<=k->k<b->ys[k]? = xs[k]?)->Runs r ys ps a b
  | [],a,b,h,_=>h
  | (s,n,p) :: rest,a,b,h,e=>by
    obtain ⟨rfl,h1,h2,h3⟩:=h
    have l:=h3.le
    exact ⟨rfl,h1,h2.congr fun k u v=>e k u (by lia),Runs.congr h3 fun k u v=>e k (by walk_at "s4") v⟩
end
end Tim

namespace Tim
open PySem PyProof.Rows
section
variable {prog:Program} {w:World} {A:Around} {E:Value->Shared->Prop} {s:Shared} {κ:SortKind} {r:Value->Int} {P:Value->Prop}

theorem AllP.extract (h:AllP P xs) (i j:Nat):AllP P (xs.extract i j):=fun p hp=>h p (by
  rw [Array.toList_extract,List.extract_eq_drop_take] at hp
  exact xbq (xbr hp))
theorem nj (h:i+k<j) (hj:j<=xs.size):R r (xs.extract i j) k=R r xs (i+k):=by
  apply pJ
  rw [xbk,if_pos (by lia)]
theorem Up.extract (h:Up r xs i j) (hij:i<=j) (hj:j<=xs.size):Up r (xs.extract i j) 0 (xs.extract i j).size:=fun a b _ h2 h3=>by
  have e:(xs.extract i j).size=j - i:=by simp only [Array.size_extract]; lia
  rw [e] at h3
  rw [nj (by lia) hj,nj (by lia) hj]
  exact h _ _ (by lia) (by lia) (by lia)

structure St (r:Value->Int) (κ:SortKind) (a₀:Array Keyed) (st:SortSt) (ps:List (Nat × Nat × Nat)) (lo:Nat):Prop where
  kind:kindOf st=κ
  failed:failedOf st=none
  perm:(arrOf st).Perm a₀
  pend:pendingOf st=ps.toArray
  runs:Runs r (arrOf st) ps 0 lo
theorem St.size {a₀:Array Keyed} {st:SortSt} {ps:List (Nat × Nat × Nat)} {lo:Nat} (h:St r κ a₀ st ps lo):(arrOf st).size=a₀.size:=h.perm.size_eq

end
end Tim

namespace Tim
open PySem PyProof.Rows
section
variable {prog:Program} {w:World} {A:Around} {E:Value->Shared->Prop} {s:Shared} {κ:SortKind} {r:Value->Int} {P:Value->Prop}

end
end Tim

namespace Tim
open PySem PyProof.Rows
section
variable {prog:Program} {w:World} {A:Around} {E:Value->Shared->Prop} {s:Shared} {κ:SortKind} {r:Value->Int} {P:Value->Prop}

end
end Tim


namespace L2
open PySem PySem.Spec PyProof.Rows

def lt1:Key->Key->Bool
  | .inl i,.inl j=>decide (i<j)
  | .inr x,.inr y=>ltS x y
  | _,_=>false
def ltK:List Key->List Key->Bool
  | a :: as,b :: bs=>if a=b then ltK as bs else lt1 a b
  | _,_=>false
def isI:Key->Bool
  | .inl _=>true
  | .inr _=>false
def shOf (k:List Key):List Bool:=k.map isI
theorem yc (x:Str):ltS x x=false:=by unfold ltS; simp [List.lt_irrefl]
theorem zU (h:ltS x y=true) (g:ltS y z=true):ltS x z=true:=by
  unfold ltS at *
  simp only [decide_eq_true_eq] at *
  exact List.lt_trans h g
theorem sW {x y:Str} (h:x.cps.toList=y.cps.toList):x=y:=by
  cases x; cases y
  simp only at h
  rw [Array.toList_inj.mp h]
theorem yj {x y:Str} (h:ltS x y=false) (g:ltS y x=false):x=y:=by
  unfold ltS at *
  simp only [decide_eq_false_iff_not] at *
  apply sW
  exact List.le_antisymm (List.not_lt.mp g) (List.not_lt.mp h)
def unV:V->Option Key
  | .int i=>some (.inl i)
  | .str x=>some (.inr x)
  | _=>none
theorem BL (k:Key):unV (kV k)=some k:=by cases k <;> rfl
theorem wU:∀ k:List Key,(k.map kV).filterMap unV=k
  | []=>rfl
  | a :: as=>by rw [xaD,xaI,BL,wU as]
def uQ (H:Hp):Value->List Key
  | .ref b=>match H b with
    | some (.tup xs)=>xs.filterMap unV
    | _=>[]
  | _=>[]
theorem qz (h:H b=some (.tup (k.map kV))):uQ H (.ref b)=k:=by
  simp only [uQ,h]; exact wU k
section
variable {X:Cx} {pins:List (Addr × Obj)} {σ:St} {H:Hp} {s:Shared}
theorem Inv.tup (I:Inv X pins σ H s) (h:H b=some (.tup xs)):∃ its:List Value,Vals xs its/\IsTup s.heap b its.toArray:=(I.hok b _ h).2
end
theorem gB.mem (h:gB H ys ks) (y:V) (hy:y∈ys):∃ b k,y=.ref b/\H b=some (.tup (k.map kV))/\k∈ks:=by
  induction ys generalizing ks with
  | nil=>cases hy
  | cons z ys ih =>
    obtain ⟨k,ks,rfl,⟨b,rfl,g⟩,t⟩:=Paired.c h
    rcases xaq.mp hy with rfl | hy
    · exact ⟨b,_,rfl,g,xac⟩
    · obtain ⟨b,k,e,g,m⟩:=ih t hy
      exact ⟨b,k,e,g,xaa _ m⟩
theorem gB.keys (h:gB H ys ks) (hv:Vals ys vs):vs.map (uQ H)=ks/\∀ v∈vs,∃ b k,v=.ref b/\H b=some (.tup (k.map kV))/\k∈ks:=by
  induction ys generalizing ks vs with
  | nil=>rw [Paired.n0 hv,show ks=[] from Paired.n0 h]; exact ⟨rfl,by simp⟩
  | cons y ys ih =>
    obtain ⟨k,ks,rfl,⟨b,rfl,g⟩,t⟩:=Paired.c h
    obtain ⟨v,vs,rfl,rfl,rs⟩:=Paired.c hv
    obtain ⟨e,m⟩:=ih t rs
    refine ⟨by rw [xaD,qz g,e],fun v hv=>?_⟩
    rcases xaq.mp hv with rfl | hv
    · exact ⟨b,k,rfl,g,xac⟩
    · obtain ⟨b',k',e1,e2,e3⟩:=m v hv
      exact ⟨b',k',e1,e2,xaa _ e3⟩
theorem gB.of {H:Hp} {ks:List (List Key)} (vs:List Value) (h:∀ v∈vs,∃ b k,v=Value.ref b/\H b=some (.tup (k.map kV))/\k∈ks):∃ zs,gB H zs (vs.map (uQ H))/\Vals zs vs:=by
  induction vs with
  | nil=>exact ⟨[],.nil,.nil⟩
  | cons v vs ih =>
    obtain ⟨zs,a,c⟩:=ih fun u hu=>h u (xaa _ hu)
    obtain ⟨b,k,rfl,e,_⟩:=h v xac
    exact ⟨.ref b :: zs,.cons ⟨b,rfl,by rw [qz e]; exact e⟩ a,.cons rfl c⟩
end L2


namespace Tim
open PySem PyProof.Rows
end Tim

namespace L2
open PySem PySem.Spec PyProof.Rows
end L2


namespace L2.Q
open PySem PySem.Spec PyProof.Rows

inductive D where
  | non | bl (b:Bool) | int (i:Int) | str (x:Str)
  | list (xs:List D) | tup (xs:List D) | dK (kvs:List (Key × D)) | dT (kvs:List (List Key × D))

mutual
/-- nothing in it can be changed -/
def D.flat:D->Bool
  | .list _=>false
  | .dK _=>false
  | .dT _=>false
  | .tup xs=>flats xs
  | _=>true
def flats:List D->Bool
  | []=>true
  | x :: xs=>x.flat && flats xs
end
theorem oM:∀ {xs:List D},flats xs=true↔∀ x∈xs,x.flat=true
  | []=>by simp [flats]
  | x :: xs=>by simp [flats,oM (xs:=xs)]
theorem dZ:flats (xs++ys)=(flats xs && flats ys):=by
  induction xs with
  | nil=>simp [flats]
  | cons x xs ih=>simp [flats,ih,Bool.and_assoc]

def kOk:Key->Bool
  | .inl _=>true
  | .inr x=>decide (x.length<=sizeLine)
def KsOk (kvs:List (Key × D)):Prop:=kvs.length<=sizeLine/\∀ p∈kvs,kOk p.1=true
def KtOk (kvs:List (List Key × D)):Prop:=kvs.length<=sizeLine/\∀ p∈kvs,p.1.length<=sizeLine/\∀ k∈p.1,kOk k=true
mutual
inductive Rep (K:PySem.W.Frag) (H:Hp):D->V->Prop
  | non:Rep K H .non .non
  | bl (b:Bool):Rep K H (.bl b) (.bl b)
  | int (i:Int):Rep K H (.int i) (.int i)
  | str {x:Str}:x.length<=sizeLine->Rep K H (.str x) (.str x)
  | list {a:Addr} {vs:List V} {ds:List D}:vs.length<=sizeLine->SqL K H a vs->Reps K H ds vs->Rep K H (.list ds) (.ref a)
  | tup {a:Addr} {vs:List V} {ds:List D}:vs.length<=sizeLine->H a=some (.tup vs)->Reps K H ds vs->Rep K H (.tup ds) (.ref a)
  | dK {a:Addr} {vs:List V} {kvs:List (Key × D)}:KsOk kvs->Rd H a (.dK ((kvs.map (·.1)).zip vs))->Reps K H (kvs.map (·.2)) vs->Rep K H (.dK kvs) (.ref a)
  | dT {a:Addr} {vs:List V} {kvs:List (List Key × D)}:KtOk kvs->Rd H a (.dT ((kvs.map (·.1)).zip vs))->Reps K H (kvs.map (·.2)) vs->Rep K H (.dT kvs) (.ref a)
inductive Reps (K:PySem.W.Frag) (H:Hp):List D->List V->Prop
  | nil:Reps K H [] []
  | cons {d:D} {v:V} {ds:List D} {vs:List V}:Rep K H d v->Reps K H ds vs->Reps K H (d :: ds) (v :: vs)
end
theorem Rep.ind {K:PySem.W.Frag} {H:Hp} {m1:D->V->Prop} {m2:List D->List V->Prop} (h0:m1 .non .non) (hb:∀ b,m1 (.bl b) (.bl b)) (hi:∀ i,m1 (.int i) (.int i)) (hs:∀ x,x.length<=sizeLine->m1 (.str x) (.str x))
    (hl:∀ a vs ds,vs.length<=sizeLine->SqL K H a vs->Reps K H ds vs->m2 ds vs->m1 (.list ds) (.ref a)) (ht:∀ a vs ds,vs.length<=sizeLine->H a=some (.tup vs)->Reps K H ds vs->m2 ds vs->m1 (.tup ds) (.ref a))
    (hk:∀ a vs kvs,KsOk kvs->Rd H a (.dK ((kvs.map (·.1)).zip vs))->Reps K H (kvs.map (·.2)) vs->m2 (kvs.map (·.2)) vs->m1 (.dK kvs) (.ref a)) (hT:∀ a vs kvs,KtOk kvs->Rd H a (.dT ((kvs.map (·.1)).zip vs))->Reps K H (kvs.map (·.2)) vs->m2 (kvs.map (·.2)) vs->m1 (.dT kvs) (.ref a))
    (hn:m2 [] []) (hc:∀ d v ds vs,Rep K H d v->Reps K H ds vs->m1 d v->m2 ds vs->m2 (d :: ds) (v :: vs)):(∀ {d v},Rep K H d v->m1 d v)/\∀ {ds vs},Reps K H ds vs->m2 ds vs :=
  ⟨fun r=>Rep.rec (motive_1:=fun d v _=>m1 d v) (motive_2:=fun ds vs _=>m2 ds vs) h0 hb hi (fun h=>hs _ h) (fun z s r ih=>hl _ _ _ z s r ih) (fun z s r ih=>ht _ _ _ z s r ih) (fun z s r ih=>hk _ _ _ z s r ih) (fun z s r ih=>hT _ _ _ z s r ih) hn (fun r s a b=>hc _ _ _ _ r s a b) r,
   fun r=>Reps.rec (motive_1:=fun d v _=>m1 d v) (motive_2:=fun ds vs _=>m2 ds vs) h0 hb hi (fun h=>hs _ h) (fun z s r ih=>hl _ _ _ z s r ih) (fun z s r ih=>ht _ _ _ z s r ih) (fun z s r ih=>hk _ _ _ z s r ih) (fun z s r ih=>hT _ _ _ z s r ih) hn (fun r s a b=>hc _ _ _ _ r s a b) r⟩
theorem DGet.k' (e:Rd H a (.dK kvs)):DGet H a (kV k) (valV kvs k):=.inl ⟨kvs,k,e,rfl,rfl⟩
theorem DGet.t' (e:Rd H a (.dT kvs)) (eb:H b=some (.tup (k.map kV))):DGet H a (.ref b) (valV kvs k):=.inr ⟨kvs,k,b,e,rfl,eb,rfl⟩
theorem Same.rd (s:Same H H') (h:Rd H a u):Rd H' a u:=h.imp (s _ _) fun ⟨o,e⟩=>⟨o,s _ _ e⟩
theorem Rep.zN {K:PySem.W.Frag} (s:Same H H'):(∀ {d:D} {v:V},Rep K H d v->Rep K H' d v)/\∀ {ds:List D} {vs:List V},Reps K H ds vs->Reps K H' ds vs :=
  Rep.ind .non .bl .int (fun _ h=>.str h) (fun _ _ _ z h _ ih=>.list z (s.lst h) ih) (fun _ _ _ z h _ ih=>.tup z (s _ _ h) ih) (fun _ _ _ kk h _ ih=>.dK kk (Same.rd s h) ih) (fun _ _ _ kk h _ ih=>.dT kk (Same.rd s h) ih) .nil fun _ _ _ _ _ _ a b=>.cons a b
theorem Rep.same {K:PySem.W.Frag} (s:Same H H') (r:Rep K H d v):Rep K H' d v:=(Rep.zN s).1 r
theorem Reps.same {K:PySem.W.Frag} (s:Same H H') (r:Reps K H ds vs):Reps K H' ds vs:=(Rep.zN s).2 r
theorem Reps.ind {K:PySem.W.Frag} {H:Hp} {m:List D->List V->Prop} (hn:m [] []) (hc:∀ d v ds vs,Rep K H d v->Reps K H ds vs->m ds vs->m (d :: ds) (v :: vs)):∀ {ds vs},Reps K H ds vs->m ds vs :=
  fun r=>(Rep.ind (m1:=fun _ _=>True) (m2:=m) trivial (fun _=>trivial) (fun _=>trivial) (fun _ _=>trivial) (fun _ _ _ _ _ _ _=>trivial) (fun _ _ _ _ _ _ _=>trivial) (fun _ _ _ _ _ _ _=>trivial) (fun _ _ _ _ _ _ _=>trivial) hn fun d v ds vs r s _ b=>hc d v ds vs r s b).2 r
theorem Reps.length {K:PySem.W.Frag} (r:Reps K H ds vs):ds.length=vs.length :=
  Reps.ind (m:=fun ds vs=>ds.length=vs.length) rfl (fun _ _ _ _ _ _ ih=>by rw [xaP,xaP,ih]) r
theorem Reps.append {K:PySem.W.Frag} (r:Reps K H ds vs) (t:Reps K H es ws):Reps K H (ds++es) (vs++ws) :=
  Reps.ind (m:=fun ds vs=>Reps K H (ds++es) (vs++ws)) t (fun _ _ _ _ h _ ih=>.cons h ih) r
theorem Reps.get {K:PySem.W.Frag} {H:Hp} {ds:List D} {vs:List V} {i:Nat} {d:D} (r:Reps K H ds vs) (e:ds[i]? = some d):∃ v,vs[i]? = some v/\Rep K H d v :=
  Reps.ind (m:=fun ds vs=>∀ i d,ds[i]? = some d->∃ v,vs[i]? = some v/\Rep K H d v) (fun i d e=>by simp at e) (fun _ _ _ _ h _ ih i d e=>by
    cases i with
    | zero=>simp at e; subst e; exact ⟨_,rfl,h⟩
    | succ i =>
      obtain ⟨v,e1,r⟩:=ih i d (by simpa using e)
      exact ⟨v,by simpa using e1,r⟩) r i d e
theorem Reps.getV {K:PySem.W.Frag} {H:Hp} {ds:List D} {vs:List V} {i:Nat} {v:V} (r:Reps K H ds vs) (e:vs[i]? = some v):∃ d,ds[i]? = some d/\Rep K H d v :=
  Reps.ind (m:=fun ds vs=>∀ i v,vs[i]? = some v->∃ d,ds[i]? = some d/\Rep K H d v) (fun i d e=>by simp at e) (fun _ _ _ _ h _ ih i d e=>by
    cases i with
    | zero=>simp at e; subst e; exact ⟨_,rfl,h⟩
    | succ i =>
      obtain ⟨v,e1,r⟩:=ih i d (by simpa using e)
      exact ⟨v,by simpa using e1,r⟩) r i v e
theorem Reps.drop {K:PySem.W.Frag} (n:Nat) (r:Reps K H ds vs):Reps K H (ds.drop n) (vs.drop n) :=
  Reps.ind (m:=fun ds vs=>∀ n,Reps K H (ds.drop n) (vs.drop n)) (fun n=>by rw [List.drop_nil,List.drop_nil]; exact .nil) (fun _ _ _ _ h hs ih n=>by
    cases n with
    | zero=>exact .cons h hs
    | succ n=>exact ih n) r n
theorem Reps.n0 {K:PySem.W.Frag} (h:Reps K H [] vs):vs=[]:=by cases h; rfl
theorem Reps.c {K:PySem.W.Frag} (h:Reps K H (d :: ds) vs):∃ u us,vs=u :: us/\Rep K H d u/\Reps K H ds us:=by
  cases h with
  | cons r rs=>exact ⟨_,_,rfl,r,rs⟩
theorem Reps.take {K:PySem.W.Frag} (n:Nat) (r:Reps K H ds vs):Reps K H (ds.take n) (vs.take n) :=
  Reps.ind (m:=fun ds vs=>∀ n,Reps K H (ds.take n) (vs.take n)) (fun n=>by rw [List.take_nil,List.take_nil]; exact .nil) (fun _ _ _ _ h hs ih n=>by
    cases n with
    | zero=>exact .nil
    | succ n=>exact .cons h (ih n)) r n

mutual
/-- what is owned: a tree whose lists and dicts stand at As,nobody else's; its leaves shared (fl: and flat) -/
inductive RepO (K:PySem.W.Frag) (Hs H:Hp) (fl:Bool):D->V->List Addr->Prop
  | sh {d:D} {v:V}:(fl=true->d.flat=true)->Rep K Hs d v->RepO K Hs H fl d v []
  | list {a:Addr} {vs:List V} {ds:List D} {As:List Addr}:vs.length<=sizeLine->H a=some (.lst vs)->aA K Hs H fl ds vs As->RepO K Hs H fl (.list ds) (.ref a) (a :: As)
  | tup {a:Addr} {vs:List V} {ds:List D} {As:List Addr}:vs.length<=sizeLine->Hs a=some (.tup vs)->flats ds=false->aA K Hs H fl ds vs As->RepO K Hs H fl (.tup ds) (.ref a) As
  | dK {a:Addr} {vs:List V} {kvs:List (Key × D)} {As:List Addr}:KsOk kvs->H a=some (.dK ((kvs.map (·.1)).zip vs))->aA K Hs H fl (kvs.map (·.2)) vs As->RepO K Hs H fl (.dK kvs) (.ref a) (a :: As)
  | dT {a:Addr} {vs:List V} {kvs:List (List Key × D)} {As:List Addr}:KtOk kvs->H a=some (.dT ((kvs.map (·.1)).zip vs))->aA K Hs H fl (kvs.map (·.2)) vs As->RepO K Hs H fl (.dT kvs) (.ref a) (a :: As)
inductive aA (K:PySem.W.Frag) (Hs H:Hp) (fl:Bool):List D->List V->List Addr->Prop
  | nil:aA K Hs H fl [] [] []
  | cons {d:D} {v:V} {ds:List D} {vs:List V} {As Bs:List Addr}:RepO K Hs H fl d v As->aA K Hs H fl ds vs Bs->aA K Hs H fl (d :: ds) (v :: vs) (As++Bs)
end
def Own (H:Hp) (a:Addr):Prop:=(∃ vs,H a=some (.lst vs))\/(∃ kvs,H a=some (.dK kvs))\/∃ kvs,H a=some (.dT kvs)
section
variable {K:PySem.W.Frag} {Hs Hs' H H':Hp} {fl:Bool}
theorem Own.ne (h:Own H a):H a≠none:=by
  rcases h with ⟨_,e⟩ | ⟨_,e⟩ | ⟨_,e⟩ <;> rw [e] <;> exact fun z=>nomatch z
theorem Own.wI (h:Own H a):H a≠some (.tup vs):=by
  rcases h with ⟨_,e⟩ | ⟨_,e⟩ | ⟨_,e⟩ <;> rw [e] <;> exact fun z=>nomatch z
theorem RepO.ind {m1:D->V->List Addr->Prop} {m2:List D->List V->List Addr->Prop} (hs:∀ d v,(fl=true->d.flat=true)->Rep K Hs d v->m1 d v [])
    (hl:∀ a vs ds As,vs.length<=sizeLine->H a=some (.lst vs)->aA K Hs H fl ds vs As->m2 ds vs As->m1 (.list ds) (.ref a) (a :: As)) (ht:∀ a vs ds As,vs.length<=sizeLine->Hs a=some (.tup vs)->flats ds=false->aA K Hs H fl ds vs As->m2 ds vs As->m1 (.tup ds) (.ref a) As)
    (hk:∀ a vs kvs As,KsOk kvs->H a=some (.dK ((kvs.map (·.1)).zip vs))->aA K Hs H fl (kvs.map (·.2)) vs As->m2 (kvs.map (·.2)) vs As->m1 (.dK kvs) (.ref a) (a :: As)) (hT:∀ a vs kvs As,KtOk kvs->H a=some (.dT ((kvs.map (·.1)).zip vs))->aA K Hs H fl (kvs.map (·.2)) vs As->m2 (kvs.map (·.2)) vs As->m1 (.dT kvs) (.ref a) (a :: As))
    (hn:m2 [] [] []) (hc:∀ d v ds vs As Bs,RepO K Hs H fl d v As->aA K Hs H fl ds vs Bs->m1 d v As->m2 ds vs Bs->m2 (d :: ds) (v :: vs) (As++Bs)):(∀ {d v As},RepO K Hs H fl d v As->m1 d v As)/\∀ {ds vs As},aA K Hs H fl ds vs As->m2 ds vs As :=
  ⟨fun r=>RepO.rec (motive_1:=fun d v As _=>m1 d v As) (motive_2:=fun ds vs As _=>m2 ds vs As) (fun f r=>hs _ _ f r) (fun z s r ih=>hl _ _ _ _ z s r ih) (fun z s n r ih=>ht _ _ _ _ z s n r ih) (fun z s r ih=>hk _ _ _ _ z s r ih) (fun z s r ih=>hT _ _ _ _ z s r ih) hn (fun r s a b=>hc _ _ _ _ _ _ r s a b) r,
   fun r=>aA.rec (motive_1:=fun d v As _=>m1 d v As) (motive_2:=fun ds vs As _=>m2 ds vs As) (fun f r=>hs _ _ f r) (fun z s r ih=>hl _ _ _ _ z s r ih) (fun z s n r ih=>ht _ _ _ _ z s n r ih) (fun z s r ih=>hk _ _ _ _ z s r ih) (fun z s r ih=>hT _ _ _ _ z s r ih) hn (fun r s a b=>hc _ _ _ _ _ _ r s a b) r⟩
theorem mem0 {a:Addr} {p:Prop} (h:a∈([]:List Addr)):p:=absurd h xbA
theorem RepO.own2:(∀ {d:D} {v:V} {As:List Addr},RepO K Hs H fl d v As->∀ a∈As,Own H a)/\∀ {ds:List D} {vs:List V} {As:List Addr},aA K Hs H fl ds vs As->∀ a∈As,Own H a :=
  RepO.ind (m1:=fun _ _ As=>∀ a∈As,Own H a) (m2:=fun _ _ As=>∀ a∈As,Own H a) (fun _ _ _ _ a h=>mem0 h) (fun _ _ _ _ _ e _ ih a h=>(xaq.mp h).elim (fun z=>z ▸ .inl ⟨_,e⟩) (ih a)) (fun _ _ _ _ _ _ _ _ ih=>ih)
    (fun _ _ _ _ _ e _ ih a h=>(xaq.mp h).elim (fun z=>z ▸ .inr (.inl ⟨_,e⟩)) (ih a)) (fun _ _ _ _ _ e _ ih a h=>(xaq.mp h).elim (fun z=>z ▸ .inr (.inr ⟨_,e⟩)) (ih a)) (fun a h=>mem0 h) fun _ _ _ _ _ _ _ _ i1 i2 a h=>(xaf.mp h).elim (i1 a) (i2 a)
theorem RepO.own (r:RepO K Hs H fl d v As):∀ a∈As,Own H a:=RepO.own2.1 r
theorem aA.own (r:aA K Hs H fl ds vs As):∀ a∈As,Own H a:=RepO.own2.2 r
theorem RepO.zE (s:Same Hs Hs'):(∀ {d:D} {v:V} {As:List Addr},RepO K Hs H fl d v As->(∀ a∈As,H' a=H a)->RepO K Hs' H' fl d v As)/\∀ {ds:List D} {vs:List V} {As:List Addr},aA K Hs H fl ds vs As->(∀ a∈As,H' a=H a)->aA K Hs' H' fl ds vs As :=
  RepO.ind (m1:=fun d v As=>(∀ a∈As,H' a=H a)->RepO K Hs' H' fl d v As) (m2:=fun ds vs As=>(∀ a∈As,H' a=H a)->aA K Hs' H' fl ds vs As) (fun _ _ f r _=>.sh f (r.same s))
    (fun _ _ _ _ z e _ ih k=>.list z ((k _ xac).trans e) (ih fun a h=>k a (xaa _ h))) (fun _ _ _ _ z e n _ ih k=>.tup z (s _ _ e) n (ih k)) (fun _ _ _ _ z e _ ih k=>.dK z ((k _ xac).trans e) (ih fun a h=>k a (xaa _ h)))
    (fun _ _ _ _ z e _ ih k=>.dT z ((k _ xac).trans e) (ih fun a h=>k a (xaa _ h))) (fun _=>.nil) fun _ _ _ _ _ _ _ _ i1 i2 k=>.cons (i1 fun a h=>k a (xam _ h)) (i2 fun a h=>k a (xad _ h))
theorem RepO.stay (s:Same Hs Hs') (r:RepO K Hs H fl d v As) (k:∀ a∈As,H' a=H a):RepO K Hs' H' fl d v As:=(RepO.zE s).1 r k
theorem aA.stay (s:Same Hs Hs') (r:aA K Hs H fl ds vs As) (k:∀ a∈As,H' a=H a):aA K Hs' H' fl ds vs As:=(RepO.zE s).2 r k
theorem RepO.grow (s:Same Hs Hs') (t:Same H H') (r:RepO K Hs H fl d v As):RepO K Hs' H' fl d v As :=
  r.stay s fun a h=>by
    cases e:H a with
    | none=>exact absurd e (r.own a h).ne
    | some o=>exact t a o e
theorem aA.grow (s:Same Hs Hs') (t:Same H H') (r:aA K Hs H fl ds vs As):aA K Hs' H' fl ds vs As :=
  r.stay s fun a h=>by
    cases e:H a with
    | none=>exact absurd e (r.own a h).ne
    | some o=>exact t a o e
theorem RepO.rep2 {G:Hp} (s:Same Hs G):(∀ {d:D} {v:V} {As:List Addr},RepO K Hs H fl d v As->(∀ a∈As,G a=H a)->Rep K G d v)/\∀ {ds:List D} {vs:List V} {As:List Addr},aA K Hs H fl ds vs As->(∀ a∈As,G a=H a)->Reps K G ds vs :=
  RepO.ind (m1:=fun d v As=>(∀ a∈As,G a=H a)->Rep K G d v) (m2:=fun ds vs As=>(∀ a∈As,G a=H a)->Reps K G ds vs) (fun _ _ _ r _=>r.same s)
    (fun _ _ _ _ z e _ ih k=>.list z (.inl (.inl ((k _ xac).trans e))) (ih fun a h=>k a (xaa _ h))) (fun _ _ _ _ z e n _ ih k=>.tup z (s _ _ e) (ih k)) (fun _ _ _ _ z e _ ih k=>.dK z (.inl ((k _ xac).trans e)) (ih fun a h=>k a (xaa _ h)))
    (fun _ _ _ _ z e _ ih k=>.dT z (.inl ((k _ xac).trans e)) (ih fun a h=>k a (xaa _ h))) (fun _=>.nil) fun _ _ _ _ _ _ _ _ i1 i2 k=>.cons (i1 fun a h=>k a (xam _ h)) (i2 fun a h=>k a (xad _ h))
theorem RepO.rep (s:Same Hs G) (r:RepO K Hs H fl d v As) (k:∀ a∈As,G a=H a):Rep K G d v:=(RepO.rep2 s).1 r k
theorem aA.reps (s:Same Hs G) (r:aA K Hs H fl ds vs As) (k:∀ a∈As,G a=H a):Reps K G ds vs:=(RepO.rep2 s).2 r k
theorem Rep.tH (t:∀ a vs,H a=some (.tup vs)->G a=some (.tup vs)):(∀ {d:D} {v:V},Rep K H d v->d.flat=true->Rep K G d v)/\∀ {ds:List D} {vs:List V},Reps K H ds vs->flats ds=true->Reps K G ds vs :=
  Rep.ind (m1:=fun d v=>d.flat=true->Rep K G d v) (m2:=fun ds vs=>flats ds=true->Reps K G ds vs) (fun _=>.non) (fun b _=>.bl b) (fun i _=>.int i) (fun _ h _=>.str h) (fun _ _ _ _ _ _ _ f=>by simp [D.flat] at f) (fun _ _ _ z e _ ih f=>.tup z (t _ _ e) (ih (by simpa [D.flat] using f)))
    (fun _ _ _ _ _ _ _ f=>by simp [D.flat] at f) (fun _ _ _ _ _ _ _ f=>by simp [D.flat] at f) (fun _=>.nil) fun _ _ _ _ _ _ i1 i2 f=>by
      simp only [flats,xas] at f
      exact .cons (i1 f.1) (i2 f.2)
theorem Rep.gC (t:∀ a vs,H a=some (.tup vs)->G a=some (.tup vs)) (r:Rep K H d v) (f:d.flat=true):Rep K G d v:=(Rep.tH t).1 r f
theorem Reps.gC (t:∀ a vs,H a=some (.tup vs)->G a=some (.tup vs)) (r:Reps K H ds vs) (f:flats ds=true):Reps K G ds vs:=(Rep.tH t).2 r f
theorem Reps.owned (r:Reps K Hs ds vs) (f:flats ds=true):aA K Hs H fl ds vs [] :=
  Reps.ind (m:=fun ds vs=>flats ds=true->aA K Hs H fl ds vs []) (fun _=>.nil) (fun _ _ _ _ h _ ih f=>by
    simp only [flats,xas] at f
    exact .cons (As:=[]) (.sh (fun _=>f.1) h) (ih f.2)) r f
theorem Reps.zz (r:Reps K Hs ds vs):aA K Hs H false ds vs [] :=
  Reps.ind (m:=fun ds vs=>aA K Hs H false ds vs []) .nil (fun _ _ _ _ h _ ih=>.cons (As:=[]) (.sh (fun z=>Bool.noConfusion z) h) ih) r
theorem RepO.fls2:(∀ {d:D} {v:V} {As:List Addr},RepO K Hs H fl d v As->RepO K Hs H false d v As)/\∀ {ds:List D} {vs:List V} {As:List Addr},aA K Hs H fl ds vs As->aA K Hs H false ds vs As :=
  RepO.ind (fun _ _ _ r=>.sh (fun z=>Bool.noConfusion z) r) (fun _ _ _ _ z e _ ih=>.list z e ih) (fun _ _ _ _ z e n _ ih=>.tup z e n ih) (fun _ _ _ _ z e _ ih=>.dK z e ih) (fun _ _ _ _ z e _ ih=>.dT z e ih) .nil fun _ _ _ _ _ _ _ _ a b=>.cons a b
theorem RepO.fls (r:RepO K Hs H fl d v As):RepO K Hs H false d v As:=RepO.fls2.1 r
theorem aA.fls (r:aA K Hs H fl ds vs As):aA K Hs H false ds vs As:=RepO.fls2.2 r
theorem RepO.wZ (t:∀ a vs,Hs a=some (.tup vs)->G a=some (.tup vs)):(∀ {d:D} {v:V} {As:List Addr},RepO K Hs H true d v As->RepO K G H true d v As)/\∀ {ds:List D} {vs:List V} {As:List Addr},aA K Hs H true ds vs As->aA K G H true ds vs As :=
  RepO.ind (fun _ _ f r=>.sh f (r.gC t (f rfl))) (fun _ _ _ _ z e _ ih=>.list z e ih) (fun _ _ _ _ z e n _ ih=>.tup z (t _ _ e) n ih) (fun _ _ _ _ z e _ ih=>.dK z e ih) (fun _ _ _ _ z e _ ih=>.dT z e ih) .nil fun _ _ _ _ _ _ _ _ a b=>.cons a b
theorem RepO.leaves (t:∀ a vs,Hs a=some (.tup vs)->G a=some (.tup vs)) (r:RepO K Hs H true d v As):RepO K G H true d v As:=(RepO.wZ t).1 r
theorem aA.ind {m:List D->List V->List Addr->Prop} (hn:m [] [] []) (hc:∀ d v ds vs As Bs,RepO K Hs H fl d v As->aA K Hs H fl ds vs Bs->m ds vs Bs->m (d :: ds) (v :: vs) (As++Bs)):∀ {ds vs As},aA K Hs H fl ds vs As->m ds vs As :=
  fun r=>(RepO.ind (m1:=fun _ _ _=>True) (m2:=m) (fun _ _ _ _=>trivial) (fun _ _ _ _ _ _ _ _=>trivial) (fun _ _ _ _ _ _ _ _ _=>trivial) (fun _ _ _ _ _ _ _ _=>trivial) (fun _ _ _ _ _ _ _ _=>trivial) hn fun d v ds vs As Bs r s _ b=>hc d v ds vs As Bs r s b).2 r
theorem aA.append (r:aA K Hs H fl ds vs As) (t:aA K Hs H fl es ws Bs):aA K Hs H fl (ds++es) (vs++ws) (As++Bs) :=
  aA.ind (m:=fun ds vs As=>aA K Hs H fl (ds++es) (vs++ws) (As++Bs)) t (fun _ _ _ _ _ _ h _ ih=>by
    rw [List.append_assoc]
    exact .cons h ih) r
theorem aA.n0 (h:aA K Hs H fl [] vs As):vs=[]/\As=[]:=by cases h; exact ⟨rfl,rfl⟩
theorem aA.c (h:aA K Hs H fl (d :: ds) vs As):∃ u us A B,vs=u :: us/\As=A++B/\RepO K Hs H fl d u A/\aA K Hs H fl ds us B:=by
  cases h with
  | cons r rs=>exact ⟨_,_,_,_,rfl,rfl,r,rs⟩
theorem aA.length (r:aA K Hs H fl ds vs As):ds.length=vs.length :=
  aA.ind (m:=fun ds vs _=>ds.length=vs.length) rfl (fun _ _ _ _ _ _ _ _ ih=>by rw [xaP,xaP,ih]) r
end

inductive Sl where
  /-- shared; owned; owned and walked by a loop just now (at a) -/
  | sh (d:D) | ow (fl:Bool) (d:D) | lk (a:Addr) (fl:Bool) (d:D)
  /-- an exception,at a -/
  | xc (a:Addr)
abbrev Env:=List (Option Sl)
inductive SR (K:PySem.W.Frag) (Hs H:Hp):Env->St->List Addr->Prop
  | nil:SR K Hs H [] [] []
  | non {ρ:Env} {σ:St} {tot:List Addr} {o:Option V}:SR K Hs H ρ σ tot->SR K Hs H (none :: ρ) (o :: σ) tot
  | sh {ρ:Env} {σ:St} {tot:List Addr} {d:D} {v:V}:Rep K Hs d v->SR K Hs H ρ σ tot->SR K Hs H (some (.sh d) :: ρ) (some v :: σ) tot
  | xc {ρ:Env} {σ:St} {tot:List Addr} {a:Addr}:SR K Hs H ρ σ tot->SR K Hs H (some (.xc a) :: ρ) (some (.ref a) :: σ) tot
  | ow {ρ:Env} {σ:St} {tot As:List Addr} {fl:Bool} {d:D} {v:V}:As≠[]->RepO K Hs H fl d v As->SR K Hs H ρ σ tot->SR K Hs H (some (.ow fl d) :: ρ) (some v :: σ) (As++tot)
  | lk {ρ:Env} {σ:St} {tot As:List Addr} {a:Addr} {fl:Bool} {d:D}:As≠[]->RepO K Hs H fl d (.ref a) As->SR K Hs H ρ σ tot->SR K Hs H (some (.lk a fl d) :: ρ) (some (.ref a) :: σ) (As++tot)
structure Wf (Hs H:Hp):Prop where
  sub:Same Hs H
  tups:∀ a vs,H a=some (.tup vs)->Hs a=some (.tup vs)
structure SRel (K:PySem.W.Frag) (Hs:Hp) (ρ:Env) (σ:St) (H:Hp) (tot:List Addr):Prop where
  sr:SR K Hs H ρ σ tot
  wf:Wf Hs H
  nod:tot.Nodup
  own:∀ a∈tot,Hs a=none
structure Grow (Hs H Hs' H':Hp):Prop where
  all:Same H H'
  sh:Same Hs Hs'
  wf:Wf Hs' H'
  new:∀ a,Hs' a≠none->Hs a≠none\/H a=none
section
variable {K:PySem.W.Frag} {Hs H Hs' H' Hs'' H'':Hp}
theorem Grow.refl (w:Wf Hs H):Grow Hs H Hs H:=⟨Same.refl _,Same.refl _,w,fun _ h=>.inl h⟩
theorem Grow.trans (a:Grow Hs H Hs' H') (b:Grow Hs' H' Hs'' H''):Grow Hs H Hs'' H'' :=
  ⟨a.all.trans b.all,a.sh.trans b.sh,b.wf,fun c h=>by
    rcases b.new c h with h | h
    · exact a.new c h
    · exact .inr (a.all.free h)⟩
theorem Grow.hsn (g:Grow Hs H Hs' H') (h:Hs a=none) (h':H a≠none):Hs' a=none:=by
  cases e:Hs' a with
  | none=>rfl
  | some o =>
    rcases g.new a (by rw [e]; exact fun z=>nomatch z) with z | z
    · exact absurd h z
    · exact absurd z h'
theorem SR.own {ρ:Env} {σ:St} {tot:List Addr} (s:SR K Hs H ρ σ tot):∀ a∈tot,Own H a:=by
  induction s with
  | nil=>exact fun a h=>mem0 h
  | non _ ih=>exact ih
  | sh _ _ ih=>exact ih
  | xc _ ih=>exact ih
  | ow _ r _ ih=>exact fun a h=>(xaf.mp h).elim (r.own a) (ih a)
  | lk _ r _ ih=>exact fun a h=>(xaf.mp h).elim (r.own a) (ih a)
theorem SR.stay (s:Same Hs Hs') (r:SR K Hs H ρ σ tot):(∀ a∈tot,H' a=H a)->SR K Hs' H' ρ σ tot:=by
  induction r with
  | nil=>exact fun _=>.nil
  | non _ ih=>exact fun k=>.non (ih k)
  | sh h _ ih=>exact fun k=>.sh (h.same s) (ih k)
  | xc _ ih=>exact fun k=>.xc (ih k)
  | ow ne h _ ih=>exact fun k=>.ow ne (h.stay s fun a m=>k a (xam _ m)) (ih fun a m=>k a (xad _ m))
  | lk ne h _ ih=>exact fun k=>.lk ne (h.stay s fun a m=>k a (xam _ m)) (ih fun a m=>k a (xad _ m))
theorem SRel.grow (r:SRel K Hs ρ σ H tot) (g:Grow Hs H Hs' H'):SRel K Hs' ρ σ H' tot :=
  ⟨r.sr.stay g.sh fun a h=>by
    cases e:H a with
    | none=>exact absurd e (r.sr.own a h).ne
    | some o=>exact g.all a o e,g.wf,r.nod,fun a h=>g.hsn (r.own a h) (r.sr.own a h).ne⟩
theorem SR.length (s:SR K Hs H ρ σ tot):ρ.length=σ.length:=by
  induction s with
  | nil=>rfl
  | non _ ih=>exact congrArg (· + 1) ih
  | sh _ _ ih=>exact congrArg (· + 1) ih
  | xc _ ih=>exact congrArg (· + 1) ih
  | ow _ _ _ ih=>exact congrArg (· + 1) ih
  | lk _ _ _ ih=>exact congrArg (· + 1) ih
def vV (K:PySem.W.Frag) (Hs H:Hp) (tot:List Addr) (sl:Sl) (v:V):Prop:=match sl with
  | .sh d=>Rep K Hs d v
  | .ow fl d=>∃ As,As≠[]/\RepO K Hs H fl d v As/\∀ a∈As,a∈tot
  | .lk a fl d=>∃ As,As≠[]/\RepO K Hs H fl d v As/\v=.ref a/\∀ a∈As,a∈tot
  | .xc a=>v=.ref a
theorem vV.mono (h:vV K Hs H tot sl v) (m:∀ a∈tot,a∈tot'):vV K Hs H tot' sl v:=by
  cases sl with
  | sh d=>exact h
  | xc a=>exact h
  | ow fl d =>
    obtain ⟨As,ne,r,q⟩:=h
    exact ⟨As,ne,r,fun a ha=>m a (q a ha)⟩
  | lk a fl d =>
    obtain ⟨As,ne,r,e,q⟩:=h
    exact ⟨As,ne,r,e,fun a ha=>m a (q a ha)⟩
theorem SR.get {ρ:Env} {σ:St} {tot:List Addr} {i:Nat} {sl:Sl} (s:SR K Hs H ρ σ tot) (e:ρ[i]? = some (some sl)):∃ v,σ[i]? = some (some v)/\vV K Hs H tot sl v:=by
  induction s generalizing i with
  | nil=>simp at e
  | non s ih =>
    cases i with
    | zero=>simp at e
    | succ i=>exact ih e
  | sh r s ih =>
    cases i with
    | zero=>simp at e; subst e; exact ⟨_,rfl,r⟩
    | succ i=>exact ih e
  | xc s ih =>
    cases i with
    | zero=>simp at e; subst e; exact ⟨_,rfl,rfl⟩
    | succ i=>exact ih e
  | ow ne r s ih =>
    cases i with
    | zero=>simp at e; subst e; exact ⟨_,rfl,_,ne,r,fun a m=>xam _ m⟩
    | succ i =>
      obtain ⟨v,e1,h⟩:=ih e
      exact ⟨v,e1,h.mono fun a m=>xad _ m⟩
  | lk ne r s ih =>
    cases i with
    | zero=>simp at e; subst e; exact ⟨_,rfl,_,ne,r,rfl,fun a m=>xam _ m⟩
    | succ i =>
      obtain ⟨v,e1,h⟩:=ih e
      exact ⟨v,e1,h.mono fun a m=>xad _ m⟩
end

inductive Md where
  | sh | ow (fl:Bool) | bo
def RM (K:PySem.W.Frag) (Hs H:Hp):Md->D->V->List Addr->Prop
  | .sh,d,v,As=>As=[]/\Rep K Hs d v
  | .ow fl,d,v,As=>RepO K Hs H fl d v As/\As≠[]
  | .bo,d,v,As=>As=[]/\Rep K H d v
inductive RMs (K:PySem.W.Frag) (Hs H:Hp):List (Md × D)->List V->List Addr->Prop
  | nil:RMs K Hs H [] [] []
  | cons {m:Md} {d:D} {v:V} {ps:List (Md × D)} {vs:List V} {As Bs:List Addr}:RM K Hs H m d v As->RMs K Hs H ps vs Bs->RMs K Hs H ((m,d) :: ps) (v :: vs) (As++Bs)
section
variable {K:PySem.W.Frag} {Hs H Hs' H':Hp}
theorem RM.own {m:Md} {d:D} {v:V} {As:List Addr} (r:RM K Hs H m d v As):∀ a∈As,Own H a:=by
  cases m with
  | sh=>obtain ⟨rfl,_⟩:=r; exact fun a h=>mem0 h
  | ow fl=>exact RepO.own r.1
  | bo=>obtain ⟨rfl,_⟩:=r; exact fun a h=>mem0 h
theorem RM.grow (r:RM K Hs H m d v As) (g:Grow Hs H Hs' H'):RM K Hs' H' m d v As:=by
  cases m with
  | sh=>exact ⟨r.1,r.2.same g.sh⟩
  | ow fl=>exact ⟨RepO.grow g.sh g.all r.1,r.2⟩
  | bo=>exact ⟨r.1,r.2.same g.all⟩
theorem RM.rep (w:Wf Hs H) (r:RM K Hs H m d v As):Rep K H d v:=by
  cases m with
  | sh=>exact r.2.same w.sub
  | ow fl=>exact RepO.rep w.sub r.1 fun _ _=>rfl
  | bo=>exact r.2
theorem RM.flat (w:Wf Hs H) (r:RM K Hs H m d v As) (f:d.flat=true):Rep K Hs d v:=(r.rep w).gC w.tups f
theorem RMs.own {ps:List (Md × D)} {vs:List V} {As:List Addr} (r:RMs K Hs H ps vs As):∀ a∈As,Own H a:=by
  induction r with
  | nil=>exact fun a h=>mem0 h
  | cons r _ ih=>exact fun a h=>(xaf.mp h).elim (r.own a) (ih a)
theorem RMs.grow (g:Grow Hs H Hs' H') {ps:List (Md × D)} (r:RMs K Hs H ps vs As):RMs K Hs' H' ps vs As:=by
  induction r with
  | nil=>exact .nil
  | cons r _ ih=>exact .cons (r.grow g) ih
theorem RMs.reps (w:Wf Hs H) {ps:List (Md × D)} (r:RMs K Hs H ps vs As):Reps K H (ps.map (·.2)) vs:=by
  induction r with
  | nil=>exact .nil
  | cons r _ ih=>exact .cons (r.rep w) ih
end

abbrev WE:=Env->(Md->D->Prop)->Prop
abbrev WT:=Env->(Bool->Prop)->Prop
abbrev WA:=Env->(List (Md × D)->Prop)->Prop
structure iG where
  nx:Env->Prop
  rt:Md->D->Prop
  bk:Env->Prop:=fun _=>False
  ct:Env->Prop:=fun _=>False
abbrev WS:=iG->Env->Prop

def cG (Hs' H:Hp) (As:List Addr):Prop:=As.Nodup/\∀ a∈As,Hs' a=none/\H a=none
def tpE (K:PySem.W.Frag) (t:WE):TE:=fun σ H Qv=>∃ Hs ρ tot Q,SRel K Hs ρ σ H tot/\t ρ Q /\
  ∀ v H' Hs' m d As,Grow Hs H Hs' H'->RM K Hs' H' m d v As->cG Hs' H As->Q m d->Qv v H'
def tpT (K:PySem.W.Frag) (t:WT):TT:=fun σ H Qv=>∃ Hs ρ tot Q,SRel K Hs ρ σ H tot/\t ρ Q/\∀ b H' Hs',Grow Hs H Hs' H'->Q b->Qv b H'
def tpA (K:PySem.W.Frag) (t:WA):TA:=fun σ H Qv=>∃ Hs ρ tot Q,SRel K Hs ρ σ H tot/\t ρ Q /\
  ∀ vs H' Hs' ps As,Grow Hs H Hs' H'->RMs K Hs' H' ps vs As->cG Hs' H As->Q ps->Qv vs H'
def tpS (K:PySem.W.Frag) (L:Str->Hp->Prop) (t:WS):TS:=fun D σ H=>∃ Hs ρ tot E,SRel K Hs ρ σ H tot/\t E ρ /\
  (∀ σ' H' Hs' ρ' tot',Same Hs Hs'->SRel K Hs' ρ' σ' H' tot'->E.nx ρ'->D.nx σ' H') /\
  (∀ σ' H' Hs' ρ' tot',Same Hs Hs'->SRel K Hs' ρ' σ' H' tot'->E.bk ρ'->D.bk σ' H') /\
  (∀ σ' H' Hs' ρ' tot',Same Hs Hs'->SRel K Hs' ρ' σ' H' tot'->E.ct ρ'->D.ct σ' H') /\
  (∀ v H' Hs' m d As,Same Hs Hs'->Wf Hs' H'->RM K Hs' H' m d v As->As.Nodup->(∀ a∈As,Hs' a=none)->E.rt m d->D.rt v H') /\
  ∀ n H',Same Hs H'->E.rt (.ow false) (.str n)->L n H'
theorem gJ {K:PySem.W.Frag} {L:Str->Hp->Prop} {t:WS} {D:Ends} {σ:St} {H:Hp} {G:Prop} (x:tpS K L t D σ H) (k:∀ Hs ρ tot E,SRel K Hs ρ σ H tot->t E ρ ->
  (∀ σ' H' Hs' ρ' tot',Same Hs Hs'->SRel K Hs' ρ' σ' H' tot'->E.nx ρ'->D.nx σ' H') ->
  (∀ σ' H' Hs' ρ' tot',Same Hs Hs'->SRel K Hs' ρ' σ' H' tot'->E.bk ρ'->D.bk σ' H') ->
  (∀ σ' H' Hs' ρ' tot',Same Hs Hs'->SRel K Hs' ρ' σ' H' tot'->E.ct ρ'->D.ct σ' H') ->
  (∀ v H' Hs' m d As,Same Hs Hs'->Wf Hs' H'->RM K Hs' H' m d v As->As.Nodup->(∀ a∈As,Hs' a=none)->E.rt m d->D.rt v H') ->
  (∀ n H',Same Hs H'->E.rt (.ow false) (.str n)->L n H')->G):G :=
  by
  obtain ⟨Hs,ρ,tot,E,sr,h,k1,k2,k3,k4,kx⟩:=x
  exact k Hs ρ tot E sr h k1 k2 k3 k4 kx
theorem eF {K:PySem.W.Frag} {L:Str->Hp->Prop} {t:WS} {D:Ends} {σ:St} {H:Hp} {G:Prop} (x:tpS K L t D σ H) (k:∀ Hs ρ tot E,SRel K Hs ρ σ H tot->t E ρ ->
  (∀ σ' H' Hs' ρ' tot',Same Hs Hs'->SRel K Hs' ρ' σ' H' tot'->E.nx ρ'->D.nx σ' H') ->
  (∀ σ' H' Hs' ρ' tot',Same Hs Hs'->SRel K Hs' ρ' σ' H' tot'->E.bk ρ'->D.bk σ' H') ->
  (∀ σ' H' Hs' ρ' tot',Same Hs Hs'->SRel K Hs' ρ' σ' H' tot'->E.ct ρ'->D.ct σ' H') ->
  (∀ v H' Hs' m d As,Same Hs Hs'->Wf Hs' H'->RM K Hs' H' m d v As->As.Nodup->(∀ a∈As,Hs' a=none)->E.rt m d->D.rt v H')->G):G :=
  gJ x fun Hs ρ tot E sr h k1 k2 k3 k4 _=>k Hs ρ tot E sr h k1 k2 k3 k4
theorem ex4 {α β γ δ:Type _} {A B C:α->β->γ->δ->Prop} {G:Prop} (x:∃ a b c d,A a b c d/\B a b c d/\C a b c d) (k:∀ a b c d,A a b c d->B a b c d->C a b c d->G):G :=
  by
  obtain ⟨a,b,c,d,p,q,r⟩:=x
  exact k a b c d p q r
abbrev QE (X:Cx) (K:PySem.W.Frag) (e:Expr) (t:WE):Prop:=PE X e (tpE K t)
abbrev QT (X:Cx) (K:PySem.W.Frag) (e:Expr) (t:WT):Prop:=PT X e (tpT K t)
abbrev QW (X:Cx) (K:PySem.W.Frag) (e:Expr) (t:WT):Prop:=PW X e (tpT K t)
abbrev QA (X:Cx) (K:PySem.W.Frag) (es:List Expr) (t:WA):Prop:=PA X es (tpA K t)
abbrev QS (X:Cx) (K:PySem.W.Frag) (L:Str->Hp->Prop) (st:Stmt) (t:WS):Prop:=PS X st (tpS K L t)
abbrev QSs (X:Cx) (K:PySem.W.Frag) (L:Str->Hp->Prop) (st:List Stmt) (t:WS):Prop:=PSs X st (tpS K L t)
abbrev L0:Str->Hp->Prop:=fun _ _=>True
end L2.Q


namespace L2.Q
open PySem PySem.Spec PyProof.Rows

structure Kt {α:Type} (f:α->Prop):Type where
def onK {α:Type} (a:α) {f:α->Prop} (_:Kt f):Prop:=f a
mutual
def D.py:D->PyData
  | .non=>.none
  | .bl b=>.bool b
  | .int i=>.int i
  | .str x=>.str x
  | .list xs=>.list (pys xs)
  | .tup xs=>.tuple (pys xs)
  | .dK _=>.none
  | .dT _=>.none
def pys:List D->List PyData
  | []=>[]
  | x :: xs=>x.py :: pys xs
end
def okD:Nat->D->Bool
  | _,.non=>true
  | _,.bl _=>true
  | _,.int _=>true
  | _,.str x=>PyData.strOk x
  | n+1,.list xs=>xs.all (okD n)
  | n+1,.tup xs=>xs.all (okD n)
  | _,_=>false
def eqD (x y:D):Bool:=PyData.eqv x.py y.py
def D.ty:D->String
  | .non => "NoneType"
  | .bl _ => "bool"
  | .int _ => "int"
  | .str _ => "str"
  | .list _ => "list"
  | .tup _ => "tuple"
  | .dK _ => "dict"
  | .dT _ => "dict"
def D.key1:D->Option Key
  | .int i=>some (.inl i)
  | .str x=>some (.inr x)
  | _=>none
def jO:List D->Option (List Key)
  | []=>some []
  | x :: xs=>match x.key1,jO xs with
    | some k,some ks=>some (k :: ks)
    | _,_=>none
section
variable {κ:Type} [DecidableEq κ] {β:Type}
def getG (kvs:List (κ × β)) (k:κ):Option β:=(kvs.find? fun kv=>decide (kv.1=k)).map (·.2)
end
theorem Rep.l22 {K:PySem.W.Frag}:(∀ {d:D} {v:V},Rep K H d v->∀ n,okD n d=true->L2.Rep K H d.py v)/\∀ {ds:List D} {vs:List V},Reps K H ds vs->∀ n,(∀ d∈ds,okD n d=true)->L2.Reps K H (pys ds) vs :=
  Rep.ind (m1:=fun d v=>∀ n,okD n d=true->L2.Rep K H d.py v) (m2:=fun ds vs=>∀ n,(∀ d∈ds,okD n d=true)->L2.Reps K H (pys ds) vs) (fun _ _=>.none) (fun b _ _=>.bool b) (fun i _ _=>.int i) (fun _ _ _ _=>.str _)
    (fun _ _ _ _ h _ ih n o=>by
      cases n with
      | zero=>simp [okD] at o
      | succ n=>exact .list h (ih n (by simpa [okD] using o)))
    (fun _ _ _ _ h _ ih n o=>by
      cases n with
      | zero=>simp [okD] at o
      | succ n=>exact .tuple (.inl (.inl h)) (ih n (by simpa [okD] using o)))
    (fun _ _ _ _ _ _ _ n o=>by cases n <;> simp [okD] at o) (fun _ _ _ _ _ _ _ n o=>by cases n <;> simp [okD] at o) (fun _ _=>.nil)
    fun _ _ _ _ _ _ i1 i2 n o=>.cons (i1 n (o _ xac)) (i2 n fun d m=>o d (xaa _ m))
theorem Rep.l2 {K:PySem.W.Frag} (r:Rep K H d v) (o:okD n d=true):L2.Rep K H d.py v:=Rep.l22.1 r n o
theorem uf (ih:∀ d,okD n d=true->d.py.canLay0=true/\d.py.depth<=n) (xs:List D) (h:∀ x∈xs,okD n x=true):PyData.canLayAll0 (pys xs)=true/\PyData.depthAll (pys xs)<=n:=by
  induction xs with
  | nil=>exact ⟨rfl,xaC _⟩
  | cons x xs ih2 =>
    have h1:=ih x (h x xac)
    have h2:=ih2 fun y hy=>h y (xaa _ hy)
    simp only [pys,PyData.canLayAll0,PyData.depthAll,h1.1,h2.1,Bool.and_self,true_and]
    lia
theorem qj (n:Nat):∀ (d:D),okD n d=true->d.py.canLay0=true/\d.py.depth<=n:=by
  have st:∀ (n:Nat) (x:Str),okD n (.str x)=true->(D.str x).py.canLay0=true/\(D.str x).py.depth<=n:=fun n x h=>by
    have h:PyData.strOk x=true:=by cases n <;> simpa [okD] using h
    exact ⟨by simpa [D.py,PyData.canLay0] using h,xaC _⟩
  induction n with
  | zero =>
    intro d h
    cases d with
    | str x=>exact st _ x h
    | non=>exact ⟨rfl,xaC _⟩
    | bl _=>exact ⟨rfl,xaC _⟩
    | int _=>exact ⟨rfl,xaC _⟩
    | _=>simp [okD] at h
  | succ n ih =>
    intro d h
    cases d with
    | str x=>exact st _ x h
    | non=>exact ⟨rfl,xaC _⟩
    | bl _=>exact ⟨rfl,xaC _⟩
    | int _=>exact ⟨rfl,xaC _⟩
    | list xs =>
      have h:∀ x∈xs,okD n x=true:=by simpa [okD] using h
      have:=uf ih xs h
      simp only [D.py,PyData.canLay0,PyData.depth]
      exact ⟨this.1,by lia⟩
    | tup xs =>
      have h:∀ x∈xs,okD n x=true:=by simpa [okD] using h
      have:=uf ih xs h
      simp only [D.py,PyData.canLay0,PyData.depth]
      exact ⟨this.1,by lia⟩
    | dK _=>simp [okD] at h
    | dT _=>simp [okD] at h
mutual
def D.nb:D->Bool
  | .bl _=>false
  | .list xs=>nbs xs
  | .tup xs=>nbs xs
  | .dK _=>false
  | .dT _=>false
  | _=>true
def nbs:List D->Bool
  | []=>true
  | x :: xs=>x.nb && nbs xs
end
mutual
theorem sO:∀ (x y:D),x.nb=true->y.nb=true->(eqD x y=true↔x=y)
  | .non,y,_,hy=>by cases y <;> simp_all [eqD,D.py,PyData.eqv,D.nb]
  | .bl _,y,hx,_=>by simp [D.nb] at hx
  | .int i,y,_,hy=>by cases y <;> simp_all [eqD,D.py,PyData.eqv,D.nb]
  | .str i,y,_,hy=>by cases y <;> simp_all [eqD,D.py,PyData.eqv,D.nb]
  | .dK _,y,hx,_=>by simp [D.nb] at hx
  | .dT _,y,hx,_=>by simp [D.nb] at hx
  | .list xs,y,hx,hy=>by
    cases y with
    | list ys =>
      have:=lQ xs ys (by simpa [D.nb] using hx) (by simpa [D.nb] using hy)
      simp only [eqD,D.py,PyData.eqv,D.list.injEq]
      exact this
    | _=>simp_all [eqD,D.py,PyData.eqv,D.nb]
  | .tup xs,y,hx,hy=>by
    cases y with
    | tup ys =>
      have:=lQ xs ys (by simpa [D.nb] using hx) (by simpa [D.nb] using hy)
      simp only [eqD,D.py,PyData.eqv,D.tup.injEq]
      exact this
    | _=>simp_all [eqD,D.py,PyData.eqv,D.nb]
theorem lQ:∀ (xs ys:List D),nbs xs=true->nbs ys=true->(PyData.eqvAll (pys xs) (pys ys)=true↔xs=ys)
  | [],[],_,_=>by simp [pys,PyData.eqvAll]
  | [],_ :: _,_,_=>by simp [pys,PyData.eqvAll]
  | _ :: _,[],_,_=>by simp [pys,PyData.eqvAll]
  | x :: xs,y :: ys,hx,hy=>by
    simp only [nbs,xas] at hx hy
    have h1:=sO x y hx.1 hy.1
    have h2:=lQ xs ys hx.2 hy.2
    simp only [pys,PyData.eqvAll,xas,List.cons.injEq]
    exact and_congr h1 h2
end
section
variable {K:PySem.W.Frag} {H:Hp}
theorem Rep.key (r:Rep K H d v) (h:d.key1=some k):v=kV k:=by
  cases r <;> simp [D.key1] at h <;> subst h <;> rfl
theorem Reps.keys (r:Reps K H ds vs) (h:jO ds=some ks):vs=ks.map kV:=by
  induction ds generalizing vs ks with
  | nil=>simp [jO] at h; subst h; exact r.n0
  | cons d ds ih =>
    obtain ⟨u,us,rfl,r,rs⟩:=r.c
    unfold jO at h
    cases e1:d.key1 with
    | none=>rw [e1] at h; simp at h
    | some k =>
      cases e2:jO ds with
      | none=>rw [e1,e2] at h; simp at h
      | some ks' =>
        rw [e1,e2] at h
        simp at h
        subst h
        rw [xaD,r.key e1,ih rs e2]
theorem Rep.keyT (r:Rep K H (.tup ds) v) (h:jO ds=some ks):∃ b,v=.ref b/\H b=some (.tup (ks.map kV)):=by
  cases r with
  | tup _ e rs=>exact ⟨_,rfl,by rw [e,rs.keys h]⟩
end
section
variable {κ:Type} [DecidableEq κ] {K:PySem.W.Frag} {H:Hp}
theorem zip_get {k:κ} {kvs:List (κ × D)} {vs:List V} (h:Reps K H (kvs.map (·.2)) vs):match getG kvs k with
    | some d=>∃ v,valV ((kvs.map (·.1)).zip vs) k=some v/\Rep K H d v
    | none=>valV ((kvs.map (·.1)).zip vs) k=none:=by
  induction kvs generalizing vs with
  | nil=>rfl
  | cons p kvs ih =>
    obtain ⟨u,us,rfl,r,rs⟩:=Reps.c (d:=p.2) h
    by_cases e:p.1=k
    · have e1:getG (p :: kvs) k=some p.2:=by simp [getG,e]
      rw [e1]
      exact ⟨_,by simp only [xaD,List.zip_cons_cons]; exact valV_pos e,r⟩
    · have e1:getG (p :: kvs) k=getG kvs k:=by simp [getG,e]
      rw [e1]
      have:=ih rs
      simp only [xaD,List.zip_cons_cons,valV_neg (p:=(p.1,_)) e]
      exact this
end

section
variable {K:PySem.W.Frag} {Hs H:Hp}
theorem newL (w:Wf Hs H) (hp:H p=none) (ho:∀ vs,o≠.tup vs):Grow Hs H Hs (upd H p o) :=
  ⟨(Same.refl H).upd hp,Same.refl _,⟨w.sub.upd hp,fun a vs e=>by
    by_cases h:a=p
    · subst h; rw [upd_same] at e; exact absurd (Option.some.inj e) (ho vs)
    · rw [upd_ne h] at e; exact w.tups a vs e⟩,fun _ h=>.inl h⟩
theorem newT (w:Wf Hs H) (hp:H p=none):Grow Hs H (upd Hs p (.tup vs)) (upd H p (.tup vs)) :=
  ⟨(Same.refl H).upd hp,(Same.refl Hs).upd (w.sub.free hp),⟨fun a o e=>by
    by_cases h:a=p
    · subst h; rw [upd_same] at e ⊢; exact e
    · rw [upd_ne h] at e ⊢; exact w.sub a o e,fun a vs e=>by
    by_cases h:a=p
    · subst h; rw [upd_same] at e ⊢; exact e
    · rw [upd_ne h] at e ⊢; exact w.tups a vs e⟩,fun a h=>by
    by_cases e:a=p
    · subst e; exact .inr hp
    · rw [upd_ne e] at h; exact .inl h⟩
theorem cG.nil:cG Hs H []:=⟨xaA,fun a h=>nomatch h⟩
theorem cG.of (s:Same H H') (f:cG Hs H' As):cG Hs H As:=⟨f.1,fun a h=>⟨(f.2 a h).1,s.free (f.2 a h).2⟩⟩
abbrev Fin (K:PySem.W.Frag) (Hs H:Hp) (Qd:Md->D->Prop) (Qv:VK):Prop:=∀ v H' Hs' m d As,Grow Hs H Hs' H'->RM K Hs' H' m d v As->cG Hs' H As->Qd m d->Qv v H'
theorem Fin.after (f:Fin K Hs H Qd Qv) (g:Grow Hs H Hs' H'):Fin K Hs' H' Qd Qv:=fun v H2 Hs2 m d As g2 r fr q=>f v H2 Hs2 m d As (g.trans g2) r (fr.of g.all) q
theorem Fin.sh (f:Fin K Hs H Qd Qv) (w:Wf Hs H) (r:Rep K Hs d v) (q:Qd .sh d):Qv v H:=f v H Hs .sh d [] (Grow.refl w) ⟨rfl,r⟩ cG.nil q
theorem Fin.flat (f:Fin K Hs H Qd Qv) (w:Wf Hs H) (r:Rep K H d v) (hf:d.flat=true) (q:Qd .sh d):Qv v H:=f.sh w (r.gC w.tups hf) q
theorem Fin.bo (f:Fin K Hs H Qd Qv) (w:Wf Hs H) (r:Rep K H d v) (q:Qd .bo d):Qv v H:=f v H Hs .bo d [] (Grow.refl w) ⟨rfl,r⟩ cG.nil q
def itm (m:Md) (d:D):Md:=match m with
  | .sh=>.sh
  | _=>bif d.flat then .sh else .bo
theorem Fin.itm (f:Fin K Hs H Qd Qv) (w:Wf Hs H) (r:Rep K H d v) (rs:m=.sh->Rep K Hs d v) (q:Qd (itm m d) d):Qv v H:=by
  cases m with
  | sh=>exact f.sh w (rs rfl) q
  | ow fl =>
    cases hf:d.flat with
    | true=>exact f.flat w r hf (by simpa [Q.itm,hf] using q)
    | false=>exact f.bo w r (by simpa [Q.itm,hf] using q)
  | bo =>
    cases hf:d.flat with
    | true=>exact f.flat w r hf (by simpa [Q.itm,hf] using q)
    | false=>exact f.bo w r (by simpa [Q.itm,hf] using q)
theorem Fin.lst (f:Fin K Hs H Qd Qv) (w:Wf Hs H) (hz:ds.length<=sizeLine) (r:Reps K H ds vs) (hf:flats ds=true) (q:Qd (.ow true) (.list ds)):∀ p,H p=none->Qv (.ref p) (upd H p (.lst vs)):=fun p hp =>
  f _ _ Hs (.ow true) (.list ds) [p] (newL w hp fun _ z=>nomatch z) ⟨.list (by rw [<- r.length]; exact hz) upd_same ((r.gC w.tups hf).owned hf),by simp⟩ ⟨by simp,fun a h=>by
    obtain rfl:a=p:=by simpa using h
    exact ⟨w.sub.free hp,hp⟩⟩ q
theorem Fin.lstS (f:Fin K Hs H Qd Qv) (w:Wf Hs H) (hz:ds.length<=sizeLine) (r:Reps K Hs ds vs) (q:Qd (.ow false) (.list ds)):∀ p,H p=none->Qv (.ref p) (upd H p (.lst vs)):=fun p hp =>
  f _ _ Hs (.ow false) (.list ds) [p] (newL w hp fun _ z=>nomatch z) ⟨.list (by rw [<- r.length]; exact hz) upd_same r.zz,by simp⟩ ⟨by simp,fun a h=>by
    obtain rfl:a=p:=by simpa using h
    exact ⟨w.sub.free hp,hp⟩⟩ q
theorem Fin.tup (f:Fin K Hs H Qd Qv) (w:Wf Hs H) (hz:ds.length<=sizeLine) (r:Reps K H ds vs) (hf:flats ds=true) (q:Qd .sh (.tup ds)):∀ p,H p=none->Qv (.ref p) (upd H p (.tup vs)):=fun p hp =>
  f _ _ (upd Hs p (.tup vs)) .sh (.tup ds) [] (newT w hp) ⟨rfl,.tup (by rw [<- r.length]; exact hz) upd_same ((r.gC w.tups hf).same ((Same.refl Hs).upd (w.sub.free hp)))⟩ cG.nil q
end

section
variable {X:Cx} {K:PySem.W.Frag}
theorem PE.imp (h:PE X e te) (i:∀ σ H Q,te' σ H Q->te σ H Q):PE X e te':=fun pins s σ H Q I q=>h pins s σ H Q I (i σ H Q q)
theorem PT.imp (h:PT X e te) (i:∀ σ H Q,te' σ H Q->te σ H Q):PT X e te':=fun pins s σ H Q I q=>h pins s σ H Q I (i σ H Q q)
theorem PW.imp (h:PW X e te) (i:∀ σ H Q,te' σ H Q->te σ H Q):PW X e te':=fun wh pins s σ H Q I q=>h wh pins s σ H Q I (i σ H Q q)
theorem PA.imp (h:PA X e te) (i:∀ σ H Q,te' σ H Q->te σ H Q):PA X e te':=fun p pins s σ H Q I q=>h p pins s σ H Q I (i σ H Q q)

def useS:Option (Option Sl)->(Md->D->Prop)->Prop
  | some (some (.sh d)),Q=>Q .sh d
  | some (some (.ow _ d)),Q=>Q .bo d
  | some (some (.lk _ _ d)),Q=>Q .bo d
  | _,_=>False
def wVar (i:Nat):WE:=fun ρ Q=>useS ρ[i]? Q
theorem Cw (h:PE X e (tVar i)):QE X K e (wVar i):=by
  refine PE.imp h fun σ H Qv hx=>ex4 hx fun Hs ρ tot Q sr h f=>?_
  unfold wVar at h
  cases e:ρ[i]? with
  | none=>rw [e] at h; exact h.elim
  | some o =>
    cases o with
    | none=>rw [e] at h; exact h.elim
    | some sl =>
      obtain ⟨v,e1,r⟩:=sr.sr.get e
      rw [e] at h
      cases sl with
      | sh d=>exact ⟨v,e1,Fin.sh f sr.wf r h⟩
      | xc a=>exact h.elim
      | ow fl d =>
        obtain ⟨As,_,r,_⟩:=r
        exact ⟨v,e1,Fin.bo f sr.wf (r.rep sr.wf.sub fun _ _=>rfl) h⟩
      | lk a fl d =>
        obtain ⟨As,_,r,_⟩:=r
        exact ⟨v,e1,Fin.bo f sr.wf (r.rep sr.wf.sub fun _ _=>rfl) h⟩
theorem qv (i:Nat) (hN:X.N[i]? = some x:=by rfl) (hv:Vis X.env.scope x:=by first | exact Or.inl rfl | exact Or.inr (Or.inl rfl) | exact Or.inr (Or.inr rfl)) (hd:(x == ("__debug__" : Str))=false:=by decide)
    (hcd:(x == ("__classdict__" : Str))=false:=by decide):QE X K (.Name x pos) (wVar i):=Cw (pe_var hN hv hd hcd)
def wC (d:D):WE:=fun _ Q=>Q .sh d
theorem qU (h:PE X e (tC v)) (r:∀ H,Rep K H d v):QE X K e (wC d) :=
  PE.imp h fun σ H Qv hx=>ex4 hx fun Hs ρ tot Q sr h f=>Fin.sh f sr.wf (r _) h
theorem aq {i j pos}:QE X K (.Constant (.int i) j pos) (wC (.int i)):=qU pe_int fun _=>.int i
theorem aH {i j pos} (h:i.length<=sizeLine:=by decide):QE X K (.Constant (.str i) j pos) (wC (.str i)):=qU pe_str fun _=>.str h
theorem q_bl {i j pos}:QE X K (.Constant (.bool i) j pos) (wC (.bl i)):=qU pe_bl fun _=>.bl i
theorem vC {j pos}:QE X K (.Constant .none j pos) (wC .non):=qU pe_non fun _=>.non
theorem q_gs (h:GlS X.mg x z) (hg:Gl X x:=by rfl) (hd:(x == ("__debug__" : Str))=false:=by decide) (hz:z.length<=sizeLine:=by decide):QE X K (.Name x pos) (wC (.str z)):=qU (Cm h hg hd) fun _=>.str hz
theorem q_gi (h:GlI X.mg x i) (hg:Gl X x:=by rfl) (hd:(x == ("__debug__" : Str))=false:=by decide):QE X K (.Name x pos) (wC (.int i)):=qU (Dc h hg hd) fun _=>.int i

abbrev W2:=Md->D->Md->D->(Md->D->Prop)->Prop
abbrev W1:=Md->D->(Md->D->Prop)->Prop
def Br2 (K:PySem.W.Frag) (r:R2) (f:W2):Prop:=∀ Hs H m x v As n y u Bs Qd Qv,Wf Hs H->RM K Hs H m x v As->RM K Hs H n y u Bs->f m x n y Qd->Fin K Hs H Qd Qv->r v u H Qv
def Br1 (K:PySem.W.Frag) (r:V->Hp->VK->Prop) (f:W1):Prop:=∀ Hs H m x v As Qd Qv,Wf Hs H->RM K Hs H m x v As->f m x Qd->Fin K Hs H Qd Qv->r v H Qv
def wOp (f:W2) (ta tb:WE):WE:=fun ρ Q=>ta ρ fun m x=>tb ρ fun n y=>f m x n y Q
def wUn (f:W1) (ta:WE):WE:=fun ρ Q=>ta ρ fun m x=>f m x Q
variable {a b:Expr} {ta tb tc:WE} {pos:Pos}
theorem jh (br:Br2 K r f) (σ:St) (H:Hp) (Qv:VK) (h:tpE K (wOp f ta tb) σ H Qv):tOp r (tpE K ta) (tpE K tb) σ H Qv:=by
  obtain ⟨Hs,ρ,tot,Q,sr,h,fin⟩:=h
  refine ⟨Hs,ρ,tot,_,sr,h,fun v H1 Hs1 m x As g1 r1 f1 q1=>⟨Hs1,ρ,tot,_,sr.grow g1,q1,fun u H2 Hs2 n y Bs g2 r2 f2 q2=>?_⟩⟩
  exact br Hs2 H2 m x v As n y u Bs Q Qv g2.wf (r1.grow g2) r2 q2 (Fin.after fin (g1.trans g2))
theorem q_op (ho:OpR X (binaryOp op) r) (br:Br2 K r f) (ha:QE X K a ta) (hb:QE X K b tb):QE X K (.BinOp a op b pos) (wOp f ta tb):=PE.imp (pe_op ho ha hb) (jh br)
theorem q_un (ho:UnR X (unaryOp op) r) (br:Br1 K r f) (ha:QE X K a ta):QE X K (.UnaryOp op a pos) (wUn f ta):=by
  refine PE.imp (pe_un ho ha) fun σ H Qv hx=>ex4 hx fun Hs ρ tot Q sr h fin=>?_
  exact ⟨Hs,ρ,tot,_,sr,h,fun v H1 Hs1 m x As g1 r1 f1 q1=>br Hs1 H1 m x v As Q Qv g1.wf r1 q1 (Fin.after fin g1)⟩
theorem nq (ho:OpR X (compareOp op) r) (br:Br2 K r f) (ha:QE X K a ta) (hb:QE X K b tb) (hm:behindInMarks op b=false):QE X K (.Compare a [op] [b] pos) (wOp f ta tb):=PE.imp (pe_cmpR ho ha hb hm) (jh br)
def wB (t:WE):WT:=fun ρ Q=>t ρ fun _ x=>match x with
  | .bl b=>Q b
  | _=>False
theorem vA (σ:St) (H:Hp) (Qv:Bool->Hp->Prop) (h:tpT K (wB t) σ H Qv):tTest (tpE K t) σ H Qv:=by
  obtain ⟨Hs,ρ,tot,Q,sr,h,fin⟩:=h
  refine ⟨Hs,ρ,tot,_,sr,h,fun v H1 Hs1 m x As g1 r1 f1 q1=>?_⟩
  have r:=r1.rep g1.wf
  cases r with
  | bl b=>exact ⟨b,rfl,fin b H1 Hs1 g1 q1⟩
  | _=>exact q1.elim
theorem bx (ho:OpR X (compareOp op) r) (br:Br2 K r f) (ha:QE X K a ta) (hb:QE X K b tb) (hm:behindInMarks op b=false):QT X K (.Compare a [op] [b] pos) (wB (wOp f ta tb)):=by
  refine PT.imp (pt_cmpR ho ha hb hm) fun σ H Qv h=>?_
  obtain ⟨Hs,ρ,tot,Q,sr,h,fin⟩:=h
  refine jh br σ H _ ⟨Hs,ρ,tot,_,sr,h,fun v H1 Hs1 m x As g1 r1 f1 q1=>?_⟩
  have r:=r1.rep g1.wf
  cases r with
  | bl b=>exact ⟨b,rfl,fin b H1 Hs1 g1 q1⟩
  | _=>exact q1.elim
theorem iw (h:QE X K a t) (he:∀ whole,isTrue a X.env whole=(do let v <- whole; standAt a.pos; holding [v] (truthy v)):=by intro _; rfl):QT X K a (wB t):=PT.imp (pt_val h he) vA
def iz (f g:W2) (ta tb tc:WE):WE:=fun ρ Q=>ta ρ fun m x=>tb ρ fun n y=>f m x n y fun _ z=>match z with
  | .bl k=>if k=true then tc ρ fun l w=>g n y l w Q else Q .sh (.bl false)
  | _=>False
end
end L2.Q


namespace L2.Q
open PySem PySem.Spec PyProof.Rows

section
variable {X:Cx} {K:PySem.W.Frag} {a b c:Expr} {ta tb tc:WE} {pos:Pos}

theorem kW (br:Br2 K r f) (br':Br2 K r' g) (σ:St) (H:Hp) (Qv:VK) (h:tpE K (iz f g ta tb tc) σ H Qv):tChain r r' (tpE K ta) (tpE K tb) (tpE K tc) σ H Qv:=by
  obtain ⟨Hs,ρ,tot,Q,sr,h,fin⟩:=h
  refine ⟨Hs,ρ,tot,_,sr,h,fun v H1 Hs1 m x As g1 r1 f1 q1=>⟨Hs1,ρ,tot,_,sr.grow g1,q1,fun u H2 Hs2 n y Bs g2 r2 f2 q2=>?_⟩⟩
  refine br Hs2 H2 m x v As n y u Bs _ _ g2.wf (r1.grow g2) r2 q2 fun z H3 Hs3 m3 d3 As3 g3 r3 f3 q3=>?_
  have rr:=r3.rep g3.wf
  cases rr with
  | bl k =>
    refine ⟨k,rfl,?_⟩
    have fin3:Fin K Hs3 H3 Q Qv:=Fin.after fin ((g1.trans g2).trans g3)
    cases k with
    | false=>exact fin3.sh g3.wf (.bl false) q3
    | true =>
      refine ⟨Hs3,ρ,tot,_,((sr.grow g1).grow g2).grow g3,q3,fun w H4 Hs4 l z As4 g4 r4 f4 q4=>?_⟩
      exact br' Hs4 H4 n y u Bs l z w As4 Q Qv g4.wf ((r2.grow g3).grow g4) r4 q4 (Fin.after fin3 g4)
  | _=>exact q3.elim
theorem xR (ho:OpR X (compareOp op) r) (ho':OpR X (compareOp op') r') (br:Br2 K r f) (br':Br2 K r' g) (ha:QE X K a ta) (hb:QE X K b tb) (hc:QE X K c tc)
    (hm:lastMarks [op,op'] [b,c]=false:=by with_unfolding_all rfl):QE X K (.Compare a [op,op'] [b,c] pos) (iz f g ta tb tc):=PE.imp (pe_chain ho ho' ha hb hc hm) (kW br br')
theorem qw (ho:OpR X (compareOp op) r) (ho':OpR X (compareOp op') r') (br:Br2 K r f) (br':Br2 K r' g) (ha:QE X K a ta) (hb:QE X K b tb) (hc:QE X K c tc)
    (hm:lastMarks [op,op'] [b,c]=false:=by with_unfolding_all rfl):QT X K (.Compare a [op,op'] [b,c] pos) (wB (iz f g ta tb tc)):=by
  refine PT.imp (pt_chain ho ho' ha hb hc hm) fun σ H Qv h=>?_
  obtain ⟨Hs,ρ,tot,Q,sr,h,fin⟩:=h
  refine kW br br' σ H _ ⟨Hs,ρ,tot,_,sr,h,fun v H1 Hs1 m x As g1 r1 f1 q1=>?_⟩
  have r:=r1.rep g1.wf
  cases r with
  | bl b=>exact ⟨b,rfl,fin b H1 Hs1 g1 q1⟩
  | _=>exact q1.elim
def wOr (t u:WT):WT:=fun ρ Q=>t ρ fun c=>if c=true then Q true else u ρ Q
def wNot (t:WT):WT:=fun ρ Q=>t ρ fun c=>Q (!c)
variable {tA tB:WT} {rest:List Expr}
theorem qu {t u:WT} {f:Bool->TT} {σ:St} {H:Hp} {Qv:Bool->Hp->Prop} {G:Bool->(Bool->Prop)->Env->Prop}
    (h:tpT K (fun ρ Q=>t ρ fun c=>G c Q ρ) σ H Qv)
    (i:∀ c H1 Hs1 ρ tot Q,SRel K Hs1 ρ σ H1 tot->G c Q ρ->(∀ b H' Hs',Grow Hs1 H1 Hs' H'->Q b->Qv b H')->f c σ H1 Qv):tpT K t σ H fun c H1=>f c σ H1 Qv:=by
  obtain ⟨Hs,ρ,tot,Q,sr,h,fin⟩:=h
  exact ⟨Hs,ρ,tot,_,sr,h,fun c H1 Hs1 g1 q1=>i c H1 Hs1 ρ tot Q (sr.grow g1) q1 fun b H' Hs' g2=>fin b H' Hs' (g1.trans g2)⟩
theorem il (ha:QT X K a tA):QW X K (.BoolOp .Or [a] pos) tA:=pw_or1 ha
theorem lU (ha:QT X K a tA) (hb:QW X K (.BoolOp .Or (b :: rest) pos) tB):QW X K (.BoolOp .Or (a :: b :: rest) pos) (wOr tA tB):=by
  refine PW.imp (pw_or ha hb) fun σ H Qv h=>?_
  refine qu (u:=tB) (f:=fun c σ H1 Q=>if c=true then Q true H1 else tpT K tB σ H1 Q) h fun c H1 Hs1 ρ tot Q sr q fin=>?_
  cases c with
  | true=>exact fin true H1 Hs1 (Grow.refl sr.wf) q
  | false=>exact ⟨Hs1,ρ,tot,Q,sr,q,fin⟩
theorem qt_w (h:QW X K a tA):QT X K a tA:=h _
theorem fK (ha:QT X K a tA):QT X K (.UnaryOp .Not a pos) (wNot tA):=by
  refine PT.imp (pt_not ha) fun σ H Qv h=>?_
  exact qu (u:=tA) (f:=fun c σ H1 Q=>Q (!c) H1) h fun c H1 Hs1 ρ tot Q sr q fin=>fin _ H1 Hs1 (Grow.refl sr.wf) q
def jM (ta tb:WE):WE:=fun ρ Q=>ta ρ fun _ x=>match x with
  | .bl c=>if c=true then tb ρ Q else Q .sh (.bl false)
  | _=>False
def wOrV (ta tb:WE):WE:=fun ρ Q=>ta ρ fun _ x=>match x with
  | .bl c=>if c=true then Q .sh (.bl true) else tb ρ Q
  | _=>False
def vy (ta:WE):WE:=fun ρ Q=>ta ρ fun _ x=>match x with
  | .bl c=>Q .sh (.bl (!c))
  | _=>False
theorem nO {op} (h:QE X K a ta):QE X K (.BoolOp op [a] pos) ta:=pe_one h
theorem nH (ha:QE X K a ta) (hb:QE X K (.BoolOp .And (b :: rest) pos) tb):QE X K (.BoolOp .And (a :: b :: rest) pos) (jM ta tb):=by
  refine PE.imp (pe_and ha hb) fun σ H Qv hx=>ex4 hx fun Hs ρ tot Q sr h fin=>?_
  refine ⟨Hs,ρ,tot,_,sr,h,fun v H1 Hs1 m x As g1 r1 f1 q1=>?_⟩
  have r:=r1.rep g1.wf
  cases r with
  | bl c =>
    refine ⟨c,rfl,?_⟩
    cases c with
    | true=>exact ⟨Hs1,ρ,tot,Q,sr.grow g1,q1,Fin.after fin g1⟩
    | false=>exact Fin.sh (Fin.after fin g1) g1.wf (.bl false) q1
  | _=>exact q1.elim
theorem q_or (ha:QE X K a ta) (hb:QE X K (.BoolOp .Or (b :: rest) pos) tb):QE X K (.BoolOp .Or (a :: b :: rest) pos) (wOrV ta tb):=by
  refine PE.imp (pe_or ha hb) fun σ H Qv hx=>ex4 hx fun Hs ρ tot Q sr h fin=>?_
  refine ⟨Hs,ρ,tot,_,sr,h,fun v H1 Hs1 m x As g1 r1 f1 q1=>?_⟩
  have r:=r1.rep g1.wf
  cases r with
  | bl c =>
    refine ⟨c,rfl,?_⟩
    cases c with
    | true=>exact Fin.sh (Fin.after fin g1) g1.wf (.bl true) q1
    | false=>exact ⟨Hs1,ρ,tot,Q,sr.grow g1,q1,Fin.after fin g1⟩
  | _=>exact q1.elim
theorem BR (ha:QE X K a ta):QE X K (.UnaryOp .Not a pos) (vy ta):=by
  refine PE.imp (pe_not ha) fun σ H Qv hx=>ex4 hx fun Hs ρ tot Q sr h fin=>?_
  refine ⟨Hs,ρ,tot,_,sr,h,fun v H1 Hs1 m x As g1 r1 f1 q1=>?_⟩
  have r:=r1.rep g1.wf
  cases r with
  | bl c=>exact ⟨c,rfl,Fin.sh (Fin.after fin g1) g1.wf (.bl _) q1⟩
  | _=>exact q1.elim
def truD:D->Option Bool
  | .non=>some false
  | .bl b=>some b
  | .int i=>some (i != 0)
  | .str x=>some ((x.length:Int) != 0)
  | .list xs=>some !xs.isEmpty
  | .tup xs=>some !xs.isEmpty
  | .dK kvs=>none
  | .dT kvs=>none
end
end L2.Q


namespace L2.Q
open PySem PySem.Spec PyProof.Rows

def fAdd:W2:=fun m x n y Q=>match x,y with
  | .int i,.int j=>Q .sh (.int (i+j))
  | .str i,.str j=>i.length+j.length<=sizeLine/\Q .sh (.str (i++j))
  | .list xs,.list ys=>xs.length+ys.length<=sizeLine/\((flats xs=true/\flats ys=true/\Q (.ow true) (.list (xs++ys)))\/(m=.sh/\n=.sh/\Q (.ow false) (.list (xs++ys))))
  | .tup xs,.tup ys=>xs≠[]/\xs.length+ys.length<=sizeLine/\flats xs=true/\flats ys=true/\Q .sh (.tup (xs++ys))
  | _,_=>False
def int2 (P:Int->Int->(Md->D->Prop)->Prop):W2:=fun _ x _ y Q=>match x,y with
  | .int i,.int j=>P i j Q
  | _,_=>False
def is2 (P:Int->Int->(Md->D->Prop)->Prop) (S:Str->Str->(Md->D->Prop)->Prop):W2:=fun _ x _ y Q=>match x,y with
  | .int i,.int j=>P i j Q
  | .str i,.str j=>S i j Q
  | _,_=>False
def fSub:W2:=int2 fun i j Q=>Q .sh (.int (i - j))
def fMul:W2:=int2 fun i j Q=>CMul i j/\Q .sh (.int (i * j))
def fDiv:W2:=int2 fun i j Q=>(0<j/\j<1073741824)/\Q .sh (.int (i / j))
def fMod:W2:=int2 fun i j Q=>0<j/\Q .sh (.int (i % j))
def fPow:W2:=int2 fun i j Q=>CPow i j/\Q .sh (.int (i ^ j.toNat))
def fLt:W2:=is2 (fun i j Q=>Q .sh (.bl (decide (i<j)))) fun i j Q=>Q .sh (.bl (ltS i j))
def fLe:W2:=is2 (fun i j Q=>Q .sh (.bl (decide (i<=j)))) fun i j Q=>Q .sh (.bl (!ltS j i))
def fGt:W2:=int2 fun i j Q=>Q .sh (.bl (decide (j<i)))
def fEq:W2:=fun _ x _ y Q=>match x,y with
  | .int i,.int j=>Q .sh (.bl (decide (i=j)))
  | .str i,.str j=>Q .sh (.bl (decide (i=j)))
  | .bl i,.bl j=>Q .sh (.bl (decide (i=j)))
  | _,_=>okD 12 x=true/\okD 12 y=true/\Q .sh (.bl (eqD x y))
def fNe:W2:=fun _ x _ y Q=>match x,y with
  | .int i,.int j=>Q .sh (.bl (!decide (i=j)))
  | .str i,.str j=>Q .sh (.bl (!decide (i=j)))
  | .bl i,.bl j=>Q .sh (.bl (!decide (i=j)))
  | _,_=>okD 12 x=true/\okD 12 y=true/\Q .sh (.bl (!eqD x y))
def D.isN:D->Bool
  | .non=>true
  | _=>false
def fD:D->Bool
  | .non=>true
  | .bl _=>true
  | .int _=>true
  | .str _=>true
  | _=>false
def inD (x:D) (ys:List D):Bool:=ys.any fun y=>eqD y x
def fIn (neg:Bool):W2:=fun _ x _ y Q=>match y with
  | .str j=>match x with
    | .str i=>Q .sh (.bl (if neg then !inS i j else inS i j))
    | _=>False
  | .list ys=>fD x=true/\ys.all fD=true/\Q .sh (.bl (if neg then !inD x ys else inD x ys))
  | .tup ys=>fD x=true/\ys.all fD=true/\Q .sh (.bl (if neg then !inD x ys else inD x ys))
  | .dK kvs=>∃ k,x.key1=some k/\Q .sh (.bl (if neg then !(getG kvs k).isSome else (getG kvs k).isSome))
  | .dT kvs=>match x with
    | .tup xs=>∃ ks,jO xs=some ks/\Q .sh (.bl (if neg then !(getG kvs ks).isSome else (getG kvs ks).isSome))
    | _=>False
  | _=>False

section
variable {K:PySem.W.Frag}
theorem Br2.flatV (h:∀ Hs H m x v As n y u Bs Qd Qv,Wf Hs H->RM K Hs H m x v As->RM K Hs H n y u Bs->f m x n y Qd->Fin K Hs H Qd Qv->r v u H Qv):Br2 K r f:=h
theorem uN (f:Fin K Hs H Qd Qv) (w:Wf Hs H) (h:x.length<=sizeLine) (q:Qd .sh (.str x)):Qv (.str x) H:=f.sh w (.str h) q
theorem bV (i j:Str):(i++j).length=i.length+j.length:=by
  show ((i++j).cps.size)=_
  show (i.cps++j.cps).size=_
  simp [Str.length]
theorem zF:Br2 K (fun x y H Q=>vm K x y H Q\/rCatT K x y H Q) fAdd:=by
  intro Hs H m x v As n y u Bs Qd Qv w rx ry h f
  have r1:=rx.rep w
  have r2:=ry.rep w
  unfold fAdd at h
  cases r1 with
  | int i=>cases r2 with
    | int j=>exact .inl (f.sh w (.int _) h)
    | _=>exact h.elim
  | str hi=>cases r2 with
    | str hj=>exact .inl ⟨h.1,uN f w (by rw [bV]; exact h.1) h.2⟩
    | _=>exact h.elim
  | list z1 s1 q1=>cases r2 with
    | list z2 s2 q2 =>
      have l1:=q1.length
      have l2:=q2.length
      have hz:=h.1
      rcases h.2 with ⟨f1,f2,q⟩ | ⟨rfl,rfl,q⟩
      · refine .inl ⟨_,_,s1,s2,by lia,?_⟩
        exact f.lst w (by rw [xaz]; exact hz) (q1.append q2) (by rw [dZ,f1,f2]; rfl) q
      · obtain ⟨_,rx⟩:=rx
        obtain ⟨_,ry⟩:=ry
        cases rx with
        | list z1' s1' q1'=>cases ry with
          | list z2' s2' q2' =>
            have l1:=q1'.length
            have l2:=q2'.length
            refine .inl ⟨_,_,Same.seq w.sub s1',Same.seq w.sub s2',by lia,?_⟩
            exact f.lstS w (by rw [xaz]; exact hz) (q1'.append q2') q
    | _=>exact h.elim
  | tup t1 s1 q1=>cases r2 with
    | tup t2 s2 q2 =>
      have l1:=q1.length
      have l2:=q2.length
      obtain ⟨hne,hz,f1,f2,q⟩:=h
      refine .inr ⟨_,_,_,_,rfl,rfl,.inl (.inl s1),.inl (.inl s2),?_,by lia,?_⟩
      · intro e
        subst e
        exact hne (List.length_eq_zero_iff.mp l1)
      · refine ⟨fun e=>?_,fun _=>f.tup w (by rw [xaz]; exact hz) (q1.append q2) (by rw [dZ,f1,f2]; rfl) q⟩
        subst e
        cases q2
        rw [xay] at q
        exact f.flat w (.tup t1 s1 q1) (by simpa [D.flat] using f1) q
    | _=>exact h.elim
  | _=>exact h.elim

theorem wM {H:Hp} {x y:D} {v u:V} {m n:Md} {P:Int->Int->(Md->D->Prop)->Prop} {S:Str->Str->(Md->D->Prop)->Prop} {Q:Md->D->Prop} {G:Prop} (r1:Rep K H x v) (r2:Rep K H y u) (h:is2 P S m x n y Q) (k:∀ i j,v=.int i->u=.int j->P i j Q->G) (ks:∀ i j,v=.str i->u=.str j->S i j Q->G):G:=by
  cases r1 with
  | int i=>cases r2 with
    | int j=>exact k i j rfl rfl h
    | _=>exact h.elim
  | str hi=>cases r2 with
    | str hj=>exact ks _ _ rfl rfl h
    | _=>exact h.elim
  | _=>exact h.elim
theorem gZ {H:Hp} {x y:D} {v u:V} {m n:Md} {P:Int->Int->(Md->D->Prop)->Prop} {Q:Md->D->Prop} {G:Prop} (r1:Rep K H x v) (r2:Rep K H y u) (h:int2 P m x n y Q) (k:∀ i j,v=.int i->u=.int j->P i j Q->G):G:=by
  cases r1 with
  | int i=>cases r2 with
    | int j=>exact k i j rfl rfl h
    | _=>exact h.elim
  | _=>exact h.elim
theorem zq:Br2 K zf fSub:=by
  intro Hs H m x v As n y u Bs Qd Qv w rx ry h f
  exact gZ (rx.rep w) (ry.rep w) h fun i j e1 e2 q=>by
    subst e1 e2
    exact f.sh w (.int _) q
theorem zH:Br2 K xm fMul:=by
  intro Hs H m x v As n y u Bs Qd Qv w rx ry h f
  exact gZ (rx.rep w) (ry.rep w) h fun i j e1 e2 q=>by
    subst e1 e2
    exact ⟨q.1,f.sh w (.int _) q.2⟩
theorem zM:Br2 K zb fDiv:=by
  intro Hs H m x v As n y u Bs Qd Qv w rx ry h f
  exact gZ (rx.rep w) (ry.rep w) h fun i j e1 e2 q=>by
    subst e1 e2
    exact ⟨q.1,f.sh w (.int _) q.2⟩
theorem zB:Br2 K yU fMod:=by
  intro Hs H m x v As n y u Bs Qd Qv w rx ry h f
  exact gZ (rx.rep w) (ry.rep w) h fun i j e1 e2 q=>by
    subst e1 e2
    exact ⟨q.1,f.sh w (.int _) q.2⟩
theorem Ai:Br2 K zg fPow:=by
  intro Hs H m x v As n y u Bs Qd Qv w rx ry h f
  exact gZ (rx.rep w) (ry.rep w) h fun i j e1 e2 q=>by
    subst e1 e2
    exact ⟨q.1,f.sh w (.int _) q.2⟩
theorem Bv:Br2 K rGtU fGt:=by
  intro Hs H m x v As n y u Bs Qd Qv w rx ry h f
  exact gZ (rx.rep w) (ry.rep w) h fun i j e1 e2 q=>by
    subst e1 e2
    exact f.sh w (.bl _) q
theorem xj:Br2 K rLtU fLt:=by
  intro Hs H m x v As n y u Bs Qd Qv w rx ry h f
  exact wM (rx.rep w) (ry.rep w) h (fun i j e1 e2 q=>by
    subst e1 e2
    exact f.sh w (.bl _) q) fun i j e1 e2 q=>by
    subst e1 e2
    exact f.sh w (.bl _) q
theorem uH:Br2 K rLeU fLe:=by
  intro Hs H m x v As n y u Bs Qd Qv w rx ry h f
  exact wM (rx.rep w) (ry.rep w) h (fun i j e1 e2 q=>by
    subst e1 e2
    exact f.sh w (.bl _) q) fun i j e1 e2 q=>by
    subst e1 e2
    exact f.sh w (.bl _) q
theorem eq_data (w:Wf Hs H) (rx:Rep K H x v) (ry:Rep K H y u) (f:Fin K Hs H Qd Qv) (h:okD 12 x=true/\okD 12 y=true/\Qd .sh (.bl (eqD x y))):rEqD K v u H Qv:=by
  obtain ⟨h1,h2,q⟩:=h
  have l1:=qj 12 x h1
  have l2:=qj 12 y h2
  exact ⟨x.py,y.py,rx.l2 h1,ry.l2 h2,l1.1,l2.1,by lia,f.sh w (.bl _) q⟩
theorem ne_data (w:Wf Hs H) (rx:Rep K H x v) (ry:Rep K H y u) (f:Fin K Hs H Qd Qv) (h:okD 12 x=true/\okD 12 y=true/\Qd .sh (.bl (!eqD x y))):rNeD K v u H Qv:=by
  obtain ⟨h1,h2,q⟩:=h
  have l1:=qj 12 x h1
  have l2:=qj 12 y h2
  exact ⟨x.py,y.py,rx.l2 h1,ry.l2 h2,l1.1,l2.1,by lia,f.sh w (.bl _) q⟩
theorem cW:Br2 K (rEqU K) fEq:=by
  intro Hs H m x v As n y u Bs Qd Qv w rx ry h f
  have r1:=rx.rep w
  have r2:=ry.rep w
  have d:=fun h=>eq_data (Qd:=Qd) (Qv:=Qv) w r1 r2 f h
  cases r1 with
  | int i=>cases r2 with
    | int j=>exact f.sh w (.bl _) h
    | _=>exact d h
  | str i=>cases r2 with
    | str j=>exact f.sh w (.bl _) h
    | _=>exact d h
  | bl i=>cases r2 with
    | bl j=>exact f.sh w (.bl _) h
    | _=>exact d h
  | _=>exact d h
theorem Ac:Br2 K (rNeU K) fNe:=by
  intro Hs H m x v As n y u Bs Qd Qv w rx ry h f
  have r1:=rx.rep w
  have r2:=ry.rep w
  have d:=fun h=>ne_data (Qd:=Qd) (Qv:=Qv) w r1 r2 f h
  cases r1 with
  | int i=>cases r2 with
    | int j=>exact f.sh w (.bl _) h
    | _=>exact d h
  | str i=>cases r2 with
    | str j=>exact f.sh w (.bl _) h
    | _=>exact d h
  | bl i=>cases r2 with
    | bl j=>exact f.sh w (.bl _) h
    | _=>exact d h
  | _=>exact d h
theorem jl (r:Rep K H x v) (h:fD x=true):flatV v=true:=by
  cases r <;> first | rfl | (simp [fD] at h)
theorem yt (r:Rep K H x v) (s:Rep K H y u) (h:fD x=true) (g:fD y=true):eqV v u=eqD x y:=by
  cases r <;> simp [fD] at h <;> cases s <;> simp [fD] at g <;> rfl
theorem Aj (r:Rep K H x v) (h:fD x=true) (rs:Reps K H ys us) (g:ys.all fD=true):us.all flatV=true/\inV v us=inD x ys:=by
  induction ys generalizing us with
  | nil=>rw [rs.n0]; exact ⟨rfl,rfl⟩
  | cons y ys ih =>
    obtain ⟨u,us,rfl,s,ss⟩:=rs.c
    simp only [xa4,xas] at g
    obtain ⟨e1,e2⟩:=ih ss g.2
    refine ⟨by simp only [xa4,jl s g.1,e1,Bool.and_self],?_⟩
    unfold inV inD at *
    rw [xa8,xa8,e2,yt s r g.1 h]
theorem nY {κ:Type} [DecidableEq κ] {H:Hp} {k:κ} {kvs:List (κ × D)} {vs:List V} (r:Reps K H (kvs.map (·.2)) vs):(valV ((kvs.map (·.1)).zip vs) k).isSome=(getG kvs k).isSome:=by
  have:=zip_get (k:=k) r
  split at this
  · rename_i e
    obtain ⟨v,e1,_⟩:=this
    rw [e1,e]; rfl
  · rename_i e
    rw [this,e]; rfl
theorem Cz:Br2 K (rInU K neg) (fIn neg):=by
  intro Hs H m x v As n y u Bs Qd Qv w rx ry h f
  have r1:=rx.rep w
  have r2:=ry.rep w
  cases r2 with
  | str j=>cases r1 with
    | str i=>exact f.sh w (.bl _) h
    | _=>exact h.elim
  | list z s q =>
    obtain ⟨h1,h2,h3⟩:=h
    obtain ⟨e1,e2⟩:=Aj r1 h1 q h2
    have h4:=jl r1 h1
    have g:rIn K neg v (.ref _) H Qv:=⟨_,_,rfl,.inl s,h4,e1,by rw [e2]; exact f.sh w (.bl _) h3⟩
    cases r1 <;> exact .inr g
  | tup _ s q =>
    obtain ⟨h1,h2,h3⟩:=h
    obtain ⟨e1,e2⟩:=Aj r1 h1 q h2
    have h4:=jl r1 h1
    have g:rIn K neg v (.ref _) H Qv:=⟨_,_,rfl,.inr (.inl (.inl s)),h4,e1,by rw [e2]; exact f.sh w (.bl _) h3⟩
    cases r1 <;> exact .inr g
  | dK kk e q =>
    obtain ⟨k,hk,h3⟩:=h
    have ev:=r1.key hk
    subst ev
    have eg:=nY (k:=k) q
    cases k <;> exact .inl ⟨_,DGet.k' e,by rw [eg]; exact f.sh w (.bl _) h3⟩
  | dT kk e q =>
    cases r1 with
    | tup t1 e1 q1 =>
      obtain ⟨ks,hk,h3⟩:=h
      obtain ⟨b,eb,e2⟩:=Rep.keyT (.tup t1 e1 q1) hk
      cases eb
      have eg:=nY (k:=ks) q
      exact .inl ⟨_,DGet.t' e e2,by rw [eg]; exact f.sh w (.bl _) h3⟩
    | _=>exact h.elim
  | _=>exact h.elim
end
section
variable {X:Cx} {K:PySem.W.Frag} {a b:Expr} {ta tb:WE} {pos:Pos}
theorem Bm (hK:X.K=K:=by rfl):OpR X (binaryOp .Add) (fun x y H Q=>vm K x y H Q\/rCatT K x y H Q):=by subst hK; exact pQ.or op_catT
theorem gf (ha:QE X K a ta) (hb:QE X K b tb) (hK:X.K=K:=by rfl):QE X K (.BinOp a .Add b pos) (wOp fAdd ta tb):=q_op (Bm hK) zF ha hb
theorem pH (ha:QE X K a ta) (hb:QE X K b tb):QE X K (.BinOp a .Sub b pos) (wOp fSub ta tb):=q_op yo zq ha hb
theorem rH (ha:QE X K a ta) (hb:QE X K b tb):QE X K (.BinOp a .Mult b pos) (wOp fMul ta tb):=q_op xU zH ha hb
theorem gj (ha:QE X K a ta) (hb:QE X K b tb):QE X K (.BinOp a .FloorDiv b pos) (wOp fDiv ta tb):=q_op wY zM ha hb
theorem b8 (ha:QE X K a ta) (hb:QE X K b tb):QE X K (.BinOp a .Mod b pos) (wOp fMod ta tb):=q_op xJ zB ha hb
theorem Ae (ha:QE X K a ta) (hb:QE X K b tb):QE X K (.BinOp a .Pow b pos) (wOp fPow ta tb):=q_op yX Ai ha hb
def fNeg:W1:=fun _ x Q=>match x with
  | .int i=>Q .sh (.int (-i))
  | _=>False
theorem z8:Br1 K (rU fun i=>.int (-i)) fNeg:=by
  intro Hs H m x v As Qd Qv w rx h f
  have r1:=rx.rep w
  cases r1 with
  | int i=>exact ⟨i,rfl,f.sh w (.int _) h⟩
  | _=>exact h.elim
theorem v_ (ha:QE X K a ta):QE X K (.UnaryOp .USub a pos) (wUn fNeg ta):=q_un un_neg z8 ha
end
end L2.Q


namespace L2.Q
open PySem PySem.Spec PyProof.Rows

def wNil:WA:=fun _ Q=>Q []
def aj (te:WE) (t:WA):WA:=fun ρ Q=>te ρ fun m x=>t ρ fun ps=>Q ((m,x) :: ps)
def okSh:Md × D->Bool
  | (.sh,_)=>true
  | (_,d)=>d.flat
def okOw:Md × D->Bool
  | (.bo,d)=>d.flat
  | _=>true
def okFl:Md × D->Bool
  | (.ow true,_)=>true
  | (_,d)=>d.flat
def rQ (ps:List (Md × D)):Md:=bif ps.all okSh then .sh else bif ps.all okOw then .ow (ps.all okFl) else .bo
def xF (ps:List (Md × D)):Md:=bif ps.all okOw then .ow (ps.all okFl) else .bo
def wTup (t:WA):WE:=fun ρ Q=>t ρ fun ps=>ps.length<=sizeLine/\Q (rQ ps) (.tup (ps.map (·.2)))
def wLst (t:WA):WE:=fun ρ Q=>t ρ fun ps=>ps.length<=sizeLine/\Q (xF ps) (.list (ps.map (·.2)))
section
variable {X:Cx} {K:PySem.W.Frag} {e:Expr} {es:List Expr} {te:WE} {t:WA} {pos:Pos} {Hs H:Hp}
theorem ak:QA X K [] wNil:=PA.imp pa_nil fun σ H Qv hx=>ex4 hx fun Hs ρ tot Q sr h f=>f [] H Hs [] [] (Grow.refl sr.wf) .nil cG.nil h
theorem cG.app (f1:cG Hs1 H As) (o:∀ a∈As,H1 a≠none) (f2:cG Hs2 H1 Bs) (s:Same H H1) (k:∀ a,Hs1 a=none->H1 a≠none->Hs2 a=none):cG Hs2 H (As++Bs) :=
  ⟨xah.mpr ⟨f1.1,f2.1,fun a ha b hb e=>by subst e; exact o a ha (f2.2 a hb).2⟩,fun a h=>by
    rcases xaf.mp h with h | h
    · exact ⟨k a (f1.2 a h).1 (o a h),(f1.2 a h).2⟩
    · exact ⟨(f2.2 a h).1,s.free (f2.2 a h).2⟩⟩
theorem aa (ha:QE X K e te) (hr:QA X K es t) (hs:starEach (e :: es) X.env=(false,eval e X.env) :: starEach es X.env:=by rfl):QA X K (e :: es) (aj te t):=by
  refine PA.imp (pa_cons ha hr hs) fun σ H Qv hx=>ex4 hx fun Hs ρ tot Q sr h f=>?_
  refine ⟨Hs,ρ,tot,_,sr,h,fun v H1 Hs1 m x As g1 r1 f1 q1=>⟨Hs1,ρ,tot,_,sr.grow g1,q1,fun vs H2 Hs2 ps Bs g2 r2 f2 q2=>?_⟩⟩
  exact f (v :: vs) H2 Hs2 _ _ (g1.trans g2) (.cons (r1.grow g2) r2) (f1.app (fun a h=>(r1.own a h).ne) f2 g1.all fun a h1 h2=>g2.hsn h1 h2) q2
theorem RMs.sh (w:Wf Hs H) {ps:List (Md × D)} (r:RMs K Hs H ps vs As):ps.all okSh=true->Reps K Hs (ps.map (·.2)) vs:=by
  induction r with
  | nil=>exact fun _=>.nil
  | @cons m d v ps vs As Bs r rs ih =>
    intro h
    simp only [xa4,xas] at h
    refine .cons ?_ (ih h.2)
    cases m with
    | sh=>exact r.2
    | ow fl=>exact r.flat w h.1
    | bo=>exact r.flat w h.1
theorem RMs.ow (w:Wf Hs H) {ps:List (Md × D)} (r:RMs K Hs H ps vs As):ps.all okOw=true->(fl=true->ps.all okFl=true)->∃ Bs,Bs.Sublist As/\(ps.all okSh=false->Bs≠[])/\aA K Hs H fl (ps.map (·.2)) vs Bs:=by
  induction r with
  | nil=>exact fun _ _=>⟨[],xaH _,(fun z=>Bool.noConfusion z),.nil⟩
  | @cons m d v ps vs A1 Cs r rs ih =>
    intro h hf
    simp only [xa4,xas] at h hf
    obtain ⟨Bs,sb,ne,q⟩:=ih h.2 fun z=>(hf z).2
    have sk:([]++Bs).Sublist (A1++Cs):=by simpa using sb.trans (xai _ _)
    have flt:d.flat=true->okSh (m,d)=true->∃ Bs,Bs.Sublist (A1++Cs)/\(((m,d) :: ps).all okSh=false->Bs≠[])/\aA K Hs H fl (((m,d) :: ps).map (·.2)) (v :: vs) Bs:=fun hd ho =>
      ⟨[]++Bs,sk,fun z=>ne (by rw [xa4,ho] at z; simpa using z),.cons (.sh (fun _=>hd) (r.flat w hd)) q⟩
    cases m with
    | sh=>exact ⟨[]++Bs,sk,fun z=>ne (by simpa [okSh] using z),.cons (.sh (fun z=>(hf z).1) r.2) q⟩
    | bo=>exact flt h.1 h.1
    | ow b =>
      cases hd:d.flat with
      | true=>exact flt hd hd
      | false =>
        refine ⟨A1++Bs,sb.append_left _,fun _ z=>r.2 (xaX.mp z).1,.cons ?_ q⟩
        cases fl with
        | false=>exact RepO.fls r.1
        | true =>
          have:=(hf rfl).1
          cases b with
          | true=>exact r.1
          | false=>simp [okFl,hd] at this
theorem lO:∀ {ps:List (Md × D)},flats (ps.map (·.2))=true->ps.all okSh=true
  | [],_=>rfl
  | (m,d) :: ps,h=>by
    simp only [xaD,flats,xas] at h
    simp only [xa4,xas]
    exact ⟨by cases m <;> simp [okSh,h.1],lO h.2⟩
theorem aK {x1} (h:QA X K es t):QE X K (.Tuple es x1 pos) (wTup t):=by
  refine PE.imp (pe_tup h) fun σ H Qv hx=>ex4 hx fun Hs ρ tot Q sr h f=>?_
  refine ⟨Hs,ρ,tot,_,sr,h,fun vs H1 Hs1 ps As g1 r1 f1 q1=>?_⟩
  obtain ⟨hz,q⟩:=q1
  have rl:=(r1.reps g1.wf)
  have hl:=rl.length
  rw [xae] at hl
  refine ⟨by lia,fun p hp=>?_⟩
  have g2:=newT (vs:=vs) g1.wf hp
  have fin:=Fin.after f g1
  unfold rQ at q
  cases h1:ps.all okSh with
  | true =>
    rw [h1] at q
    exact fin _ _ _ .sh _ [] g2 ⟨rfl,.tup (by lia) upd_same ((r1.sh g1.wf h1).same g2.sh)⟩ cG.nil q
  | false =>
    rw [h1] at q
    cases h2:ps.all okOw with
    | false =>
      rw [h2] at q
      exact fin _ _ _ .bo _ [] g2 ⟨rfl,.tup (by lia) upd_same (rl.same g2.all)⟩ cG.nil q
    | true =>
      rw [h2] at q
      obtain ⟨Bs,sb,nz,ro⟩:=r1.ow (fl:=ps.all okFl) g1.wf h2 fun z=>z
      have hne:flats (ps.map (·.2))=false:=by
        cases hf:flats (ps.map (·.2)) with
        | false=>rfl
        | true=>rw [lO hf] at h1; cases h1
      have own:=ro.own
      refine f _ _ _ (.ow _) _ Bs (g1.trans g2) ⟨.tup (by lia) upd_same hne (ro.grow g2.sh g2.all),nz h1⟩ ⟨sb.nodup f1.1,fun a ha=>⟨?_,(f1.2 a (sb.subset ha)).2⟩⟩ q
      exact g2.hsn (f1.2 a (sb.subset ha)).1 (own a ha).ne
theorem cR (h:QA X K es t):QE X K (.List es pos) (wLst t):=by
  refine PE.imp (pe_lst h) fun σ H Qv hx=>ex4 hx fun Hs ρ tot Q sr h f=>?_
  refine ⟨Hs,ρ,tot,_,sr,h,fun vs H1 Hs1 ps As g1 r1 f1 q1=>?_⟩
  obtain ⟨hz,q⟩:=q1
  have rl:=(r1.reps g1.wf)
  have hl:=rl.length
  rw [xae] at hl
  refine ⟨by lia,fun p hp=>?_⟩
  have g2:=newL (o:=.lst vs) g1.wf hp fun _ z=>nomatch z
  have fin:=Fin.after f g1
  unfold xF at q
  cases h2:ps.all okOw with
  | false =>
    rw [h2] at q
    exact fin _ _ _ .bo _ [] g2 ⟨rfl,.list (by lia) (.inl (.inl upd_same)) (rl.same g2.all)⟩ cG.nil q
  | true =>
    rw [h2] at q
    obtain ⟨Bs,sb,nz,ro⟩:=r1.ow (fl:=ps.all okFl) g1.wf h2 fun z=>z
    have own:=ro.own
    refine f _ _ _ (.ow _) _ (p :: Bs) (g1.trans g2) ⟨.list (by lia) upd_same (ro.grow g2.sh g2.all),by simp⟩ ⟨xau.mpr ⟨fun m=>(own p m).ne hp,sb.nodup f1.1⟩,fun a ha=>?_⟩ q
    rcases xaq.mp ha with rfl | ha
    · exact ⟨g1.wf.sub.free hp,g1.all.free hp⟩
    · exact ⟨g2.hsn (f1.2 a (sb.subset ha)).1 (own a ha).ne,(f1.2 a (sb.subset ha)).2⟩
end

theorem Reps.atI {K:PySem.W.Frag} (r:Reps K H ds vs) (h:atI ds i=some d):∃ v,L2.atI vs i=some v/\Rep K H d v:=by
  unfold L2.atI at *
  rw [<- r.length]
  cases e:ixN ds.length i with
  | none=>rw [e] at h; cases h
  | some j =>
    rw [e] at h
    exact r.get h
def fIx:W2:=fun m x _ y Q=>match x with
  | .list xs=>match y with
    | .int i=>∃ d,atI xs i=some d/\onK d (f:=fun d=>Q (itm m d) d) ⟨⟩
    | _=>False
  | .tup xs=>match y with
    | .int i=>∃ d,atI xs i=some d/\onK d (f:=fun d=>Q (itm m d) d) ⟨⟩
    | _=>False
  | .str z=>match y with
    | .int i=>∃ c,atI z.cps.toList i=some c/\Q .sh (.str ⟨#[c]⟩)
    | _=>False
  | .dK kvs=>∃ k d,y.key1=some k/\getG kvs k=some d/\onK d (f:=fun d=>Q (itm m d) d) ⟨⟩
  | .dT kvs=>match y with
    | .tup ys=>∃ ks d,jO ys=some ks/\getG kvs ks=some d/\onK d (f:=fun d=>Q (itm m d) d) ⟨⟩
    | _=>False
  | _=>False
def rIxD (K:PySem.W.Frag):R2:=fun x y H Q=>rIxU K x y H Q\/∃ a v,x=.ref a/\DGet H a y (some v)/\Q v H
theorem uo (c:Nat):(⟨#[c]⟩:Str).length<=sizeLine:=by show 1<=sizeLine; decide
theorem RM.here {K:PySem.W.Frag} (w:Wf Hs H) (r:RM K Hs H m d v As):(m=.sh/\Rep K Hs d v)\/(m≠.sh/\Rep K H d v):=by
  cases m with
  | sh=>exact .inl ⟨rfl,r.2⟩
  | ow fl=>exact .inr ⟨(fun z=>nomatch z),r.rep w⟩
  | bo=>exact .inr ⟨(fun z=>nomatch z),r.2⟩
section
variable {X:Cx} {K:PySem.W.Frag}
theorem Cy:Br2 K (rIxD K) fIx:=by
  intro Hs H m x v As n y u Bs Qd Qv w rx ry h f
  have r2:=ry.rep w
  have core:∀ G:Hp,Same G H->(∀ d v,Rep K G d v->Rep K H d v/\(m=.sh->Rep K Hs d v))->Rep K G x v->rIxD K v u H Qv:=by
    intro G sg up r1
    cases r1 with
    | list z s q =>
      cases r2 with
      | int i =>
        obtain ⟨d,e,h⟩:=h
        obtain ⟨v',e',r'⟩:=q.atI e
        obtain ⟨u1,u2⟩:=up _ _ r'
        exact .inl (.inl ⟨_,v',Same.seq sg s,e',f.itm w u1 u2 h⟩)
      | _=>exact h.elim
    | tup _ s q =>
      cases r2 with
      | int i =>
        obtain ⟨d,e,h⟩:=h
        obtain ⟨v',e',r'⟩:=q.atI e
        obtain ⟨u1,u2⟩:=up _ _ r'
        exact .inl (.inr ⟨_,v',.inl (.inl (sg _ _ s)),e',f.itm w u1 u2 h⟩)
      | _=>exact h.elim
    | str hz =>
      cases r2 with
      | int i =>
        obtain ⟨c,e,h⟩:=h
        exact .inl ⟨hz,c,e,f.sh w (.str (uo c)) h⟩
      | _=>exact h.elim
    | dK kk s q =>
      obtain ⟨k,d,hk,hg,h⟩:=h
      have ev:=r2.key hk
      subst ev
      have z:=zip_get (k:=k) q
      rw [hg] at z
      obtain ⟨v',e',r'⟩:=z
      obtain ⟨u1,u2⟩:=up _ _ r'
      exact .inr ⟨_,v',rfl,by rw [<- e']; exact DGet.k' (Same.rd sg s),f.itm w u1 u2 h⟩
    | dT kk s q =>
      cases r2 with
      | tup t2 e2 q2 =>
        obtain ⟨ks,d,hk,hg,h⟩:=h
        obtain ⟨b,eb,e3⟩:=Rep.keyT (.tup t2 e2 q2) hk
        cases eb
        have z:=zip_get (k:=ks) q
        rw [hg] at z
        obtain ⟨v',e',r'⟩:=z
        obtain ⟨u1,u2⟩:=up _ _ r'
        exact .inr ⟨_,v',rfl,by rw [<- e']; exact DGet.t' (Same.rd sg s) e3,f.itm w u1 u2 h⟩
      | _=>exact h.elim
    | _=>exact h.elim
  rcases rx.here w with ⟨hm,r⟩ | ⟨hm,r⟩
  · exact core Hs w.sub (fun d v q=>And.intro (q.same w.sub) fun _=>q) r
  · exact core H (Same.refl H) (fun d v q=>And.intro q fun z=>absurd z hm) r
theorem kIxD (hu:X.A.units+64<cLine) (hK:X.K=K:=by rfl):IxR X (rIxD K):=by
  subst hK
  refine IxR.or wR ?_
  intro value slice pins s σ H x y v u Q I rx ry h hs
  obtain ⟨a,w,rfl,g,q⟩:=h
  cases rx
  exact tail_any (dict_typeIs I g) F.slot_dict_getitem.lookup (d_getItem (by lia) I g ry fun w' s3 I3 rw'=>⟨w,H,I3,rw',q⟩) hs
variable {a b:Expr} {ta tb:WE} {pos:Pos}
theorem q_ix (hu:X.A.units+64<cLine) (ha:QE X K a ta) (hb:QE X K b tb) (hs:PlainIx b:=by exact fun _ _=>rfl) (hK:X.K=K:=by rfl):QE X K (.Subscript a b pos) (wOp fIx ta tb):=PE.imp (pe_ix (kIxD hu hK) ha hb hs) (jh Cy)
end

def cutG {α:Type} (xs:List α) (lo hi:Option Int):List α:=(xs.drop (HT.sIx xs.length 0 lo)).take (HT.sIx xs.length xs.length hi - HT.sIx xs.length 0 lo)
abbrev WO:=Env->(Option Int->Prop)->Prop
def gO:WO:=fun _ Q=>Q none
def mL (t:WE):WO:=fun ρ Q=>t ρ fun _ x=>match x with
  | .int i=>Q (some i)
  | _=>False
def fSl (m:Md) (x:D) (lo hi:Option Int) (Q:Md->D->Prop):Prop:=match x with
  | .str z=>Q .sh (.str (cutS z lo hi))
  | .list xs=>(flats xs=true/\Q (.ow true) (.list (cutG xs lo hi)))\/(m=.sh/\Q (.ow false) (.list (cutG xs lo hi)))
  | .tup xs=>flats xs=true/\¬ (HT.sIx xs.length 0 lo=0/\HT.sIx xs.length xs.length hi=xs.length)/\Q .sh (.tup (cutG xs lo hi))
  | _=>False
def wSl (te:WE) (tl th:WO):WE:=fun ρ Q=>te ρ fun m x=>tl ρ fun lo=>th ρ fun hi=>fSl m x lo hi Q
def tpO (K:PySem.W.Frag) (t:WO):TO:=fun σ H Qv=>∃ Hs ρ tot Q,SRel K Hs ρ σ H tot/\t ρ Q/\∀ o H' Hs',Grow Hs H Hs' H'->Q o->Qv o H'
abbrev QO (X:Cx) (K:PySem.W.Frag) (e:Option Expr) (t:WO):Prop:=PO X e (tpO K t)
theorem vW (z:Str) (lo hi:Option Int):(cutS z lo hi).length<=z.length:=by
  unfold cutS Str.length
  simp only [xak,xaG,xaO,xaF]
  lia
theorem mU {α:Type} (xs:List α) (lo hi:Option Int):(cutG xs lo hi).length<=xs.length:=by
  unfold cutG
  rw [xaG,xaO]
  lia
theorem oN {lo hi:Option Int} (h:flats xs=true):flats (cutG xs lo hi)=true:=by
  rw [oM] at *
  intro x hx
  exact h x (xbq (xbr hx))
section
variable {X:Cx} {K:PySem.W.Frag} {e:Expr} {lo hi:Option Expr} {te:WE} {tl th:WO} {pos p2:Pos}
theorem lD:QO X K none gO:=fun pins s σ H Q I h=>po_none pins s σ H Q I (by
  obtain ⟨Hs,ρ,tot,Qd,sr,h,f⟩:=h
  exact f none H Hs (Grow.refl sr.wf) h)
theorem g8 (h:QE X K e te):QO X K (some e) (mL te):=fun pins s σ H Q I hh=>po_some h pins s σ H Q I (by
  obtain ⟨Hs,ρ,tot,Qd,sr,h,f⟩:=hh
  refine ⟨Hs,ρ,tot,_,sr,h,fun v H1 Hs1 m x As g1 r1 f1 q1=>?_⟩
  have r:=r1.rep g1.wf
  cases r with
  | int i=>exact ⟨i,rfl,f _ H1 Hs1 g1 q1⟩
  | _=>exact q1.elim)
theorem jD {lo hi:Option Int} (r:Reps K H ds vs):Reps K H (cutG ds lo hi) (cutV vs lo hi):=by
  unfold cutG cutV
  rw [r.length]
  exact (r.drop _).take _
theorem kSl2 (hK:X.K=K:=by rfl):SlR X (fun x lo hi H Q=>rSlS K x lo hi H Q\/rSlT K x lo hi H Q):=by
  subst hK
  intro pins s σ H x v vl vu lo hi sl Q I rx hs pl pu h
  rcases h with h | h
  · exact Al pins s σ H x v vl vu lo hi sl Q I rx hs pl pu h
  · exact sl_tup pins s σ H x v vl vu lo hi sl Q I rx hs pl pu h
theorem jE (he:QE X K e te) (hl:QO X K lo tl) (hh:QO X K hi th) (hK:X.K=K:=by rfl):QE X K (.Subscript e (.Slice lo hi none p2) pos) (wSl te tl th):=by
  refine PE.imp (pe_slice (kSl2 hK) he hl hh) fun σ H Qv hx=>ex4 hx fun Hs ρ tot Q sr h f=>?_
  refine ⟨Hs,ρ,tot,_,sr,h,fun v H1 Hs1 m x As g1 r1 f1 q1=>⟨Hs1,ρ,tot,_,sr.grow g1,q1,fun l H2 Hs2 g2 q2=>⟨Hs2,ρ,tot,_,(sr.grow g1).grow g2,q2,fun u H3 Hs3 g3 q3=>?_⟩⟩⟩
  have r3:=(r1.grow g2).grow g3
  have fin:Fin K Hs3 H3 Q Qv:=Fin.after f ((g1.trans g2).trans g3)
  have rr:=r3.rep g3.wf
  cases rr with
  | str hz=>exact .inl ⟨hz,fin.sh g3.wf (.str (xat (vW _ _ _) hz)) q3⟩
  | list z s q =>
    have hz:=q.length
    rcases q3 with ⟨hf,q3⟩ | ⟨rfl,q3⟩
    · exact .inl ⟨_,s,fin.lst g3.wf (xat (mU _ _ _) (by lia)) (jD q) (oN hf) q3⟩
    · obtain ⟨_,r3⟩:=r3
      cases r3 with
      | list z' s' q' =>
        have hz:=q'.length
        exact .inl ⟨_,Same.seq g3.wf.sub s',fin.lstS g3.wf (xat (mU _ _ _) (by lia)) (jD q') q3⟩
  | tup z s q =>
    have hz:=q.length
    obtain ⟨hf,hn,q3⟩:=q3
    exact .inr ⟨_,_,rfl,.inl (.inl s),by rw [<- hz]; exact hn,fin.tup g3.wf (xat (mU _ _ _) (by lia)) (jD q) (oN hf) q3⟩
  | _=>exact q3.elim
end

def fLen:W1:=fun _ x Q=>match x with
  | .str z=>Q .sh (.int z.length)
  | .list xs=>Q .sh (.int xs.length)
  | .tup xs=>Q .sh (.int xs.length)
  | .dK kvs=>Q .sh (.int kvs.length)
  | .dT kvs=>Q .sh (.int kvs.length)
  | _=>False
def fIsi (T:String):W1:=fun _ x Q=>Q .sh (.bl (isiT x.ty T))
def BrC (K:PySem.W.Frag) (r:List V->Hp->VK->Prop) (f:W1):Prop:=∀ Hs H m x v As Qd Qv,Wf Hs H->RM K Hs H m x v As->f m x Qd->Fin K Hs H Qd Qv->r [v] H Qv
section
variable {X:Cx} {K:PySem.W.Frag} {e:Expr} {te:WE} {pos p:Pos} {x:Str} {id T:String}
theorem kj (br:BrC K r f) (σ:St) (H:Hp) (Qv:VK) (h:tpE K (wUn f te) σ H Qv):tCB r (tCons (tpE K te) tNil) σ H Qv:=by
  obtain ⟨Hs,ρ,tot,Q,sr,h,fin⟩:=h
  exact ⟨Hs,ρ,tot,_,sr,h,fun v H1 Hs1 m x As g1 r1 f1 q1=>br Hs1 H1 m x v As Q Qv g1.wf r1 q1 (Fin.after fin g1)⟩
theorem bj (hc:CallR X (.builtin id) r) (br:BrC K r f) (hg:Gl X x) (hm:X.mg x=none) (hv:bootBuiltins x=some (.builtin id)) (he:QE X K e te)
    (hs:starEach [e] X.env=(false,eval e X.env) :: starEach [] X.env:=by rfl) (hn:x ≠ "__name__" := by decide) (hdb:(x == ("__debug__" : Str))=false:=by decide):QE X K (.Call (.Name x p) [e] [] pos) (wUn f te) :=
  PE.imp (pe_callB hc hg hm hv (pa_cons he pa_nil hs) hn hdb hs) (kj br)
theorem dD (hc:CallR X (.type T) r) (br:BrC K r f) (hg:Gl X x) (hm:X.mg x=none) (hv:bootBuiltins x=some (.type T)) (he:QE X K e te)
    (hs:starEach [e] X.env=(false,eval e X.env) :: starEach [] X.env:=by rfl) (hn:x ≠ "__name__" := by decide) (hdb:(x == ("__debug__" : Str))=false:=by decide):QE X K (.Call (.Name x p) [e] [] pos) (wUn f te) :=
  PE.imp (pe_callTy hc hg hm hv (pa_cons he pa_nil hs) hn hdb hs) (kj br)
theorem xP (hd:(d == sysModules)=false) (x:RawD s.heap d es ep) (hfit:(es.size:Int)<2 ^ 63)
    (h:∀ t t',Q (.int es.size t) { s with toks:=t' }):wpAny (model prog w) A (call (.builtin "len") [.ref d]) Q E s:=by
  refine Calls.call_function_entry kind_len plain_len entry_len (args_len1 _) ?_
  have mt:MeetsIn prog w (Builtin.«dict.__len__» ⟨[.ref d],[]⟩) (fun _ R s=>RawD s.heap d es ep/\R (.ok (.ret (.int es.size s.toks))) { s with toks:=s.toks+1 }):=.of_wp fun A R s hx9=>by
    obtain ⟨hm,h⟩:=hx9
    obtain ⟨o,ho,hc,hdat⟩:=hm
    show wpAny _ _ (dictSize d >>= _) _ _ s
    unfold dictSize
    refine xab (xab (wpAny_dictEntries ho hdat (xag ?_)))
    show wpAny _ _ (Builtin.Dict.pendingCount d >>= _) _ _ s
    refine xab (wpAny_pendingCount_other hd ?_)
    refine wpAny_ret_mkInt ?_
    rw [Nat.add_zero]; exact h
  unfold Builtin.«len»
  refine xab (m:=oneArg "len" _) (xag ?_)
  refine xab (m:=callSpecial? (.ref d) (Str.ofString "__len__")) (wpAny_callSpecial?_slot (name:=Str.ofString "__len__") x.typ F.slot_dict_len
    (call_meetsIn F.slot_dict_len x.typ F.entry_dict_len (F.args_dict_len_1 _) mt ⟨x,?_⟩))
  show wpAny _ _ _ _ _ { s with toks:=s.toks+1 }
  refine xab (wpAny_holding (xag ?_))
  refine xab (wpAny_letGo ?_)
  show wpAny _ _ (if ((es.size:Nat):Int)<0 then _ else _) _ _ _
  rw [if_neg (by lia)]
  show wpAny _ _ (if ((es.size:Nat):Int) >= 2 ^ 63 then _ else _) _ _ _
  rw [if_neg (by lia)]
  exact xab (wpAny_mkInt (xag ⟨_,rfl,h _ _⟩))
theorem aL (hK:X.K=K:=by rfl):CallR X (.builtin "len") (fun xs H Q=>rLen K xs H Q\/∃ a kvs,xs=[.ref a]/\Rd H a (.dT kvs)/\Q (.int kvs.length) H):=by
  subst hK
  intro pins s σ H xs us Q I r h
  rcases h with h | ⟨a,kvs,rfl,ha,q⟩
  · exact tU pins s σ H xs us Q I r h
  · obtain ⟨u,rfl,ru⟩:=Vals.one r
    cases ru
    obtain ⟨z,hd,ys,rel,o,es,ep,h1,h2,h3,h4,h5⟩:=(show ObjOk X.prog X.w H s.heap a (.dT kvs) from I.rd ha)
    have hl:es.size=kvs.length:=by
      have:=congrArg List.length h4
      rw [xaF,xae] at this
      rw [this]; exact rel.length.symm
    exact xP hd ⟨o,h1,h2,h3⟩ (by rw [sizeLine_eq] at z; lia) fun t t'=>⟨.int kvs.length,H,I.tok _,⟨t,by rw [hl]⟩,q⟩
theorem cJ:BrC K (fun xs H Q=>rLen K xs H Q\/∃ a kvs,xs=[.ref a]/\Rd H a (.dT kvs)/\Q (.int kvs.length) H) fLen:=by
  intro Hs H m x v As Qd Qv w rx h f
  have r1:=rx.rep w
  cases r1 with
  | str hz=>exact .inl ⟨hz,f.sh w (.int _) h⟩
  | list z s q=>exact .inl (.inl ⟨_,s,by rw [<- q.length]; exact f.sh w (.int _) h⟩)
  | tup _ s q=>exact .inl (.inr (.inl ⟨_,.inl (.inl s),by rw [<- q.length]; exact f.sh w (.int _) h⟩))
  | dK kk s q=>exact .inl (.inr (.inr ⟨_,s,by
      have:=q.length
      rw [xae] at this
      rw [List.length_zip,xae,<- this,Nat.min_self]
      exact f.sh w (.int _) h⟩))
  | dT kk s q=>exact .inr ⟨_,_,rfl,s,by
      have:=q.length
      rw [xae] at this
      rw [List.length_zip,xae,<- this,Nat.min_self]
      exact f.sh w (.int _) h⟩
  | _=>exact h.elim
end
end L2.Q


namespace L2.Q
open PySem PySem.Spec PyProof.Rows

section
variable {X:Cx} {K:PySem.W.Frag} {e e2:Expr} {te:WE} {pos p:Pos} {T:String}
theorem uh (hK:X.K=K:=by rfl):CallR X (.builtin "isinstance") (fun xs H Q=>∃ x d T,xs=[x,.ty T]/\Rep K H d x/\okTy T=true/\Q (.bl (isiT d.ty T)) H):=by
  subst hK
  intro pins s σ H xs us Q I r h
  obtain ⟨x,d,T,rfl,rd,hT,q⟩:=h
  obtain ⟨u,v,rfl,ru,rv⟩:=Vals.two r
  obtain rfl:v=Value.type T:=rv
  have hb:T∈["str", "int", "bool", "list", "tuple", "dict"]:=by simpa [okTy] using hT
  have fin:∀ tk,EP X pins σ Q (.bool (isiT d.ty T)) { s with toks:=tk }:=fun tk=>⟨.bl (isiT d.ty T),H,I.tok tk,rfl,q⟩
  cases rd with
  | non=>exact isinst_ok I ru .non (iy X.K _ T (by simp) hb) fin
  | bl b=>exact isinst_ok I ru (.bl b) (iy X.K _ T (by simp) hb) fin
  | int i=>exact isinst_ok I ru (.int i) (iy X.K _ T (by simp) hb) fin
  | str y=>exact isinst_ok I ru (.str _) (iy X.K _ T (by simp) hb) fin
  | list z s' q' =>
    cases ru
    obtain ⟨its,_,pl,_⟩:=I.list s'
    obtain ⟨o,h1,h2,_⟩:=pl.isList
    exact PySem.W.kia_one PySem.W.kitx_list I.kIn ⟨o,h1,h2⟩ (iy X.K "list" T (by simp) hb) (fun z=>nomatch z) fin
  | tup _ s' q'=>exact isinst_ok I ru (.tup s') (iy X.K _ T (by simp) hb) fin
  | dK _ s' q' =>
    cases ru
    obtain ⟨_,_,vs,_,p⟩:=I.rd s'
    obtain ⟨o,es,ep,h1,h2,_⟩:=p
    exact PySem.W.kia_one PySem.W.kitx_dict I.kIn ⟨o,h1,h2.1⟩ (iy X.K "dict" T (by simp) hb) (fun z=>nomatch z) fin
  | dT _ s' q' =>
    cases ru
    obtain ⟨_,_,xs,_,o,es,ep,h1,h2,_⟩:=I.rd s'
    exact PySem.W.kia_one PySem.W.kitx_dict I.kIn ⟨o,h1,h2.1⟩ (iy X.K "dict" T (by simp) hb) (fun z=>nomatch z) fin
theorem oE (hm:X.mg "isinstance" = none) (he:QE X K e te) (ht:PE X e2 (tC (.ty T))) (hT:okTy T=true:=by rfl) (hg:Gl X "isinstance" := by rfl) (hK:X.K=K:=by rfl)
    (hs:starEach (e :: [e2]) X.env=(false,eval e X.env) :: starEach [e2] X.env:=by rfl) (hs2:starEach (e2 :: []) X.env=(false,eval e2 X.env) :: starEach [] X.env:=by rfl) (hpl:(backTo pos (starEach [e2] X.env)).any (·.1)=false:=by rfl) :
    QE X K (.Call (.Name "isinstance" p) [e,e2] [] pos) (wUn (fIsi T) te):=by
  refine PE.imp (pe_callB (uh hK) hg hm dF (pa_cons he (pa_cons ht pa_nil hs2) hs) (by decide) (by decide) hs hpl) fun σ H Qv hx=>ex4 hx fun Hs ρ tot Q sr h f=>?_
  refine ⟨Hs,ρ,tot,_,sr,h,fun v H1 Hs1 m x As g1 r1 f1 q1=>⟨v,x,T,rfl,r1.rep g1.wf,hT,Fin.sh (Fin.after f g1) g1.wf (.bl _) q1⟩⟩
end
def keyD:Key->D
  | .inl i=>.int i
  | .inr x=>.str x
def pI:W1:=fun m x Q=>match x with
  | .list xs=>(flats xs=true/\Q (.ow true) (.list xs))\/(m=.sh/\Q (.ow false) (.list xs))
  | .tup xs=>(flats xs=true/\Q (.ow true) (.list xs))\/(m=.sh/\Q (.ow false) (.list xs))
  | .dT kvs=>Q (.ow true) (.list (kvs.map fun kv=>.tup (kv.1.map keyD)))
  | _=>False

section
variable {X:Cx} {K:PySem.W.Frag}
theorem qx:∀ {ks:List Key},(∀ k∈ks,kOk k=true)->Reps K H (ks.map keyD) (ks.map kV)
  | [],_=>.nil
  | k :: ks,h=>by
    refine .cons ?_ (qx fun j m=>h j (xaa _ m))
    have:=h k xac
    cases k with
    | inl i=>exact .int i
    | inr x=>exact .str (by simpa [kOk] using this)
theorem nP:∀ (ks:List Key),flats (ks.map keyD)=true
  | []=>rfl
  | k :: ks=>by simp only [xaD,flats,nP ks,Bool.and_true]; cases k <;> rfl
theorem uZ (t:gB H ys ks) (h:∀ l∈ks,l.length<=sizeLine/\∀ k∈l,kOk k=true):Reps K H (ks.map fun l=>.tup (l.map keyD)) ys:=by
  induction ys generalizing ks with
  | nil=>rw [show ks=[] from Paired.n0 t]; exact .nil
  | cons y ys ih =>
    obtain ⟨k,ks,rfl,⟨b,rfl,e⟩,t2⟩:=Paired.c t
    exact .cons (.tup (by rw [xae]; exact (h _ xac).1) e (qx (h _ xac).2)) (ih t2 fun l m=>h l (xaa _ m))
theorem n8:∀ (ks:List (List Key)),flats (ks.map fun l=>.tup (l.map keyD))=true
  | []=>rfl
  | l :: ks=>by simp only [xaD,flats,n8 ks,Bool.and_true,D.flat,nP]
theorem gK (hc:X.calm=true:=by rfl) (hK:X.K=K:=by rfl):CallR X (.type "list") (fun xs H Q=>(∃ p ys,xs=[.ref p]/\(SqL K H p ys\/SqT K H p ys)/\∀ l,H l=none->Q (.ref l) (upd H l (.lst ys)))\/qN xs H Q):=by
  subst hK; exact call_list_of.or (rF hc)
theorem pM:BrC K (fun xs H Q=>(∃ p ys,xs=[.ref p]/\(SqL K H p ys\/SqT K H p ys)/\∀ l,H l=none->Q (.ref l) (upd H l (.lst ys)))\/qN xs H Q) pI:=by
  intro Hs H m x v As Qd Qv w rx h f
  have r1:=rx.rep w
  cases r1 with
  | list z s q =>
    have hl:=q.length
    rcases h with ⟨hf,h⟩ | ⟨rfl,h⟩
    · exact .inl ⟨_,_,rfl,.inl s,f.lst w (by lia) q hf h⟩
    · obtain ⟨_,rx⟩:=rx
      cases rx with
      | list z' s' q' =>
        have hl:=q'.length
        exact .inl ⟨_,_,rfl,.inl (Same.seq w.sub s'),f.lstS w (by lia) q' h⟩
  | tup z s q =>
    have hl:=q.length
    rcases h with ⟨hf,h⟩ | ⟨rfl,h⟩
    · exact .inl ⟨_,_,rfl,.inr (.inl (.inl s)),f.lst w (by lia) q hf h⟩
    · obtain ⟨_,rx⟩:=rx
      cases rx with
      | tup z' s' q' =>
        have hl:=q'.length
        exact .inl ⟨_,_,rfl,.inr (.inl (.inl (w.sub _ _ s'))),f.lstS w (by lia) q' h⟩
  | @dT _ vs kvs kk s q =>
    refine .inr ⟨_,s,fun ys l ht hl=>?_⟩
    have hlen:=q.length
    rw [xae] at hlen
    have e:((kvs.map (·.1)).zip vs).map (·.1)=kvs.map (·.1):=List.map_fst_zip (by rw [xae]; exact Nat.le_of_eq hlen)
    rw [e] at ht
    have rr:=uZ (K:=K) ht (fun l m=>by
      obtain ⟨p,hp,rfl⟩:=xbd.mp m
      exact kk.2 p hp)
    have ff:=n8 (kvs.map (·.1))
    rw [xaQ] at rr ff
    exact f.lst w (by rw [xae]; exact kk.1) rr ff h l hl
  | _=>exact h.elim
end
end L2.Q


namespace L2.Q
open PySem PySem.Spec PyProof.Rows

section
variable {K:PySem.W.Frag} {Hs H:Hp}
theorem SR.wL (r:Rep K Hs d v) (i:Nat) (s:SR K Hs H ρ σ tot):∃ tot',tot'.Sublist tot/\SR K Hs H (ρ.set i (some (.sh d))) (σ.set i (some v)) tot':=by
  induction s generalizing i with
  | nil=>exact ⟨[],xaH _,.nil⟩
  | non s ih =>
    cases i with
    | zero=>exact ⟨_,List.Sublist.refl _,.sh r s⟩
    | succ i=>obtain ⟨t,a,b⟩:=ih i; exact ⟨t,a,.non b⟩
  | sh q s ih =>
    cases i with
    | zero=>exact ⟨_,List.Sublist.refl _,.sh r s⟩
    | succ i=>obtain ⟨t,a,b⟩:=ih i; exact ⟨t,a,.sh q b⟩
  | xc s ih =>
    cases i with
    | zero=>exact ⟨_,List.Sublist.refl _,.sh r s⟩
    | succ i=>obtain ⟨t,a,b⟩:=ih i; exact ⟨t,a,.xc b⟩
  | ow ne q s ih =>
    cases i with
    | zero=>exact ⟨_,xai _ _,.sh r s⟩
    | succ i=>obtain ⟨t,a,b⟩:=ih i; exact ⟨_,a.append_left _,.ow ne q b⟩
  | lk ne q s ih =>
    cases i with
    | zero=>exact ⟨_,xai _ _,.sh r s⟩
    | succ i=>obtain ⟨t,a,b⟩:=ih i; exact ⟨_,a.append_left _,.lk ne q b⟩
theorem oA {As tot:List Addr} (nd:As.Nodup) (n:tot.Nodup) (dj:∀ a∈As,a∉tot):(As++tot).Nodup:=xah.mpr ⟨nd,n,fun a ha b hb e=>dj a ha (e ▸ hb)⟩
theorem eY {As tot B t:List Addr} (n:(B++tot).Nodup) (dj:∀ a∈As,a∉B++tot) (a:t.Nodup) (b:∀ x∈t,x∈tot\/x∈As):(B++t).Nodup/\∀ x∈B++t,x∈B++tot\/x∈As:=by
  obtain ⟨n1,n2,n3⟩:=xah.mp n
  refine ⟨xah.mpr ⟨n1,a,fun x hx y hy e=>?_⟩,fun x hx=>?_⟩
  · subst e
    rcases b x hy with z | z
    · exact n3 x hx x z rfl
    · exact dj x z (xam _ hx)
  · rcases xaf.mp hx with z | z
    · exact .inl (xam _ z)
    · exact (b x z).imp (fun z=>xad _ z) fun z=>z
theorem SR.zG {d:D} {v:V} {fl:Bool} {As:List Addr} (ne:As≠[]) (r:RepO K Hs H fl d v As) (nd:As.Nodup) {ρ:Env} {σ:St} {tot:List Addr} (i:Nat) (s:SR K Hs H ρ σ tot):tot.Nodup->(∀ a∈As,a∉tot) ->
    ∃ tot',tot'.Nodup/\(∀ a∈tot',a∈tot\/a∈As)/\SR K Hs H (ρ.set i (some (.ow fl d))) (σ.set i (some v)) tot':=by
  induction s generalizing i with
  | nil=>exact fun n _=>⟨[],xaA,(fun a h=>mem0 h),.nil⟩
  | non s ih =>
    intro n dj
    cases i with
    | zero=>exact ⟨_,oA nd n dj,fun a h=>(xaf.mp h).symm,.ow ne r s⟩
    | succ i=>obtain ⟨t,a,b,c⟩:=ih i n dj; exact ⟨t,a,b,.non c⟩
  | sh q s ih =>
    intro n dj
    cases i with
    | zero=>exact ⟨_,oA nd n dj,fun a h=>(xaf.mp h).symm,.ow ne r s⟩
    | succ i=>obtain ⟨t,a,b,c⟩:=ih i n dj; exact ⟨t,a,b,.sh q c⟩
  | xc s ih =>
    intro n dj
    cases i with
    | zero=>exact ⟨_,oA nd n dj,fun a h=>(xaf.mp h).symm,.ow ne r s⟩
    | succ i=>obtain ⟨t,a,b,c⟩:=ih i n dj; exact ⟨t,a,b,.xc c⟩
  | ow ne' q s ih =>
    intro n dj
    obtain ⟨n1,n2,n3⟩:=xah.mp n
    have dj':=fun a ha m=>dj a ha (xad _ m)
    cases i with
    | zero=>exact ⟨_,oA nd n2 dj',fun a h=>(xaf.mp h).symm.imp (fun z=>xad _ z) fun z=>z,.ow ne r s⟩
    | succ i=>obtain ⟨t,a,b,c⟩:=ih i n2 dj'; exact ⟨_,(eY n dj a b).1,(eY n dj a b).2,.ow ne' q c⟩
  | lk ne' q s ih =>
    intro n dj
    obtain ⟨n1,n2,n3⟩:=xah.mp n
    have dj':=fun a ha m=>dj a ha (xad _ m)
    cases i with
    | zero=>exact ⟨_,oA nd n2 dj',fun a h=>(xaf.mp h).symm.imp (fun z=>xad _ z) fun z=>z,.ow ne r s⟩
    | succ i=>obtain ⟨t,a,b,c⟩:=ih i n2 dj'; exact ⟨_,(eY n dj a b).1,(eY n dj a b).2,.lk ne' q c⟩
theorem SR.yw:∀ (i:Nat),SR K Hs H ρ σ tot->∃ tot',tot'.Sublist tot/\SR K Hs H (ρ.set i none) σ tot':=by
  intro i s
  induction s generalizing i with
  | nil=>exact ⟨[],xaH _,.nil⟩
  | non s ih =>
    cases i with
    | zero=>exact ⟨_,List.Sublist.refl _,.non s⟩
    | succ i=>obtain ⟨t,a,b⟩:=ih i; exact ⟨t,a,.non b⟩
  | sh q s ih =>
    cases i with
    | zero=>exact ⟨_,List.Sublist.refl _,.non s⟩
    | succ i=>obtain ⟨t,a,b⟩:=ih i; exact ⟨t,a,.sh q b⟩
  | xc s ih =>
    cases i with
    | zero=>exact ⟨_,List.Sublist.refl _,.non s⟩
    | succ i=>obtain ⟨t,a,b⟩:=ih i; exact ⟨t,a,.xc b⟩
  | ow ne q s ih =>
    cases i with
    | zero=>exact ⟨_,xai _ _,.non s⟩
    | succ i=>obtain ⟨t,a,b⟩:=ih i; exact ⟨_,a.append_left _,.ow ne q b⟩
  | lk ne q s ih =>
    cases i with
    | zero=>exact ⟨_,xai _ _,.non s⟩
    | succ i=>obtain ⟨t,a,b⟩:=ih i; exact ⟨_,a.append_left _,.lk ne q b⟩
def asg:Md->D->Option Sl
  | .sh,d=>some (.sh d)
  | .ow fl,d=>some (.ow fl d)
  | .bo,d=>bif d.flat then some (.sh d) else none
theorem SRel.set (i:Nat) (s:SRel K Hs ρ σ H tot) (r:RM K Hs H m d v As) (nd:As.Nodup) (dj:∀ a∈As,Hs a=none/\a∉tot) (e:asg m d=some sl) :
    ∃ tot',SRel K Hs (ρ.set i (some sl)) (σ.set i (some v)) H tot':=by
  have shc:Rep K Hs d v->∃ tot',SRel K Hs (ρ.set i (some (.sh d))) (σ.set i (some v)) H tot':=fun r=>by
    obtain ⟨t,a,b⟩:=s.sr.wL r i
    exact ⟨t,b,s.wf,a.nodup s.nod,fun x hx=>s.own x (a.subset hx)⟩
  cases m with
  | sh=>cases e; exact shc r.2
  | ow fl =>
    cases e
    obtain ⟨t,a,b,c⟩:=SR.zG r.2 r.1 nd i s.sr s.nod fun a ha=>(dj a ha).2
    exact ⟨t,c,s.wf,a,fun x hx=>(b x hx).elim (s.own x) fun z=>(dj x z).1⟩
  | bo =>
    cases hf:d.flat with
    | true =>
      simp only [asg,hf,cond_true,Option.some.injEq] at e
      subst e
      exact shc (r.flat s.wf hf)
    | false=>simp [asg,hf] at e
end

section
variable {X:Cx} {K:PySem.W.Frag} {e c:Expr} {te:WE} {tc:WT} {pos:Pos} {st:Stmt} {a b rest:List Stmt} {t u:WS}
theorem PS.imp {te te':TS} (h:PS X st te) (i:∀ D σ H,te' D σ H->te D σ H):PS X st te':=fun pins s σ H D I q=>h pins s σ H D I (i D σ H q)
theorem PSs.imp {te te':TS} (h:PSs X a te) (i:∀ D σ H,te' D σ H->te D σ H):PSs X a te':=fun pins s σ H D I q=>h pins s σ H D I (i D σ H q)
def cu:WS:=fun E ρ=>E.nx ρ
def wSeq (t u:WS):WS:=fun E ρ=>t { E with nx:=u E } ρ
def wRet (te:WE):WS:=fun E ρ=>te ρ E.rt
def wSet (i:Nat) (te:WE):WS:=fun E ρ=>te ρ fun m d=>match asg m d with
  | some sl=>E.nx (ρ.set i (some sl))
  | none=>False
def wIfS (c:WT) (t u:WS):WS:=fun E ρ=>c ρ fun b=>if b=true then t E ρ else u E ρ
def lr:WS:=fun _ _=>False
theorem aO:QSs X K L [] cu:=PSs.imp pss_nil fun D σ H hx=>eF hx fun Hs ρ tot E sr h k1 _ _ _=>k1 σ H Hs ρ tot (Same.refl _) sr h
theorem vN {D:Ends} (h:tpS K L (wSeq t u) D σ H):tSeq (tpS K L t) (tpS K L u) D σ H:=by
  obtain ⟨Hs,ρ,tot,E,sr,h,k1,k2,k3,k4,kx⟩:=h
  refine ⟨Hs,ρ,tot,{ E with nx:=u E },sr,h,fun σ' H' Hs' ρ' tot' s sr' q=>?_,k2,k3,k4,kx⟩
  exact ⟨Hs',ρ',tot',E,sr',q,fun σ2 H2 Hs2 ρ2 tot2 s2=>k1 σ2 H2 Hs2 ρ2 tot2 (s.trans s2),fun σ2 H2 Hs2 ρ2 tot2 s2=>k2 σ2 H2 Hs2 ρ2 tot2 (s.trans s2),fun σ2 H2 Hs2 ρ2 tot2 s2=>k3 σ2 H2 Hs2 ρ2 tot2 (s.trans s2),
    fun v H2 Hs2 m d As s2=>k4 v H2 Hs2 m d As (s.trans s2),fun n H2 s2=>kx n H2 (s.trans s2)⟩
theorem ao (h1:QS X K L st t) (h2:QSs X K L rest u):QSs X K L (st :: rest) (wSeq t u):=PSs.imp (pss_cons h1 h2) fun D σ H h=>vN h
theorem az (h1:QS X K L st t):QSs X K L [st] t:=pss_one h1
theorem gw:QSs X K L a lr:=PSs.imp pss_never fun D σ H hx=>eF hx fun Hs ρ tot E sr h _ _ _ _=>h
theorem aY (he:QE X K e te):QS X K L (.Return (some e) pos) (wRet te):=PS.imp (ps_ret he) fun D σ H hx=>eF hx fun Hs ρ tot E sr h k1 k2 k3 k4 =>
  ⟨Hs,ρ,tot,_,sr,h,fun v H1 Hs1 m d As g1 r1 f1 q1=>k4 v H1 Hs1 m d As g1.sh g1.wf r1 f1.1 (fun a ha=>(f1.2 a ha).1) q1⟩
def vQ (i:Nat):WS:=fun E ρ=>match ρ[i]? with
  | some (some (.sh d))=>E.rt .sh d
  | some (some (.ow fl d))=>E.rt (.ow fl) d
  | _=>False
theorem SR.at {ρ:Env} {σ:St} {tot:List Addr} {i:Nat} {fl:Bool} {d:D} {Hs H:Hp} (s:SR K Hs H ρ σ tot) (e:ρ[i]? = some (some (.ow fl d))):∃ v As,σ[i]? = some (some v)/\As≠[]/\RepO K Hs H fl d v As/\As.Sublist tot:=by
  induction s generalizing i with
  | nil=>simp at e
  | non s ih =>
    cases i with
    | zero=>simp at e
    | succ i=>exact ih e
  | sh r s ih =>
    cases i with
    | zero=>simp at e
    | succ i=>exact ih e
  | xc s ih =>
    cases i with
    | zero=>simp at e
    | succ i=>exact ih e
  | ow ne r s ih =>
    cases i with
    | zero=>simp at e; obtain ⟨rfl,rfl⟩:=e; exact ⟨_,_,rfl,ne,r,xaN _ _⟩
    | succ i =>
      obtain ⟨v,As,a,b,c,d⟩:=ih e
      exact ⟨v,As,a,b,c,d.trans (xai _ _)⟩
  | lk ne r s ih =>
    cases i with
    | zero=>simp at e
    | succ i =>
      obtain ⟨v,As,a,b,c,d⟩:=ih e
      exact ⟨v,As,a,b,c,d.trans (xai _ _)⟩
theorem yh {i:Nat} (he:PE X e (tVar i)):QS X K L (.Return (some e) pos) (vQ i):=PS.imp (ps_ret he) fun D σ H hx=>eF hx fun Hs ρ tot E sr h k1 k2 k3 k4=>by
  unfold vQ at h
  split at h
  · rename_i d e1
    obtain ⟨v,e2,r⟩:=sr.sr.get e1
    exact ⟨v,e2,k4 v H Hs .sh d [] (Same.refl _) sr.wf ⟨rfl,r⟩ xaA (fun a ha=>nomatch ha) h⟩
  · rename_i fl d e1
    obtain ⟨v,As,e2,ne,r,sb⟩:=sr.sr.at e1
    exact ⟨v,e2,k4 v H Hs (.ow fl) d As (Same.refl _) sr.wf ⟨r,ne⟩ (sb.nodup sr.nod) (fun a ha=>sr.own a (sb.subset ha)) h⟩
  · exact h.elim
theorem aQ {i:Nat} {x:Str} {pos':Pos} (hN:X.N.Nodup) (hi:X.N[i]? = some x) (hx:Loc X.env.scope x) (he:QE X K e te) (hs:swapsWith e (some (.Name x pos')) pos.line X.env=pure false:=by rfl)
    (hf:X.fn x=true\/X.env.scope.names.lookup x=some .local:=by first | exact .inl rfl | exact .inr rfl | assumption):QS X K L (.Assign [.Name x pos'] e pos) (wSet i te):=PS.imp (ps_set hN hi hx he hs hf) fun D σ H hx=>eF hx fun Hs ρ tot E sr h k1 k2 k3 k4=>by
  refine ⟨Hs,ρ,tot,_,sr,h,fun v H1 Hs1 m d As g1 r1 f1 q1=>?_⟩
  have q1:match asg m d with
    | some sl=>E.nx (ρ.set i (some sl))
    | none=>False:=q1
  cases e:asg m d with
  | none=>rw [e] at q1; exact q1.elim
  | some sl =>
    rw [e] at q1
    obtain ⟨tot',s'⟩:=(sr.grow g1).set i r1 f1.1 (fun a ha=>⟨(f1.2 a ha).1,fun m=>(sr.sr.own a m).ne (f1.2 a ha).2⟩) e
    exact k1 _ H1 Hs1 _ tot' g1.sh s' q1
theorem cD (hc:QT X K c tc) (ha:QSs X K L a t) (hb:QSs X K L b u):QS X K L (.If c a b pos) (wIfS tc t u):=PS.imp (ps_if hc ha hb) fun D σ H hx=>gJ hx fun Hs ρ tot E sr h k1 k2 k3 k4 kx=>by
  refine ⟨Hs,ρ,tot,_,sr,h,fun k H1 Hs1 g1 q1=>?_⟩
  have k1':∀ σ' H' Hs' ρ' tot',Same Hs1 Hs'->SRel K Hs' ρ' σ' H' tot'->E.nx ρ'->D.nx σ' H':=fun σ2 H2 Hs2 ρ2 tot2 s2=>k1 σ2 H2 Hs2 ρ2 tot2 (g1.sh.trans s2)
  have k2':∀ σ' H' Hs' ρ' tot',Same Hs1 Hs'->SRel K Hs' ρ' σ' H' tot'->E.bk ρ'->D.bk σ' H':=fun σ2 H2 Hs2 ρ2 tot2 s2=>k2 σ2 H2 Hs2 ρ2 tot2 (g1.sh.trans s2)
  have k3':∀ σ' H' Hs' ρ' tot',Same Hs1 Hs'->SRel K Hs' ρ' σ' H' tot'->E.ct ρ'->D.ct σ' H':=fun σ2 H2 Hs2 ρ2 tot2 s2=>k3 σ2 H2 Hs2 ρ2 tot2 (g1.sh.trans s2)
  cases k with
  | true=>exact ⟨Hs1,ρ,tot,E,sr.grow g1,q1,k1',k2',k3',(fun v H2 Hs2 m d As s2=>k4 v H2 Hs2 m d As (g1.sh.trans s2)),fun n H2 s2=>kx n H2 (g1.sh.trans s2)⟩
  | false=>exact ⟨Hs1,ρ,tot,E,sr.grow g1,q1,k1',k2',k3',(fun v H2 Hs2 m d As s2=>k4 v H2 Hs2 m d As (g1.sh.trans s2)),fun n H2 s2=>kx n H2 (g1.sh.trans s2)⟩

def frzH (Hs H:Hp) (As:List Addr):Hp:=fun a=>if a∈As then H a else Hs a
theorem qM (n:∀ a∈As,Hs a=none):Same Hs (frzH Hs H As):=fun a o e=>by
  unfold frzH
  rw [if_neg fun m=>by rw [n a m] at e; cases e]
  exact e
theorem Af (w:Wf Hs H) (o:∀ a∈As,Own H a):Wf (frzH Hs H As) H:=⟨fun a u e=>by
    unfold frzH at e
    by_cases m:a∈As
    · rw [if_pos m] at e; exact e
    · rw [if_neg m] at e; exact w.sub a u e,fun a vs e=>by
    unfold frzH
    rw [if_neg fun m=>(o a m).wI e]
    exact w.tups a vs e⟩
def shS:Sl->Sl
  | .sh d=>.sh d
  | .ow _ d=>.sh d
  | .lk a fl d=>.lk a fl d
  | .xc a=>.xc a
def shC:Sl->Sl
  | .sh d=>.sh d
  | .ow _ d=>.sh d
  | .lk _ _ d=>.sh d
  | .xc a=>.xc a
def frzE (i:Nat) (ρ:Env):Env:=match ρ[i]? with
  | some (some sl)=>ρ.set i (some (shS sl))
  | _=>ρ
theorem mO {As tot B t:List Addr} (n:(B++tot).Nodup) (a:As.Sublist tot) (c:∀ x∈As,x∉t):∀ x∈As,x∉B++t:=fun x hx m=>by
  obtain ⟨n1,n2,n3⟩:=xah.mp n
  rcases xaf.mp m with z | z
  · exact n3 x z x (a.subset hx) rfl
  · exact c x hx z
theorem SR.frz (i:Nat) (s:SR K Hs H ρ σ tot):ρ[i]? = some (some (.ow fl d))->tot.Nodup ->
    ∃ (As tot':List Addr),As.Sublist tot/\tot'.Sublist tot/\(∀ a∈As,a∉tot')/\∀ Hs',Same Hs Hs'->(∀ a∈As,Hs' a=H a)->SR K Hs' H (ρ.set i (some (.sh d))) σ tot':=by
  induction s generalizing i with
  | nil=>intro e; simp at e
  | non q ih =>
    intro e n
    cases i with
    | zero=>simp at e
    | succ i =>
      obtain ⟨As,t,a,b,c,d⟩:=ih i e n
      exact ⟨As,t,a,b,c,fun Hs' s k=>.non (d Hs' s k)⟩
  | sh r q ih =>
    intro e n
    cases i with
    | zero=>simp at e
    | succ i =>
      obtain ⟨As,t,a,b,c,d⟩:=ih i e n
      exact ⟨As,t,a,b,c,fun Hs' s k=>.sh (r.same s) (d Hs' s k)⟩
  | xc q ih =>
    intro e n
    cases i with
    | zero=>simp at e
    | succ i =>
      obtain ⟨As,t,a,b,c,d⟩:=ih i e n
      exact ⟨As,t,a,b,c,fun Hs' s k=>.xc (d Hs' s k)⟩
  | ow ne r q ih =>
    intro e n
    obtain ⟨n1,n2,n3⟩:=xah.mp n
    cases i with
    | zero =>
      simp at e
      obtain ⟨rfl,rfl⟩:=e
      exact ⟨_,_,xaN _ _,xai _ _,fun a h m=>n3 a h a m rfl,fun Hs' s k=>.sh (r.rep s k) (q.stay s fun _ _=>rfl)⟩
    | succ i =>
      obtain ⟨As,t,a,b,c,d⟩:=ih i e n2
      exact ⟨As,_,a.trans (xai _ _),b.append_left _,mO n a c,fun Hs' s k=>.ow ne (r.stay s fun _ _=>rfl) (d Hs' s k)⟩
  | lk ne r q ih =>
    intro e n
    obtain ⟨n1,n2,n3⟩:=xah.mp n
    cases i with
    | zero=>simp at e
    | succ i =>
      obtain ⟨As,t,a,b,c,d⟩:=ih i e n2
      exact ⟨As,_,a.trans (xai _ _),b.append_left _,mO n a c,fun Hs' s k=>.lk ne (r.stay s fun _ _=>rfl) (d Hs' s k)⟩
theorem SRel.frz (i:Nat) (s:SRel K Hs ρ σ H tot):∃ Hs' tot',Same Hs Hs'/\SRel K Hs' (frzE i ρ) σ H tot':=by
  unfold frzE
  split
  · rename_i sl e
    have keep:shS sl=sl->∃ Hs' tot',Same Hs Hs'/\SRel K Hs' (ρ.set i (some (shS sl))) σ H tot':=fun hs=>by
      have e2:ρ.set i (some (shS sl))=ρ:=by
        apply List.ext_getElem?
        intro j
        rw [List.getElem?_set]
        by_cases h:i=j
        · subst h
          rw [if_pos rfl,e]
          have:i<ρ.length:=(xaw.mp e).1
          simp [this,hs]
        · rw [if_neg h]
      rw [e2]
      exact ⟨Hs,tot,Same.refl _,s⟩
    cases sl with
    | sh d=>exact keep rfl
    | xc a=>exact keep rfl
    | lk a fl d=>exact keep rfl
    | ow fl d =>
      obtain ⟨As,t,a,b,c,g⟩:=SR.frz i s.sr e s.nod
      have hn:∀ a∈As,Hs a=none:=fun x hx=>s.own x (a.subset hx)
      have ho:∀ a∈As,Own H a:=fun x hx=>s.sr.own x (a.subset hx)
      refine ⟨frzH Hs H As,t,qM hn,g _ (qM hn) fun x hx=>by unfold frzH; rw [if_pos hx],Af s.wf ho,b.nodup s.nod,fun x hx=>?_⟩
      unfold frzH
      rw [if_neg fun m=>c x m hx]
      exact s.own x (b.subset hx)
  · exact ⟨Hs,tot,Same.refl _,s⟩
def wFrz (i:Nat) (t:WS):WS:=fun E ρ=>t E (frzE i ρ)
theorem u_ {D:Ends} (h:tpS K L (wFrz i t) D σ H):tpS K L t D σ H:=by
  obtain ⟨Hs,ρ,tot,E,sr,h,k1,k2,k3,k4,kx⟩:=h
  obtain ⟨Hs',tot',s,sr'⟩:=sr.frz i
  exact ⟨Hs',_,tot',E,sr',h,fun σ2 H2 Hs2 ρ2 tot2 s2=>k1 σ2 H2 Hs2 ρ2 tot2 (s.trans s2),fun σ2 H2 Hs2 ρ2 tot2 s2=>k2 σ2 H2 Hs2 ρ2 tot2 (s.trans s2),fun σ2 H2 Hs2 ρ2 tot2 s2=>k3 σ2 H2 Hs2 ρ2 tot2 (s.trans s2),
    fun v H2 Hs2 m d As s2=>k4 v H2 Hs2 m d As (s.trans s2),fun n H2 s2=>kx n H2 (s.trans s2)⟩
theorem oJ (i:Nat) (h:QS X K L st t):QS X K L st (wFrz i t):=PS.imp h fun D σ H h=>u_ h

def ju (Hs1 H1 Hs' H':Hp):Hp:=fun a=>match H' a with
  | some (.tup vs)=>some (.tup vs)
  | _=>match H1 a with
    | none=>Hs' a
    | some _=>Hs1 a
theorem du (w:Wf Hs1 H1) (s:Same H1 Hs') (w':Wf Hs' H'):Grow Hs1 H1 (ju Hs1 H1 Hs' H') H':=by
  have sa:Same H1 H':=s.trans w'.sub
  have tp:∀ a vs,H' a=some (.tup vs)->ju Hs1 H1 Hs' H' a=some (.tup vs):=fun a vs e=>by unfold ju; rw [e]
  have nt:∀ a,(∀ vs,H' a≠some (.tup vs))->ju Hs1 H1 Hs' H' a=match H1 a with
    | none=>Hs' a
    | some _=>Hs1 a:=fun a h=>by
    unfold ju
    split
    · rename_i vs e; exact absurd e (h vs)
    · rfl
  refine ⟨sa,fun a o e=>?_,⟨fun a o e=>?_,tp⟩,fun a h=>?_⟩
  · have e1:=w.sub a o e
    have e2:=sa a o e1
    by_cases ht:∃ vs,o=.tup vs
    · obtain ⟨vs,rfl⟩:=ht
      exact tp a vs e2
    · rw [nt a fun vs z=>ht ⟨vs,by rw [e2] at z; exact Option.some.inj z⟩,e1]
      exact e
  · by_cases ht:∃ vs,H' a=some (.tup vs)
    · obtain ⟨vs,z⟩:=ht
      rw [tp a vs z] at e
      rw [z]; exact e
    · rw [nt a fun vs z=>ht ⟨vs,z⟩] at e
      cases q:H1 a with
      | none=>rw [q] at e; exact w'.sub a o e
      | some u =>
        rw [q] at e
        have:=w.sub a o e
        exact sa a o this
  · cases q:H1 a with
    | none=>exact .inr rfl
    | some u =>
      refine .inl ?_
      by_cases ht:∃ vs,H' a=some (.tup vs)
      · obtain ⟨vs,z⟩:=ht
        have:=sa a u q
        rw [z] at this
        cases this
        rw [w.tups a vs q]
        exact fun z=>nomatch z
      · rw [nt a fun vs z=>ht ⟨vs,z⟩,q] at h
        exact h
theorem sH {Hs1 H1 Hs' H':Hp} {a:Addr} (s:Same H1 Hs') (h:Hs' a=none) (o:Own H' a):ju Hs1 H1 Hs' H' a=none/\H1 a=none:=by
  have h1:=s.free h
  refine ⟨?_,h1⟩
  unfold ju
  split
  · rename_i vs e; exact absurd e o.wI
  · rw [h1]; exact h
def retM:Md->D->Md
  | .ow true,_=>.ow true
  | _,d=>bif d.flat then .sh else .bo
theorem lJ (w:Wf Hs1 H1) (s:Same H1 Hs') (w':Wf Hs' H') (r:RM K Hs' H' m d v As) (nd:As.Nodup) (own:∀ a∈As,Hs' a=none) :
    ∃ As',RM K (ju Hs1 H1 Hs' H') H' (retM m d) d v As'/\cG (ju Hs1 H1 Hs' H') H1 As':=by
  have g:=du w s w'
  have other:∃ As',RM K (ju Hs1 H1 Hs' H') H' (bif d.flat then .sh else .bo) d v As'/\cG (ju Hs1 H1 Hs' H') H1 As':=by
    cases hf:d.flat with
    | true=>exact ⟨[],⟨rfl,(r.rep w').gC g.wf.tups hf⟩,cG.nil⟩
    | false=>exact ⟨[],⟨rfl,r.rep w'⟩,cG.nil⟩
  cases m with
  | sh=>exact other
  | bo=>exact other
  | ow fl =>
    cases fl with
    | false=>exact other
    | true=>exact ⟨As,⟨RepO.leaves (fun a vs e=>g.wf.tups a vs (w'.sub _ _ e)) r.1,r.2⟩,nd,fun a h=>sH s (own a h) (r.own a h)⟩

abbrev SpD:=List D->(Md->D->Prop)->Prop
def aD (K:PySem.W.Frag) (sp:SpD):Sp:=fun vs H Qv _=>∃ ds Qd,Reps K H ds vs/\sp ds Qd /\
  ∀ v H' Hs' m d As,Same H Hs'->Wf Hs' H'->RM K Hs' H' m d v As->As.Nodup->(∀ a∈As,Hs' a=none)->Qd m d->Qv v H'
def aV (n:Nat) (ds:List D):Env:=ds.map (fun d=>some (.sh d))++List.replicate (n - ds.length) none
theorem SR.start (r:Reps K H ds vs):SR K H H (ds.map (fun d=>some (.sh d))++List.replicate n none) (vs.map some++List.replicate n none) []:=by
  induction ds generalizing vs with
  | nil =>
    rw [r.n0]
    induction n with
    | zero=>exact .nil
    | succ n ih=>exact .non ih
  | cons d ds ih =>
    obtain ⟨u,us,rfl,r,rs⟩:=r.c
    exact .sh r (ih rs)
theorem ud (h:aD K sp vs H Qv E) (hp:∀ ds Q,sp ds Q->t { nx:=fun _=>Q .sh .non,rt:=Q } (aV N.length ds)) :
    tpS K L0 t { nx:=fun _ H'=>Qv .non H',rt:=Qv } (start N vs) H:=by
  obtain ⟨ds,Qd,rs,hs,fin⟩:=h
  have hl:=rs.length
  refine ⟨H,aV N.length ds,[],{ nx:=fun _=>Qd .sh .non,rt:=Qd },⟨?_,⟨Same.refl _,fun _ _ e=>e⟩,xaA,fun a h=>nomatch h⟩,hp ds Qd hs,?_,?_,?_,?_,fun _ _ _ _=>trivial⟩
  · unfold aV start
    rw [hl]
    exact SR.start rs
  · exact fun σ' H' Hs' ρ' tot' s sr q=>fin .non H' Hs' .sh .non [] s sr.wf ⟨rfl,.non⟩ xaA (fun a h=>nomatch h) q
  · exact fun σ' H' Hs' ρ' tot' s sr q=>q.elim
  · exact fun σ' H' Hs' ρ' tot' s sr q=>q.elim
  · exact fun v H' Hs' m d As s w r nd own q=>fin v H' Hs' m d As s w r nd own q
theorem FunQ.ok {P:Program} {st:Stmt} {N ps:List Str} (F:Fun K x qual st f fd) (S:FnScope N ps (defScope st)) (len:∀ ds Q,sp ds Q->ds.length=ps.length)
    (hbody:∀ (cdv:Value) (A:Around) (outer:List PySem.Env) (s:Shared) (H:Hp) (E:XK),Room k (A.deeper (envOfC qual (defScope st) s.heap.objs.size f cdv))->QSs (cxOf CX0 P w K mg base N qual (defScope st) f cdv A outer s H E).nox K L0 (defBody st) t)
    (hp:∀ ds Q,sp ds Q->t { nx:=fun _=>Q .sh .non,rt:=Q } (aV N.length ds)):FnOk P w K mg base CX0 (k+1) f fd ps (aD K sp) :=
  F.ok S (fun vs H Q E ⟨ds,Qd,rs,hs,_⟩=>by rw [<- rs.length]; exact len ds Qd hs) fun cdv A outer s H vs Q E hr hs=>⟨_,hbody cdv A outer s H E hr,ud hs hp⟩
def bJ (sp:SpD) (t:WA):WE:=fun ρ Q=>t ρ fun ps=>sp (ps.map (·.2)) fun m d=>onK (m,d) (f:=fun p=>Q (retM p.1 p.2) p.2) ⟨⟩
theorem tY {sp:SpD} {t:WA} {σ:St} {H:Hp} {Qv:VK} {E:XK} (h:tpE K (bJ sp t) σ H Qv):tCall (aD K sp) [] E (tpA K t) σ H Qv:=by
  obtain ⟨Hs,ρ,tot,Q,sr,h,f⟩:=h
  refine ⟨Hs,ρ,tot,_,sr,h,fun vs H1 Hs1 ps As g1 r1 f1 q1=>?_⟩
  refine ⟨_,_,by rw [xay]; exact r1.reps g1.wf,q1,fun v H' Hs' m d As s w r nd own q=>?_⟩
  obtain ⟨As',r',fr⟩:=lJ g1.wf s w r nd own
  exact Fin.after f g1 v H' _ (retM m d) d As' (du g1.wf s w) r' fr q
theorem b_ {k:Nat} {x:Str} {ps:List Str} {sp:SpD} {p:Pos} {es:List Expr} {t:WA} (C:Cal X.prog X.w X.K X.mg X.base k x ps (aD K sp)) (hr:Room k X.A) (ha:QA X K (e :: es) t) (hg:Gl X x:=by rfl) (hdb:(x == ("__debug__" : Str))=false:=by decide) (he:starEach (e :: es) X.env=(false,eval e X.env) :: starEach es X.env:=by rfl)
    (hpl:(backTo pos (starEach es X.env)).any (·.1)=false:=by rfl):QE X K (.Call (.Name x p) (e :: es) [] pos) (bJ sp t):=PE.imp (zZ C hr ha hg hdb he hpl) fun σ H Qv h=>tY h
end
end L2.Q


namespace L2.Q
open PySem PySem.Spec PyProof.Rows

abbrev WG:=D->Env->(Env->Prop)->Prop
def tpG (K:PySem.W.Frag) (g:WG):TG:=fun v σ H Qv=>∃ Hs ρ tot d Q,SRel K Hs ρ σ H tot/\Rep K Hs d v/\g d ρ Q/\∀ σ' ρ' tot',SRel K Hs ρ' σ' H tot'->(∀ a∈tot',a∈tot)->Q ρ'->Qv σ' H
abbrev QG (X:Cx) (K:PySem.W.Frag) (e:Expr) (g:WG):Prop:=PG X e (tpG K g)
def gN (i:Nat):WG:=fun d ρ Q=>Q (ρ.set i (some (.sh d)))
abbrev WGs:=List D->Env->(Env->Prop)->Prop
def tpGs (K:PySem.W.Frag) (g:WGs):TGs:=fun vs σ H Qv=>∃ Hs ρ tot ds Q,SRel K Hs ρ σ H tot/\Reps K Hs ds vs/\g ds ρ Q/\∀ σ' ρ' tot',SRel K Hs ρ' σ' H tot'->(∀ a∈tot',a∈tot)->Q ρ'->Qv σ' H
abbrev QGs (X:Cx) (K:PySem.W.Frag) (es:List Expr) (g:WGs):Prop:=PGs X es (tpGs K g)
def uY:WGs:=fun ds ρ Q=>ds=[]/\Q ρ
def qI (g:WG) (gs:WGs):WGs:=fun ds ρ Q=>match ds with
  | d :: ds=>g d ρ fun ρ'=>gs ds ρ' Q
  | []=>False
def gT (n:Nat) (gs:WGs):WG:=fun d ρ Q=>match d with
  | .tup ds=>ds.length=n/\gs ds ρ Q
  | _=>False
section
variable {X:Cx} {K:PySem.W.Frag} {e:Expr} {es:List Expr} {g:WG} {gs:WGs} {pos:Pos}
theorem PG.imp (h:PG X e t) (i:∀ v σ H Q,t' v σ H Q->t v σ H Q):PG X e t':=fun pins s σ H v u Q I r q=>h pins s σ H v u Q I r (i v σ H Q q)
theorem PGs.imp (h:PGs X es t) (i:∀ v σ H Q,t' v σ H Q->t v σ H Q):PGs X es t':=fun pins s σ H v u Q I r q=>h pins s σ H v u Q I r (i v σ H Q q)
theorem SRel.BP (i:Nat) (s:SRel K Hs ρ σ H tot) (r:Rep K Hs d v):∃ tot',(∀ a∈tot',a∈tot)/\SRel K Hs (ρ.set i (some (.sh d))) (σ.set i (some v)) H tot':=by
  obtain ⟨t,a,b⟩:=s.sr.wL r i
  exact ⟨t,fun x hx=>a.subset hx,b,s.wf,a.nodup s.nod,fun x hx=>s.own x (a.subset hx)⟩
theorem cB (hN:X.N.Nodup) (hi:X.N[i]? = some x) (hx:Loc X.env.scope x) (hf:X.fn x=true\/X.env.scope.names.lookup x=some .local:=by first | exact .inl rfl | exact .inr rfl | assumption):QG X K (.Name x pos) (gN i) :=
  PG.imp (pg_name hN hi hx hf) fun v σ H Qv hx9=>by
    obtain ⟨Hs,ρ,tot,d,Q,sr,r,h,k⟩:=hx9
    obtain ⟨t,m,s⟩:=sr.BP i r
    exact k _ _ t s m h
theorem ye:QGs X K [] uY:=PGs.imp pgs_nil fun v σ H Qv hx9=>by
  obtain ⟨Hs,ρ,tot,ds,Q,sr,r,h,k⟩:=hx9
  obtain ⟨rfl,h⟩:=h
  cases r
  exact ⟨rfl,k σ ρ tot sr (fun _ z=>z) h⟩
theorem pY (h1:QG X K e g) (h2:QGs X K es gs) (hs:(assignEach (e :: es) X.env).map (·.2)=assign e X.env :: (assignEach es X.env).map (·.2):=by rfl):QGs X K (e :: es) (qI g gs) :=
  PGs.imp (pgs_cons h1 h2 hs) fun v σ H Qv hx9=>by
    obtain ⟨Hs,ρ,tot,ds,Q,sr,r,h,k⟩:=hx9
    cases r with
    | nil=>exact h.elim
    | cons r rs=>exact ⟨_,_,rfl,Hs,ρ,tot,_,_,sr,r,h,fun σ2 ρ2 tot2 sr2 m2 q2=>⟨Hs,ρ2,tot2,_,Q,sr2,rs,q2,fun σ3 ρ3 tot3 sr3 m3=>k σ3 ρ3 tot3 sr3 fun a h=>m2 a (m3 a h)⟩⟩
theorem zX (hc:X.calm=true) (h:QGs X K es gs) (hn:(assignEach es X.env).length=n:=by rfl) (hst:(assignEach es X.env).findIdx? (·.1)=none:=by rfl):QG X K (.Tuple es k pos) (gT n gs) :=
  PG.imp (pg_tup hc h hn hst) fun v σ H Qv hx9=>by
    obtain ⟨Hs,ρ,tot,d,Q,sr,r,h,k⟩:=hx9
    cases r with
    | tup z e rs=>exact ⟨_,_,rfl,.inl (.inl (sr.wf.sub _ _ e)),by rw [<- rs.length]; exact h.1,Hs,ρ,tot,_,Q,sr,rs,h.2,k⟩
    | _=>exact h.elim
end

abbrev WI:=Env->(List D->Prop)->Prop
structure jF (K:PySem.W.Frag) (J:It) (ds:List D) (C:Hp->Hp->Prop):Prop where
  go:∀ i Hs H,C Hs H->Wf Hs H->i<ds.length->J.go i H
  yld:∀ i Hs H x H' d,C Hs H->Wf Hs H->ds[i]? = some d->J.yld i H x H'->∃ Hs',Grow Hs H Hs' H'/\Rep K Hs' d x
  stop:∀ Hs H,C Hs H->Wf Hs H->J.stop ds.length H
abbrev uC (K:PySem.W.Frag) (Hs:Hp) (J:It) (ds:List D):Prop:=jF K J ds fun G _=>Same Hs G
def lF (xs:List D):List D:=xs.mapIdx fun i x=>.tup [.int i,x]
def zipD (xs ys:List D):List D:=List.zipWith (fun x y=>.tup [x,y]) xs ys
section
variable {K:PySem.W.Frag} {Hs:Hp} {J:It} {ds es:List D} {C C':Hp->Hp->Prop} {a b:Addr}
theorem jF.imp (S:jF K J ds C) (h:∀ Hs H,C' Hs H->C Hs H):jF K J ds C':=⟨fun i Hs H c=>S.go i Hs H (h _ _ c),fun i Hs H x H' d c=>S.yld i Hs H x H' d (h _ _ c),fun Hs H c=>S.stop Hs H (h _ _ c)⟩
theorem jF.seq (rs:Reps K Hs ds vs) (S:jK J vs fun H=>Same Hs H):uC K Hs J ds where
  go:=fun i G H s w h=>S.go i H (s.trans w.sub) (by rw [<- rs.length]; exact h)
  yld:=fun i G H x H' d s w h y=>by
    have hi:i<ds.length:=by
      rcases Nat.lt_or_ge i ds.length with q | q
      · exact q
      · rw [xbc q] at h; cases h
    obtain ⟨e,z⟩:=S.yld i H x H' (s.trans w.sub) (by rw [<- rs.length]; exact hi) y
    subst e
    obtain ⟨d',ed,rd⟩:=rs.getV z
    rw [h] at ed; cases ed
    exact ⟨G,Grow.refl w,rd.same s⟩
  stop:=fun G H s w=>by rw [rs.length]; exact S.stop H (s.trans w.sub)
abbrev nu (K:PySem.W.Frag) (a:Addr) (ds:List D) (C:Hp->Hp->Prop):Prop:=∀ Hs H,C Hs H->Wf Hs H->∃ vs,SqL K H a vs/\Reps K Hs ds vs
theorem jF.list (h:nu K a ds C):jF K (Itl K a) ds C where
  go:=fun i G H c w hi=>by
    obtain ⟨vs,q,rs⟩:=h G H c w
    exact ⟨vs,vs[i]'(by rw [<- rs.length]; exact hi),q,by simp⟩
  yld:=fun i G H x H' d c w hd y=>by
    obtain ⟨vs,q,rs⟩:=h G H c w
    obtain ⟨rfl,y⟩:=y
    obtain ⟨d',ed,rd⟩:=rs.getV (y vs q)
    rw [hd] at ed; cases ed
    exact ⟨G,Grow.refl w,rd⟩
  stop:=fun G H c w=>by
    obtain ⟨vs,q,rs⟩:=h G H c w
    exact ⟨vs,q,by rw [rs.length]; exact xaj _⟩
theorem jF.enum (h:nu K a ds C):jF K (Ite K a) (lF ds) C where
  go:=fun i G H c w hi=>by
    obtain ⟨vs,q,rs⟩:=h G H c w
    have hi:i<ds.length:=by simpa [lF] using hi
    exact ⟨vs,vs[i]'(by rw [<- rs.length]; exact hi),q,by simp⟩
  yld:=fun i G H x H' d c w hd y=>by
    obtain ⟨vs,q,rs⟩:=h G H c w
    obtain ⟨p,v,rfl,hp,rfl,y⟩:=y
    obtain ⟨d',ed,rd⟩:=rs.getV (y vs q)
    have:d=.tup [.int i,d']:=by
      simp only [lF,List.getElem?_mapIdx,ed,Option.map_some] at hd
      cases hd; rfl
    subst this
    have g:=newT (vs:=[.int i,v]) w hp
    exact ⟨_,g,.tup (vs:=[.int i,v]) uL upd_same (.cons (.int _) (.cons (rd.same g.sh) .nil))⟩
  stop:=fun G H c w=>by
    obtain ⟨vs,q,rs⟩:=h G H c w
    exact ⟨vs,q,by rw [lF,List.length_mapIdx,rs.length]; exact xaj _⟩
theorem jF.zip (h:nu K a ds C) (h2:nu K b es C):jF K (Itz K a b) (zipD ds es) C where
  go:=fun i G H c w hi=>by
    obtain ⟨vs,q,rs⟩:=h G H c w
    obtain ⟨us,q2,rs2⟩:=h2 G H c w
    rw [zipD,List.length_zipWith] at hi
    have:=rs.length
    have:=rs2.length
    exact ⟨vs,us,vs[i]'(by lia),us[i]'(by lia),q,q2,by simp,by simp⟩
  yld:=fun i G H x H' d c w hd y=>by
    obtain ⟨vs,q,rs⟩:=h G H c w
    obtain ⟨us,q2,rs2⟩:=h2 G H c w
    obtain ⟨p,u,v,rfl,hp,rfl,y,y2⟩:=y
    obtain ⟨d1,ed,rd⟩:=rs.getV (y vs q)
    obtain ⟨d2,ed2,rd2⟩:=rs2.getV (y2 us q2)
    have:d=.tup [d1,d2]:=by
      simp only [zipD,List.getElem?_zipWith,ed,ed2] at hd
      cases hd; rfl
    subst this
    have g:=newT (vs:=[u,v]) w hp
    exact ⟨_,g,.tup (vs:=[u,v]) uL upd_same (.cons (rd.same g.sh) (.cons (rd2.same g.sh) .nil))⟩
  stop:=fun G H c w=>by
    obtain ⟨vs,q,rs⟩:=h G H c w
    obtain ⟨us,q2,rs2⟩:=h2 G H c w
    have:=rs.length
    have:=rs2.length
    exact ⟨vs,us,q,q2,by rw [zipD,List.length_zipWith]; lia⟩
theorem n_ (s:SqL K Hs a vs) (rs:Reps K Hs ds vs):nu K a ds fun G _=>Same Hs G:=fun G H c w=>⟨vs,Same.seq (c.trans w.sub) s,rs.same c⟩
end
def tpI (K:PySem.W.Frag) (wi:WI):TI:=fun σ H R=>∃ Hs ρ tot Q,SRel K Hs ρ σ H tot/\wi ρ Q/\∀ J H' Hs' ds,Grow Hs H Hs' H'->uC K Hs' J ds->ds.length<=sizeLine->Q ds->R J H'
abbrev QI (X:Cx) (K:PySem.W.Frag) (tg iter:Expr) (wi:WI):Prop:=PI X tg iter (tpI K wi)
def xZ:Md->Prop
  | .bo=>False
  | _=>True
def sgnD (z:Str):List D:=z.cps.toList.map fun c=>.str ⟨#[c]⟩
def vh (te:WE):WI:=fun ρ Q=>te ρ fun _ d=>match d with
  | .str z=>Q (sgnD z)
  | _=>False
def iJ (lo:Int) (n:Nat):List D:=(List.range n).map fun i=>.int (lo+(i:Nat))
def fL (te:WE):WI:=fun ρ Q=>te ρ fun _ d=>match d with
  | .int j=>j<=16777216/\-(2 ^ 62)<=j/\Q (iJ 0 j.toNat)
  | _=>False
def qy (ta tb:WE):WI:=fun ρ Q=>ta ρ fun _ x=>tb ρ fun _ y=>match x,y with
  | .int i,.int j=>j - i<=16777216/\(-(2 ^ 62)<=i/\i<2 ^ 62/\-(2 ^ 62)<=j/\j<2 ^ 62)/\Q (iJ i (j - i).toNat)
  | _,_=>False
section
variable {X:Cx} {K:PySem.W.Frag} {e e2 tg:Expr} {te te2:WE} {pos p:Pos}
theorem PI.imp (h:PI X tg iter t) (i:∀ σ H R,t' σ H R->t σ H R):PI X tg iter t':=fun pins s σ H R I q=>h pins s σ H R I (i σ H R q)
theorem jK.imp {J:It} (s:jK J vs c) (h:∀ H,c' H->c H):jK J vs c':=⟨fun i H q=>s.go i H (h H q),fun i H x H' q=>s.yld i H x H' (h H q),fun H q=>s.stop H (h H q)⟩
theorem qJ:∀ (l:List Nat),Reps K H (l.map fun c=>.str ⟨#[c]⟩) (l.map fun c=>V.str ⟨#[c]⟩)
  | []=>.nil
  | c :: l=>.cons (.str (uo c)) (qJ l)
theorem zK (he:QE X K e te):QI X K tg e (vh te):=by
  refine PI.imp (Ao he) fun σ H R hx=>ex4 hx fun Hs ρ tot Q sr h k=>⟨Hs,ρ,tot,_,sr,h,fun v H1 Hs1 m d As g1 r1 f1 q1=>?_⟩
  have r:=r1.rep g1.wf
  cases r with
  | str hz=>exact ⟨_,rfl,k _ H1 Hs1 _ g1 (.seq (qJ _) (jK.imp (xX _) fun _ _=>trivial)) (by rw [xae,xaF]; exact hz) q1⟩
  | _=>exact q1.elim
theorem jA (lo:Int):∀ (l:List Nat),Reps K H (l.map fun i=>.int (lo+(i:Nat))) (l.map fun i=>V.int (lo+(i:Nat)))
  | []=>.nil
  | c :: l=>.cons (.int _) (jA lo l)
theorem fX (hm:X.mg "range" = none) (he:QE X K e te) (hg:Gl X "range" := by rfl) (hs:starEach [e] X.env=(false,eval e X.env) :: starEach [] X.env:=by rfl) (hs':starEach [e] X.env=[(false,eval e X.env)]:=by rfl):QI X K tg (.Call (.Name "range" p) [e] [] pos) (fL te):=by
  refine PI.imp (pi_range1 hg hm (pa_cons he pa_nil hs) hs') fun σ H R hx=>ex4 hx fun Hs ρ tot Q sr h k=>⟨Hs,ρ,tot,_,sr,h,fun v H1 Hs1 m d As g1 r1 f1 q1=>?_⟩
  have r:=r1.rep g1.wf
  cases r with
  | int j =>
    obtain ⟨h1,h2,q1⟩:=q1
    exact ⟨j,rfl,h2,by lia,k _ H1 Hs1 _ g1 (.seq (jA 0 _) (jK.imp (rZ _ _) fun _ _=>trivial)) (by rw [xae,xbb,sizeLine_eq]; lia) q1⟩
  | _=>exact q1.elim
theorem w6 (hm:X.mg "range" = none) (he:QE X K e te) (he2:QE X K e2 te2) (hg:Gl X "range" := by rfl) (hs:starEach (e :: [e2]) X.env=(false,eval e X.env) :: starEach [e2] X.env:=by rfl) (hs2:starEach (e2 :: []) X.env=(false,eval e2 X.env) :: starEach [] X.env:=by rfl)
    (hs':starEach [e,e2] X.env=[(false,eval e X.env),(false,eval e2 X.env)]:=by rfl) (hs'':starEach [e2] X.env=[(false,eval e2 X.env)]:=by rfl):QI X K tg (.Call (.Name "range" p) [e,e2] [] pos) (qy te te2):=by
  refine PI.imp (pi_range2 hg hm (pa_cons he (pa_cons he2 pa_nil hs2) hs) hs' hs'') fun σ H R hx=>ex4 hx fun Hs ρ tot Q sr h k=>⟨Hs,ρ,tot,_,sr,h,fun v H1 Hs1 m d As g1 r1 f1 q1=>⟨Hs1,ρ,tot,_,sr.grow g1,q1,fun u H2 Hs2 n y Bs g2 r2 f2 q2=>?_⟩⟩
  have r:=(r1.grow g2).rep g2.wf
  have r':=r2.rep g2.wf
  cases r with
  | int i=>cases r' with
    | int j =>
      obtain ⟨h1,h2,q2⟩:=q2
      exact ⟨i,j,rfl,h2,k _ H2 Hs2 _ (g1.trans g2) (.seq (jA i _) (jK.imp (rZ _ _) fun _ _=>trivial)) (by rw [xae,xbb,sizeLine_eq]; lia) q2⟩
    | _=>exact q2.elim
  | _=>cases r' <;> exact q2.elim

section
variable {X:Cx} {K:PySem.W.Frag} {e tg:Expr} {te:WE} {pos p:Pos}
def tpIb (K:PySem.W.Frag) (wi:WI):TI:=fun σ H R=>∃ Hs ρ tot Q,SRel K Hs ρ σ H tot/\wi ρ Q/\∀ J H' Hs' ds,Grow Hs H Hs' H'->uC K H' J ds->ds.length<=sizeLine->Q ds->R J H'
abbrev QIb (X:Cx) (K:PySem.W.Frag) (tg iter:Expr) (wi:WI):Prop:=PI X tg iter (tpIb K wi)
theorem oU (h:QI X K tg iter wi):QIb X K tg iter wi:=PI.imp h fun σ H R hx=>ex4 hx fun Hs ρ tot Q sr h k=>⟨Hs,ρ,tot,Q,sr,h,fun J H' Hs' ds g w z q=>k J H' Hs' ds g (w.imp fun G H s=>g.wf.sub.trans s) z q⟩
def qb (te:WE):WI:=fun ρ Q=>te ρ fun _ d=>match d with
  | .list xs=>Q xs
  | _=>False
def uX (te:WE):WI:=fun ρ Q=>te ρ fun _ d=>match d with
  | .tup xs=>Q xs
  | _=>False
def qH (te:WE):WI:=fun ρ Q=>te ρ fun _ d=>match d with
  | .list xs=>Q (lF xs)
  | _=>False
theorem yu (he:QE X K e te) (hK:X.K=K:=by rfl):QIb X K tg e (qb te):=by
  subst hK
  refine PI.imp (pi_list he) fun σ H R hx=>ex4 hx fun Hs ρ tot Q sr h k=>⟨Hs,ρ,tot,_,sr,h,fun v H1 Hs1 m d As g1 r1 f1 q1=>?_⟩
  have r:=r1.rep g1.wf
  cases r with
  | list z s rs=>exact ⟨_,rfl,⟨_,s⟩,k _ H1 Hs1 _ g1 (.list (n_ s rs)) (by rw [rs.length]; exact z) q1⟩
  | _=>exact q1.elim
theorem zP (he:QE X K e te) (hK:X.K=K:=by rfl):QIb X K tg e (uX te):=by
  subst hK
  refine PI.imp (pi_tup he) fun σ H R hx=>ex4 hx fun Hs ρ tot Q sr h k=>⟨Hs,ρ,tot,_,sr,h,fun v H1 Hs1 m d As g1 r1 f1 q1=>?_⟩
  have r:=r1.rep g1.wf
  cases r with
  | tup z s rs=>exact ⟨_,rfl,⟨_,.inl (.inl s)⟩,k _ H1 Hs1 _ g1 (.seq rs (jK.imp (za X.K _ _) fun H' s'=>.inl (.inl (s' _ _ s)))) (by rw [rs.length]; exact z) q1⟩
  | _=>exact q1.elim
theorem yF (hm:X.mg "enumerate" = none) (he:QE X K e te) (hK:X.K=K:=by rfl) (hg:Gl X "enumerate" := by rfl) (hs:starEach [e] X.env=(false,eval e X.env) :: starEach [] X.env:=by rfl) (hs':starEach [e] X.env=[(false,eval e X.env)]:=by rfl) :
    QIb X K (.Tuple elts kk tp) (.Call (.Name "enumerate" p) [e] [] pos) (qH te):=by
  subst hK
  refine PI.imp (yN hg hm (pa_cons he pa_nil hs) hs') fun σ H R hx=>ex4 hx fun Hs ρ tot Q sr h k=>⟨Hs,ρ,tot,_,sr,h,fun v H1 Hs1 m d As g1 r1 f1 q1=>?_⟩
  have r:=r1.rep g1.wf
  cases r with
  | list z s rs=>exact ⟨_,rfl,⟨_,s⟩,k _ H1 Hs1 _ g1 (.enum (n_ s rs)) (by rw [lF,List.length_mapIdx,rs.length]; exact z) q1⟩
  | _=>exact q1.elim
end
def oG (g:WG) (b:WS) (E:iG):List D->Env->Prop
  | [],ρ=>E.nx ρ
  | x :: xs,ρ=>g x ρ fun ρ1=>b { E with nx:=oG g b E xs,ct:=oG g b E xs,bk:=E.nx } ρ1
def wFor (wi:WI) (g:WG) (b:WS):WS:=fun E ρ=>wi ρ fun ds=>oG g b E ds ρ
variable {wi:WI} {g:WG} {b:WS} {body:List Stmt}
theorem qt (hp:PassesOwn (model X.prog X.w) X.A X.env X.xe) (hc:X.calm=true) (hi:QI X K tg iter wi) (hg:QG X K tg g) (hb:QSs X K L body b) (hs:∀ x,foldedSetIterable iter X.env x=pure x:=by intro _; rfl) :
    QS X K L (.For tg iter body [] pos) (wFor wi g b):=by
  refine PS.imp (ps_for hp hc hi hg hb hs) fun D σ H hx=>gJ hx fun Hs ρ tot E sr h k1 k2 k3 k4 kx=>?_
  rw [xH]
  refine ⟨Hs,ρ,tot,_,sr,h,fun J H1 Hs1 ds g1 S hz q1=>?_⟩
  refine ⟨fun i m σ H=>m=ds.length - i/\i<=ds.length/\∃ Hs' ρ' tot',Same Hs1 Hs'/\SRel K Hs' ρ' σ H tot'/\oG g b E (ds.drop i) ρ',⟨ds.length,by simp,xaC _,Hs1,ρ,tot,Same.refl _,sr.grow g1,by simpa using q1⟩,?_⟩
  rintro i m σ2 H2 ⟨rfl,hi,Hs2,ρ2,tot2,s2,sr2,q2⟩
  by_cases hlt:i<ds.length
  · refine .inr ⟨S.go i Hs2 H2 s2 sr2.wf hlt,fun σ3 H3=>∃ Hs' ρ' tot',Same Hs1 Hs'/\SRel K Hs' ρ' σ3 H3 tot'/\oG g b E (ds.drop (i+1)) ρ',fun σ3 H3 h3=>⟨ds.length - (i+1),by lia,rfl,hlt,h3⟩,fun x H3 y=>?_⟩
    obtain ⟨Hs3,g3,rd⟩:=S.yld i Hs2 H2 x H3 ds[i] s2 sr2.wf (by simp [hlt]) y
    rw [xaT hlt] at q2
    have s3:=s2.trans g3.sh
    refine ⟨Hs3,ρ2,tot2,ds[i],_,sr2.grow g3,rd,q2,fun σ4 ρ4 tot4 sr4 _ q4=>?_⟩
    refine ⟨Hs3,ρ4,tot4,_,sr4,q4,?_,?_,?_,?_,fun n H5 s5=>kx n H5 ((g1.sh.trans s3).trans s5)⟩
    · exact fun σ5 H5 Hs5 ρ5 tot5 s5 sr5 q5=>⟨Hs5,ρ5,tot5,s3.trans s5,sr5,q5⟩
    · exact fun σ5 H5 Hs5 ρ5 tot5 s5 sr5 q5=>k1 σ5 H5 Hs5 ρ5 tot5 ((g1.sh.trans s3).trans s5) sr5 q5
    · exact fun σ5 H5 Hs5 ρ5 tot5 s5 sr5 q5=>⟨Hs5,ρ5,tot5,s3.trans s5,sr5,q5⟩
    · exact fun v H5 Hs5 m d As s5=>k4 v H5 Hs5 m d As ((g1.sh.trans s3).trans s5)
  · have e:i=ds.length:=by lia
    subst e
    refine .inl ⟨S.stop Hs2 H2 s2 sr2.wf,?_⟩
    rw [xbC] at q2
    exact k1 σ2 H2 Hs2 ρ2 tot2 (g1.sh.trans s2) sr2 q2
theorem lM (xs:List D) (Pv:Nat->Env->Prop) (h0:Pv 0 ρ)
    (hs:∀ i x ρ,xs[i]? = some x->Pv i ρ->∀ N:Env->Prop,(∀ ρ',Pv (i+1) ρ'->N ρ')->g x ρ fun ρ1=>b { E with nx:=N,ct:=N,bk:=E.nx } ρ1)
    (hd:∀ ρ,Pv xs.length ρ->E.nx ρ):oG g b E xs ρ:=by
  have go:∀ (k i:Nat) (ρ:Env),i+k=xs.length->Pv i ρ->oG g b E (xs.drop i) ρ:=by
    intro k
    induction k with
    | zero =>
      intro i ρ e p
      have:i=xs.length:=by lia
      subst this
      rw [xbC]
      exact hd ρ p
    | succ k ih =>
      intro i ρ e p
      have hi:i<xs.length:=by lia
      rw [xaT hi]
      exact hs i xs[i] ρ (by simp [hi]) p _ fun ρ2 h2=>ih (i+1) ρ2 (by lia) h2
  have:=go xs.length 0 ρ (by lia) h0
  simpa using this
end
end L2.Q


namespace L2.Q
open PySem PySem.Spec PyProof.Rows

def wYes:WT:=fun _ Q=>Q true
def okEl (m:Md) (d:D):Prop:=d.flat=true\/m=.ow true
def fM (g:WG) (tc:WT) (te:WE):List D->Env->(List D->Prop)->Prop
  | [],_,k=>k []
  | x :: xs,ρ,k=>g x ρ fun ρ1=>tc ρ1 fun b=>if b=true then te ρ1 fun m d=>okEl m d/\fM g tc te xs ρ1 (fun out=>k (d :: out)) else fM g tc te xs ρ1 k
def yf (tn:Nat) (ix:List Nat) (ρ:Env):Env:=List.replicate tn none++ix.map fun j=>(ρ[j]?).join.map shC
def jw (wi:WI) (g:WG) (tc:WT) (te:WE) (tn:Nat) (ix:List Nat):WE:=fun ρ Q=>wi ρ fun ds=>fM g tc te ds (yf tn ix ρ) fun out=>Q (.ow true) (.list out)
section
variable {X:Cx} {K:PySem.W.Frag}
theorem kY {Hs H G:Hp} (sr:SRel K Hs ρ σ H tot) (G':Hp):∀ (ix:List Nat),SR K H G' (ix.map fun j=>(ρ[j]?).join.map shC) (ix.map fun j=>(σ[j]?).join) []
  | []=>.nil
  | j :: ix=>by
    have ih:=kY sr G' ix (G:=G)
    simp only [xaD]
    cases e:ρ[j]? with
    | none=>exact .non ih
    | some o =>
      cases o with
      | none=>exact .non ih
      | some sl =>
        obtain ⟨v,e1,r⟩:=sr.sr.get e
        rw [e1]
        cases sl with
        | sh d=>exact .sh (Rep.same sr.wf.sub r) ih
        | xc a=>subst r; exact .xc ih
        | ow fl d =>
          obtain ⟨As,_,r,_⟩:=r
          exact .sh (r.rep sr.wf.sub fun _ _=>rfl) ih
        | lk a fl d =>
          obtain ⟨As,_,r,_⟩:=r
          exact .sh (r.rep sr.wf.sub fun _ _=>rfl) ih
theorem n6 (s:SR K H G ρ σ []):∀ (n:Nat),SR K H G (List.replicate n none++ρ) (List.replicate n none++σ) []
  | 0=>s
  | n+1=>.non (n6 s n)
theorem SR.heap (s:SR K Hs H ρ σ []):SR K Hs H' ρ σ []:=s.stay (Same.refl _) fun a h=>nomatch h
theorem qD (w:Wf Hs H) (n:Hs p=none) (ho:∀ vs,o≠.tup vs):Wf Hs (upd H p o):=⟨fun b u q=>by
    rw [upd_ne (fun z=>by subst z; rw [n] at q; cases q)]; exact w.sub b u q,fun b us q=>by
    by_cases hb:b=p
    · subst hb; rw [upd_same] at q; exact absurd (Option.some.inj q) (ho us)
    · rw [upd_ne hb] at q; exact w.tups b us q⟩
structure CompI (K:PySem.W.Frag) (H1:Hp) (b:Addr) (acc:List D) (ys:List V) (As:List Addr) (Hs:Hp) (ρ:Env) (τ:St) (H:Hp):Prop where
  sm:Same H1 Hs
  sr:SRel K Hs ρ τ H []
  eD:H b=some (.lst ys)
  nD:Hs b=none
  ra:aA K Hs H true acc ys As
  nd:(b :: As).Nodup
  own:∀ a∈As,Hs a=none
theorem CompI.grow (c:CompI K H1 b acc ys As Hs ρ τ H) (g:Grow Hs H Hs' H'):CompI K H1 b acc ys As Hs' ρ τ H' :=
  ⟨c.sm.trans g.sh,c.sr.grow g,g.all _ _ c.eD,g.hsn c.nD (by rw [c.eD]; exact fun z=>nomatch z),c.ra.grow g.sh g.all,c.nd,fun a ha=>g.hsn (c.own a ha) (c.ra.own a ha).ne⟩
theorem CompI.push (c:CompI K H1 b acc ys As Hs ρ τ H) (r:RM K Hs H m d v Bs) (ok:okEl m d) (nb:Bs.Nodup) (fb:∀ a∈Bs,Hs a=none/\a∉b :: As):∃ As',CompI K H1 b (acc++[d]) (ys++[v]) As' Hs ρ τ (upd H b (.lst (ys++[v]))):=by
  obtain ⟨B,sb,rb⟩:∃ B,B.Sublist Bs/\RepO K Hs H true d v B:=by
    rcases ok with hf | rfl
    · exact ⟨[],xaH _,.sh (fun _=>hf) (r.flat c.sr.wf hf)⟩
    · exact ⟨Bs,List.Sublist.refl _,r.1⟩
  obtain ⟨na,nA⟩:=xau.mp c.nd
  have fb':=fun a ha=>fb a (sb.subset ha)
  refine ⟨As++(B++[]),c.sm,⟨c.sr.sr.heap,qD c.sr.wf c.nD (fun _ z=>nomatch z),xaA,fun a h=>nomatch h⟩,upd_same,c.nD,(c.ra.stay (H':=upd H b (.lst (ys++[v]))) (Same.refl _) fun a ha=>upd_ne fun z=>na (by subst z; exact ha)).append (.cons (rb.stay (Same.refl _) fun a ha=>upd_ne fun z=>(fb' a ha).2 (by subst z; exact xac)) .nil),?_,?_⟩
  · rw [xay]
    refine xau.mpr ⟨fun m=>(xaf.mp m).elim na fun m=>(fb' b m).2 xac,xah.mpr ⟨nA,sb.nodup nb,fun x hx y hy e=>(fb' y hy).2 (e ▸ xaa _ hx)⟩⟩
  · rw [xay]
    exact fun a ha=>(xaf.mp ha).elim (c.own a) fun m=>(fb' a m).1
theorem tZ (h:tpE K (jw wi g tc te tn ix) σ H Qv):rJ (tpIb K wi) (tpG K g) (tpT K tc) (tpE K te) tn ix σ H Qv:=by
  obtain ⟨Hs,ρ,tot,Q,sr,h,f⟩:=h
  rw [vq]
  refine ⟨Hs,ρ,tot,_,sr,h,fun J H1 Hs1 ds g1 S hz q1 b hb=>?_⟩
  have st:CompI K H1 b [] [] [] H1 (yf tn ix ρ) (lL tn ix σ) (upd H1 b (.lst [])):=by
    refine ⟨Same.refl _,⟨n6 (kY (G:=H1) (sr.grow g1) _ ix) tn,⟨(Same.refl H1).upd hb,fun a xs e=>?_⟩,xaA,fun a h=>nomatch h⟩,upd_same,hb,.nil,by simp,fun a h=>nomatch h⟩
    by_cases ha:a=b
    · subst ha; rw [upd_same] at e; cases e
    · rw [upd_ne ha] at e; exact e
  refine ⟨fun i m τ H2=>m=ds.length - i/\i<=ds.length/\∃ Hs2 ρ2 acc ys As,CompI K H1 b acc ys As Hs2 ρ2 τ H2/\acc.length<=i/\fM g tc te (ds.drop i) ρ2 (fun out=>Q (.ow true) (.list (acc++out))),
    ⟨ds.length,by simp,xaC _,H1,_,[],[],[],st,xaj _,by simpa using q1⟩,?_⟩
  rintro i m τ H2 ⟨rfl,hi,Hs2,ρ2,acc,ys,As,c,la,q2⟩
  by_cases hlt:i<ds.length
  · refine .inr ⟨S.go i Hs2 H2 c.sm c.sr.wf hlt,
      fun τ3 v H4=>∃ Hs4 ρ4 d,CompI K H1 b acc ys As Hs4 ρ4 τ3 H4/\(∃ As',CompI K H1 b (acc++[d]) (ys++[v]) As' Hs4 ρ4 τ3 (upd H4 b (.lst (ys++[v]))))/\fM g tc te (ds.drop (i+1)) ρ4 (fun out=>Q (.ow true) (.list (acc++d :: out))),
      fun τ3 H3=>∃ Hs3 ρ3,CompI K H1 b acc ys As Hs3 ρ3 τ3 H3/\fM g tc te (ds.drop (i+1)) ρ3 (fun out=>Q (.ow true) (.list (acc++out))),?_,?_,?_⟩
    · rintro τ3 v H4 ⟨Hs4,ρ4,d,c4,⟨As',c5⟩,q4⟩
      have lya:=c4.ra.length
      exact ⟨ys,ds.length - (i+1),c4.eD,by lia,by lia,rfl,hlt,Hs4,ρ4,acc++[d],ys++[v],As',c5,by rw [xaz]; simpa using la,by simpa using q4⟩
    · rintro τ3 H3 ⟨Hs3,ρ3,c3,q3⟩
      exact ⟨ds.length - (i+1),by lia,rfl,hlt,Hs3,ρ3,acc,ys,As,c3,by lia,q3⟩
    · intro x H3 y
      obtain ⟨Hs3,g3,rd⟩:=S.yld i Hs2 H2 x H3 ds[i] c.sm c.sr.wf (by simp [hlt]) y
      rw [xaT hlt] at q2
      have c3:=c.grow g3
      refine ⟨Hs3,ρ2,[],ds[i],_,c3.sr,rd,q2,fun τ4 ρ4 tot4 sr4 m4 q4=>?_⟩
      have t4:tot4=[]:=List.eq_nil_iff_forall_not_mem.mpr fun a ha=>nomatch m4 a ha
      subst t4
      have c4:CompI K H1 b acc ys As Hs3 ρ4 τ4 H3:=⟨c3.sm,sr4,c3.eD,c3.nD,c3.ra,c3.nd,c3.own⟩
      refine ⟨Hs3,ρ4,[],_,sr4,q4,fun k H5 Hs5 g5 q5=>?_⟩
      have c5:=c4.grow g5
      cases k with
      | false=>exact ⟨Hs5,ρ4,c5,q5⟩
      | true =>
        refine ⟨Hs5,ρ4,[],_,c5.sr,q5,fun v H6 Hs6 m6 d6 As6 g6 r6 f6 q6=>?_⟩
        have c6:=c5.grow g6
        refine ⟨Hs6,ρ4,d6,c6,c6.push r6 q6.1 f6.1 fun a ha=>⟨(f6.2 a ha).1,fun m=>?_⟩,q6.2⟩
        rcases xaq.mp m with rfl | m
        · have:=(f6.2 _ ha).2
          rw [c5.eD] at this; cases this
        · exact (c5.ra.own a m).ne (f6.2 a ha).2
  · have e:i=ds.length:=by lia
    subst e
    refine .inl ⟨S.stop Hs2 H2 c.sm c.sr.wf,?_⟩
    rw [xbC] at q2
    have q2:Q (.ow true) (.list (acc++[])):=q2
    rw [xay] at q2
    have lya:=c.ra.length
    have rm:RM K Hs2 H2 (.ow true) (.list acc) (.ref b) (b :: As):=⟨.list (by lia) c.eD c.ra,by simp⟩
    obtain ⟨As',r',fr⟩:=lJ g1.wf c.sm c.sr.wf rm c.nd fun a ha=>(xaq.mp ha).elim (fun z=>z ▸ c.nD) (c.own a)
    exact Fin.after f g1 (.ref b) H2 _ (.ow true) (.list acc) As' (du g1.wf c.sm c.sr.wf) r' fr q2
theorem PTs.imp (h:PTs X ifs t) (i:∀ σ H Q,t' σ H Q->t σ H Q):PTs X ifs t':=fun pins s σ H Q I q=>h pins s σ H Q I (i σ H Q q)
abbrev QTs (X:Cx) (K:PySem.W.Frag) (ifs:List Expr) (t:WT):Prop:=PTs X ifs (tpT K t)
theorem eO:QTs X K [] wYes:=PTs.imp xT fun σ H Qv hx=>ex4 hx fun Hs ρ tot Q sr h k=>k true H Hs (Grow.refl sr.wf) h
theorem iB (hc:X.calm=true) (hi:QIb X K tg iter wi) (O:cQ X scope tn cn ix)
    (hg:∀ C fp s₃ H₃,QG (eQ X scope C (tn++cn) fp s₃ H₃) K tg g) (hcs:∀ C fp s₃ H₃,QTs (eQ X scope C (tn++cn) fp s₃ H₃) K ifs tc) (he:∀ C fp s₃ H₃,QE (eQ X scope C (tn++cn) fp s₃ H₃) K elt te)
    (hs:∀ x,foldedSetIterable iter X.env x=pure x:=by intro _; rfl):QE X K (.ListComp elt [⟨tg,iter,ifs,0⟩] scope pos) (jw wi g tc te tn.length ix) :=
  PE.imp (yg hc hi O hg hcs he hs) fun σ H Qv h=>tZ h
end
theorem dN (p:D->Bool) (f:D->D) (Iv:Env->Prop):∀ (xs:List D) (ρ:Env) (k:List D->Prop),Iv ρ ->
    (∀ x∈xs,∀ ρ,Iv ρ->∀ N1:Env->Prop,∀ N2:Env->D->Prop,(∀ ρ',Iv ρ'->p x=false->N1 ρ')->(∀ ρ',Iv ρ'->p x=true->N2 ρ' (f x))->g x ρ fun ρ1=>tc ρ1 fun b=>if b=true then te ρ1 fun m d=>okEl m d/\N2 ρ1 d else N1 ρ1) ->
    k ((xs.filter p).map f)->fM g tc te xs ρ k
  | [],_,k,_,_,h=>h
  | x :: xs,ρ,k,iv,hs,h=>by
    refine hs x xac ρ iv _ _ (fun ρ' iv' hp=>?_) (fun ρ' iv' hp=>?_)
    · exact dN p f Iv xs ρ' k iv' (fun y hy=>hs y (xaa _ hy)) (by simpa [hp] using h)
    · exact dN p f Iv xs ρ' _ iv' (fun y hy=>hs y (xaa _ hy)) (by simpa [hp] using h)
end L2.Q


namespace L2.Q
open PySem PySem.Spec PyProof.Rows

def Upd (K:PySem.W.Frag) (Hs H:Hp) (σ:St) (fl:Bool) (v:V) (up:Bool->D->Env) (As':List Addr):Prop:=∀ Hs2 H2 fl2 d2 As2,Same Hs Hs2->Wf Hs2 H2->(∀ a,Hs a=none->H a≠none->Hs2 a=none)->(fl2=true->fl=true) ->
    RepO K Hs2 H2 fl2 d2 v As2->As2≠[]->As2.Nodup->(∀ a∈As2,Hs2 a=none/\(a∈As'\/H a=none))->(∀ a,H a≠none->a∉As'->H2 a=H a)->∃ tot2,SRel K Hs2 (up fl2 d2) σ H2 tot2
structure Place (K:PySem.W.Frag) (Hs H:Hp) (σ:St) (fl:Bool) (d:D) (v:V) (up:Bool->D->Env):Prop where
  ex:∃ As',RepO K Hs H fl d v As'/\As'≠[]/\As'.Nodup/\(∀ a∈As',Hs a=none)/\Upd K Hs H σ fl v up As'
theorem Upd.node {K:PySem.W.Frag} (k:Upd K Hs H σ fl (.ref a) up (a :: A)) (g:Grow Hs H Hs2 H2) (own:∀ x∈a :: A,Hs x=none/\H x≠none) (ho:∀ vs,o≠.tup vs) (hf:fl2=true->fl=true)
    (r:RepO K Hs2 (upd H2 a o) fl2 d2 (.ref a) (a :: C)) (nC:C.Nodup) (naC:a∉C) (hC:∀ x∈C,x∈A\/(Hs2 x=none/\H x=none)):∃ tot2,SRel K Hs2 (up fl2 d2) σ (upd H2 a o) tot2:=by
  have hn:∀ x∈a :: A,Hs2 x=none:=fun x hx=>g.hsn (own x hx).1 (own x hx).2
  refine k Hs2 _ fl2 d2 (a :: C) g.sh (qD g.wf (hn a xac) ho) (fun b h1 h2=>g.hsn h1 h2) hf r (xa5 _ _) (xau.mpr ⟨naC,nC⟩) (fun b hb=>?_) fun b h1 h2=>?_
  · rcases xaq.mp hb with rfl | hb
    · exact ⟨hn _ xac,.inl xac⟩
    · exact (hC b hb).elim (fun q=>⟨hn b (xaa _ q),.inl (xaa _ q)⟩) fun q=>⟨q.1,.inr q.2⟩
  · rw [upd_ne fun z=>h2 (by subst z; exact xac)]
    cases q:H b with
    | none=>exact absurd q h1
    | some o=>exact g.all b o q
abbrev WP:=Env->(Bool->D->(Bool->D->Env)->Prop)->Prop
def tpP (K:PySem.W.Frag) (t:WP):TE:=fun σ H Qv=>∃ Hs ρ tot Q,SRel K Hs ρ σ H tot/\t ρ Q/\∀ v H' Hs' fl d up,Grow Hs H Hs' H'->Place K Hs' H' σ fl d v up->Q fl d up->Qv v H'
abbrev QP (X:Cx) (K:PySem.W.Frag) (e:Expr) (t:WP):Prop:=PE X e (tpP K t)
section
variable {K:PySem.W.Frag} {Hs H Hs' H':Hp} {σ:St} {fl:Bool} {d:D} {v:V} {up:Bool->D->Env}
theorem Place.grow (p:Place K Hs H σ fl d v up) (g:Grow Hs H Hs' H'):Place K Hs' H' σ fl d v up:=by
  obtain ⟨As',r,ne,nd,own,k⟩:=p.ex
  refine ⟨As',r.grow g.sh g.all,ne,nd,fun a h=>g.hsn (own a h) (r.own a h).ne,fun Hs2 H2 fl2 d2 As2 s2 w2 n2 hf r2 ne2 nd2 o2 st=>?_⟩
  refine k Hs2 H2 fl2 d2 As2 (g.sh.trans s2) w2 (fun a h1 h2=>n2 a (g.hsn h1 h2) ?_) hf r2 ne2 nd2 (fun a h=>⟨(o2 a h).1,(o2 a h).2.imp id g.all.free⟩) fun a h1 h2=>?_
  · cases e:H a with
    | none=>exact absurd e h2
    | some o=>rw [g.all a o e]; exact fun z=>nomatch z
  · cases e:H a with
    | none=>exact absurd e h1
    | some o =>
      have:=g.all a o e
      rw [<- this]
      exact st a (by rw [this]; exact fun z=>nomatch z) h2
theorem RepO.ne2:(∀ {d:D} {v:V} {As:List Addr},RepO K Hs H true d v As->d.flat=false->As≠[])/\∀ {ds:List D} {vs:List V} {As:List Addr},aA K Hs H true ds vs As->flats ds=false->As≠[] :=
  RepO.ind (m1:=fun d _ As=>d.flat=false->As≠[]) (m2:=fun ds _ As=>flats ds=false->As≠[]) (fun _ _ f _ h=>by rw [f rfl] at h; cases h) (fun _ _ _ _ _ _ _ _ _=>xa5 _ _) (fun _ _ _ _ _ _ n _ ih _=>ih n) (fun _ _ _ _ _ _ _ _ _=>xa5 _ _) (fun _ _ _ _ _ _ _ _ _=>xa5 _ _)
    (fun h=>by simp [flats] at h) fun d _ _ _ _ _ _ _ i1 i2 h=>by
      cases e:d.flat with
      | false=>exact fun z=>i1 e (xaX.mp z).1
      | true =>
        simp only [flats,e,xbm] at h
        exact fun z=>i2 h (xaX.mp z).2
theorem RepO.ne (r:RepO K Hs H true d v As) (h:d.flat=false):As≠[]:=RepO.ne2.1 r h
theorem aA.ne (r:aA K Hs H true ds vs As) (h:flats ds=false):As≠[]:=RepO.ne2.2 r h
def wpN (i:Nat):WP:=fun ρ Q=>match ρ[i]? with
  | some (some (.ow fl d))=>Q fl d fun fl2 d2=>ρ.set i (some (.ow fl2 d2))
  | _=>False
theorem SR.put (i:Nat) (s:SR K Hs H ρ σ tot):ρ[i]? = some (some (.ow fl d))->tot.Nodup ->
    ∃ (v:V) (As tot':List Addr),σ[i]? = some (some v)/\As≠[]/\RepO K Hs H fl d v As/\As.Sublist tot/\∀ Hs2 H2 fl2 d2 As2,Same Hs Hs2->RepO K Hs2 H2 fl2 d2 v As2->As2≠[]->As2.Nodup->(∀ a∈As2,a∈tot->a∈As)->(∀ a∈tot,a∉As->H2 a=H a) ->
      ∃ tot2,tot2.Nodup/\(∀ a∈tot2,a∈tot\/a∈As2)/\SR K Hs2 H2 (ρ.set i (some (.ow fl2 d2))) σ tot2:=by
  induction s generalizing i with
  | nil=>intro e; simp at e
  | @non ρ σ tot o q ih =>
    intro e n
    cases i with
    | zero=>simp at e
    | succ i =>
      obtain ⟨v,As,t,a,b,c,d,g⟩:=ih i (by simpa using e) n
      refine ⟨v,As,t,by simpa using a,b,c,d,fun Hs2 H2 fl2 d2 As2 s2 r2 ne2 nd2 dj st=>?_⟩
      obtain ⟨t2,x,y,z⟩:=g Hs2 H2 fl2 d2 As2 s2 r2 ne2 nd2 dj st
      exact ⟨t2,x,y,.non z⟩
  | sh r q ih =>
    intro e n
    cases i with
    | zero=>simp at e
    | succ i =>
      obtain ⟨v,As,t,a,b,c,d,g⟩:=ih i (by simpa using e) n
      refine ⟨v,As,t,by simpa using a,b,c,d,fun Hs2 H2 fl2 d2 As2 s2 r2 ne2 nd2 dj st=>?_⟩
      obtain ⟨t2,x,y,z⟩:=g Hs2 H2 fl2 d2 As2 s2 r2 ne2 nd2 dj st
      exact ⟨t2,x,y,.sh (r.same s2) z⟩
  | xc q ih =>
    intro e n
    cases i with
    | zero=>simp at e
    | succ i =>
      obtain ⟨v,As,t,a,b,c,d,g⟩:=ih i (by simpa using e) n
      refine ⟨v,As,t,by simpa using a,b,c,d,fun Hs2 H2 fl2 d2 As2 s2 r2 ne2 nd2 dj st=>?_⟩
      obtain ⟨t2,x,y,z⟩:=g Hs2 H2 fl2 d2 As2 s2 r2 ne2 nd2 dj st
      exact ⟨t2,x,y,.xc z⟩
  | @ow ρ σ t2 B fl0 d0 v ne r q ih =>
    intro e n
    obtain ⟨n1,n2,n3⟩:=xah.mp n
    cases i with
    | zero =>
      simp at e
      obtain ⟨rfl,rfl⟩:=e
      refine ⟨v,B,t2,rfl,ne,r,xaN _ _,fun Hs2 H2 fl2 d2 As2 s2 r2 ne2 nd2 dj st=>⟨As2++t2,xah.mpr ⟨nd2,n2,fun a ha b hb e=>?_⟩,fun a h=>?_,.ow ne2 r2 (q.stay s2 fun a h=>st a (xad _ h) fun z=>n3 a z a h rfl)⟩⟩
      · subst e
        exact n3 a (dj a ha (xad _ hb)) a hb rfl
      · exact (xaf.mp h).symm.imp (fun z=>xad _ z) id
    | succ i =>
      obtain ⟨v,As,t,a,b,c,d,g⟩:=ih i (by simpa using e) n2
      have hB:∀ x∈B,x∉As:=fun x hx m=>n3 x hx x (d.subset m) rfl
      refine ⟨v,As,B++t,by simpa using a,b,c,d.trans (xai _ _),fun Hs2 H2 fl2 d2 As2 s2 r2 ne2 nd2 dj st=>?_⟩
      obtain ⟨t2,x,y,z⟩:=g Hs2 H2 fl2 d2 As2 s2 r2 ne2 nd2 (fun a ha m=>dj a ha (xad _ m)) fun a ha m=>st a (xad _ ha) m
      refine ⟨B++t2,xah.mpr ⟨n1,x,fun a ha b hb e=>?_⟩,fun a h=>?_,.ow ne (r.stay s2 fun a h=>st a (xam _ h) (hB a h)) z⟩
      · subst e
        rcases y a hb with w | w
        · exact n3 a ha a w rfl
        · exact hB a ha (dj a w (xam _ ha))
      · rcases xaf.mp h with w | w
        · exact .inl (xam _ w)
        · exact (y a w).imp (fun w=>xad _ w) id
  | @lk ρ σ t2 B a0 fl0 d0 ne r q ih =>
    intro e n
    obtain ⟨n1,n2,n3⟩:=xah.mp n
    cases i with
    | zero=>simp at e
    | succ i =>
      obtain ⟨v,As,t,a,b,c,d,g⟩:=ih i (by simpa using e) n2
      have hB:∀ x∈B,x∉As:=fun x hx m=>n3 x hx x (d.subset m) rfl
      refine ⟨v,As,B++t,by simpa using a,b,c,d.trans (xai _ _),fun Hs2 H2 fl2 d2 As2 s2 r2 ne2 nd2 dj st=>?_⟩
      obtain ⟨t2,x,y,z⟩:=g Hs2 H2 fl2 d2 As2 s2 r2 ne2 nd2 (fun a ha m=>dj a ha (xad _ m)) fun a ha m=>st a (xad _ ha) m
      refine ⟨B++t2,xah.mpr ⟨n1,x,fun a ha b hb e=>?_⟩,fun a h=>?_,.lk ne (r.stay s2 fun a h=>st a (xam _ h) (hB a h)) z⟩
      · subst e
        rcases y a hb with w | w
        · exact n3 a ha a w rfl
        · exact hB a ha (dj a w (xam _ ha))
      · rcases xaf.mp h with w | w
        · exact .inl (xam _ w)
        · exact (y a w).imp (fun w=>xad _ w) id
theorem jo {X:Cx} (h:PE X e (tVar i)):QP X K e (wpN i):=PE.imp h fun σ H Qv hx=>ex4 hx fun Hs ρ tot Q sr h f=>by
  unfold wpN at h
  split at h
  · rename_i fl d e1
    obtain ⟨v,As,t,e2,ne,r,sb,g⟩:=SR.put i sr.sr e1 sr.nod
    refine ⟨v,e2,f v H Hs fl d _ (Grow.refl sr.wf) ⟨As,r,ne,sb.nodup sr.nod,fun a h=>sr.own a (sb.subset h),fun Hs2 H2 fl2 d2 As2 s2 w2 n2 _ r2 ne2 nd2 o2 st=>?_⟩ h⟩
    obtain ⟨t2,x,y,z⟩:=g Hs2 H2 fl2 d2 As2 s2 r2 ne2 nd2 (fun a ha m=>(o2 a ha).2.elim id fun q=>absurd q (sr.sr.own a m).ne) fun a ha m=>st a (sr.sr.own a ha).ne m
    exact ⟨t2,z,w2,x,fun a h=>(y a h).elim (fun q=>n2 a (sr.own a q) (sr.sr.own a q).ne) fun q=>(o2 a q).1⟩
  · exact h.elim
theorem RepO.wk (h:fl2=true->fl=true) (r:RepO K Hs H fl d v As):RepO K Hs H fl2 d v As:=by
  cases fl2 with
  | false=>exact r.fls
  | true=>rw [h rfl] at r; exact r
theorem aA.wk {fl fl2:Bool} {d:List D} {v:List V} {As:List Addr} (h:fl2=true->fl=true) (r:aA K Hs H fl d v As):aA K Hs H fl2 d v As:=by
  cases fl2 with
  | false=>exact r.fls
  | true=>rw [h rfl] at r; exact r
theorem aA.at (r:aA K Hs H fl ds vs As) (e:ds[j]? = some d) (n:As.Nodup) :
    ∃ (v:V) (B:List Addr),vs[j]? = some v/\RepO K Hs H fl d v B/\B.Sublist As/\∀ Hs2 H2 fl2 d2 B2,Same Hs Hs2->(fl2=true->fl=true)->RepO K Hs2 H2 fl2 d2 v B2->B2.Nodup->(∀ a∈B2,a∈As->a∈B)->(∀ a∈As,a∉B->H2 a=H a) ->
      ∃ As2,As2.Nodup/\(∀ a∈As2,(a∈As/\a∉B)\/a∈B2)/\(B2≠[]->As2≠[])/\aA K Hs2 H2 fl2 (ds.set j d2) vs As2:=by
  induction ds generalizing vs As j with
  | nil=>simp at e
  | cons x ds ih =>
    obtain ⟨v,us,A,B,rfl,rfl,r,rs⟩:=r.c
    obtain ⟨n1,n2,n3⟩:=xah.mp n
    cases j with
    | zero =>
      simp at e
      subst e
      refine ⟨v,A,rfl,r,xaN _ _,fun Hs2 H2 fl2 d2 B2 s2 hf r2 nd2 dj st=>⟨B2++B,xah.mpr ⟨nd2,n2,fun a ha b hb e=>?_⟩,fun a h=>?_,fun ne z=>ne (xaX.mp z).1,.cons r2 ((rs.wk hf).stay s2 fun a h=>st a (xad _ h) fun z=>n3 a z a h rfl)⟩⟩
      · subst e
        exact n3 a (dj a ha (xad _ hb)) a hb rfl
      · rcases xaf.mp h with w | w
        · exact .inr w
        · exact .inl ⟨xad _ w,fun z=>n3 a z a w rfl⟩
    | succ j =>
      obtain ⟨v,C,a,b,c,g⟩:=ih (j:=j) rs (by simpa using e) n2
      have hA:∀ x∈A,x∉C:=fun x hx m=>n3 x hx x (c.subset m) rfl
      refine ⟨v,C,by simpa using a,b,c.trans (xai _ _),fun Hs2 H2 fl2 d2 B2 s2 hf r2 nd2 dj st=>?_⟩
      obtain ⟨As2,x,y,w,z⟩:=g Hs2 H2 fl2 d2 B2 s2 hf r2 nd2 (fun a ha m=>dj a ha (xad _ m)) fun a ha m=>st a (xad _ ha) m
      refine ⟨A++As2,xah.mpr ⟨n1,x,fun a ha b hb e=>?_⟩,fun a h=>?_,fun ne q=>w ne (xaX.mp q).2,.cons ((r.wk hf).stay s2 fun a h=>st a (xam _ h) (hA a h)) z⟩
      · subst e
        rcases y a hb with q | q
        · exact n3 a ha a q.1 rfl
        · exact hA a ha (dj a q (xam _ ha))
      · rcases xaf.mp h with q | q
        · exact .inl ⟨xam _ q,hA a q⟩
        · exact (y a q).imp (fun q=>⟨xad _ q.1,q.2⟩) id
theorem wW {α:Type} {xs:List α} {i:Int} {x:α} (h:atI xs i=some x):∃ j,ixN xs.length i=some j/\xs[j]? = some x:=by
  unfold L2.atI at h
  cases e:ixN xs.length i with
  | none=>rw [e] at h; cases h
  | some j=>rw [e] at h; exact ⟨j,rfl,h⟩
theorem z6 {α:Type} {xs:List α} {i:Int} {j:Nat} {x:α} (h:ixN xs.length i=some j) (e:xs[j]? = some x):atI xs i=some x:=by unfold L2.atI; rw [h]; exact e
end

section
variable {X:Cx} {K:PySem.W.Frag} {e:Expr} {p:WP} {te:WE} {apos cpos pos:Pos}
def kJ (fl:Bool) (m:Md) (d:D):Option Bool:=match m with
  | .sh=>some (fl && d.flat)
  | .ow b=>some (fl && b)
  | .bo=>bif d.flat then some fl else none
def wApp (p:WP) (te:WE):WS:=fun E ρ=>p ρ fun fl d up=>match d with
  | .list xs=>te ρ fun m x=>xs.length<sizeLine/\match kJ fl m x with
    | some fl2=>E.nx (up fl2 (.list (xs++[x])))
    | none=>False
  | _=>False
theorem vU (w:Wf Hs H) (r:RM K Hs H m d v As) (h:kJ fl m d=some fl2):(fl2=true->fl=true)/\∃ B,B.Sublist As/\RepO K Hs H fl2 d v B:=by
  cases m with
  | sh =>
    cases h
    exact ⟨fun z=>by cases fl <;> simp_all,[],xaH _,.sh (fun z=>by cases fl <;> simp_all) r.2⟩
  | ow b =>
    cases h
    refine ⟨fun z=>by cases fl <;> simp_all,As,List.Sublist.refl _,r.1.wk fun z=>by cases fl <;> simp_all⟩
  | bo =>
    cases hf:d.flat with
    | true =>
      simp only [kJ,hf,cond_true,Option.some.injEq] at h
      subst h
      exact ⟨id,[],xaH _,.sh (fun _=>hf) (r.flat w hf)⟩
    | false=>simp [kJ,hf] at h
theorem Place.put (pl:Place K Hs1 H1 σ fl (.list xs) v up) (g:Grow Hs1 H1 Hs2 H2) :
    ∃ a vs A,v=.ref a/\H2 a=some (.lst vs)/\H1 a=some (.lst vs)/\aA K Hs2 H2 fl xs vs A/\(a :: A).Nodup/\(∀ x∈a :: A,Hs2 x=none/\H1 x≠none) /\
      ∀ fl2 ys ws C,(fl2=true->fl=true)->aA K Hs2 H2 fl2 ys ws C->ws.length<=sizeLine->C.Nodup->a∉C->(∀ x∈C,x∈A\/(Hs2 x=none/\H1 x=none))->∃ tot2,SRel K Hs2 (up fl2 (.list ys)) σ (upd H2 a (.lst ws)) tot2:=by
  obtain ⟨As',r,ne,nd,own,k⟩:=pl.ex
  cases r with
  | sh hf _=>exact absurd rfl ne
  | @list a vs _ A hz e rs =>
    have e2:=g.all _ _ e
    have rs2:=rs.grow g.sh g.all
    have hw:∀ x∈a :: A,Hs1 x=none/\H1 x≠none:=fun x hx=>⟨own x hx,by
      rcases xaq.mp hx with rfl | hx
      · rw [e]; exact fun z=>nomatch z
      · exact (rs.own x hx).ne⟩
    exact ⟨a,vs,A,rfl,e2,e,rs2,nd,fun x hx=>⟨g.hsn (hw x hx).1 (hw x hx).2,(hw x hx).2⟩,fun fl2 ys ws C hf rw' hz ndC naC hC=>k.node g hw (fun _ z=>by cases z) hf (.list hz upd_same (rw'.stay (Same.refl _) fun b hb=>upd_ne fun z=>naC (by subst z; exact hb))) ndC naC hC⟩
theorem Place.isL (w:Wf Hs1 H1) (pl:Place K Hs1 H1 σ fl (.list xs) v up):∃ a vs,v=.ref a/\SqL K H1 a vs:=by
  obtain ⟨As',r,ne,nd,own,k⟩:=pl.ex
  cases r with
  | sh hf _=>exact absurd rfl ne
  | list hz e rs=>exact ⟨_,_,rfl,.inl (.inl e)⟩
theorem nM (ho:QP X K e p) (he:QE X K e2 te) (hK:X.K=K:=by rfl) (hs:swapsWith (.Call (.Attribute e "append" apos) [e2] [] cpos) none pos.line X.env=pure false:=by rfl)
    (hbase:attributeBase e "append" X.env (eval e X.env)=eval e X.env:=by rfl)
    (hfew:((backTo cpos (starEach [e2] X.env)).all (fun x=>!x.1) && (backToKw cpos (keywordEach [] X.env)).all (fun x=>x.1.isSome)
      && decide ([e2].length+([]:List Keyword).length+(if ([]:List Keyword).isEmpty then 0 else 1)<30))=true:=by rfl)
    (hline:(apos.endLine == cpos.line)=true:=by rfl) (hss:starEach (e2 :: []) X.env=(false,eval e2 X.env) :: starEach [] X.env:=by rfl) (hplain:(backTo cpos (starEach [] X.env)).any (·.1)=false:=by rfl) :
    QS X K L (.Expr (.Call (.Attribute e "append" apos) [e2] [] cpos) pos) (wApp p te):=by
  subst hK
  refine PS.imp (ps_expr (pe_bm PySem.F.plainAttrs_list PySem.F.slot_list_append PySem.F.type_list_append mt_append ho (pa_cons he pa_nil hss) hbase hfew hline hss hplain) hs) fun D σ H hx=>eF hx fun Hs ρ tot E sr h k1 k2 k3 k4=>?_
  refine ⟨Hs,ρ,tot,_,sr,h,fun v H1 Hs1 fl d up g1 p1 q1=>?_⟩
  cases d with
  | list xs =>
    obtain ⟨a1,vs1,e1,s1⟩:=p1.isL g1.wf
    subst e1
    refine ⟨.inl ⟨rfl,_,s1⟩,Hs1,ρ,tot,_,sr.grow g1,q1,fun y H2 Hs2 m x As g2 r2 f2 q2=>?_⟩
    obtain ⟨hz,q2⟩:=q2
    obtain ⟨a,vs,A,ea,e2,_,rs,nd,hn,k⟩:=p1.put g2
    cases ea
    have hl:=rs.length
    refine ⟨a1,vs,y,rfl,rfl,e2,by lia,?_⟩
    cases hp:kJ fl m x with
    | none=>rw [hp] at q2; exact q2.elim
    | some fl2 =>
      rw [hp] at q2
      obtain ⟨hf,B,sb,rb⟩:=vU g2.wf r2 hp
      obtain ⟨na,nA⟩:=xau.mp nd
      have fB:∀ x∈B,Hs2 x=none/\H1 x=none:=fun x hx=>f2.2 x (sb.subset hx)
      have c1:(A++(B++[])).Nodup:=by
        rw [xay]
        exact xah.mpr ⟨nA,sb.nodup f2.1,fun x hx z hz e=>by subst e; exact (hn x (xaa _ hx)).2 (fB x hz).2⟩
      have c2:a1∉A++(B++[]):=by
        rw [xay]
        intro m
        rcases xaf.mp m with m | m
        · exact na m
        · exact (hn _ xac).2 (fB _ m).2
      have c3:∀ x∈A++(B++[]),x∈A\/(Hs2 x=none/\H1 x=none):=by
        rw [xay]
        intro x hx
        exact (xaf.mp hx).imp id fun z=>fB x z
      obtain ⟨tot2,sr2⟩:=k fl2 (xs++[x]) (vs++[y]) (A++(B++[])) hf ((rs.wk hf).append (.cons rb .nil)) (by rw [xaz]; simp; lia) c1 c2 c3
      exact k1 σ _ Hs2 _ tot2 (g1.sh.trans g2.sh) sr2 q2
  | _=>exact q1.elim
def uF:WE:=fun _ Q=>Q (.ow true) (.dK [])
theorem yI:QE X K (.Dict [] [] pos) uF:=PE.imp pe_dnewK fun σ H Qv hx=>ex4 hx fun Hs ρ tot Q sr h f=>fun a ha =>
  f _ _ Hs (.ow true) (.dK []) [a] (newL sr.wf ha fun _ z=>nomatch z) ⟨.dK (vs:=[]) ⟨xaC _,fun p hp=>nomatch hp⟩ upd_same .nil,by simp⟩ ⟨by simp,fun b hb=>by
    obtain rfl:b=a:=by simpa using hb
    exact ⟨sr.wf.sub.free ha,ha⟩⟩ h
end
end L2.Q


namespace L2.Q
open PySem PySem.Spec PyProof.Rows

abbrev WJ:=Env->Str->(Str->Prop)->Prop
section
variable {X:Cx} {K:PySem.W.Frag} {e:Expr} {te:WE}
def jC:List D->Option (List Str)
  | []=>some []
  | .str x :: xs=>(jC xs).map (x :: ·)
  | _ :: _=>none
def pX (to te:WE):WE:=fun ρ Q=>to ρ fun _ x=>match x with
  | .str z=>te ρ fun _ y=>match y with
    | .list ys=>∃ zs,jC ys=some zs/\(zs.map (·.length)).sum+zs.length * z.length<=16777216/\Q .sh (.str (Str.join z zs))
    | _=>False
  | _=>False
theorem vI (r:Reps K H ds vs) (q:Vals vs us) (h:jC ds=some zs):StrsAre us zs:=by
  induction ds generalizing vs us zs with
  | nil =>
    simp [jC] at h
    subst h
    have:=r.n0
    subst this
    rw [Paired.n0 q]; exact .nil
  | cons d ds ih =>
    obtain ⟨v,vs,rfl,r1,rs⟩:=r.c
    obtain ⟨u,us,rfl,q1,qs⟩:=Paired.c q
    cases r1 with
    | str hz =>
      simp only [jC] at h
      cases e:jC ds with
      | none=>rw [e] at h; cases h
      | some ys =>
        rw [e] at h
        cases h
        obtain ⟨t,rfl⟩:=q1
        exact .cons _ t (ih rs qs e)
    | _=>simp [jC] at h
theorem yz (hK:X.K=K:=by rfl):MtR X "str.join" (fun x xs H Q=>∃ z a ds vs zs,x=.str z/\xs=[.ref a]/\SqL K H a vs/\Reps K H ds vs/\jC ds=some zs/\(zs.map (·.length)).sum+zs.length * z.length<=16777216/\Q (.str (Str.join z zs)) H):=by
  subst hK
  intro pins s σ H x xs v us Q I rx rs h
  obtain ⟨z,a,ds,vs,zs,rfl,rfl,hs,rr,e,hz,q⟩:=h
  obtain ⟨t,rfl⟩:=rx
  obtain ⟨u,rfl,ru⟩:=Vals.one rs
  cases ru
  obtain ⟨its,rv,pl,_⟩:=I.list hs
  exact join_list pl.isList (by simpa using vI rr rv e) hz fun t' k=>⟨.str _,H,I.tok _,⟨t',rfl⟩,by rw [show Txt.join z zs=Str.join z zs from StrLaws.glued_eq_join z zs]; exact q⟩
theorem qd:∀ {zs:List Str},(Str.join z zs).length<=(zs.map (·.length)).sum+zs.length * z.length
  | []=>by show Str.empty.length<=_; exact xat (show Str.empty.length<=0 by decide) (xaC _)
  | [x]=>by simp [Str.join]
  | x :: y :: r=>by
    have ih:=qd (z:=z) (zs:=y :: r)
    show (x++z++Str.join z (y :: r)).length<=_
    rw [bV,bV]
    simp only [xaD,List.sum_cons,xaP,Nat.add_mul,Nat.one_mul] at ih ⊢
    lia
theorem z9 (ho:QE X K o to) (he:QE X K e te) (hK:X.K=K:=by rfl)
    (hbase:attributeBase o "join" X.env (eval o X.env)=eval o X.env:=by rfl)
    (hfew:((backTo cpos (starEach [e] X.env)).all (fun x=>!x.1) && (backToKw cpos (keywordEach [] X.env)).all (fun x=>x.1.isSome)
      && decide ([e].length+([]:List Keyword).length+(if ([]:List Keyword).isEmpty then 0 else 1)<30))=true:=by rfl)
    (hline:(apos.endLine == cpos.line)=true:=by rfl) (hss:starEach (e :: []) X.env=(false,eval e X.env) :: starEach [] X.env:=by rfl) (hplain:(backTo cpos (starEach [] X.env)).any (·.1)=false:=by rfl) :
    QE X K (.Call (.Attribute o "join" apos) [e] [] cpos) (pX to te):=by
  subst hK
  refine PE.imp (pe_bm PySem.F.plainAttrs_str PySem.F.slot_str_join PySem.F.type_str_join yz ho (pa_cons he pa_nil hss) hbase hfew hline hss hplain) fun σ H Qv hx=>ex4 hx fun Hs ρ tot Q sr h f=>?_
  refine ⟨Hs,ρ,tot,_,sr,h,fun v H1 Hs1 m x As g1 r1 f1 q1=>?_⟩
  have r:=r1.rep g1.wf
  cases r with
  | str hz =>
    refine ⟨rfl,Hs1,ρ,tot,_,sr.grow g1,q1,fun y H2 Hs2 m2 x2 As2 g2 r2 f2 q2=>?_⟩
    have rr:=r2.rep g2.wf
    cases rr with
    | list z s rs =>
      obtain ⟨zs,e,hz,q⟩:=q2
      exact ⟨_,_,_,_,zs,rfl,rfl,s,rs,e,hz,Fin.sh (Fin.after f (g1.trans g2)) g2.wf (.str (xat qd (by rw [sizeLine_eq]; exact hz))) q⟩
    | _=>exact q2.elim
  | _=>exact q1.elim

def keyT (k:List Key):D:=.tup (k.map keyD)
def Eg:W1:=fun _ x Q=>match x with
  | .list xs=>∃ ks sh,xs=ks.map keyT/\(∀ k∈ks,shOf k=true :: sh)/\∀ ms:List (List Key),ms.Perm ks->(ms.Pairwise fun a b=>ltK b a=false)->Q (.ow true) (.list (ms.map keyT))
  | _=>False
end
end L2.Q


namespace L2.Q
open PySem PySem.Spec PyProof.Rows

def shF (A:List Addr) (F:Nat->List Addr):Nat->List Addr
  | 0=>A
  | i+1=>F i
def Adr (K:PySem.W.Frag) (Hs H:Hp) (ρ:Env) (σ:St) (tot:List Addr) (F:Nat->List Addr):Prop:=(∀ i fl d,ρ[i]? = some (some (.ow fl d))->∃ v,σ[i]? = some (some v)/\F i≠[]/\RepO K Hs H fl d v (F i)) /\
    (∀ i,(F i).Sublist tot)/\∀ i j,i≠j->∀ a∈F i,a∉F j
theorem Adr.skip {K:PySem.W.Frag} {F:Nat->List Addr} (h:Adr K Hs H ρ σ tot F) (no:∀ fl d,o≠some (.ow fl d)):Adr K Hs H (o :: ρ) (u :: σ) tot (shF [] F):=by
  obtain ⟨a,b,c⟩:=h
  refine ⟨fun i fl d e=>?_,fun i=>?_,fun i j ne x hx=>?_⟩
  · cases i with
    | zero=>simp at e; exact absurd e (no fl d)
    | succ i=>exact a i fl d (by simpa using e)
  · cases i with
    | zero=>exact xaH _
    | succ i=>exact b i
  · cases i with
    | zero=>exact mem0 hx
    | succ i =>
      cases j with
      | zero=>exact fun z=>mem0 z
      | succ j=>exact c i j (fun z=>ne (by rw [z])) x hx
theorem Adr.own {K:PySem.W.Frag} {tot B:List Addr} {F:Nat->List Addr} (h:Adr K Hs H ρ σ tot F) (n:(B++tot).Nodup) (hs:∀ fl d,sl=.ow fl d->B≠[]/\RepO K Hs H fl d v B):Adr K Hs H (some sl :: ρ) (some v :: σ) (B++tot) (shF B F):=by
  obtain ⟨a,b,c⟩:=h
  obtain ⟨n1,n2,n3⟩:=xah.mp n
  refine ⟨fun i fl d e=>?_,fun i=>?_,fun i j ne x hx=>?_⟩
  · cases i with
    | zero=>simp at e; exact ⟨v,rfl,hs fl d e⟩
    | succ i=>exact a i fl d (by simpa using e)
  · cases i with
    | zero=>exact xaN _ _
    | succ i=>exact (b i).trans (xai _ _)
  · cases i with
    | zero =>
      cases j with
      | zero=>exact absurd rfl ne
      | succ j=>exact fun z=>n3 x hx x ((b j).subset z) rfl
    | succ i =>
      cases j with
      | zero=>exact fun z=>n3 x z x ((b i).subset hx) rfl
      | succ j=>exact c i j (fun z=>ne (by rw [z])) x hx
theorem SR.addrs {K:PySem.W.Frag} (s:SR K Hs H ρ σ tot):tot.Nodup->∃ F:Nat->List Addr,Adr K Hs H ρ σ tot F:=by
  induction s with
  | nil=>exact fun _=>⟨fun _=>[],fun i fl d e=>by simp at e,fun i=>xaH _,fun i j _ a h=>mem0 h⟩
  | non s ih =>
    intro n
    obtain ⟨F,h⟩:=ih n
    exact ⟨_,h.skip fun fl d z=>by cases z⟩
  | sh r s ih =>
    intro n
    obtain ⟨F,h⟩:=ih n
    exact ⟨_,h.skip fun fl d z=>by cases z⟩
  | xc s ih =>
    intro n
    obtain ⟨F,h⟩:=ih n
    exact ⟨_,h.skip fun fl d z=>by cases z⟩
  | ow ne r s ih =>
    intro n
    obtain ⟨F,h⟩:=ih (xah.mp n).2.1
    exact ⟨_,h.own n fun fl d e=>by cases e; exact ⟨ne,r⟩⟩
  | lk ne r s ih =>
    intro n
    obtain ⟨F,h⟩:=ih (xah.mp n).2.1
    exact ⟨_,h.own n fun fl d e=>by cases e⟩
abbrev Plan:=List (WE ⊕ Nat)
def mvs:Plan->List Nat
  | []=>[]
  | .inl _ :: r=>mvs r
  | .inr i :: r=>i :: mvs r
def movS:Option (Option Sl)->Option (Md × D)
  | some (some (.sh d))=>some (.sh,d)
  | some (some (.ow fl d))=>some (.ow fl,d)
  | _=>none
def jt:Plan->Env->(List (Md × D)->Prop)->Prop
  | [],_,Q=>Q []
  | .inl t :: r,ρ,Q=>t ρ fun m x=>jt r ρ fun ps=>Q ((m,x) :: ps)
  | .inr i :: r,ρ,Q=>match movS ρ[i]? with
    | some p=>jt r ρ fun ps=>Q (p :: ps)
    | none=>False
def tpM (K:PySem.W.Frag) (pl:Plan):TA:=fun σ H Qv=>∃ (Hs:Hp) (ρ:Env) (tot:List Addr) (F:Nat->List Addr) (Q:List (Md × D)->Prop),SRel K Hs ρ σ H tot/\(∀ i fl d,ρ[i]? = some (some (.ow fl d))->∃ v,σ[i]? = some (some v)/\F i≠[]/\RepO K Hs H fl d v (F i))/\(∀ i,(F i).Sublist tot)/\(∀ i j,i≠j->∀ a∈F i,a∉F j) /\
  jt pl ρ Q/\∀ vs H' Hs' ps As,Grow Hs H Hs' H'->RMs K Hs' H' ps vs As->As.Nodup->(∀ a∈As,Hs' a=none/\(H a=none\/∃ i∈mvs pl,a∈F i))->Q ps->Qv vs H'
abbrev QM (X:Cx) (K:PySem.W.Frag) (es:List Expr) (pl:Plan):Prop:=PA X es (tpM K pl)
section
variable {X:Cx} {K:PySem.W.Frag} {e:Expr} {es:List Expr} {te:WE} {pl:Plan} {pos:Pos}
theorem wO:QM X K [] []:=PA.imp pa_nil fun σ H Qv hx=>by
  obtain ⟨Hs,ρ,tot,F,Q,sr,h1,h2,h3,h,f⟩:=hx
  exact f [] H Hs [] [] (Grow.refl sr.wf) .nil xaA (fun a h=>mem0 h) h
theorem qm_e (ha:QE X K e te) (hr:QM X K es pl) (hs:starEach (e :: es) X.env=(false,eval e X.env) :: starEach es X.env:=by rfl):QM X K (e :: es) (.inl te :: pl):=by
  refine PA.imp (pa_cons ha hr hs) fun σ H Qv hx9=>?_
  obtain ⟨Hs,ρ,tot,F,Q,sr,h1,h2,h3,h,f⟩:=hx9
  refine ⟨Hs,ρ,tot,_,sr,h,fun v H1 Hs1 m x As g1 r1 f1 q1=>⟨Hs1,ρ,tot,F,_,sr.grow g1,(fun i fl d e=>?_),h2,h3,q1,fun vs H2 Hs2 ps Bs g2 r2 nd2 o2 q2=>?_⟩⟩
  · obtain ⟨v,a,b,c⟩:=h1 i fl d e
    exact ⟨v,a,b,c.grow g1.sh g1.all⟩
  · refine f (v :: vs) H2 Hs2 _ _ (g1.trans g2) (.cons (r1.grow g2) r2) (xah.mpr ⟨f1.1,nd2,fun a ha b hb e=>?_⟩) (fun a ha=>?_) q2
    · subst e
      rcases (o2 a hb).2 with z | ⟨i,_,z⟩
      · exact (r1.own a ha).ne z
      · exact (sr.sr.own a ((h2 i).subset z)).ne (f1.2 a ha).2
    · rcases xaf.mp ha with z | z
      · exact ⟨g2.hsn (f1.2 a z).1 (r1.own a z).ne,.inl (f1.2 a z).2⟩
      · exact ⟨(o2 a z).1,(o2 a z).2.imp g1.all.free id⟩
theorem qm_v (ha:PE X e (tVar i)) (hr:QM X K es pl) (hi:i∉mvs pl:=by decide) (hs:starEach (e :: es) X.env=(false,eval e X.env) :: starEach es X.env:=by rfl):QM X K (e :: es) (.inr i :: pl):=by
  refine PA.imp (pa_cons ha hr hs) fun σ H Qv hx9=>?_
  obtain ⟨Hs,ρ,tot,F,Q,sr,h1,h2,h3,h,f⟩:=hx9
  unfold jt at h
  cases hm:movS ρ[i]? with
  | none=>rw [hm] at h; exact h.elim
  | some p =>
    rw [hm] at h
    have key:∃ v A,σ[i]? = some (some v)/\RM K Hs H p.1 p.2 v A/\A.Nodup/\∀ a∈A,a∈F i:=by
      cases e1:ρ[i]? with
      | none=>rw [e1] at hm; cases hm
      | some o =>
        cases o with
        | none=>rw [e1] at hm; cases hm
        | some sl =>
          cases sl with
          | sh d =>
            rw [e1] at hm; cases hm
            obtain ⟨v,a,b⟩:=sr.sr.get e1
            exact ⟨v,[],a,⟨rfl,b⟩,xaA,fun a h=>nomatch h⟩
          | lk a fl d=>rw [e1] at hm; cases hm
          | xc a=>rw [e1] at hm; cases hm
          | ow fl d =>
            rw [e1] at hm; cases hm
            obtain ⟨v,a,b,c⟩:=h1 i fl d e1
            exact ⟨v,F i,a,⟨c,b⟩,(h2 i).nodup sr.nod,fun a h=>h⟩
    obtain ⟨v,A,ev,rm,ndA,hA⟩:=key
    refine ⟨v,ev,Hs,ρ,tot,F,_,sr,h1,h2,h3,h,fun vs H2 Hs2 ps Bs g2 r2 nd2 o2 q2=>?_⟩
    refine f (v :: vs) H2 Hs2 _ _ g2 (.cons (rm.grow g2) r2) (xah.mpr ⟨ndA,nd2,fun a ha b hb e=>?_⟩) (fun a ha=>?_) q2
    · subst e
      rcases (o2 a hb).2 with z | ⟨j,hj,z⟩
      · exact (rm.own a ha).ne z
      · exact h3 i j (fun z=>hi (by rw [z]; exact hj)) a (hA a ha) z
    · rcases xaf.mp ha with z | z
      · have:a∈tot:=(h2 i).subset (hA a z)
        exact ⟨g2.hsn (sr.own a this) (sr.sr.own a this).ne,.inr ⟨i,xac,hA a z⟩⟩
      · exact ⟨(o2 a z).1,(o2 a z).2.imp id fun ⟨j,hj,q⟩=>⟨j,xaa _ hj,q⟩⟩
def vf (pl:Plan):WS:=fun E ρ=>jt pl ρ fun ps=>ps.length<=sizeLine/\E.rt (rQ ps) (.tup (ps.map (·.2)))
theorem uK {x1} (h:QM X K es pl):QS X K L (.Return (some (.Tuple es x1 tpos)) pos) (vf pl):=by
  refine PS.imp (ps_ret (pe_tup h)) fun D σ H hx=>eF hx fun Hs ρ tot E sr h k1 k2 k3 k4=>?_
  obtain ⟨F,h1,h2,h3⟩:=sr.sr.addrs sr.nod
  refine ⟨Hs,ρ,tot,F,_,sr,h1,h2,h3,h,fun vs H1 Hs1 ps As g1 r1 nd1 o1 q1=>?_⟩
  obtain ⟨hz,q⟩:=q1
  have rl:=r1.reps g1.wf
  have hl:=rl.length
  rw [xae] at hl
  refine ⟨by lia,fun p hp=>?_⟩
  have g2:=newT (vs:=vs) g1.wf hp
  have sm:Same Hs (upd Hs1 p (.tup vs)):=g1.sh.trans g2.sh
  unfold rQ at q
  cases e1:ps.all okSh with
  | true =>
    rw [e1] at q
    exact k4 _ _ _ .sh _ [] sm g2.wf ⟨rfl,.tup (by lia) upd_same ((r1.sh g1.wf e1).same g2.sh)⟩ xaA (fun a h=>nomatch h) q
  | false =>
    rw [e1] at q
    cases e2:ps.all okOw with
    | false =>
      rw [e2] at q
      exact k4 _ _ _ .bo _ [] sm g2.wf ⟨rfl,.tup (by lia) upd_same (rl.same g2.all)⟩ xaA (fun a h=>nomatch h) q
    | true =>
      rw [e2] at q
      obtain ⟨Bs,sb,nz,ro⟩:=r1.ow (fl:=ps.all okFl) g1.wf e2 fun z=>z
      have hne:flats (ps.map (·.2))=false:=by
        cases hf:flats (ps.map (·.2)) with
        | false=>rfl
        | true=>rw [lO hf] at e1; cases e1
      exact k4 _ _ _ (.ow _) _ Bs sm g2.wf ⟨.tup (by lia) upd_same hne (ro.grow g2.sh g2.all),nz e1⟩ (sb.nodup nd1) (fun a ha=>g2.hsn (o1 a (sb.subset ha)).1 (ro.own a ha).ne) q
end
end L2.Q


namespace L2.Q
open PySem PySem.Spec PyProof.Rows

def spLaw:SpD:=fun ds Q=>∃ ns:List Int,ds=[.list (ns.map .int)]/\ns.length<=63/\∀ m,Q m (.bl true)
theorem ints_rep {K:PySem.W.Frag}:∀ (ns:List Int),Reps K H (ns.map .int) (ns.map V.int)
  | []=>.nil
  | n :: ns=>.cons (.int n) (ints_rep ns)
theorem vH {K:PySem.W.Frag} {H:Hp} {a:Addr} {ns:List Int} {E:XK} (hl:ns.length<=63) (hS:SqL K H a (ns.map V.int)):aD K spLaw [.ref a] H (fun v _=>v=.bl true) E:=by
  refine ⟨[.list (ns.map .int)],fun _ d=>d=.bl true,.cons (.list (by rw [xae]; exact xat hl (by decide)) hS (ints_rep ns)) .nil,⟨ns,rfl,hl,fun _=>rfl⟩,?_⟩
  intro v H' Hs' m d As s w r nd own q
  subst q
  have:=r.rep w
  cases this
  rfl

abbrev sg (x:Str):List Nat:=x.cps.toList
theorem h_ (x y:Str):sg (x++y)=sg x++sg y:=by
  show (x.cps++y.cps).toList=_
  simp [sg]
theorem empty_app (x:Str):Str.empty++x=x:=sW (by rw [<- sg,h_]; rfl)
def okS (x:Str):Prop:=∀ c∈sg x,c<0x110000
theorem yx (x:Str):PyData.strOk x=true↔okS x:=by
  unfold PyData.strOk okS sg
  rw [Array.all_eq_true']
  simp
theorem atI0 {α:Type} (x:α) (l:List α):atI (x :: l) 0=some x:=by simp [L2.atI,ixN]
theorem atI1 {α:Type} (x y:α) (l:List α):atI (x :: y :: l) 1=some y:=by
  have:=atI_nat (xs:=x :: y :: l) (j:=1) (v:=y) rfl
  exact this
theorem atI2 {α:Type} (x y z:α) (l:List α):atI (x :: y :: z :: l) 2=some z:=by
  have:=atI_nat (xs:=x :: y :: z :: l) (j:=2) (v:=z) rfl
  exact this
theorem zx:Str.empty.length=0:=by decide
end L2.Q


namespace L2.Q.R
open PySem PySem.Spec PyProof.Rows L2.Q
section
variable {f:D->Prop} {k:Kt f}
theorem Ds:onK .non k=f .non:=rfl
theorem Gz:onK (.bl b) k=f (.bl b):=rfl
theorem Es:onK (.int i) k=f (.int i):=rfl
theorem DN:onK (.str x) k=f (.str x):=rfl
theorem BZ:onK (.list xs) k=f (.list xs):=rfl
theorem Dm:onK (.tup xs) k=f (.tup xs):=rfl
theorem Hi:onK (.dK xs) k=f (.dK xs):=rfl
theorem Hc:onK (.dT xs) k=f (.dT xs):=rfl
end
theorem CV {f:Bool->Prop} {k:Kt f}:onK true k=f true:=rfl
theorem Aq {f:Bool->Prop} {k:Kt f}:onK false k=f false:=rfl
theorem Dl {d:D} {f:Md × D->Prop} {k:Kt f}:onK (Md.sh,d) k=f (.sh,d):=rfl
theorem DX {b:Bool} {d:D} {f:Md × D->Prop} {k:Kt f}:onK (Md.ow b,d) k=f (.ow b,d):=rfl
theorem DY {d:D} {f:Md × D->Prop} {k:Kt f}:onK (Md.bo,d) k=f (.bo,d):=rfl
theorem Ff {d:D} {f:Option Sl->Prop} {k:Kt f}:onK (some (.sh d)) k=f (some (.sh d)):=rfl
theorem Ei {b:Bool} {d:D} {f:Option Sl->Prop} {k:Kt f}:onK (some (.ow b d)) k=f (some (.ow b d)):=rfl
theorem Ed {p:Md × D} {f:Option (Md × D)->Prop} {k:Kt f}:onK (some p) k=f (some p):=rfl
theorem Hg {p:Bool} {f:Option Bool->Prop} {k:Kt f}:onK (some p) k=f (some p):=rfl
theorem Dq {d:D} {f:Option (Option Sl)->Prop} {k:Kt f}:onK (some (some (.sh d))) k=f (some (some (.sh d))):=rfl
theorem DQ {b:Bool} {d:D} {f:Option (Option Sl)->Prop} {k:Kt f}:onK (some (some (.ow b d))) k=f (some (some (.ow b d))):=rfl
section
variable {E:iG} {ρ:Env} {Q:Md->D->Prop} {B:Bool->Prop} {t u:WS} {te ta tb tc to':WE} {tt tu:WT} {tar:WA} {i j n:Nat} {m m':Md} {d d':D} {sp:SpD} {p:WP} {R:List (Md × D)->Prop}
theorem Fp:cu E ρ=E.nx ρ:=rfl
theorem Gm:wSeq t u E ρ=t { E with nx:=u E } ρ:=rfl
theorem Gv:wRet te E ρ=te ρ E.rt:=rfl
def put (sl:Option Sl) (k:Sl->Prop):Prop:=match sl with
  | some s=>k s
  | none=>False
theorem DR:put (some (.sh d)) k=k (.sh d):=rfl
theorem Ea:put (some (.ow b d)) k=k (.ow b d):=rfl
theorem Fz:wSet i te E ρ=te ρ fun m d=>onK (asg m d) (f:=fun o=>put o fun sl=>E.nx (ρ.set i (some sl))) ⟨⟩:=rfl
theorem FZ:wIfS tt t u E ρ=tt ρ fun b=>onK b (f:=fun b=>if b=true then t E ρ else u E ρ) ⟨⟩:=rfl
theorem Bh:lr E ρ=False:=rfl
theorem Fy:vQ i E ρ=onK ρ[i]? (f:=fun o=>match o with
  | some (some (.sh d))=>E.rt .sh d
  | some (some (.ow fl d))=>E.rt (.ow fl) d
  | _=>False) ⟨⟩:=rfl
theorem Fv:vf pl E ρ=jt pl ρ fun ps=>ps.length<=sizeLine/\E.rt (rQ ps) (.tup (ps.map (·.2))):=rfl
theorem zr:jt [] ρ R=R []:=rfl
theorem Cq:jt (.inl te :: r) ρ R=te ρ fun m x=>jt r ρ fun ps=>R ((m,x) :: ps):=rfl
def mov (o:Option (Md × D)) (k:Md × D->Prop):Prop:=match o with
  | some p=>k p
  | none=>False
theorem Ar {p:Md × D} {k:Md × D->Prop}:mov (some p) k=k p:=rfl
theorem BV:jt (.inr i :: r) ρ R=onK (movS ρ[i]?) (f:=fun o=>mov o fun p=>jt r ρ fun ps=>R (p :: ps)) ⟨⟩:=rfl
theorem GR:wFrz i t E ρ=t E (frzE i ρ):=rfl
-- tests
def bol (d:D) (B:Bool->Prop):Prop:=match d with
  | .bl b=>B b
  | _=>False
theorem Fj:bol (.bl b) B=B b:=rfl
theorem wB_:wB te ρ B=te ρ fun _ x=>onK x (f:=fun x=>bol x B) ⟨⟩:=rfl
theorem Hk:wNot tt ρ B=tt ρ fun c=>B (!c):=rfl
theorem wOr_:wOr tt tu ρ B=tt ρ fun c=>onK c (f:=fun c=>if c=true then B true else tu ρ B) ⟨⟩:=rfl
theorem Gy:wYes ρ B=B true:=rfl
-- expressions
theorem G8:wVar i ρ Q=onK ρ[i]? (f:=fun o=>useS o Q) ⟨⟩:=rfl
theorem Bb:useS (some (some (.sh d))) Q=Q .sh d:=rfl
theorem Ci:useS (some (some (.ow b d))) Q=Q .bo d:=rfl
theorem wC_:wC d ρ Q=Q .sh d:=rfl
theorem wOp_:wOp f ta tb ρ Q=ta ρ fun m x=>tb ρ fun n y=>f m x n y Q:=rfl
theorem wUn_:wUn f ta ρ Q=ta ρ fun m x=>f m x Q:=rfl
theorem Ce:iz f g ta tb tc ρ Q=ta ρ fun m x=>tb ρ fun n y=>f m x n y fun _ z=>onK z (f:=fun z=>bol z fun k=>onK k (f:=fun k=>if k=true then tc ρ fun l w=>g n y l w Q else Q .sh (.bl false)) ⟨⟩) ⟨⟩:=by
  unfold iz onK bol
  rfl
theorem DK:jM ta tb ρ Q=ta ρ fun _ x=>onK x (f:=fun x=>bol x fun c=>onK c (f:=fun c=>if c=true then tb ρ Q else Q .sh (.bl false)) ⟨⟩) ⟨⟩:=by unfold jM onK bol; rfl
theorem F_:wOrV ta tb ρ Q=ta ρ fun _ x=>onK x (f:=fun x=>bol x fun c=>onK c (f:=fun c=>if c=true then Q .sh (.bl true) else tb ρ Q) ⟨⟩) ⟨⟩:=by unfold wOrV onK bol; rfl
theorem Du:vy ta ρ Q=ta ρ fun _ x=>onK x (f:=fun x=>bol x fun c=>Q .sh (.bl (!c))) ⟨⟩:=by unfold vy onK bol; rfl
theorem Fi:aj te tar ρ R=te ρ fun m x=>tar ρ fun ps=>R ((m,x) :: ps):=rfl
theorem GD:wNil ρ R=R []:=rfl
theorem Hj:wTup tar ρ Q=tar ρ fun ps=>ps.length<=sizeLine/\Q (rQ ps) (.tup (ps.map (·.2))):=rfl
theorem G9:wLst tar ρ Q=tar ρ fun ps=>ps.length<=sizeLine/\Q (xF ps) (.list (ps.map (·.2))):=rfl
theorem Ft:bJ sp tar ρ Q=tar ρ fun ps=>sp (ps.map (·.2)) fun m d=>onK (m,d) (f:=fun p=>Q (retM p.1 p.2) p.2) ⟨⟩:=rfl
-- operators
section
variable {x y:Str} {a b:Int} {xs ys:List D} {kvs:List (Key × D)} {kts:List (List Key × D)}
theorem BW:fAdd m (.int a) m' (.int b) Q=Q .sh (.int (a+b)):=rfl
theorem Bk:fAdd m (.str x) m' (.str y) Q=(x.length+y.length<=sizeLine/\Q .sh (.str (x++y))):=rfl
theorem Df:fAdd m (.list xs) m' (.list ys) Q=(xs.length+ys.length<=sizeLine/\((flats xs=true/\flats ys=true/\Q (.ow true) (.list (xs++ys)))\/(m=.sh/\m'=.sh/\Q (.ow false) (.list (xs++ys))))):=rfl
theorem Bc:fAdd m (.tup xs) m' (.tup ys) Q=(xs≠[]/\xs.length+ys.length<=sizeLine/\flats xs=true/\flats ys=true/\Q .sh (.tup (xs++ys))):=rfl
theorem CJ:fSub m (.int a) m' (.int b) Q=Q .sh (.int (a - b)):=rfl
theorem Di:fMul m (.int a) m' (.int b) Q=(CMul a b/\Q .sh (.int (a * b))):=rfl
theorem Cg:fDiv m (.int a) m' (.int b) Q=((0<b/\b<1073741824)/\Q .sh (.int (a / b))):=rfl
theorem Bq:fMod m (.int a) m' (.int b) Q=(0<b/\Q .sh (.int (a % b))):=rfl
theorem Dj:fPow m (.int a) m' (.int b) Q=(CPow a b/\Q .sh (.int (a ^ b.toNat))):=rfl
theorem Fb:fLt m (.int a) m' (.int b) Q=Q .sh (.bl (decide (a<b))):=rfl
theorem En:fLt m (.str x) m' (.str y) Q=Q .sh (.bl (ltS x y)):=rfl
theorem Er:fLe m (.int a) m' (.int b) Q=Q .sh (.bl (decide (a<=b))):=rfl
theorem Ez:fLe m (.str x) m' (.str y) Q=Q .sh (.bl (!ltS y x)):=rfl
theorem Dk:fGt m (.int a) m' (.int b) Q=Q .sh (.bl (decide (b<a))):=rfl
theorem Fw:fEq m (.int a) m' (.int b) Q=Q .sh (.bl (decide (a=b))):=rfl
theorem E_:fEq m (.str x) m' (.str y) Q=Q .sh (.bl (decide (x=y))):=rfl
theorem Dn:fEq m (.bl k) m' (.bl l) Q=Q .sh (.bl (decide (k=l))):=rfl
theorem Gx:fEq m (.list xs) m' d Q=(okD 12 (.list xs)=true/\okD 12 d=true/\Q .sh (.bl (eqD (.list xs) d))):=by cases d <;> rfl
theorem FQ:fEq m (.tup xs) m' d Q=(okD 12 (.tup xs)=true/\okD 12 d=true/\Q .sh (.bl (eqD (.tup xs) d))):=by cases d <;> rfl
theorem Gk:fEq m .non m' d Q=(okD 12 .non=true/\okD 12 d=true/\Q .sh (.bl (eqD .non d))):=by cases d <;> rfl
theorem Ex:fNe m (.int a) m' (.int b) Q=Q .sh (.bl (!decide (a=b))):=rfl
theorem Fq:fNe m (.str x) m' (.str y) Q=Q .sh (.bl (!decide (x=y))):=rfl
theorem G7:fNe m (.list xs) m' d Q=(okD 12 (.list xs)=true/\okD 12 d=true/\Q .sh (.bl (!eqD (.list xs) d))):=by cases d <;> rfl
theorem Gi:fNe m (.tup xs) m' d Q=(okD 12 (.tup xs)=true/\okD 12 d=true/\Q .sh (.bl (!eqD (.tup xs) d))):=by cases d <;> rfl
theorem FN:fNe m .non m' d Q=(okD 12 .non=true/\okD 12 d=true/\Q .sh (.bl (!eqD .non d))):=by cases d <;> rfl
theorem GF:fIn neg m (.str x) m' (.str y) Q=Q .sh (.bl (if neg then !inS x y else inS x y)):=rfl
theorem GZ:fIn neg m d m' (.list ys) Q=(fD d=true/\ys.all fD=true/\Q .sh (.bl (if neg then !inD d ys else inD d ys))):=rfl
theorem Gr:fIn neg m d m' (.tup ys) Q=(fD d=true/\ys.all fD=true/\Q .sh (.bl (if neg then !inD d ys else inD d ys))):=rfl
theorem Hf:fIn neg m d m' (.dK kvs) Q = ∃ k,d.key1=some k/\Q .sh (.bl (if neg then !(getG kvs k).isSome else (getG kvs k).isSome)):=rfl
theorem Ga:fIn neg m (.tup xs) m' (.dT kts) Q = ∃ ks,jO xs=some ks/\Q .sh (.bl (if neg then !(getG kts ks).isSome else (getG kts ks).isSome)):=rfl
theorem Hd:fNeg m (.int a) Q=Q .sh (.int (-a)):=rfl
theorem Hl:fIx m (.list xs) m' (.int a) Q = ∃ d,atI xs a=some d/\onK d (f:=fun d=>Q (itm m d) d) ⟨⟩:=rfl
theorem Hm:fIx m (.tup xs) m' (.int a) Q = ∃ d,atI xs a=some d/\onK d (f:=fun d=>Q (itm m d) d) ⟨⟩:=rfl
theorem Gs:fIx m (.str x) m' (.int a) Q = ∃ c,atI x.cps.toList a=some c/\Q .sh (.str ⟨#[c]⟩):=rfl
theorem Gj:fIx m (.dK kvs) m' d Q = ∃ k d',d.key1=some k/\getG kvs k=some d'/\onK d' (f:=fun d'=>Q (itm m d') d') ⟨⟩:=rfl
theorem GX:fIx m (.dT kts) m' (.tup ys) Q = ∃ ks d',jO ys=some ks/\getG kts ks=some d'/\onK d' (f:=fun d'=>Q (itm m d') d') ⟨⟩:=rfl
theorem Ey:fLen m (.str x) Q=Q .sh (.int x.length):=rfl
theorem Fe:fLen m (.list xs) Q=Q .sh (.int xs.length):=rfl
theorem Dy:fLen m (.tup xs) Q=Q .sh (.int xs.length):=rfl
theorem Ec:fLen m (.dK kvs) Q=Q .sh (.int kvs.length):=rfl
theorem Fl:fLen m (.dT kts) Q=Q .sh (.int kts.length):=rfl
theorem Gq {T:String}:fIsi T m d Q=Q .sh (.bl (isiT d.ty T)):=rfl
theorem CP:pI m (.list xs) Q=((flats xs=true/\Q (.ow true) (.list xs))\/(m=.sh/\Q (.ow false) (.list xs))):=rfl
theorem Bp:pI m (.tup xs) Q=((flats xs=true/\Q (.ow true) (.list xs))\/(m=.sh/\Q (.ow false) (.list xs))):=rfl
theorem Bw:pI m (.dT kts) Q=Q (.ow true) (.list (kts.map fun kv=>.tup (kv.1.map keyD))):=rfl
theorem wSl_:wSl te tl th ρ Q=te ρ fun m x=>tl ρ fun lo=>th ρ fun hi=>fSl m x lo hi Q:=rfl
theorem Ay:gO ρ O=O none:=rfl
def int' (d:D) (k:Int->Prop):Prop:=match d with
  | .int i=>k i
  | _=>False
theorem Ep:int' (.int a) k=k a:=rfl
theorem Et:mL te ρ O=te ρ fun _ x=>onK x (f:=fun x=>int' x fun i=>O (some i)) ⟨⟩:=by unfold mL onK int'; rfl
theorem Gu {lo hi:Option Int}:fSl m (.str x) lo hi Q=Q .sh (.str (cutS x lo hi)):=rfl
theorem Hn {lo hi:Option Int}:fSl m (.list xs) lo hi Q=((flats xs=true/\Q (.ow true) (.list (cutG xs lo hi)))\/(m=.sh/\Q (.ow false) (.list (cutG xs lo hi)))):=rfl
theorem Gp {lo hi:Option Int}:fSl m (.tup xs) lo hi Q=(flats xs=true/\¬ (HT.sIx xs.length 0 lo=0/\HT.sIx xs.length xs.length hi=xs.length)/\Q .sh (.tup (cutG xs lo hi))):=rfl
end
-- texts
def str' (d:D) (k:Str->Prop):Prop:=match d with
  | .str x=>k x
  | _=>False
theorem EY:str' (.str x) k=k x:=rfl
def list' (d:D) (k:List D->Prop):Prop:=match d with
  | .list x=>k x
  | _=>False
theorem Dg:list' (.list x) k=k x:=rfl
theorem Ba:pX to' te ρ Q=to' ρ fun _ x=>onK x (f:=fun x=>str' x fun z=>te ρ fun _ y=>onK y (f:=fun y=>list' y fun ys=>∃ zs,jC ys=some zs/\(zs.map (·.length)).sum+zs.length * z.length<=16777216/\Q .sh (.str (Str.join z zs))) ⟨⟩) ⟨⟩:=by unfold pX onK str' list'; rfl
-- places
theorem wpN_ {P:Bool->D->(Bool->D->Env)->Prop}:wpN i ρ P=onK ρ[i]? (f:=fun o=>match o with
  | some (some (.ow fl d))=>P fl d fun fl2 d2=>ρ.set i (some (.ow fl2 d2))
  | _=>False) ⟨⟩:=rfl
def fl' (o:Option Bool) (k:Bool->Prop):Prop:=match o with
  | some b=>k b
  | none=>False
theorem A_:fl' (some b) k=k b:=rfl
theorem Gn:wApp p te E ρ=p ρ fun fl d up=>onK d (f:=fun d=>list' d fun xs=>te ρ fun m x=>xs.length<sizeLine/\onK (kJ fl m x) (f:=fun o=>fl' o fun fl2=>E.nx (up fl2 (.list (xs++[x])))) ⟨⟩) ⟨⟩:=by unfold wApp onK list' fl'; rfl
theorem Cu:uF ρ Q=Q (.ow true) (.dK []):=rfl
def dct (d y:D) (k1:List (Key × D)->Prop) (k2:List (List Key × D)->List D->Prop):Prop:=match d with
  | .dK kvs=>k1 kvs
  | .dT kvs=>match y with
    | .tup ys=>k2 kvs ys
    | _=>False
  | _=>False
theorem GK:dct (.dK kvs) y k1 k2=k1 kvs:=rfl
theorem G3:dct (.dT kvs) (.tup ys) k1 k2=k2 kvs ys:=rfl
-- loops
variable {LQ:List D->Prop}
theorem Gd:wFor wi g b E ρ=wi ρ fun ds=>oG g b E ds ρ:=rfl
def tup' (d:D) (k:List D->Prop):Prop:=match d with
  | .tup x=>k x
  | _=>False
theorem DP:tup' (.tup x) k=k x:=rfl
theorem Ew:vh te ρ LQ=te ρ fun _ d=>onK d (f:=fun d=>str' d fun z=>LQ (sgnD z)) ⟨⟩:=by unfold vh onK str'; rfl
theorem Bx:fL te ρ LQ=te ρ fun _ d=>onK d (f:=fun d=>int' d fun j=>j<=16777216/\-(2 ^ 62)<=j/\LQ (iJ 0 j.toNat)) ⟨⟩:=by unfold fL onK int'; rfl
theorem Bf:qy ta tb ρ LQ=ta ρ fun _ x=>tb ρ fun _ y=>onK x (f:=fun x=>int' x fun i=>onK y (f:=fun y=>int' y fun j=>j - i<=16777216/\(-(2 ^ 62)<=i/\i<2 ^ 62/\-(2 ^ 62)<=j/\j<2 ^ 62)/\LQ (iJ i (j - i).toNat)) ⟨⟩) ⟨⟩:=by
  unfold qy onK int'
  congr 1
  funext _ x
  congr 1
  funext _ y
  cases x <;> cases y <;> rfl
theorem Az:xZ .sh=True:=rfl
theorem Av:xZ (.ow b)=True:=rfl
theorem Ax:xZ .bo=False:=rfl
theorem gN_:gN i d ρ N=N (ρ.set i (some (.sh d))):=rfl
theorem gT_:gT n gs d ρ N=onK d (f:=fun d=>tup' d fun ds=>ds.length=n/\gs ds ρ N) ⟨⟩:=by unfold gT onK tup'; rfl
theorem D_:qI g gs (d :: ds) ρ N=g d ρ fun ρ'=>gs ds ρ' N:=rfl
theorem FJ:uY [] ρ N=N ρ:=by simp [uY]
theorem Ek:jw wi g tt te tn ix ρ Q=wi ρ fun ds=>fM g tt te ds (yf tn ix ρ) fun out=>Q (.ow true) (.list out):=rfl
end
theorem B {c:Bool} {f:Bool->Prop} {k:Kt f} (h1:c=true->f true) (h2:c=false->f false):onK c k:=by
  cases c with
  | true=>exact h1 rfl
  | false=>exact h2 rfl
theorem D {p:Prop} [Decidable p] {f:Bool->Prop} {k:Kt f} (h1:p->f true) (h2:¬ p->f false):onK (decide p) k :=
  B (fun h=>h1 (of_decide_eq_true h)) fun h=>h2 (of_decide_eq_false h)
theorem T {c:Bool} {f:Bool->Prop} {k:Kt f} (h:c=true) (h1:f true):onK c k:=by subst h; exact h1
theorem F {c:Bool} {f:Bool->Prop} {k:Kt f} (h:c=false) (h1:f false):onK c k:=by subst h; exact h1
end L2.Q.R


namespace L2
open PySem PySem.Spec PyProof.Rows
end L2

namespace L2.Q
open PySem PySem.Spec PyProof.Rows
section
variable {K:PySem.W.Frag} {p:Pos}
def Fx:W1:=fun _ x Q=>match x with
  | .list xs=>∃ ks b,xs=ks.map keyD/\(∀ k∈ks,isI k=b)/\∀ ms:List Key,ms.Perm ks->(ms.Pairwise fun a b=>lt1 b a=false)->Q (.ow true) (.list (ms.map keyD))
  | .dK kvs=>∃ b,(∀ p∈kvs,isI p.1=b)/\∀ ms:List Key,ms.Perm (kvs.map (·.1))->(ms.Pairwise fun a b=>lt1 b a=false)->Q (.ow true) (.list (ms.map keyD))
  | _=>False
section
variable {Hs H:Hp} {fl:Bool}
theorem aA.erase (k:Nat) (r:aA K Hs H fl ds vs As):∃ Bs,Bs.Sublist As/\aA K Hs H fl (ds.eraseIdx k) (vs.eraseIdx k) Bs:=by
  induction ds generalizing vs As k with
  | nil =>
    obtain ⟨rfl,rfl⟩:=r.n0
    exact ⟨[],List.Sublist.refl _,.nil⟩
  | cons d ds ih =>
    obtain ⟨u,us,A,B,rfl,rfl,r,rs⟩:=r.c
    cases k with
    | zero=>exact ⟨B,xai _ _,rs⟩
    | succ k =>
      obtain ⟨C,sb,q⟩:=ih k rs
      exact ⟨A++C,sb.append_left _,.cons r q⟩
end
end
abbrev WIL:=Env->(List D->Prop)->Prop
end L2.Q


namespace L2.Q.R
open PySem PySem.Spec PyProof.Rows L2.Q
section
variable {ρ:Env} {Q:Md->L2.Q.D->Prop} {te:WE} {d:L2.Q.D} {a:Addr} {b:Bool} {LQ:List L2.Q.D->Prop}
theorem Ej {f:Option Sl->Prop} {k:Kt f}:onK (some (.lk a b d)) k=f (some (.lk a b d)):=rfl
theorem Eu {f:Option (Option Sl)->Prop} {k:Kt f}:onK (some (some (.lk a b d))) k=f (some (some (.lk a b d))):=rfl
theorem B_:useS (some (some (.lk a b d))) Q=Q .bo d:=rfl
def own' (o:Option (Option Sl)) (k:Bool->L2.Q.D->Prop):Prop:=match o with
  | some (some (.ow fl d))=>k fl d
  | _=>False
theorem Cd:own' (some (some (.ow b d))) k=k b d:=rfl
theorem Cr:qH te ρ LQ=te ρ fun _ d=>onK d (f:=fun d=>list' d fun xs=>LQ (lF xs)) ⟨⟩:=by unfold qH onK list'; rfl
theorem Cj:qb te ρ LQ=te ρ fun _ d=>onK d (f:=fun d=>list' d LQ) ⟨⟩:=by unfold qb onK list'; rfl
theorem Fo:uX te ρ LQ=te ρ fun _ d=>onK d (f:=fun d=>tup' d LQ) ⟨⟩:=by unfold uX onK tup'; rfl
end
end L2.Q.R


namespace L2
open PySem PySem.Spec PyProof.Rows Builtin Builtin.Str Builtin.Int

section
variable {prog:Program} {w:World} {A:Around} {E:Value->Shared->Prop} {s:Shared} {x:Str} {n:Int} {t u:Tok}
theorem oX (hok:MulOk x n) (h:∀ t' k,Q (.str (Txt.mul x n) t') { s with toks:=k }):wpAny (model prog w) A (binaryOp .Mult (.int n u) (.str x t)) Q E s:=by
  refine lm_binaryOp_repeat_right (T := "str") (U := "int") (by decide) (fun s'=>typeIs_int s' n u) (typeIs_str s x t) F.fills_int_mul noFill_str_mul F.slot_int_mul lm_noRepeat_int repeat_str F.slot_int_index.lookup
    (call_gives F.slot_int_mul (typeIs_int s n u) F.entry_int_mul (F.args_int_mul_2 _ _) (AutoIntG3.int___mul___int_str_0 n u x t)
      ⟨rfl,typeIs_str _ x t,call_gives F.slot_str_mul (typeIs_str _ x t) F.entry_str_mul (F.args_str_mul_2 _ _) (gives_str_mul x n t u hok.1 hok.2.1 hok.2.2) ?_⟩)
  unfold Txt.mul at h
  by_cases h1:n<1
  · rw [if_pos h1]; have h':=h s.toks (s.toks+1); rw [if_pos h1] at h'; exact ⟨by decide,h'⟩
  · rw [if_neg h1]; refine post_val_or_made (fun hc=>fits_reps (hok.2.2 h1 (by simpa using hc))) fun t' k=>?_
    have h':=h t' k; rw [if_neg h1] at h'; exact h'
end
def repS (n:Int) (z:Str):Str:=⟨(List.replicate n.toNat z.cps.toList).flatten.toArray⟩
theorem k_ (xs:Array Nat):∀ (k:Nat) (acc:Array Nat),(List.replicate k xs).foldl (· ++ ·) acc=acc++(List.replicate k xs.toList).flatten.toArray
  | 0,acc=>by simp
  | k+1,acc=>by
    rw [xaE,List.foldl_cons,k_ xs k,xaE,xaK]
    apply Array.ext'
    simp
theorem yl (h:1<=n):Txt.mul z n=repS n z:=by
  unfold Txt.mul repS
  rw [if_neg (by lia)]
  by_cases h1:n=1
  · subst h1
    simp
  · by_cases h0:z.length=0
    · have hz:z.cps = #[]:=Array.eq_empty_of_size_eq_zero h0
      rw [if_pos (by simp [h0])]
      obtain ⟨c⟩:=z
      cases hz
      simp
    · rw [if_neg (by simp [h1,h0]),k_]
      simp
def xx:R2:=fun x y H Q=>match x,y with
  | .int n,.str z=>(1<=n/\n<=100/\z.length<=100)/\Q (.str (repS n z)) H
  | _,_=>False
section
variable {X:Cx}
theorem xN:OpR X (binaryOp .Mult) xx:=by
  intro pins s σ H x y v u Q I rx ry h
  unfold xx at h
  split at h
  · rename_i n z
    obtain ⟨⟨h1,h2,h3⟩,q⟩:=h
    obtain ⟨t,rfl⟩:=rx
    obtain ⟨t',rfl⟩:=ry
    refine oX ⟨?_,fun _ _=>?_,fun _ _=>?_⟩ fun t' k=>⟨.str (repS n z),H,I.tok _,⟨_,by rw [yl h1]⟩,q⟩
    · have a1:¬ n < -(2 ^ 63:Int):=by lia
      have a2:¬ n >= 2 ^ 63:=by lia
      rw [decide_eq_false a1,decide_eq_false a2]; rfl
    · have:(2 ^ 63 - 1:Int) / 100<=(2 ^ 63 - 1) / n:=by
        apply Int.le_ediv_of_mul_le (by lia)
        have:(2 ^ 63 - 1:Int) / 100 * n<=(2 ^ 63 - 1:Int) / 100 * 100:=Int.mul_le_mul_of_nonneg_left h2 (by decide)
        lia
      have e:(2 ^ 63 - 1:Int) / 100=92233720368547758:=by decide
      lia
    · have:z.length * n.toNat<=100 * 100:=xbh h3 (by lia)
      have hs:=sizeLine_eq
      simp only [tooLong,decide_eq_false_iff_not]
      generalize z.length * n.toNat=m at this ⊢
      lia
  · exact h.elim

end
end L2
namespace L2
open PySem PySem.Spec PyProof.Rows
end L2

namespace L2.Q
open PySem PySem.Spec PyProof.Rows
section
variable {X:Cx} {K:PySem.W.Frag} {e a b:Expr} {ta tb:WE} {p pos:Pos} {x:Str} {id:String}
def fAll:W1:=fun _ x Q=>match x with
  | .list xs=>∃ bs:List Bool,xs=bs.map D.bl/\Q .sh (.bl (bs.all (fun b=>b)))
  | _=>False
theorem zV {H:Hp} {bs:List Bool} {vs:List V} (r:Reps K H (bs.map D.bl) vs):vs=bs.map V.bl:=by
  induction bs generalizing vs with
  | nil=>exact r.n0
  | cons b bs ih =>
    obtain ⟨u,us,rfl,r1,rs⟩:=Reps.c (d:=D.bl b) r
    cases r1
    rw [ih rs]; rfl
theorem uO:BrC K (rAll K) fAll:=by
  intro Hs H m x v As Qd Qv w rx h f
  have r1:=rx.rep w
  cases r1 with
  | list z s q =>
    obtain ⟨bs,rfl,h⟩:=h
    cases zV q
    exact ⟨bs,s,f.sh w (.bl _) h⟩
  | _=>exact h.elim
def km:W1:=fun _ x Q=>match x with
  | .list xs=>flats xs=true/\Q .sh (.tup xs)
  | _=>False
theorem iQ:BrC K (fun xs H Q=>∃ p ys,xs=[.ref p]/\((SqL K H p ys/\∀ l,H l=none->Q (.ref l) (upd H l (.tup ys)))\/(SqT K H p ys/\Q (.ref p) H))) km:=by
  intro Hs H m x v As Qd Qv w rx h f
  have r1:=rx.rep w
  cases r1 with
  | list z s q =>
    have hl:=q.length
    exact ⟨_,_,rfl,.inl ⟨s,f.tup w (by lia) q h.1 h.2⟩⟩
  | _=>exact h.elim
theorem qe (hK:X.K=K:=by rfl):CallR X (.type "tuple") (fun xs H Q=>∃ p ys,xs=[.ref p]/\((SqL K H p ys/\∀ l,H l=none->Q (.ref l) (upd H l (.tup ys)))\/(SqT K H p ys/\Q (.ref p) H))):=by subst hK; exact call_tuple_of
theorem m5 (n:Int) (z:Str):(repS n z).length=n.toNat * z.length:=by
  unfold repS Str.length
  rw [xak,len_rep,xaF]
def wu:W2:=fun _ x _ y Q=>match x,y with
  | .int n,.str z=>(1<=n/\n<=100/\z.length<=100)/\Q .sh (.str (repS n z))
  | _,_=>False
theorem yO:Br2 K xx wu:=by
  intro Hs H m x v As n y u Bs Qd Qv w rx ry h f
  have r1:=rx.rep w
  have r2:=ry.rep w
  cases r1 with
  | int i=>cases r2 with
    | str hz =>
      refine ⟨h.1,uN f w ?_ h.2⟩
      obtain ⟨⟨h1,h2,h3⟩,_⟩:=h
      rw [m5,sizeLine_eq]
      have:=xbh (show i.toNat<=100 by lia) h3
      lia
    | _=>exact h.elim
  | _=>cases r2 <;> exact h.elim
theorem zO (ha:QE X K a ta) (hb:QE X K b tb):QE X K (.BinOp a .Mult b pos) (wOp wu ta tb):=q_op xN yO ha hb
theorem z_:bootBuiltins "min" = some (.builtin "min"):=by decide +kernel
def xO:R2:=fun x y H Q=>match x,y with
  | .int i,.int j=>Q (.int (if j<i then j else i)) H
  | _,_=>False
def yK:W2:=fun _ x _ y Q=>match x,y with
  | .int i,.int j=>Q .sh (.int (if j<i then j else i))
  | _,_=>False
theorem yE:Br2 K xO yK:=by
  intro Hs H m x v As n y u Bs Qd Qv w rx ry h f
  have r1:=rx.rep w
  have r2:=ry.rep w
  cases r1 with
  | int i=>cases r2 with
    | int j=>exact f.sh w (.int _) h
    | _=>exact h.elim
  | _=>cases r2 <;> exact h.elim
theorem ym (hc:CallR X (.builtin id) fun xs H Q=>∃ x y,xs=[x,y]/\r x y H Q) (br:Br2 K r f) (hg:Gl X x) (hm:X.mg x=none) (hv:bootBuiltins x=some (.builtin id)) (ha:QE X K a ta) (hb:QE X K b tb)
    (hs:starEach [a,b] X.env=(false,eval a X.env) :: starEach [b] X.env:=by rfl) (hs2:starEach [b] X.env=(false,eval b X.env) :: starEach [] X.env:=by rfl) (hn:x ≠ "__name__" := by decide) (hdb:(x == ("__debug__" : Str))=false:=by decide)
    (hpl:(backTo pos (starEach [b] X.env)).any (·.1)=false:=by rfl):QE X K (.Call (.Name x p) [a,b] [] pos) (wOp f ta tb):=by
  refine PE.imp (pe_callB hc hg hm hv (pa_cons ha (pa_cons hb pa_nil hs2) hs) hn hdb hs hpl) fun σ H Qv h=>?_
  obtain ⟨Hs,ρ,tot,Q,sr,h,fin⟩:=jh br σ H Qv h
  exact ⟨Hs,ρ,tot,Q,sr,h,fun v H1 Hs1 m x As g1 r1 f1 q1=>by
    obtain ⟨Hs2,ρ2,tot2,Q2,sr2,h2,fin2⟩:=fin v H1 Hs1 m x As g1 r1 f1 q1
    exact ⟨Hs2,ρ2,tot2,Q2,sr2,h2,fun u H2 Hs3 n y Bs g2 r2 f2 q2=>⟨v,u,rfl,fin2 u H2 Hs3 n y Bs g2 r2 f2 q2⟩⟩⟩
theorem zR (hc:X.calm=true:=by rfl):CallR X (.builtin "min") fun xs H Q=>∃ x y,xs=[x,y]/\xO x y H Q:=fun pins s σ H xs us Q I r hx9=>by
  obtain ⟨x,y,e,q⟩:=hx9
  subst e
  unfold xO at q
  split at q
  · exact call_min2 hc pins s σ H _ us Q I r ⟨_,_,rfl,q⟩
  · exact q.elim
end
end L2.Q
namespace L2.Q.R
open PySem PySem.Spec PyProof.Rows L2.Q
section
variable {Q:Md->L2.Q.D->Prop} {m m':Md} {xs:List L2.Q.D} {a b:Int} {x:Str}
theorem Hh:fAll m (.list xs) Q = ∃ bs:List Bool,xs=bs.map L2.Q.D.bl/\Q .sh (.bl (bs.all (fun b=>b))):=rfl
theorem CW:km m (.list xs) Q=(flats xs=true/\Q .sh (.tup xs)):=rfl
theorem Fd:wu m (.int a) m' (.str x) Q=((1<=a/\a<=100/\x.length<=100)/\Q .sh (.str (repS a x))):=rfl
theorem Em:yK m (.int a) m' (.int b) Q=Q .sh (.int (if b<a then b else a)):=rfl
end
end L2.Q.R
namespace L2.Q
open PySem PySem.Spec PyProof.Rows
theorem gD (O:Nat->List D->Prop) (Iv:Env->Prop):∀ (xs:List D) (i:Nat) (pre:List D) (ρ:Env) (k:List D->Prop),Iv ρ->O i pre ->
    (∀ j x,xs[j]? = some x->∀ ρ,Iv ρ->∀ out,O (i+j) out->∀ N1:Env->Prop,∀ N2:Env->D->Prop,(∀ ρ' d,Iv ρ'->O (i+j+1) (out++[d])->N2 ρ' d)->g x ρ fun ρ1=>tc ρ1 fun b=>if b=true then te ρ1 fun m d=>okEl m d/\N2 ρ1 d else N1 ρ1) ->
    (∀ out,O (i+xs.length) (pre++out)->k out)->fM g tc te xs ρ k
  | [],i,pre,_,k,_,h0,_,h=>h [] (by simpa using h0)
  | x :: xs,i,pre,ρ,k,iv,h0,hs,h=>by
    refine hs 0 x rfl ρ iv pre h0 _ _ (fun ρ' d iv' o'=>?_)
    refine gD O Iv xs (i+1) (pre++[d]) ρ' _ iv' o' (fun j y hy ρ iv out ho=>?_) fun out ho=>?_
    · have:=hs (j+1) y (by simpa using hy) ρ iv out (by rwa [show i+(j+1)=i+1+j by lia])
      rwa [show i+(j+1)+1=i+1+j+1 by lia] at this
    · refine h (d :: out) ?_
      rw [List.append_assoc] at ho
      rwa [xaP,show i+(xs.length+1)=i+1+xs.length by lia]
end L2.Q


namespace TS
open PySem PySem.SetTable
def adv (M:Nat) (p:Probe):Probe :=
  if p.more>0 then { p with j:=p.j+1,more:=p.more - 1 } else
  { p with j:=(leap M p.i p.perturb).1,more:=runEnd M (leap M p.i p.perturb).1 - (leap M p.i p.perturb).1,i:=(leap M p.i p.perturb).1,perturb:=(leap M p.i p.perturb).2 }
def ps (M:Nat) (h:Int):Nat->Probe
  | 0=>{ j:=bits h % (M+1),more:=runEnd M (bits h % (M+1)) - bits h % (M+1),i:=bits h % (M+1),perturb:=bits h,dummy:=none }
  | n+1=>adv M (ps M h n)
def J (M:Nat) (h:Int) (n:Nat):Nat:=(ps M h n).j
end TS


namespace TS
open PySem PySem.SetTable
def Up (xs:Array Nat):Prop:=∀ i j:Nat,i<j->j<xs.size->xs.getD i 0<xs.getD j 0
theorem qP {xs:Array Nat} {i d d':Nat} (h:i<xs.size):xs.getD i d=xs.getD i d':=by simp [Array.getD,h]
theorem mR {xs:Array Nat} (U:Up xs) (j:Nat):∀ (fuel lo hi:Nat),hi - lo<=fuel->lo<=hi->hi<=xs.size->(∀ i<lo,xs.getD i 0<j)->(∀ i,hi<=i->i<xs.size->j<=xs.getD i 0) ->
    below.go xs j fuel lo hi<=xs.size/\(∀ i<below.go xs j fuel lo hi,xs.getD i 0<j)/\(∀ i,below.go xs j fuel lo hi<=i->i<xs.size->j<=xs.getD i 0)
  | 0,lo,hi,hf,h1,h2,h3,h4=>by
    obtain rfl:lo=hi:=by lia
    exact ⟨h2,h3,h4⟩
  | fuel+1,lo,hi,hf,h1,h2,h3,h4=>by
    unfold below.go
    by_cases c:lo<hi
    · rw [if_pos c]
      dsimp only
      have hm:(lo+hi) / 2<xs.size:=by lia
      by_cases d:xs.getD ((lo+hi) / 2) j<j
      · rw [if_pos d]
        rw [qP (d':=0) hm] at d
        refine mR U j fuel _ _ (by lia) (by lia) h2 (fun i hi'=>?_) h4
        by_cases e:i=(lo+hi) / 2
        · rw [e]; exact d
        · exact Nat.lt_trans (U i _ (by lia) hm) d
      · rw [if_neg d]
        rw [qP (d':=0) hm] at d
        refine mR U j fuel _ _ (by lia) (by lia) (by lia) h3 fun i hi' hs=>?_
        by_cases e:i=(lo+hi) / 2
        · rw [e]; lia
        · have:=U ((lo+hi) / 2) i (by lia) hs; lia
    · rw [if_neg c]
      obtain rfl:lo=hi:=by lia
      exact ⟨h2,h3,h4⟩
theorem dC (U:Up xs) (j:Nat):below xs j<=xs.size/\(∀ i<below xs j,xs.getD i 0<j)/\(∀ i,below xs j<=i->i<xs.size->j<=xs.getD i 0) :=
  mR U j xs.size 0 xs.size (by lia) (by lia) (xaj _) (fun i h=>absurd h (xbs i)) fun i h1 h2=>by lia
theorem below_at (U:Up xs) (h:i<xs.size):below xs (xs.getD i 0)=i:=by
  obtain ⟨a,b,c⟩:=dC U (xs.getD i 0)
  by_cases h1:below xs (xs.getD i 0)<i
  · have:=c _ (xaj _) (by lia)
    have:=U _ i h1 h
    lia
  · by_cases h2:i<below xs (xs.getD i 0)
    · have:=b i h2; lia
    · lia
def taken (xs:Array Nat) (j:Nat):Bool:=xs[below xs j]? == some j
theorem sX {xs:Array Nat} {i j:Nat} (h:xs[i]? = some j):i<xs.size/\xs.getD i 0=j:=by
  obtain ⟨h1,h2⟩:=Array.getElem?_eq_some_iff.mp h
  exact ⟨h1,by simp [Array.getD,h1,h2]⟩
theorem xf {xs:Array Nat} {i:Nat} (h:i<xs.size):xs[i]? = some (xs.getD i 0):=by simp [Array.getD,h]
theorem jz {xs:Array Nat} (U:Up xs) {j:Nat}:taken xs j=true↔∃ i,i<xs.size/\xs.getD i 0=j:=by
  unfold taken
  rw [beq_iff_eq]
  constructor
  · intro h; exact ⟨_,sX h⟩
  · rintro ⟨i,h,rfl⟩
    rw [below_at U h]
    exact xf h
theorem mj {xs:Array Nat} (U:Up xs) {j:Nat} (h:taken xs j=true):below xs j<xs.size/\xs.getD (below xs j) 0=j:=by
  unfold taken at h
  rw [beq_iff_eq] at h
  exact sX h
theorem e_ {α:Type} (xs:Array α) {p:Nat} (x:α) (h:p<=xs.size):(insertAt xs p x).size=xs.size+1:=by
  unfold insertAt
  simp
  lia
theorem ins_get {α:Type} (xs:Array α) {p:Nat} (x:α) (h:p<=xs.size) (i:Nat):(insertAt xs p x)[i]? = if i<p then xs[i]? else if i=p then some x else xs[i - 1]? := by
  unfold insertAt
  have hs:((xs.extract 0 p).push x).size=p+1:=by simp; lia
  by_cases h1:i<p
  · rw [if_pos h1,Array.getElem?_append_left (by lia),Array.getElem?_push,if_neg (by simp; lia),xbk]
    rw [if_pos (by lia)]; simp
  · rw [if_neg h1]
    by_cases h2:i=p
    · rw [if_pos h2,Array.getElem?_append_left (by lia),Array.getElem?_push,if_pos (by simp; lia)]
    · rw [if_neg h2,Array.getElem?_append_right (by lia),hs,xbk]
      by_cases h3:i - (p+1)<min xs.size xs.size - p
      · rw [if_pos h3]
        congr 1; lia
      · rw [if_neg h3,xba (by lia)]
theorem cV (h:p<=xs.size) (i:Nat):(insertAt xs p x).getD i 0=if i<p then xs.getD i 0 else if i=p then x else xs.getD (i - 1) 0:=by
  have e:∀ (ys:Array Nat) (k:Nat),ys.getD k 0=ys[k]?.getD 0:=fun ys k=>by
    simp [xaY]
  rw [e,ins_get xs x h]
  split
  · rw [e]
  · split
    · rfl
    · rw [e]
theorem wD (U:Up xs) (hj:taken xs j=false):Up (insertAt xs (below xs j) j):=by
  obtain ⟨a,b,c⟩:=dC U j
  have ne:∀ i,i<xs.size->xs.getD i 0≠j:=fun i hi e=>by
    have:=(jz U (j:=j)).mpr ⟨i,hi,e⟩
    rw [hj] at this; cases this
  intro i k hik hk
  rw [e_ xs j a] at hk
  rw [cV a,cV a]
  by_cases h1:k<below xs j
  · rw [if_pos (by lia),if_pos h1]; exact U i k hik (by lia)
  · rw [if_neg h1]
    by_cases h2:k=below xs j
    · rw [if_pos h2,if_pos (by lia)]; exact b i (by lia)
    · rw [if_neg h2]
      by_cases h3:i<below xs j
      · rw [if_pos h3]; exact U i (k - 1) (by lia) (by lia)
      · rw [if_neg h3]
        by_cases h4:i=below xs j
        · rw [if_pos h4]
          have:=c (k - 1) (by lia) (by lia)
          have:=ne (k - 1) (by lia)
          lia
        · rw [if_neg h4]; exact U (i - 1) (k - 1) (by lia) (by lia)
theorem sV (U:Up xs) (hj:taken xs j=false):taken (insertAt xs (below xs j) j) k=(decide (k=j) || taken xs k):=by
  have a:=(dC U j).1
  have U':=wD U hj
  apply xa0.mpr
  rw [jz U',Bool.or_eq_true,decide_eq_true_eq,jz U]
  rw [e_ xs j a]
  constructor
  · rintro ⟨i,hi,e⟩
    rw [cV a] at e
    by_cases h1:i<below xs j
    · rw [if_pos h1] at e; exact .inr ⟨i,by lia,e⟩
    · rw [if_neg h1] at e
      by_cases h2:i=below xs j
      · rw [if_pos h2] at e; exact .inl e.symm
      · rw [if_neg h2] at e; exact .inr ⟨i - 1,by lia,e⟩
  · rintro (rfl | ⟨i,hi,e⟩)
    · exact ⟨below xs k,by lia,by rw [cV a,if_neg (by lia),if_pos rfl]⟩
    · by_cases h1:i<below xs j
      · exact ⟨i,by lia,by rw [cV a,if_pos h1]; exact e⟩
      · exact ⟨i+1,by lia,by rw [cV a,if_neg (by lia),if_neg (by lia)]; exact e⟩
def Reach (M:Nat) (place:Array Nat) (h:Int) (j:Nat):Prop:=∃ n,n<=10 * (M+13)/\J M h n=j/\∀ k<n,taken place (J M h k)=true
structure TI {α:Type} (t:SetTable) (es:Array (Int × α)):Prop where
  pw:∃ m,t.mask+1=2 ^ m/\3<=m
  sz:t.place.size=es.size
  up:Up t.place
  le:∀ i,i<t.place.size->t.place.getD i 0<=t.mask
  dm:t.dummies = #[]
  few:es.size * 5<t.mask * 3
  path:∀ i h x,es[i]? = some (h,x)->Reach t.mask t.place h (t.place.getD i 0)
section
variable {α:Type} {t:SetTable} {es:Array (Int × α)}
theorem TI.slot (T:TI t es) (j:Nat):t.slot j=if taken t.place j then .live (below t.place j) else .empty:=by
  unfold SetTable.slot taken
  dsimp only
  split
  · rfl
  · have:has t.dummies j=false:=by rw [T.dm]; rfl
    rw [this]; rfl
theorem TI.free (T:TI t es):∃ e,e<=t.mask/\taken t.place e=false:=by
  have hf:=T.few
  have hs:=T.sz
  by_cases c:∃ e,e<=t.mask/\taken t.place e=false
  · exact c
  · exfalso
    have all:∀ e,e<=t.mask->taken t.place e=true:=fun e he=>by
      cases z:taken t.place e with
      | true=>rfl
      | false=>exact absurd ⟨e,he,z⟩ c
    -- slot e stands at place at most e
    have go:∀ e,e<=t.mask->e<=below t.place e:=by
      intro e
      induction e with
      | zero=>intro _; exact xaC _
      | succ e ih =>
        intro he
        have h1:=mj T.up (all e (by lia))
        have h2:=mj T.up (all (e+1) he)
        have:=ih (by lia)
        obtain ⟨_,b,c⟩:=dC T.up (e+1)
        by_cases z:below t.place e<below t.place (e+1)
        · lia
        · have:=c (below t.place e) (by lia) h1.1
          lia
    have:=go t.mask (xaj _)
    have:=(mj T.up (all t.mask (xaj _))).1
    lia
theorem TI.put (T:TI t es) (hj:j<=t.mask) (hn:taken t.place j=false) (hr:Reach t.mask t.place h j) (ht:t'.mask=t.mask) (hp:t'.place=insertAt t.place (below t.place j) j) (hd:t'.dummies = #[])
    (hf:(es.size+1) * 5<t.mask * 3):TI t' (insertAt es (below t.place j) (h,x)):=by
  have a:=(dC T.up j).1
  have a':below t.place j<=es.size:=by rw [<- T.sz]; exact a
  refine ⟨by rw [ht]; exact T.pw,by rw [hp,e_ _ _ a,e_ _ _ a',T.sz],by rw [hp]; exact wD T.up hn,fun i hi=>?_,hd,by rw [e_ _ _ a',ht]; exact hf,fun i g y e=>?_⟩
  · rw [hp,e_ _ _ a] at hi
    rw [hp,cV a,ht]
    split
    · exact T.le i (by lia)
    · split
      · exact hj
      · exact T.le (i - 1) (by lia)
  · have mono:∀ {g:Int} {k:Nat},Reach t.mask t.place g k->Reach t'.mask t'.place g k:=fun {g k} ⟨n,h1,h2,h3⟩=>⟨n,by rw [ht]; exact h1,by rw [ht]; exact h2,fun q hq=>by
      rw [hp,ht,sV T.up hn,h3 q hq,Bool.or_true]⟩
    rw [ins_get es _ a'] at e
    rw [hp,cV a,<- hp]
    by_cases h1:i<below t.place j
    · rw [if_pos h1] at e ⊢
      exact mono (T.path i g y e)
    · rw [if_neg h1] at e ⊢
      by_cases h2:i=below t.place j
      · rw [if_pos h2] at e ⊢
        cases e
        exact mono hr
      · rw [if_neg h2] at e ⊢
        exact mono (T.path (i - 1) g y e)
end
end TS


namespace TS
open PySem PySem.SetTable
theorem nU {α:Type} [DecidableEq α]:∀ {l m:List α},l.Nodup->(∀ x∈l,x∈m)->l.length<=m.length
  | [],_,_,_=>xaC _
  | x :: l,m,nd,h=>by
    rw [xau] at nd
    have hx:=h x xac
    have:=nU (l:=l) (m:=m.erase x) nd.2 fun y hy=>(List.mem_erase_of_ne (fun e=>nd.1 (by rw [<- e]; exact hy))).mpr (h y (xaa _ hy))
    rw [List.length_erase_of_mem hx] at this
    have:0<m.length:=List.length_pos_of_mem hx
    simp only [xaP]; lia
def occ (owner:Array (Option Nat)) (j:Nat):Bool:=(owner.getD j (some 0)).isSome
structure OI (M:Nat) (hs:List Int) (owner:Array (Option Nat)):Prop where
  sz:owner.size=M+1
  lt:∀ j v:Nat,owner[j]? = some (some v)->v<hs.length
  inj:∀ j j' v:Nat,owner[j]? = some (some v)->owner[j']? = some (some v)->j=j'
  all:∀ v:Nat,v<hs.length->∃ j:Nat,owner[j]? = some (some v)
  path:∀ j v:Nat,owner[j]? = some (some v)->∃ n,n<=10 * (M+13)/\J M (hs.getD v 0) n=j/\∀ q<n,occ owner (J M (hs.getD v 0) q)=true
theorem yQ (h:j<owner.size):occ owner j=true↔∃ v,owner[j]? = some (some v):=by
  unfold occ
  rw [Array.getElem?_eq_getElem h]
  simp only [Array.getD,h,dite_true,Option.some.injEq]
  cases hh:owner[j] with
  | none =>
    have:owner.getInternal j h=none:=hh
    rw [this]; simp
  | some v =>
    have:owner.getInternal j h=some v:=hh
    rw [this]; simp
theorem OI.free (O:OI M hs owner) (hl:hs.length<=M):∃ e,e<=M/\occ owner e=false:=by
  by_cases c:∃ e,e<=M/\occ owner e=false
  · exact c
  · exfalso
    have all:∀ e,e<=M->∃ v,owner[e]? = some (some v):=fun e he=>by
      refine (yQ (by rw [O.sz]; lia)).mp ?_
      cases z:occ owner e with
      | true=>rfl
      | false=>exact absurd ⟨e,he,z⟩ c
    have nd:((List.range (M+1)).map fun j=>(owner.getD j none).getD 0).Nodup:=by
      rw [List.nodup_iff_pairwise_ne,xbz]
      refine List.Pairwise.imp_of_mem ?_ (List.nodup_iff_pairwise_ne.mp xbD)
      intro a b ha hb hne z
      obtain ⟨va,ea⟩:=all a (by have:=xaU.mp ha; lia)
      obtain ⟨vb,eb⟩:=all b (by have:=xaU.mp hb; lia)
      rw [xaY,xaY,ea,eb] at z
      have z:va=vb:=z
      subst z
      exact hne (O.inj _ _ _ ea eb)
    have:=nU (m:=List.range hs.length) nd fun x hx=>by
      obtain ⟨j,hj,rfl⟩:=xbd.mp hx
      obtain ⟨v,e⟩:=all j (by have:=xaU.mp hj; lia)
      rw [xaY,e]
      exact xaU.mpr (O.lt _ _ e)
    simp at this
    lia
theorem OI.nil (M:Nat):OI M [] (Array.replicate (M+1) none):=by
  have no:∀ (j v:Nat),¬ (Array.replicate (M+1) (none:Option Nat))[j]? = some (some v):=fun j v z=>by
    rw [Array.getElem?_replicate] at z
    split at z <;> cases z
  exact ⟨by simp,fun j v z=>absurd z (no j v),fun j j' v z _=>absurd z (no j v),fun v hv=>absurd hv (xbs v),fun j v z=>absurd z (no j v)⟩
end TS


namespace TS
open PySem PySem.SetTable
end TS


namespace TS
open PySem PySem.SetTable
section
variable {prog:Program} {w:World} {K:Type} [DecidableEq K] {knd:KeyKind prog w K}
abbrev CN (knd:KeyKind prog w K) (k:List K):Int:=tupleKeyHash knd k
def Bu (knd:KeyKind prog w K) (p:List K × Addr):Int × Value:=(CN knd p.1,.ref p.2)
structure SetT (knd:KeyKind prog w K) (h:Heap) (a:Addr) (ks:List (List K × Addr)):Prop where
  ob:∃ o es ep t,h.get? a=some o/\o.ExactSet/\o.data=.set es ep t/\TI t es/\t.mask<=8191/\t.led=(!w.params.followText "set-order")/\es.toList=ks.map (Bu knd)
  nd:(ks.map (·.1)).Nodup
  is:∀ p∈ks,IsTupleKey knd h p.1 p.2
end
local macro_rules | `(tactic| walk_at $s:str) => do
  let x := s.getString
  if x.startsWith "PV" then `(tactic| exact $(Lean.mkIdent (.str (.str (.num (.str (.str (.str .anonymous "_private") "PySem") "SetOps") 0) "PySem") (x.drop 2).toString)))
  else Lean.Macro.throwUnsupported
end TS


namespace TS
open PySem PySem.SetTable
section
variable {prog:Program} {w:World} {K:Type} [DecidableEq K] {knd:KeyKind prog w K}
theorem IsTupleKey.stay (hk:IsTupleKey knd h k a) (e:∀ o,h.get? a=some o->h'.get? a=some o):IsTupleKey knd h' k a:=by
  obtain ⟨o,items,n,ho,r⟩:=hk
  exact ⟨o,items,n,e o ho,r⟩
theorem SetT.stay (S:SetT knd h a ks) (e:∀ b o,h.get? b=some o->h'.get? b=some o):SetT knd h' a ks:=by
  obtain ⟨⟨o,es,ep,t,ho,r⟩,nd,is⟩:=S
  exact ⟨⟨o,es,ep,t,e _ _ ho,r⟩,nd,fun p hp=>IsTupleKey.stay (is p hp) fun o ho=>e _ _ ho⟩
theorem SetT.ne (S:SetT knd h a ks) (hx:IsTupleKey knd h k x):x≠a:=by
  obtain ⟨⟨o,es,ep,t,ho,hex,_⟩,_,_⟩:=S
  obtain ⟨o',items,n,ho',hc,_⟩:=hx
  intro z
  subst z
  rw [ho] at ho'
  cases ho'
  rw [hex.1] at hc
  exact absurd hc (by decide)
end
end TS


namespace TS
open PySem PySem.SetTable PyProof.Rows
end TS


namespace TS
open PySem PySem.SetTable PyProof.Rows
section
variable {s:Shared}
def SIt (h:Heap) (I:Addr) (first:Value) (i:Nat) (a:Addr) (n ep:Nat):Prop :=
  h.get? I=some { cls:=.type "set_iterator",dict:=none,data:=.fields #[first,.int i 0,.ref a,.int n 0,.int ep 0],slots:=#[] }
def SOb (h:Heap) (a:Addr) (es:Array (Int × Value)) (ep:Nat) (t:SetTable):Prop:=∃ o,h.get? a=some o/\o.data=.set es ep t
variable {a I:Addr} {es:Array (Int × Value)} {ep:Nat} {t:SetTable} {first:Value} {i n:Nat}
theorem SIt.typeIs (h:SIt s.heap I first i a n ep):s.TypeIs (.ref I) "set_iterator" := ⟨_,h,rfl⟩
def PV (ys:List (Int × Value)) (i:Nat) (v:Value):Prop:=∃ e,ys[i]? = some e/\v=e.2
theorem SIt.keep (x:SIt h I first i a n ep) (e:∀ o,h.get? I=some o->h'.get? I=some o):SIt h' I first i a n ep:=e _ x
theorem SOb.keep (x:SOb h a es ep t) (e:∀ o,h.get? a=some o->h'.get? a=some o):SOb h' a es ep t:=let ⟨o,ho,r⟩:=x; ⟨o,e _ ho,r⟩
end
end TS


namespace TS
open PySem PySem.SetTable PyProof.Rows
end TS
namespace Tim
open PySem PyProof.Rows
end Tim


namespace TS
open PySem PySem.SetTable PyProof.Rows
end TS

namespace L2
open PySem PySem.Spec PyProof.Rows
section
variable {X:Cx} {pins:List (Addr × Obj)} {σ:St} {H:Hp} {s:Shared}
theorem Inv.drawn {d} (I:Inv X pins σ H s):Inv X pins σ H { s with drawn:=d }:=⟨I.ok,I.os,I.bare,I.base,I.loc,I.cell,I.free,I.freeC,I.pin,I.hok,I.len⟩
end
end L2


namespace TS
open PySem PySem.SetTable PyProof.Rows
section
variable {prog:Program} {w:World} {K:Type} [DecidableEq K] {knd:KeyKind prog w K}
def entK (knd:KeyKind prog w K) (p:K × Value):Int × Value:=(knd.hash p.1,p.2)
structure SetK (knd:KeyKind prog w K) (h:Heap) (a:Addr) (ks:List (K × Value)):Prop where
  ob:∃ o es ep t,h.get? a=some o/\o.ExactSet/\o.data=.set es ep t/\TI t es/\t.mask<=8191/\t.led=(!w.params.followText "set-order")/\es.toList=ks.map (entK knd)
  nd:(ks.map (·.1)).Nodup
  is:∀ p∈ks,knd.is p.1 p.2=true
end
end TS


namespace TS
open PySem PySem.SetTable PyProof.Rows
end TS
namespace L2
open PySem PySem.Spec PyProof.Rows
end L2
namespace L2.Q
open PySem PySem.Spec PyProof.Rows
end L2.Q
namespace L2.Q.R
open PySem PySem.Spec PyProof.Rows L2.Q
end L2.Q.R


namespace L2
open PySem PySem.Spec PyProof.Rows
end L2
namespace L2.Q
open PySem PySem.Spec PyProof.Rows
end L2.Q
namespace L2.Q.R
open PySem PySem.Spec PyProof.Rows L2.Q
end L2.Q.R


namespace L2.Q
open PySem PySem.Spec PyProof.Rows PySem.W

abbrev bmVE:List Value:=[.type "ValueError",.type "Exception",.type "BaseException",.type "object"]
structure XcK (K:PySem.W.Frag) (C:Addr):Prop where
  ex:excIn K C bmVE "ValueError.__new__" = true
  gx:findIn K (.ref C) "__getattr__" = some none
  ga:findIn K (.ref C) "__getattribute__" = some (some (.builtin "BaseException.__getattribute__"))
  cl:findIn K (.ref C) "__class__" = some (some (.builtin "object.__class__"))
  ob:mroIn K C (.type "object")=some true
theorem XcK.obj {K:PySem.W.Frag} (x:XcK K C) (X:K.In h):∃ bm N nm q bs hdct sn sub ab col dd k0 k1 k2 k3 k5 mN,
    h.get? C=some (excClassObj nm q C N bs bm hdct sn sub ab col dd k0 k1 k2 k3 k5 "ValueError.__new__")/\h.Ns N mN/\mN "__init__" = none/\OwnTail h bmVE bm:=by
  have q:=x.ex
  unfold excIn at q
  split at q
  · rename_i dd cd sl ho
    split at q
    · rename_i C' bm k0 k1 k2 k3 n k5 hm hs
      simp only [xas,beq_iff_eq,Bool.not_eq_true'] at q
      obtain ⟨⟨⟨⟨⟨e1,e2⟩,hdel⟩,ht⟩,hok⟩,hni⟩:=q
      cases e1; cases e2
      cases cd
      dsimp only at hm hdel hok hni
      cases hm; cases hdel
      have hsl:sl = #[k0,k1,k2,k3,some (.builtin "ValueError.__new__"),k5]:=by
        cases sl
        dsimp only at hs
        rw [hs]
      cases hsl
      exact ⟨bm,_,_,_,_,_,_,_,_,_,dd,k0,k1,k2,k3,k5,_,X _ _ ho,.of_isNs (isNs_of_in X hok),nsMap_none_of_in X hok hni,tail_of_in X ht⟩
    · cases q
  · cases q

section
variable {prog:Program} {w:World} {A:Around} {E:Value->Shared->Prop} {h:Heap} {g:Array GenState} {d:Drawn} {t:Nat} {os:OsState} {a C:Addr} {o:Obj} {K:PySem.W.Frag}
theorem vL {R:Result->Shared->Prop} (x:XcK K C) (X:K.In h) (hx:h.get? a=some o) (hc:o.cls=.ref C) (hq:R (.ok (.ret (.ref C))) ⟨h,g,d,t,os⟩) :
    codeAny (model prog w) A (.call (.builtin "getset_descriptor.__get__") ⟨[.builtin "object.__class__",.ref a,.ref C],[]⟩) R ⟨h,g,d,t,os⟩:=by
  obtain ⟨bm,N,nm,q,bs,hdct,sn,sub,ab,col,dd,k0,k1,k2,k3,k5,mN,hC,hN,hni,T⟩:=x.obj X
  have hT5:(⟨h,g,d,t,os⟩:Shared).TypeIs (.builtin "object.__class__") "getset_descriptor" := F.typeOf_object_class
  have hcB:(Value.ref C :: bm).contains (.type (".".intercalate ("object.__class__".cutAt '.').dropLast))=true:=by
    rw [F.owner_object_class,xby,T.hasType (X := "object") (b:=true) rfl]; rfl
  refine codeAny_call_builtin F.slot_gs_get.plain F.entry_gs_get (F.slot_gs_get.check _ _ _ _ _ _ _ _ hT5 (F.args_gs_get _ _ _) ?_)
  repeat (any_goals (first | assumption | (with_reducible refine wpAny_loadPart_at hx ?_; rw [hc]) | (with_reducible refine wpAny_isSubtype_exc hC ?_; rw [hcB]) | wp_step))
  refine ⟨Code.quiet_builtin _ (by decide +kernel),codeAny_builtin F.entry_object_class ?_⟩
  repeat (any_goals (first | assumption | (with_reducible refine wpAny_loadPart_at hx ?_; rw [hc]) | wp_step))
theorem rP (x:XcK K C) (X:K.In h) (hx:h.get? a=some o) (hc:o.cls=.ref C) (hq:Q (.done (.ret (.ref C))) ⟨h,g,d,t,os⟩) :
    wpAny (model prog w) A (Builtin.«object.__getattribute__» ⟨[.ref a,.str "__class__" tk],[]⟩) Q E ⟨h,g,d,t,os⟩:=by
  have hT5:(⟨h,g,d,t,os⟩:Shared).TypeIs (.builtin "object.__class__") "getset_descriptor" := F.typeOf_object_class
  have f5:=F.typeOf_object_class
  have f6:=F.slot_gs_get.lookup
  have f7:=F.slot_gs_set.lookup
  have Lk:=looks_findIn (M:=model prog w) X x.cl
  repeat (any_goals (first | assumption | (with_reducible refine wpAny_loadPart_at hx ?_; rw [hc]) | with_reducible refine Lk.at ?_ | wp_step))
  refine vL x X hx hc ?_
  repeat (any_goals (first | assumption | wp_step))
theorem zj (x:XcK K C) (X:K.In h) (hx:h.get? a=some o) (hc:o.cls=.ref C) (hq:Q (.ref C) ⟨h,g,d,t,os⟩) :
    wpAny (model prog w) A (getAttrBy (.ref a) (.str "__class__" tk) false) Q E ⟨h,g,d,t,os⟩:=by
  have f3:=F.attr_ValueError.ga.bind (.ref a)
  have hx2:(Value.builtin "BaseException.__getattribute__" == Value.builtin "object.__getattribute__")=false:=by decide +kernel
  have hx1:(onTheHeap (Value.ref C) && Value.builtin "BaseException.__getattribute__" == Value.builtin "object.__getattribute__")=false:=by rw [hx2]; rfl
  have Lk:=looks_findIn (M:=model prog w) X x.ga
  have Lg:=looks_findIn (M:=model prog w) X x.gx
  repeat (any_goals (first | assumption | (with_reducible refine wpAny_loadPart_at hx ?_; rw [hc]) | with_reducible refine Lk.at ?_ | with_reducible refine Lg.at ?_ | wp_step))
  obtain ⟨bm,N,nm,q,bs,hdct,sn,sub,ab,col,dd,k0,k1,k2,k3,k5,mN,hC,hN,hni,T⟩:=x.obj X
  have hk:builtinKind "BaseException.__getattribute__" = some .slot:=by decide +kernel
  have hsplit:splitId "BaseException.__getattribute__" = some ("BaseException", "__getattribute__"):=by decide +kernel
  have hcB:(Value.ref C :: bm).contains (.type "BaseException")=true:=by rw [xby,T.hasType (X := "BaseException") (b:=true) rfl]; rfl
  have chk:∀ {Q':Unit->Shared->Prop} {E':Value->Shared->Prop} {A':Around},Q' () ⟨h,g,d,t,os⟩->wpAny (model prog w) A' (checkBuiltinCall "BaseException.__getattribute__" ⟨[.ref a,.str "__class__" tk],[]⟩) Q' E' ⟨h,g,d,t,os⟩:=fun {Q' E' A'} hq'=>by
    have ha:=F.args_bexc_ga (.ref a) (.str "__class__" tk)
    simp only [checkBuiltinCall,hk,hsplit]
    refine xab ?_
    unfold isInstance
    repeat (first | (with_reducible refine wpAny_loadPart_at hx ?_; rw [hc]) | (with_reducible refine wpAny_isSubtype_exc hC ?_; rw [hcB]) | wp_step)
    exact hq'
  refine codeAny_call_builtin F.attr_ValueError.ga.plain F.entry_bexc_ga (chk (rP x X hx hc ?_))
  repeat (any_goals (first | assumption | wp_step))
theorem uB (x:XcK K C) (X:K.In h) (hx:h.get? a=some o) (hc:o.cls=.ref C) (hq:Q (some (.ref C)) ⟨h,g,d,t+1,os⟩):wpAny (model prog w) A (getAttr? (.ref a) "__class__") Q E ⟨h,g,d,t,os⟩:=by
  unfold getAttr? getAttrBy?
  repeat (any_goals (first | assumption | with_reducible apply zj x X hx hc | wp_step))
end
end L2.Q


namespace L2.Q
open PySem PySem.Spec PyProof.Rows PySem.W

def XAt (a C:Addr) (h:Heap):Prop:=∃ o,h.get? a=some o/\o.cls=.ref C
theorem XcK.looks {K:PySem.W.Frag} (x:XcK K C) (X:K.In h):Looks M h (isType (.ref C)) true:=by
  obtain ⟨bm,N,nm,q,bs,hdct,sn,sub,ab,col,dd,k0,k1,k2,k3,k5,mN,hC,hN,hni,T⟩:=x.obj X
  intro A' Q' E' s' k q
  unfold isType loadHead
  exact xab (wpAny_loadPart (k _ _ hC) (xag q))
theorem qL {K:PySem.W.Frag} (x:XcK K C):KitX K (.ref a) (.ref C) (XAt a C) where
  ty:=fun M h X p=>by
    obtain ⟨o,h1,h2⟩:=p
    exact h2 ▸ (Looks.ld h1).andThen .now
  it:=fun M h X p=>x.looks X
  ne:=fun h tp dd its n sl X htp=>by
    obtain ⟨bm,N,nm,q,bs,hdct,sn,sub,ab,col,dd,k0,k1,k2,k3,k5,mN,hC,hN,hni,T⟩:=x.obj X
    refine Bool.eq_false_iff.mpr fun q=>?_
    have e:C=tp:=Value.ref.inj (beq_iff_eq.mp q)
    subst e
    have z:=congrArg (fun o=>o.map (·.data)) (hC.symm.trans htp)
    cases z
  ca:=fun {prog w A E Q s} X p k=>by
    obtain ⟨h,g,d,t,os⟩:=s
    obtain ⟨o,h1,h2⟩:=p
    exact uB x X h1 h2 k
theorem pF {K:PySem.W.Frag} {a C R:Addr} {os:OsState} (x:XcK K C) (r:XcK K R) (sub:mroIn K C (.ref R)=some true) (X:K.In h) (p:XAt a C h)
    (hq:Q true ⟨h,g,d,t,os⟩):wpAny M A (excMatches (.ref a) (.ref R)) Q E ⟨h,g,d,t,os⟩:=by
  obtain ⟨bm,N,nm,q,bs,hdct,sn,sub',ab,col,dd,k0,k1,k2,k3,k5,mN,hC,hN,hni,T⟩:=r.obj X
  obtain ⟨oe,he,hcls⟩:=p
  have hcB:(Value.ref R :: bm).contains (.type "BaseException")=true:=by rw [xby,T.hasType (X := "BaseException") (b:=true) rfl]; rfl
  have f:=tc_notTuple
  have Lk:=looks_mroIn (M:=M) X sub
  unfold excMatches
  repeat (first | (with_reducible refine wpAny_loadPart_at he ?_; rw [hcls]) | with_reducible refine wpAny_loadPart_at hC ?_ | (with_reducible refine wpAny_isSubtype_exc hC ?_; rw [hcB]) | with_reducible refine Lk.at ?_ | wp_step)
  exact hq

theorem FunFrames.rebase {h base B:Heap}:∀ {l:List PySem.Env},h.FunFrames base l->(∀ b∈frs l,B.get? b=none)->h.FunFrames B l
  | [],_,_=>trivial
  | env :: rest,⟨hk,⟨L,o,hf,hn,ho,hd⟩,hr⟩,hB=>⟨hk,⟨L,o,hf,hB L (by unfold frs; rw [xaI,hf]; exact xac),ho,hd⟩,
      FunFrames.rebase hr fun b hb=>hB b (by unfold frs; rw [xaI,hf]; exact xaa _ hb)⟩
theorem ObjOk.there {P:Program} (x:ObjOk P w H h a o):∃ u,h.get? a=some u:=by
  cases o with
  | lst xs=>obtain ⟨_,_,_,_,e⟩:=x; exact ⟨_,e⟩
  | tup xs=>obtain ⟨_,_,_,_,e,_⟩:=x; exact ⟨_,e⟩
  | dK kvs=>obtain ⟨_,_,_,_,o,_,_,e,_⟩:=x; exact ⟨_,e⟩
  | dT kvs=>obtain ⟨_,_,_,_,o,_,_,e,_⟩:=x; exact ⟨_,e⟩
  | set S n=>obtain ⟨o,_,_,_,e,_⟩:=x; exact ⟨_,e⟩
  | ins C dx fs=>obtain ⟨_,_,_,e,_⟩:=x; exact ⟨_,e⟩
  | own y=>exact x
  | xd fs=>obtain ⟨_,⟨_,_,_,e,_⟩,_⟩:=x; exact ⟨_,e⟩
  | rng lo hi=>obtain ⟨_,_,_,e⟩:=x; exact ⟨_,e⟩
  | frz ob u=>obtain ⟨e,_⟩:=x; exact ⟨_,e⟩
  | tbl ps=>exact ⟨_,(show h.get? a=some _ from x)⟩
  | met f y=>exact ⟨_,(show h.get? a=some _ from x)⟩
  | ext φ=>obtain ⟨_,e,_⟩:=x; exact e
def Cov (B:Heap) (fs:List Addr) (H':Hp) (h₀ h:Heap):Prop:=∀ b o,h.get? b=some o->(H' b≠none\/h₀.get? b≠none)->b∉fs->B.get? b=some o
def CXx (P:Program) (w:World) (mg:Str->Option Value) (rn:List Str):CXT:=fun outer H s E e s' =>
  ∃ a n C a0 H' B,e=.ref a/\(n∈rn/\mg n=some (.ref C))/\s'.os=s.os/\AllBare s'.gens/\Un (frs outer) [] H H' s.heap s'.heap/\HOk P w H' s'.heap /\
    Heap.FlyingW B outer a (.ref C) a0 s'.heap/\Cov B (frs outer) H' s.heap s'.heap/\(∀ b∈frs outer,H' b=none)/\E (.ref C) none H'
structure dI (fs:List Addr) (H':Hp) (h₀ h h':Heap):Prop where
  keep:∀ b o,h.get? b=some o->(H' b≠none\/h₀.get? b≠none)->b∉fs->h'.get? b=some o
  slot:∀ b o,h.get? b=some o->b∈fs->∃ sl,h'.get? b=some { o with slots:=sl }
theorem dI.of {B:Heap} (c:Cov B (frs l) H' h₀ h) (st:B.StaysIn h') (up:h.UpToSlots h') (ff:h.FunFrames base l):dI (frs l) H' h₀ h h' :=
  ⟨fun b o e k n=>st b o (c b o e k n),fun b o e m=>by
    obtain ⟨_,o',e',d⟩:=ff.mem m
    rw [e] at e'; cases e'
    exact up b o e d⟩
theorem dI.trans (a:dI fs H' h₀ h h1) (b:dI fs H' h₀ h1 h2):dI fs H' h₀ h h2 :=
  ⟨fun x o e k n=>b.keep x o (a.keep x o e k n) k n,fun x o e m=>by
    obtain ⟨_,e1⟩:=a.slot x o e m
    obtain ⟨sl,e2⟩:=b.slot x _ e1 m
    exact ⟨sl,e2⟩⟩
theorem dI.un (m:dI fs H' h₀ h h') (u:Un fs [] H H' h₀ h):Un fs [] H H' h₀ h' where
  keep:=fun b o e n nb nx=>m.keep b o (u.keep b o e n nb nx) (.inr (by rw [e]; exact fun z=>nomatch z)) nb
  slot:=fun b o e n hb nx=>by
    obtain ⟨_,e1⟩:=u.slot b o e n hb nx
    obtain ⟨sl,e2⟩:=m.slot b _ e1 hb
    exact ⟨sl,e2⟩
  free:=u.free
  there:=fun b o e nx=>by
    obtain ⟨o',e1⟩:=u.there b o e nx
    by_cases hb:b∈fs
    · obtain ⟨sl,e2⟩:=m.slot b o' e1 hb
      exact ⟨_,e2⟩
    · exact ⟨o',m.keep b o' e1 (.inr (by rw [e]; exact fun z=>nomatch z)) hb⟩
  tups:=u.tups
  frzs:=u.frzs
  tbls:=u.tbls
theorem dI.hok {P:Program} (m:dI fs H' h₀ h h') (f:∀ b∈fs,H' b=none) (x:HOk P w H' h):HOk P w H' h':=fun a o e =>
  (x a o e).stay (fun b u hb q=>by
    have hH:H' b≠none:=by
      rcases hb with z | z
      · rw [z,e]; exact fun z=>nomatch z
      · rw [z]; exact fun z=>nomatch z
    exact m.keep b u q (.inl hH) fun z=>hH (f b z)) (fun _ q=>q) fun _ _ q=>q
end L2.Q


namespace L2.Q
open PySem PySem.Spec PyProof.Rows PySem.W

section
variable {X:Cx} {pins:List (Addr × Obj)} {σ:St} {H H':Hp} {s:Shared} {e:Value}
theorem Cov.up {B h h':Heap} (hst:X.stack=X.env :: X.outer) (hf:X.env.frame=some X.env.locals) (hex:X.ex=[]) (I:Inv X pins σ H s) (un:Un (frs X.stack) [] H H' s.heap h) (c:Cov B (frs X.stack) H' s.heap h) (m:dI (frs X.stack) H' s.heap h h') (fr:∀ b∈frs X.stack,H' b=none) (hok:HOk X.prog X.w H' h) :
    Un X.fs [] X.H₀ H' X.s₀.heap h'/\Cov B X.fs H' X.s₀.heap h':=by
  have hs:∀ b,b∈frs X.stack↔b=X.env.locals\/b∈X.fs:=fun b=>by
    rw [hst]; unfold frs; rw [xaI,hf]; exact xaq
  have neL:∀ b o,X.s₀.heap.get? b=some o->b≠X.env.locals:=fun b o e=>xaB (xan (xao e) I.ok.above)
  have nex:∀ b:Addr,b∉X.ex:=fun b z=>by rw [hex] at z; exact nomatch z
  have m':=m.un un
  have th:∀ b o,X.s₀.heap.get? b=some o->∃ o',s.heap.get? b=some o':=fun b o e=>I.base.there b o e (nex b)
  refine ⟨⟨fun b o e n nb nx=>?_,fun b o e n hb nx=>?_,fun b o e n nx=>?_,fun b o e nx=>?_,fun b xs e=>un.tups b xs (I.base.tups b xs e),fun b ob u e=>un.frzs b ob u (I.base.frzs b ob u e),fun b ps e=>?_⟩,fun b o e k nb=>?_⟩
  · exact m'.keep b o (I.base.keep b o e n nb (nex b)) (I.base.free b o e n (nex b)) (fun z=>((hs b).mp z).elim (neL b o e) nb) (by simp)
  · obtain ⟨_,e1⟩:=I.base.slot b o e n hb (nex b)
    obtain ⟨sl,e2⟩:=m'.slot b _ e1 (I.base.free b o e n (nex b)) ((hs b).mpr (.inr hb)) (by simp)
    exact ⟨sl,e2⟩
  · obtain ⟨o',e1⟩:=th b o e
    exact un.free b o' e1 (I.base.free b o e n (nex b)) (by simp)
  · obtain ⟨o',e1⟩:=th b o e
    exact m'.there b o' e1 (by simp)
  · obtain ⟨m1,e1⟩:=I.base.tbls b ps e
    obtain ⟨m2,e2⟩:=un.tbls b _ e1
    exact ⟨m1++m2,by rw [e2,xbx]⟩
  · have key:∀ o',h.get? b=some o'->(H' b≠none\/s.heap.get? b≠none)->b∉frs X.stack->B.get? b=some o:=fun o' e' k' n'=>by
      have:=m.keep b o' e' k' n'
      rw [e] at this; cases this
      exact c b o e' k' n'
    rcases k with k | k
    · have nf:b∉frs X.stack:=fun z=>k (fr b z)
      cases q:H' b with
      | none=>exact absurd q k
      | some u =>
        obtain ⟨o',e'⟩:=ObjOk.there (hok b u q)
        exact key o' e' (.inl k) nf
    · cases q:X.s₀.heap.get? b with
      | none=>exact absurd q k
      | some o0 =>
        obtain ⟨o1,e1⟩:=th b o0 q
        obtain ⟨o2,e2⟩:=un.there b o1 e1 (by simp)
        exact key o2 e2 (.inr (by rw [e1]; exact fun z=>nomatch z)) fun z=>((hs b).mp z).elim (neL b o0 q) nb
end

section
variable {P:Program} {w:World} {K:PySem.W.Frag} {mg:Str->Option Value} {base:Heap} {N:List Str} {qual:Str} {scope:Scope} {f:Addr} {cd:Value} {A:Around} {outer:List PySem.Env} {s₀:Shared} {H₀:Hp} {E:XK} {rn:List Str}
theorem t_ (hf:env.frame=some L) (h:b∈frs l):b∈frs (env :: l):=by
  unfold frs; rw [xaI,hf]; exact xaa _ h
theorem oH:Passes (CXx P w mg rn) (cxOf (CXx P w mg rn) P w K mg base N qual scope f cd A outer s₀ H₀ E) E:=by
  intro pins σ H s e s' I hx
  obtain ⟨a,n,C,a0,H',B,he,hn,os,bare,un,hok,fly,cov,fr,hE⟩:=hx
  subst he
  refine wpAny_leaves_onW I.ok.frames rfl fly fun h' fly' up=>?_
  have mv:=dI.of cov fly'.1 up fly.2.2.1
  obtain ⟨u1,c1⟩:=Cov.up (X:=cxOf (CXx P w mg rn) P w K mg base N qual scope f cd A outer s₀ H₀ E) rfl rfl rfl I un cov mv fr hok
  exact ⟨a,n,C,a0,H',B,rfl,hn,os.trans I.os,bare,u1,mv.hok fr hok,fly',c1,fun b hb=>fr b (t_ rfl hb),hE⟩
def pC (X:Cx) (rn:List Str) (E:XK):Prop:=∀ (pins:List (Addr × Obj)) (σ:St) (H:Hp) (s:Shared) (h':Heap) (e:Addr) (n:Str) (C:Addr) (vs:List Value),Inv X pins σ H s->Heap.MadeExcOf s.heap h' e (.ref C) vs ->
  n∈rn->X.mg n=some (.ref C)->E (.ref C) none H->X.xe (.ref e) { s with heap:=h' }
theorem zW:pC (cxOf (CXx P w mg rn) P w K mg base N qual scope f cd A outer s₀ H₀ E) rn E:=by
  intro pins σ H s h' e n C vs I hx hn hm hE
  have st:=I.stack
  have ff:s.heap.FunFrames (hideAll s.heap (frs (envOfC qual scope s₀.heap.objs.size f cd :: outer))) (envOfC qual scope s₀.heap.objs.size f cd :: outer):=FunFrames.rebase st fun b hb=>hideAll_none _ hb
  refine wpAny_leaves_madeW (h:=s.heap) I.ok.frames rfl (fun b o q=>of_hideAll _ q) ff hx fun h'' t fly tup hnt up=>?_
  have ff':h'.FunFrames (hideAll s.heap (frs (envOfC qual scope s₀.heap.objs.size f cd :: outer))) (envOfC qual scope s₀.heap.objs.size f cd :: outer):=ff.of_keeps fun b o q _=>⟨o,hx.keeps b o q,rfl⟩
  have hok:HOk P w H h':=I.hok.kept hx.keeps
  have fr:∀ b∈frs (envOfC qual scope s₀.heap.objs.size f cd :: outer),H b=none:=I.stkFree
  have cov:Cov (hideAll s.heap (frs (envOfC qual scope s₀.heap.objs.size f cd :: outer))) (frs (envOfC qual scope s₀.heap.objs.size f cd :: outer)) H s.heap h':=fun b o q k nb=>by
    have ho:∃ o1,s.heap.get? b=some o1:=by
      rcases k with k | k
      · cases z:H b with
        | none=>exact absurd z k
        | some u=>exact ObjOk.there (I.hok b u z)
      · exact xaS.mp k
    obtain ⟨o1,e1⟩:=ho
    have e2:=hx.keeps b o1 e1
    rw [q] at e2; cases e2
    exact hideAll_get _ e1 nb
  have mv:dI (frs (envOfC qual scope s₀.heap.objs.size f cd :: outer)) H s.heap h' h'':=dI.of cov fly.1 up ff'
  obtain ⟨u1,c1⟩:=Cov.up (X:=cxOf (CXx P w mg rn) P w K mg base N qual scope f cd A outer s₀ H₀ E) rfl rfl rfl I (Un.kept hx.keeps) cov mv fr hok
  exact ⟨e,n,C,_,H,_,rfl,⟨hn,hm⟩,I.os,I.bare,u1,mv.hok fr hok,fly,c1,fun b hb=>fr b (t_ rfl hb),hE⟩
def LX (rn:List Str) (mg:Str->Option Value) (E:XK):Str->Hp->Prop:=fun n H'=>n∈rn->∀ C,mg n=some (.ref C)->E (.ref C) none H'
def cj (K:PySem.W.Frag) (rn:List Str) (mg:Str->Option Value) (sp:SpD):Sp:=fun vs H Qv E=>∃ ds Qd,Reps K H ds vs/\sp ds Qd /\
  (∀ v H' Hs' m d As,Same H Hs'->Wf Hs' H'->RM K Hs' H' m d v As->As.Nodup->(∀ a∈As,Hs' a=none)->Qd m d->Qv v H') /\
  ∀ n H',Same H H'->Qd (.ow false) (.str n)->LX rn mg E n H'
theorem qQ (h:cj K rn mg sp vs H Qv E) (hp:∀ ds Q,sp ds Q->t { nx:=fun _=>Q .sh .non,rt:=Q } (aV N.length ds)) :
    tpS K (LX rn mg E) t { nx:=fun _ H'=>Qv .non H',rt:=Qv } (start N vs) H:=by
  obtain ⟨ds,Qd,rs,hs,fin,fx⟩:=h
  have hl:=rs.length
  refine ⟨H,aV N.length ds,[],{ nx:=fun _=>Qd .sh .non,rt:=Qd },⟨?_,⟨Same.refl _,fun _ _ e=>e⟩,xaA,fun a h=>nomatch h⟩,hp ds Qd hs,?_,?_,?_,?_,fx⟩
  · unfold aV start
    rw [hl]
    exact SR.start rs
  · exact fun σ' H' Hs' ρ' tot' s sr q=>fin .non H' Hs' .sh .non [] s sr.wf ⟨rfl,.non⟩ xaA (fun a h=>nomatch h) q
  · exact fun σ' H' Hs' ρ' tot' s sr q=>q.elim
  · exact fun σ' H' Hs' ρ' tot' s sr q=>q.elim
  · exact fun v H' Hs' m d As s w r nd own q=>fin v H' Hs' m d As s w r nd own q
theorem FunX.ok {st:Stmt} {ps:List Str} (F:Fun K x qual st f fd) (S:FnScope N ps (defScope st)) (len:∀ ds Q,sp ds Q->ds.length=ps.length)
    (hbody:∀ (cdv:Value) (A:Around) (outer:List PySem.Env) (s:Shared) (H:Hp) (E:XK),Room k (A.deeper (envOfC qual (defScope st) s.heap.objs.size f cdv))->QSs (cxOf (CXx P w mg rn) P w K mg base N qual (defScope st) f cdv A outer s H E) K (LX rn mg E) (defBody st) t)
    (hp:∀ ds Q,sp ds Q->t { nx:=fun _=>Q .sh .non,rt:=Q } (aV N.length ds)):FnOk P w K mg base (CXx P w mg rn) (k+1) f fd ps (cj K rn mg sp):=by
  obtain ⟨oc,od,kV,doc,pm,an,cdv,ct,osl,rfl,lk,hcd⟩:=F.ex
  exact fn_of lk hcd S (fun vs H Q E ⟨ds,Qd,rs,hs,_⟩=>by rw [<- rs.length]; exact len ds Qd hs) fun A outer s H vs Q E hr hsp=>⟨_,hbody cdv A outer s H E hr,qQ hsp hp⟩
structure CalX (P:Program) (w:World) (K:PySem.W.Frag) (mg:Str->Option Value) (base:Heap) (rn:List Str) (k:Nat) (x:Str) (ps:List Str) (sp:SpD):Prop where
  ex:∃ (g:Addr) (fd:FuncData),mg x=some (.ref g)/\PySem.W.keepIn K (.ref g)=true/\Binds K fd ps []/\FnOk P w K mg base (CXx P w mg rn) k g fd ps (cj K rn mg sp)
theorem Fun.calX {st:Stmt} {ps:List Str} (F:Fun K x qual st f fd) (hm:mg x=some (.ref f)) (ok:FnOk P w K mg base (CXx P w mg rn) k f fd ps (cj K rn mg sp))
    (h:∀ (kV doc pm:Value) (an:Option Addr) (cdv ct:Value) (us:List Value),us.length=ps.length->bindArgs (PySem.W.fnOf x qual (defArgs st) (defBody st) (defScope st) .none kV doc pm an cdv ct) ⟨us,[]⟩=pure (ps.zip us)):CalX P w K mg base rn k x ps sp:=⟨f,fd,hm,F.kp,F.binds h,ok⟩
end
end L2.Q


namespace L2.Q
open PySem PySem.Spec PyProof.Rows PySem.W

def XCl (K:PySem.W.Frag) (mg:Str->Option Value) (n:Str):Prop:=∃ C,mg n=some (.ref C)/\XcK K C
def xch (m:Md) (d:D) (Y:Str->Prop) (N:Prop):Prop:=match m,d with
  | .ow false,.str n=>Y n
  | _,_=>N
theorem ug {K:PySem.W.Frag} (r:RM K Hs H m d v As) (h:xch m d Y N):N:=by
  unfold xch at h
  split at h
  · obtain ⟨r,ne⟩:=r
    cases r
    exact absurd rfl ne
  · exact h
section
variable {X:Cx} {K:PySem.W.Frag} {rn:List Str} {E:XK} {e:Expr} {es:List Expr} {te:WE} {t:WA} {pos:Pos}
def sU (n:Str) (te:WE):WS:=fun E ρ=>te ρ fun _ _=>E.rt (.ow false) (.str n)
theorem vO (hc:X.calm=true) (ok:pC X rn E) (hn:x∈rn) (hm:X.mg x=some (.ref C)) (xc:XcK X.K C) (ha:PA X [e] ta) (hg:Gl X x) (hdb:(x == ("__debug__" : Str))=false)
    (he:starEach [e] X.env=[(false,eval e X.env)]):PS X (.Raise (some (.Call (.Name x np) [e] [] cpos)) none pos) (fun D σ H=>ta σ H fun vs H1=>vs.length<=sizeLine/\E (.ref C) none H1):=by
  intro pins s σ H D I h
  obtain ⟨bm,N,nm,q,bs,hdct,sn,sub,ab,col,dd,k0,k1,k2,k3,k5,mN,hC,hN,hni,T⟩:=xc.obj I.mod.kin
  refine wpAny_Raise_call_subT (C:=C) (nm:=nm) (q:=q) (N:=N) (bs:=bs) (bm:=bm) (hdct:=hdct) (sn:=sn) (sub:=sub) (ab:=ab) (col:=col) (dd:=dd) (k0:=k0) (k1:=k1) (k2:=k2) (k3:=k3) (k5:=k5)
    F.excBase_ValueError (mN:=mN) (T.hasType F.excBase_ValueError.hasBase) (I.ok.hd hc) (by rw [he]; rfl) hni (ld_glob I hg hm ⟨rfl,?_⟩ hdb)
  have h2:=ha cpos pins s σ H _ I h
  rw [he] at h2 ⊢
  exact Calls.evalArgs_plain (thn h2 fun vs s1 ⟨xs,H1,I1,r,hl,q⟩=>⟨rfl,by rw [<- r.length]; exact hl,I1.bk _ _ hC,hN.keeps I1.bk,T.keeps I1.bk,fun h' e' hx=>ok pins σ H1 s1 h' e' x C vs I1 hx hn hm q⟩)
theorem vM (hc:X.calm=true) (ok:pC X rn E) (xc:XCl K X.mg x) (hn:x∈rn) (he:QE X K e te) (hg:Gl X x:=by rfl) (hdb:(x == ("__debug__" : Str))=false:=by decide) (hK:X.K=K:=by rfl)
    (hs:starEach [e] X.env=[(false,eval e X.env)]:=by rfl):QS X K (LX rn X.mg E) (.Raise (some (.Call (.Name x np) [e] [] cpos)) none pos) (sU x te):=by
  subst hK
  obtain ⟨C,hm,xc⟩:=xc
  refine PS.imp (vO hc ok hn hm xc (pa_cons he pa_nil hs) hg hdb hs) fun D σ H hx=>gJ hx fun Hs ρ tot E' sr h k1 k2 k3 k4 kx=>?_
  exact ⟨Hs,ρ,tot,_,sr,h,fun v H1 Hs1 m d As g1 r1 f1 q1=>⟨(by decide:1<=sizeLine),kx x H1 (g1.sh.trans g1.wf.sub) q1 hn C hm⟩⟩

section
variable {k:Nat} {x:Str} {ps:List Str} {sp:SpD} {p cpos:Pos}
theorem uM (C:CalX X.prog X.w X.K X.mg X.base rn k x ps sp) (hr:Room k X.A) (hx:Passes (CXx X.prog X.w X.mg rn) X E) (ha:PA X (e :: es) ta) (hg:Gl X x) (hdb:(x == ("__debug__" : Str))=false) (he:starEach (e :: es) X.env=(false,eval e X.env) :: starEach es X.env)
    (hpl:(backTo pos (starEach es X.env)).any (·.1)=false):PE X (.Call (.Name x p) (e :: es) [] pos) (tCall (cj X.K rn X.mg sp) [] E ta):=by
  obtain ⟨g,fd,hm,hk,hb,F⟩:=C.ex
  exact pe_call F hr hg hm hk hb .nil hx ha hdb he hpl
theorem lz {σ:St} {H:Hp} {Qv:VK} {Hs:Hp} {ρ:Env} {tot:List Addr} {Y:Str->Prop} {Q:Md->D->Prop} (sr:SRel K Hs ρ σ H tot) (h:t ρ fun ps=>sp (ps.map (·.2)) fun m d=>xch m d Y (onK (m,d) (f:=fun p=>Q (retM p.1 p.2) p.2) ⟨⟩))
    (f:∀ v H' Hs' m d As,Grow Hs H Hs' H'->RM K Hs' H' m d v As->cG Hs' H As->Q m d->Qv v H') (fx:∀ n H',Same Hs H'->Y n->LX rn X.mg E n H'):tCall (cj K rn X.mg sp) [] E (tpA K t) σ H Qv:=by
  refine ⟨Hs,ρ,tot,_,sr,h,fun vs H1 Hs1 ps As g1 r1 f1 q1=>?_⟩
  refine ⟨_,_,by rw [xay]; exact r1.reps g1.wf,q1,fun v H' Hs' m d As s w r nd own q=>?_,fun n H' s q=>fx n H' (g1.sh.trans (g1.wf.sub.trans s)) q⟩
  obtain ⟨As',r',fr⟩:=lJ g1.wf s w r nd own
  exact Fin.after f g1 v H' _ (retM m d) d As' (du g1.wf s w) r' fr (ug r q)
def lB (sp:SpD) (t:WA):WS:=fun E ρ=>t ρ fun ps=>sp (ps.map (·.2)) fun m d=>xch m d (fun n=>E.rt (.ow false) (.str n)) (onK (m,d) (f:=fun _=>E.nx ρ) ⟨⟩)
def rT (sp:SpD) (t:WA):WS:=fun E ρ=>t ρ fun ps=>sp (ps.map (·.2)) fun m d=>xch m d (fun n=>E.rt (.ow false) (.str n)) (onK (m,d) (f:=fun p=>E.rt (retM p.1 p.2) p.2) ⟨⟩)
variable (C:CalX X.prog X.w X.K X.mg X.base rn k x ps sp) (hr:Room k X.A)
include C hr
variable (hx:Passes (CXx X.prog X.w X.mg rn) X E)
include hx
theorem iR (ha:QA X K (e :: es) t) (hs:swapsWith (.Call (.Name x p) (e :: es) [] cpos) none pos.line X.env=pure false:=by rfl) (hK:X.K=K:=by rfl) (hg:Gl X x:=by rfl) (hdb:(x == ("__debug__" : Str))=false:=by decide) (he:starEach (e :: es) X.env=(false,eval e X.env) :: starEach es X.env:=by rfl)
    (hpl:(backTo cpos (starEach es X.env)).any (·.1)=false:=by rfl):QS X K (LX rn X.mg E) (.Expr (.Call (.Name x p) (e :: es) [] cpos) pos) (lB sp t):=by
  subst hK
  exact PS.imp (ps_expr (uM C hr hx ha hg hdb he hpl) hs) fun D σ H hx=>gJ hx fun Hs ρ tot E' sr h k1 k2 k3 k4 kx=>lz (Q:=fun _ _=>E'.nx ρ) sr h (fun v H1 Hs1 m d As g1 r1 f1 q1=>k1 σ H1 Hs1 ρ tot g1.sh (sr.grow g1) q1) kx
theorem lX (ha:QA X K (e :: es) t) (hK:X.K=K:=by rfl) (hg:Gl X x:=by rfl) (hdb:(x == ("__debug__" : Str))=false:=by decide) (he:starEach (e :: es) X.env=(false,eval e X.env) :: starEach es X.env:=by rfl)
    (hpl:(backTo cpos (starEach es X.env)).any (·.1)=false:=by rfl):QS X K (LX rn X.mg E) (.Return (some (.Call (.Name x p) (e :: es) [] cpos)) pos) (rT sp t):=by
  subst hK
  exact PS.imp (ps_ret (uM C hr hx ha hg hdb he hpl)) fun D σ H hx=>gJ hx fun Hs ρ tot E' sr h k1 k2 k3 k4 kx=>lz (Q:=E'.rt) sr h (fun v H1 Hs1 m d As g1 r1 f1 q1=>k4 v H1 Hs1 m d As g1.sh g1.wf r1 f1.1 (fun a ha=>(f1.2 a ha).1) q1) kx
end

def wIsx (j:Nat) (a:Addr) (b:Bool):WE:=fun ρ Q=>ρ[j]? = some (some (.xc a))/\Q .sh (.bl b)
theorem Ag (hm:X.mg "isinstance" = none) (hp:(a,oe)∈X.pn) (hcl:oe.cls=.ref C) (xc:XcK X.K C) (hk:kitOne X.K (.ref C) c=some b) (he:PE X e (tVar j)) (ht:PE X e2 (tC vc)) (hvc:∀ u,RelV vc u->u=c)
    (hg:Gl X "isinstance" := by rfl) (hs:starEach (e :: [e2]) X.env=(false,eval e X.env) :: starEach [e2] X.env:=by rfl) (hs2:starEach (e2 :: []) X.env=(false,eval e2 X.env) :: starEach [] X.env:=by rfl) (hpl:(backTo pos (starEach [e2] X.env)).any (·.1)=false:=by rfl) :
    QE X K (.Call (.Name "isinstance" p) [e,e2] [] pos) (wIsx j a b):=by
  have hc:CallR X (.builtin "isinstance") (fun xs H Q=>xs=[.ref a,vc]/\Q (.bl b) H):=by
    intro pins s σ H xs us Q I r h
    obtain ⟨rfl,q⟩:=h
    obtain ⟨u,v,rfl,ru,rv⟩:=Vals.two r
    obtain rfl:u=Value.ref a:=ru
    obtain rfl:=hvc v rv
    obtain ⟨ho,_⟩:=I.pin (a,oe) (xam _ hp)
    exact kia_one (qL xc) I.kIn ⟨oe,ho,hcl⟩ hk (fun z=>nomatch z) fun tk=>⟨.bl b,H,I.tok tk,rfl,q⟩
  refine PE.imp (pe_callB hc hg hm dF (pa_cons he (pa_cons ht pa_nil hs2) hs) (by decide) (by decide) hs hpl) fun σ H Qv hx=>ex4 hx fun Hs ρ tot Q sr h f=>?_
  obtain ⟨ea,q⟩:=h
  obtain ⟨v,e1,r⟩:=sr.sr.get ea
  have r:v=V.ref a:=r
  subst r
  exact ⟨_,e1,rfl,Fin.sh f sr.wf (.bl _) q⟩
end
end L2.Q


namespace L2.Q
open PySem PySem.Spec PyProof.Rows PySem.W

abbrev gM (X:Cx) (pn:List (Addr × Obj)) (xe:Value->Shared->Prop):Cx:={ X with pn:=pn,xe:=xe }
abbrev inHand (X:Cx) (pn:List (Addr × Obj)) (a:Addr):Cx:={ X with A:=X.A.mark (some (.ref a)),calm:=false,pn:=pn,xe:=fun _ _=>False }
abbrev yL (X:Cx) (H:Hp) (s:Shared) (p:Addr × Obj):Prop:=s.heap.get? p.1=some p.2/\H p.1=none/\p.1≠X.env.locals/\p.1∉X.fs/\∀ v,p.2.data≠.cell v
section
variable {X:Cx} {pins pins' pn:List (Addr × Obj)} {σ:St} {H:Hp} {s:Shared} {xe:Value->Shared->Prop} {a:Addr}
theorem Inv.gM (I:Inv X pins σ H s) (h:∀ p∈pn++pins',yL X H s p):Inv (gM X pn xe) pins' σ H s :=
  ⟨⟨I.ok.mod,I.ok.kind,I.ok.glob,I.ok.blt,I.ok.above,I.ok.inj,I.ok.has,I.ok.cab,I.ok.hd,I.ok.frames,I.ok.stk,I.ok.exf,I.ok.bs,I.ok.bsz,I.ok.noex,I.ok.exfs,I.ok.funs,I.ok.frf⟩,I.os,I.bare,I.base,I.loc,I.cell,I.free,I.freeC,h,I.hok,I.len⟩
theorem Inv.j_ (I:Inv (L2.Q.gM X pn xe) pins' σ H s) (h:∀ p∈X.pn++pins,p∈pn++pins'):Inv X pins σ H s :=
  ⟨⟨I.ok.mod,I.ok.kind,I.ok.glob,I.ok.blt,I.ok.above,I.ok.inj,I.ok.has,I.ok.cab,I.ok.hd,I.ok.frames,I.ok.stk,I.ok.exf,I.ok.bs,I.ok.bsz,I.ok.noex,I.ok.exfs,I.ok.funs,I.ok.frf⟩,I.os,I.bare,I.base,I.loc,I.cell,I.free,I.freeC,fun p hp=>I.pin p (h p hp),I.hok,I.len⟩
theorem Inv.inHand (I:Inv (L2.Q.gM X pn xe) pins' σ H s) (h:∀ p∈pn2++pins2,yL X H s p):Inv (L2.Q.inHand X pn2 a) pins2 σ H s :=
  ⟨⟨I.ok.mod,I.ok.kind,I.ok.glob,I.ok.blt,I.ok.above,I.ok.inj,I.ok.has,I.ok.cab,(fun z=>nomatch z),I.ok.frames,I.ok.stk,I.ok.exf,I.ok.bs,I.ok.bsz,I.ok.noex,I.ok.exfs,I.ok.funs,I.ok.frf⟩,I.os,I.bare,I.base,I.loc,I.cell,I.free,I.freeC,h,I.hok,I.len⟩
theorem Inv.Cp (I:Inv (L2.Q.gM X pn xe) pins σ H s):Inv (L2.Q.gM X pn xe2) pins σ H s :=
  ⟨⟨I.ok.mod,I.ok.kind,I.ok.glob,I.ok.blt,I.ok.above,I.ok.inj,I.ok.has,I.ok.cab,I.ok.hd,I.ok.frames,I.ok.stk,I.ok.exf,I.ok.bs,I.ok.bsz,I.ok.noex,I.ok.exfs,I.ok.funs,I.ok.frf⟩,I.os,I.bare,I.base,I.loc,I.cell,I.free,I.freeC,I.pin,I.hok,I.len⟩
theorem Inv.tK (I:Inv (L2.Q.inHand X pn a) pins' σ H s) (hd:X.calm=true->X.A.handled=none) (h:∀ p∈X.pn++pins,p∈pn++pins'):Inv X pins σ H s :=
  ⟨⟨I.ok.mod,I.ok.kind,I.ok.glob,I.ok.blt,I.ok.above,I.ok.inj,I.ok.has,I.ok.cab,hd,I.ok.frames,I.ok.stk,I.ok.exf,I.ok.bs,I.ok.bsz,I.ok.noex,I.ok.exfs,I.ok.funs,I.ok.frf⟩,I.os,I.bare,I.base,I.loc,I.cell,I.free,I.freeC,fun p hp=>I.pin p (h p hp),I.hok,I.len⟩
theorem SP.j_ {D:Ends} (h:SP (L2.Q.gM X pn xe) pins' D f s) (hp:∀ p∈X.pn++pins,p∈pn++pins'):SP X pins D f s:=by
  cases f with
  | next=>obtain ⟨σ',H',I,q⟩:=h; exact ⟨σ',H',Inv.j_ I hp,q⟩
  | brk=>obtain ⟨σ',H',I,q⟩:=h; exact ⟨σ',H',Inv.j_ I hp,q⟩
  | cont=>obtain ⟨σ',H',I,q⟩:=h; exact ⟨σ',H',Inv.j_ I hp,q⟩
  | ret u=>obtain ⟨v,σ',H',I,r,q⟩:=h; exact ⟨v,σ',H',Inv.j_ I hp,r,q⟩
theorem Inv.forget (I:Inv X pins σ H s) (hn:h'.Ns X.env.locals m) (hs:Heap.SameBut X.env.locals s.heap h'):Inv X pins (List.replicate X.N.length none) H { s with heap:=h',toks:=t }:=by
  have ne:∀ b o,X.s₀.heap.get? b=some o->b≠X.env.locals:=fun b o e=>xaB (xan (xao e) I.ok.above)
  refine ⟨I.ok,I.os,I.bare,⟨fun b o e n hb hx=>(hs.2 b (ne b o e)).trans (I.base.keep b o e n hb hx),fun b o e n hb hx=>?_,I.base.free,fun b o e hx=>?_,I.base.tups,I.base.frzs,I.base.tbls⟩,⟨m,hn,fun i x v e1 e2=>?_⟩,fun x c e=>?_,I.free,I.freeC,fun p hp=>?_,fun b o e=>?_,xbl⟩
  · obtain ⟨sl,e1⟩:=I.base.slot b o e n hb hx
    exact ⟨sl,(hs.2 b (ne b o e)).trans e1⟩
  · obtain ⟨o',e1⟩:=I.base.there b o e hx
    exact ⟨o',(hs.2 b (ne b o e)).trans e1⟩
  · rw [xbg] at e2
    split at e2 <;> cases e2
  · obtain ⟨v,z⟩:=I.cell x c e
    exact ⟨v,z.sameBut hs (I.cne x c e)⟩
  · obtain ⟨e,n,nl,nf,d⟩:=I.pin p hp
    exact ⟨(hs.2 p.1 nl).trans e,n,nl,nf,d⟩
  · refine (I.hok b o e).stay (fun c u hc q=>(hs.2 c ?_).trans q) (fun _ q=>q) fun _ _ q=>q
    intro z
    rcases hc with w | w
    · rw [<- w,z,I.free] at e; cases e
    · rw [z,I.free] at w; cases w
end
theorem Cov.next {P:Program} {B:Heap} (c:Cov B fs H' h₀ h) (m:dI fs H' h₀ h h') (hok:HOk P w H' h) (th:∀ b o,h₀.get? b=some o->∃ o',h.get? b=some o'):Cov B fs H' h₀ h':=fun b o e k nb=>by
  have ho:∃ o',h.get? b=some o':=by
    rcases k with k | k
    · cases z:H' b with
      | none=>exact absurd z k
      | some u=>exact ObjOk.there (hok b u z)
    · obtain ⟨o0,e0⟩:=xaS.mp k
      exact th b o0 e0
  obtain ⟨o',e'⟩:=ho
  have e2:=m.keep b o' e' k nb
  rw [e] at e2; cases e2
  exact c b o e' k nb
structure Aa (K:PySem.W.Frag) (mg:Str->Option Value) (rn:List Str) (R:Str):Prop where
  ex:∃ r,mg R=some (.ref r)/\XcK K r/\∀ n C,n∈rn->mg n=some (.ref C)->XcK K C/\mroIn K C (.ref r)=some true
end L2.Q


namespace L2.Q
open PySem PySem.Spec PyProof.Rows
theorem lN:bootBuiltins "ValueError" = some (.type "ValueError"):=by decide +kernel
end L2.Q
namespace L2.Q.R
open PySem PySem.Spec PyProof.Rows L2.Q
section
variable {E:iG} {ρ:Env} {Q:Md->L2.Q.D->Prop} {te:WE} {tar:WA} {j:Nat} {a:Addr} {b:Bool} {sp:SpD} {n:Str} {d:L2.Q.D} {Y:Str->Prop} {N:Prop}
theorem C_:sU n te E ρ=te ρ fun _ _=>E.rt (.ow false) (.str n):=rfl
theorem BK:lB sp tar E ρ=tar ρ fun ps=>sp (ps.map (·.2)) fun m d=>xch m d (fun n=>E.rt (.ow false) (.str n)) (onK (m,d) (f:=fun _=>E.nx ρ) ⟨⟩):=rfl
theorem El:rT sp tar E ρ=tar ρ fun ps=>sp (ps.map (·.2)) fun m d=>xch m d (fun n=>E.rt (.ow false) (.str n)) (onK (m,d) (f:=fun p=>E.rt (retM p.1 p.2) p.2) ⟨⟩):=rfl
theorem G_:wIsx j a b ρ Q=(ρ[j]? = some (some (.xc a))/\Q .sh (.bl b)):=rfl
theorem GC:xch (.ow false) (.str n) Y N=Y n:=rfl
theorem Dr:xch .sh d Y N=N:=rfl
theorem Fg:xch .bo d Y N=N:=rfl
theorem Eh:xch (.ow true) d Y N=N:=rfl
theorem G4:xch (.ow b) (.list xs) Y N=N:=by cases b <;> rfl
theorem Hb:xch (.ow b) (.tup xs) Y N=N:=by cases b <;> rfl
theorem G6:xch (.ow b) (.dK xs) Y N=N:=by cases b <;> rfl
theorem Gg:xch (.ow b) (.dT xs) Y N=N:=by cases b <;> rfl
end
end L2.Q.R


namespace L2.Q
open PySem PySem.Spec PyProof.Rows PySem.W
theorem rO {K:Frag}:kitAny K t []=some false:=rfl
theorem dR {K:Frag} (h:kitOne K t c=some a) (g:kitAny K t r=some b):kitAny K t (c :: r)=some (a || b):=by
  unfold kitAny
  rw [h]
  cases a
  · exact g
  · rfl
section
variable {X:Cx} {K:PySem.W.Frag} {e:Expr} {es:List Expr} {pos:Pos}
def tCs (vs:List V):TA:=fun _ H Q=>Q vs H
theorem yH:PA X [] (tCs []):=pa_nil
theorem iT (h:PE X e (tC v)) (r:PA X es (tCs vs)) (hs:starEach (e :: es) X.env=(false,eval e X.env) :: starEach es X.env:=by rfl):PA X (e :: es) (tCs (v :: vs)):=pa_cons h r hs
theorem yC {cs:List Addr} {us:List Value} (h:Vals (cs.map V.ref) us):us=cs.map Value.ref:=by
  induction cs generalizing us with
  | nil=>exact Paired.n0 h
  | cons c cs ih =>
    obtain ⟨u,us,rfl,r,t⟩:=Paired.c h
    rw [show u=Value.ref c from r,ih t]; rfl
theorem zY {j:Nat} {a C:Addr} {oe:Obj} {cs:List Addr} {b:Bool} {x1} {p p2:Pos} (hm:X.mg "isinstance" = none) (hp:(a,oe)∈X.pn) (hcl:oe.cls=.ref C) (xc:XcK X.K C) (hk:kitAny X.K (.ref C) (cs.map Value.ref)=some b) (hz:cs.length<=100) (he:PE X e (tVar j)) (ht:PA X es (tCs (cs.map V.ref)))
    (hg:Gl X "isinstance" := by rfl) (hs:starEach (e :: [.Tuple es x1 p2]) X.env=(false,eval e X.env) :: starEach [.Tuple es x1 p2] X.env:=by rfl) (hs2:starEach (.Tuple es x1 p2 :: []) X.env=(false,eval (.Tuple es x1 p2) X.env) :: starEach [] X.env:=by rfl) (hpl:(backTo pos (starEach [.Tuple es x1 p2] X.env)).any (·.1)=false:=by rfl) :
    QE X K (.Call (.Name "isinstance" p) [e,.Tuple es x1 p2] [] pos) (wIsx j a b):=by
  have hc:CallR X (.builtin "isinstance") (fun xs H Q=>∃ t,xs=[.ref a,.ref t]/\H t=some (.tup (cs.map V.ref))/\Q (.bl b) H):=by
    intro pins s σ H xs us Q I r h
    obtain ⟨t,rfl,et,q⟩:=h
    obtain ⟨u,v,rfl,ru,rv⟩:=Vals.two r
    obtain rfl:u=Value.ref a:=ru
    obtain rfl:v=Value.ref t:=rv
    obtain ⟨ho,_⟩:=I.pin (a,oe) (xam _ hp)
    obtain ⟨its,ri,o,e1,e2,n,e3⟩:=I.tup et
    obtain ⟨c',d',dt,sl⟩:=o
    cases e2
    cases e3
    rw [yC ri] at e1
    exact kia_tup (qL xc) I.kIn ⟨oe,ho,hcl⟩ e1 hk (fun z=>nomatch z) fun tk=>⟨.bl b,H,I.tok tk,rfl,q⟩
  refine PE.imp (pe_callB hc hg hm dF (pa_cons he (pa_cons (pe_tup ht) pa_nil hs2) hs) (by decide) (by decide) hs hpl) fun σ H Qv hx=>ex4 hx fun Hs ρ tot Q sr h f=>?_
  obtain ⟨ea,q⟩:=h
  obtain ⟨v,e1,r⟩:=sr.sr.get ea
  have r:v=V.ref a:=r
  subst r
  refine ⟨_,e1,by rw [xae]; exact xat hz (by decide),fun t hT=>⟨t,rfl,upd_same,?_⟩⟩
  have g:=newT (vs:=cs.map V.ref) sr.wf hT
  exact Fin.sh (Fin.after f g) g.wf (.bl _) q
end
theorem SR.yV {K:PySem.W.Frag} {Hs H:Hp} {ρ:Env} {σ:St} {tot:List Addr} {j:Nat} {o:Option V} (s:SR K Hs H (ρ.set j none) σ tot):SR K Hs H (ρ.set j none) (σ.set j o) tot:=by
  generalize e:ρ.set j none=ρ' at s
  induction s generalizing ρ j with
  | nil=>exact .nil
  | non s ih =>
    cases ρ with
    | nil=>cases e
    | cons x ρ =>
      cases j with
      | zero=>exact .non s
      | succ j=>exact .non (ih (List.cons.inj e).2)
  | sh r s ih =>
    cases ρ with
    | nil=>cases e
    | cons x ρ =>
      cases j with
      | zero=>cases e
      | succ j=>exact .sh r (ih (List.cons.inj e).2)
  | xc s ih =>
    cases ρ with
    | nil=>cases e
    | cons x ρ =>
      cases j with
      | zero=>cases e
      | succ j=>exact .xc (ih (List.cons.inj e).2)
  | ow ne r s ih =>
    cases ρ with
    | nil=>cases e
    | cons x ρ =>
      cases j with
      | zero=>cases e
      | succ j=>exact .ow ne r (ih (List.cons.inj e).2)
  | lk ne r s ih =>
    cases ρ with
    | nil=>cases e
    | cons x ρ =>
      cases j with
      | zero=>cases e
      | succ j=>exact .lk ne r (ih (List.cons.inj e).2)
theorem yR {α:Type} {l:List α} (h:l.Nodup) {i j:Nat} {x:α} (a:l[i]? = some x) (b:l[j]? = some x):i=j:=by
  obtain ⟨hi,ei⟩:=xaw.mp a
  obtain ⟨hj,ej⟩:=xaw.mp b
  rcases Nat.lt_trichotomy i j with q | q | q
  · exact absurd (ei.trans ej.symm) (List.pairwise_iff_getElem.mp h i j hi hj q)
  · exact q
  · exact absurd (ej.trans ei.symm) (List.pairwise_iff_getElem.mp h j i hj hi q)
section
variable {X:Cx} {pins:List (Addr × Obj)} {σ:St} {H:Hp} {s:Shared}
theorem Inv.drop (I:Inv X pins σ H s) (hN:X.N.Nodup) (hj:X.N[j]? = some en) (lk:∀ (i:Nat) (x:Str) (v:V),X.N[i]? = some x->σ[i]? = some (some v)->Vis X.env.scope x->∃ u,RelV v u/\Look X.env s.heap m x u)
    (hn:h'.Ns X.env.locals fun x=>if x=en then v else m x) (hs:Heap.SameBut X.env.locals s.heap h'):Inv X pins (σ.set j none) H { s with heap:=h',toks:=t }:=by
  have F:=Inv.forget (t:=t) I hn hs
  refine ⟨F.ok,F.os,F.bare,F.base,⟨_,hn,fun i x v' e1 e2 vs=>?_⟩,F.cell,F.free,F.freeC,F.pin,F.hok,by rw [List.length_set]; exact I.len⟩
  have hij:j≠i:=fun z=>by
    subst z
    rw [List.getElem?_set] at e2
    split at e2
    · split at e2 <;> cases e2
    · rename_i z; exact z rfl
  rw [xbo hij] at e2
  obtain ⟨u,r,l⟩:=lk i x v' e1 e2 vs
  refine ⟨u,r,?_⟩
  rcases l with ⟨a,b⟩ | ⟨a,c,b,d⟩
  · refine .inl ⟨a,?_⟩
    show (if x=en then v else m x)=some u
    rw [if_neg fun z=>hij ?_]
    · exact b
    · subst z
      exact yR hN hj e1
  · exact .inr ⟨a,c,b,d.sameBut hs (I.cne x c b)⟩
end
end L2.Q
namespace L2.Q.R
open PySem PySem.Spec PyProof.Rows L2.Q
end L2.Q.R


namespace L2
open PySem PySem.Spec PyProof.Rows Builtin Builtin.Str Builtin.Int
end L2
namespace L2.Q
open PySem PySem.Spec PyProof.Rows
section
variable {X:Cx} {K:PySem.W.Frag} {a b:Expr} {tb:WE} {pos:Pos}
def owl (o:Option (Option Sl)) (k:List D->Prop):Prop:=match o with
  | some (some (.ow true (.list xs)))=>k xs
  | _=>False
def intD (y:D) (k:Int->Prop):Prop:=match y with
  | .int i=>k i
  | _=>False
def outM (d:D):Md:=bif d.flat then .sh else .ow true
def qg (i:Nat) (tb:WE):WS:=fun E ρ=>owl ρ[i]? fun xs=>tb ρ fun _ y=>intD y fun k=>∃ d,L2.atI xs k=some d/\E.rt (outM d) d
theorem wz (he:PE X a (tVar i)) (hb:QE X K b tb) (hs:PlainIx b:=by exact fun _ _=>rfl) (hK:X.K=K:=by rfl):QS X K L (.Return (some (.Subscript a b pos)) pos') (qg i tb) :=
  PS.imp (ps_ret (pe_ix (kIx hK) he hb hs)) fun D σ H hx=>eF hx fun Hs ρ tot E sr h k1 k2 k3 k4=>by
  unfold qg owl at h
  split at h
  · rename_i xs e1
    obtain ⟨v,As,e2,ne,r,sb⟩:=sr.sr.at e1
    cases r with
    | sh _ _=>exact absurd rfl ne
    | @list a vs _ As z e rs =>
      refine ⟨_,e2,Hs,ρ,tot,_,sr,h,fun u H1 Hs1 m y Bs g1 r1 f1 q1=>?_⟩
      have ry:=r1.rep g1.wf
      cases ry with
      | int k =>
        obtain ⟨d,e3,q⟩:=q1
        obtain ⟨j,ej,ed⟩:=wW e3
        have nd:As.Nodup:=(xau.mp (sb.nodup sr.nod)).2
        obtain ⟨w,B,ew,rw',sB,_⟩:=rs.at ed nd
        have sub:∀ c∈B,c∈tot:=fun c hc=>sb.subset (xaa _ (sB.subset hc))
        have r2:=rw'.grow g1.sh g1.all
        refine .inl ⟨vs,w,.inl (.inl (g1.all _ _ e)),z6 (by rw [<- rs.length]; exact ej) ew,?_⟩
        have sr1:=sr.grow g1
        cases hf:d.flat with
        | true =>
          rw [outM,hf] at q
          exact k4 w H1 Hs1 .sh d [] g1.sh g1.wf ⟨rfl,(r2.rep g1.wf.sub fun _ _=>rfl).gC g1.wf.tups hf⟩ xaA (fun c hc=>mem0 hc) q
        | false =>
          rw [outM,hf] at q
          exact k4 w H1 Hs1 (.ow true) d B g1.sh g1.wf ⟨r2,r2.ne hf⟩ (sB.nodup nd) (fun c hc=>sr1.own c (sub c hc)) q
      | _=>exact q1.elim
  · exact h.elim
end
end L2.Q
namespace L2.Q.R
open PySem PySem.Spec PyProof.Rows L2.Q
section
variable {ρ:Env} {te:WE} {ys:List L2.Q.D}
theorem Br:qg i te E ρ=onK ρ[i]? (f:=fun o=>owl o fun xs=>te ρ fun _ y=>onK y (f:=fun y=>intD y fun k=>∃ d,atI xs k=some d/\onK d (f:=fun d=>E.rt (outM d) d) ⟨⟩) ⟨⟩) ⟨⟩:=rfl
theorem DW:owl (some (some (.ow true (.list ys)))) k=k ys:=rfl
theorem Dt:intD (.int i) k=k i:=rfl
end
end L2.Q.R


namespace L2
open PySem PySem.Spec PyProof.Rows
end L2
namespace L2.Q
open PySem PySem.Spec PyProof.Rows
section
variable {K:PySem.W.Frag} {a:Expr}
def onD (x:D) (f:List (Key × D)->Prop) (g:List (List Key × D)->Prop):Prop:=match x with
  | .dK kvs=>f kvs
  | .dT kvs=>g kvs
  | _=>False
def tupD (y:D) (k:List D->Prop):Prop:=match y with
  | .tup ys=>k ys
  | _=>False
def gotG (o:Option D) (m n:Md) (z:D) (Q:Md->D->Prop):Prop:=match o with
  | some d=>Q (itm m d) d
  | none=>Q n z
def owdT (o:Option (Option Sl)) (k:List (List Key × D)->Prop):Prop:=match o with
  | some (some (.ow true (.dT kvs)))=>k kvs
  | _=>False
theorem SRel.place (sr:SRel K Hs ρ σ H tot) (e:ρ[i]? = some (some (.ow fl d))):∃ v,σ[i]? = some (some v)/\Place K Hs H σ fl d v fun fl2 d2=>ρ.set i (some (.ow fl2 d2)):=by
  obtain ⟨v,As,t,e2,ne,r,sb,g⟩:=SR.put i sr.sr e sr.nod
  refine ⟨v,e2,As,r,ne,sb.nodup sr.nod,fun a h=>sr.own a (sb.subset h),fun Hs2 H2 fl2 d2 As2 s2 w2 n2 _ r2 ne2 nd2 o2 st=>?_⟩
  obtain ⟨t2,x,y,z⟩:=g Hs2 H2 fl2 d2 As2 s2 r2 ne2 nd2 (fun a ha m=>(o2 a ha).2.elim id fun q=>absurd q (sr.sr.own a m).ne) fun a ha m=>st a (sr.sr.own a ha).ne m
  exact ⟨t2,z,w2,x,fun a h=>(y a h).elim (fun q=>n2 a (sr.own a q) (sr.sr.own a q).ne) fun q=>(o2 a q).1⟩
end
end L2.Q


namespace L2
open PySem PySem.Spec PyProof.Rows
end L2
namespace L2.Q
open PySem PySem.Spec PyProof.Rows
section
variable {K:PySem.W.Frag} {a b c:Expr}
def owdK (d:D) (k:List (Key × D)->Prop):Prop:=match d with
  | .dK kvs=>k kvs
  | _=>False
theorem SR.take (i:Nat) (s:SR K Hs H ρ σ tot):ρ[i]? = some (some (.ow fl d))->tot.Nodup ->
    ∃ (v:V) (As tot':List Addr),σ[i]? = some (some v)/\RepO K Hs H fl d v As/\As.Sublist tot/\tot'.Sublist tot/\(∀ a∈As,a∉tot')/\SR K Hs H (ρ.set i none) σ tot':=by
  induction s generalizing i with
  | nil=>intro e; simp at e
  | non q ih =>
    intro e n
    cases i with
    | zero=>simp at e
    | succ i =>
      obtain ⟨v,As,t,o,a,b,c,d,f⟩:=ih i e n
      exact ⟨v,As,t,o,a,b,c,d,.non f⟩
  | sh r q ih =>
    intro e n
    cases i with
    | zero=>simp at e
    | succ i =>
      obtain ⟨v,As,t,o,a,b,c,d,f⟩:=ih i e n
      exact ⟨v,As,t,o,a,b,c,d,.sh r f⟩
  | xc q ih =>
    intro e n
    cases i with
    | zero=>simp at e
    | succ i =>
      obtain ⟨v,As,t,o,a,b,c,d,f⟩:=ih i e n
      exact ⟨v,As,t,o,a,b,c,d,.xc f⟩
  | ow ne r q ih =>
    intro e n
    obtain ⟨n1,n2,n3⟩:=xah.mp n
    cases i with
    | zero =>
      simp at e
      obtain ⟨rfl,rfl⟩:=e
      exact ⟨_,_,_,rfl,r,xaN _ _,xai _ _,fun a h m=>n3 a h a m rfl,.non q⟩
    | succ i =>
      obtain ⟨v,As,t,o,a,b,c,d,f⟩:=ih i e n2
      exact ⟨v,As,_,o,a,b.trans (xai _ _),c.append_left _,mO n b d,.ow ne r f⟩
  | lk ne r q ih =>
    intro e n
    obtain ⟨n1,n2,n3⟩:=xah.mp n
    cases i with
    | zero=>simp at e
    | succ i =>
      obtain ⟨v,As,t,o,a,b,c,d,f⟩:=ih i e n2
      exact ⟨v,As,_,o,a,b.trans (xai _ _),c.append_left _,mO n b d,.lk ne r f⟩
theorem uz (h:owl o k):∃ xs,o=some (some (.ow true (.list xs)))/\k xs:=by
  unfold owl at h
  split at h
  · exact ⟨_,rfl,h⟩
  · exact h.elim
end
end L2.Q
namespace L2.Q.R
open PySem PySem.Spec PyProof.Rows L2.Q
section
variable {ys:List L2.Q.D} {Q:Md->L2.Q.D->Prop} {k:Nat}
theorem FW {kvs:List (Key × L2.Q.D)} {k:List (Key × L2.Q.D)->Prop}:owdK (.dK kvs) k=k kvs:=rfl
theorem GQ:onD (.dK kvs) f g=f kvs:=rfl
theorem Gh:onD (.dT kvs) f g=g kvs:=rfl
theorem Gf {k:List L2.Q.D->Prop}:tupD (.tup ys) k=k ys:=rfl
theorem Gw {kvs:List (List Key × L2.Q.D)} {k:List (List Key × L2.Q.D)->Prop}:owdT (some (some (.ow true (.dT kvs)))) k=k kvs:=rfl
end
end L2.Q.R


namespace L2
open PySem PySem.Spec PyProof.Rows
section
def insL {α:Type} (xs:List α) (k:Nat) (y:α):List α:=xs.take k++y :: xs.drop k
end
end L2
namespace L2.Q
open PySem PySem.Spec PyProof.Rows
section
variable {X:Cx} {K:PySem.W.Frag} {e:Expr} {te:WE} {apos cpos:Pos}
theorem wA:bootBuiltins "int" = some (.type "int"):=by decide +kernel
theorem aA.ins (r:RepO K Hs H fl d v []) (k:Nat) (q:aA K Hs H fl ds vs As):aA K Hs H fl (insL ds k d) (insL vs k v) As:=by
  induction k generalizing ds vs As with
  | zero=>exact aA.cons r q
  | succ k ih =>
    cases ds with
    | nil =>
      obtain ⟨rfl,rfl⟩:=q.n0
      exact aA.cons r .nil
    | cons e ds =>
      obtain ⟨u,us,A,B,rfl,rfl,q,qs⟩:=q.c
      exact aA.cons q (ih qs)
theorem vK:MtR X "str.upper" (fun x xs H Q=>∃ z,x=.str z/\xs=[]/\z.length<=1000/\Q (.str (Txt.upper z)) H):=by
  intro pins s σ H x vs v us Q I rx rv h
  obtain ⟨z,rfl,rfl,hz,q⟩:=h
  obtain ⟨t,rfl⟩:=rx
  have hus:=rv.zero
  subst hus
  exact PyProof.Rows.SCL.upper (by lia) fun _=>⟨.str _,H,I.tok _,⟨_,rfl⟩,q⟩
def sZ:W1:=fun _ x Q=>match x with
  | .str z=>z.length<=1000/\Q .sh (.str (Txt.upper z))
  | _=>False
theorem zc (ho:QE X K e te) (hbase:attributeBase e "upper" X.env (eval e X.env)=eval e X.env:=by rfl) (hline:(apos.endLine == cpos.line)=true:=by rfl):QE X K (.Call (.Attribute e "upper" apos) [] [] cpos) (wUn sZ te):=by
  refine PE.imp (pe_bm0 PySem.F.plainAttrs_str PySem.F.slot_str_upper PySem.F.type_str_upper vK ho hbase hline) fun σ H Qv hx=>ex4 hx fun Hs ρ tot Q sr h f=>?_
  refine ⟨Hs,ρ,tot,_,sr,h,fun v H1 Hs1 m x As g1 r1 f1 q1=>?_⟩
  have r:=r1.rep g1.wf
  cases r with
  | @str z hz =>
    obtain ⟨h1,q⟩:=q1
    have:=PyProof.Rows.len_upper z
    exact ⟨rfl,_,rfl,rfl,h1,Fin.sh (Fin.after f g1) g1.wf (.str (by rw [sizeLine_eq]; lia)) q⟩
  | _=>exact q1.elim
end
end L2.Q
namespace L2.Q.R
open PySem PySem.Spec PyProof.Rows L2.Q
section
variable {m:Md} {Q:Md->L2.Q.D->Prop} {xs:List L2.Q.D} {k:List L2.Q.D->Prop}
def lstD (d:L2.Q.D) (k:List L2.Q.D->Prop):Prop:=match d with
  | .list xs=>k xs
  | _=>False
theorem Gb:lstD (.list xs) k=k xs:=rfl
theorem DG:gotG (some d) m n z Q=Q (itm m d) d:=rfl
theorem Eb:gotG none m n z Q=Q n z:=rfl
theorem By:sZ m (.str z) Q=(z.length<=1000/\Q .sh (.str (Txt.upper z))):=rfl
end
end L2.Q.R


namespace PySem.SeqAt
open AutoSeq1 (wpAny_loadPart')
open MeetsSeq MeetsSeq2 MeetsSeq3 SeqRoads2
def LtAt (A:Around) (s:Shared) (u v:Value) (b:Bool):Prop:=∀ (prog:Program) (w:World) (Q:Value->Shared->Prop) (E:Value->Shared->Prop),Q (.bool b) s->wpAny (model prog w) A (richCompare .Lt u v) Q E s
def lexF (e f:Nat->Bool) (m n:Nat):Nat->Nat->Bool
  | 0,_=>decide (m<n)
  | k+1,i=>if e i then lexF e f m n k (i+1) else f i
theorem tR (l b:Addr) (items items2:Array Value) (n n2:Nat) (dd dd2:Option Addr) (sl sl2:Array (Option Value)) (e f:Nat->Bool) (k:Nat) :
    ∀ i:Nat,min items.size items2.size - i=k->i<=min items.size items2.size->Meets (Builtin.«list.__eq__.loop» ⟨[.ref l,.ref b,rawInt i,rawInt 0],[]⟩)
      (fun A R s=>s.heap.get? l=some { cls:=.type "list",dict:=dd,data:=.seq items n,slots:=sl }/\s.heap.get? b=some { cls:=.type "list",dict:=dd2,data:=.seq items2 n2,slots:=sl2 } /\
        (∀ j (h1:j<items.size) (h2:j<items2.size),EqAt A.in1 s items[j] items2[j] (e j))/\(∀ j (h1:j<items.size) (h2:j<items2.size),e j=false->LtAt A.in1 s items[j] items2[j] (f j)) /\
        R (.ok (.ret (.bool (lexF e f items.size items2.size k i)))) s):=by
  induction k with
  | zero =>
    intro i hk hle prog w A R s h
    obtain ⟨hp,g,d,tk,os⟩:=s; obtain ⟨hl,hb,he,hf,h⟩:=h
    wp_walk using wpAny_loadPart' hl,wpAny_loadPart' hb
    rcases (show items.size<=i\/items2.size<=i by lia) with z | z
    · have hi1:items[((i:Nat):Int).toNat]? = none:=by simp; lia
      rw [hi1]
      wp_walk using wpAny_loadPart' hl,wpAny_loadPart' hb
      exact h
    · have hi2:items2[((i:Nat):Int).toNat]? = none:=by simp; lia
      rw [hi2]
      cases items[((i:Nat):Int).toNat]? <;> wp_walk using wpAny_loadPart' hl,wpAny_loadPart' hb <;> exact h
  | succ k ih =>
    intro i hk hle prog w A R s h
    obtain ⟨hp,g,d,tk,os⟩:=s; obtain ⟨hl,hb,he,hf,h⟩:=h
    wp_walk using wpAny_loadPart' hl,wpAny_loadPart' hb
    have hlt:i<items.size:=by lia
    have hlt2:i<items2.size:=by lia
    have hi1:items[((i:Nat):Int).toNat]? = some items[i]:=by simp [hlt]
    have hi2:items2[((i:Nat):Int).toNat]? = some items2[i]:=by simp [hlt2]
    have hc:((i:Int)+1)=((i+1:Nat):Int):=by push_cast; rfl
    rw [hi1,hi2]
    refine xab (he i hlt hlt2 prog w _ _ ?_)
    cases hb':e i with
    | true =>
      rw [lexF,hb',if_pos rfl] at h
      wp_walk
      rw [hc]
      exact ⟨plainId_quiet plain_eq_loop _,codeAny_builtin entry_eq_loop (by
        rw [Around.under_plainId plain_eq_loop _]
        exact ih (i+1) (by lia) (by lia) prog w A R _ ⟨hl,hb,he,hf,h⟩)⟩
    | false =>
      rw [lexF,hb',if_neg xap] at h
      wp_walk using wpAny_loadPart' hl,wpAny_loadPart' hb
      rw [hi1,hi2]
      refine xab (hf i hlt hlt2 hb' prog w _ _ ?_)
      wp_walk
      exact h
theorem ux (l b:Addr) (items items2:Array Value) (n n2:Nat) (dd dd2:Option Addr) (sl sl2:Array (Option Value)) (e f:Nat->Bool) :
    Meets (Builtin.«list.__lt__» ⟨[.ref l,.ref b],[]⟩)
      (fun A R s=>s.heap.get? l=some { cls:=.type "list",dict:=dd,data:=.seq items n,slots:=sl }/\s.heap.get? b=some { cls:=.type "list",dict:=dd2,data:=.seq items2 n2,slots:=sl2 } /\
        (∀ j (h1:j<items.size) (h2:j<items2.size),EqAt A.in1 s items[j] items2[j] (e j))/\(∀ j (h1:j<items.size) (h2:j<items2.size),e j=false->LtAt A.in1 s items[j] items2[j] (f j)) /\
        R (.ok (.ret (.bool (lexF e f items.size items2.size (min items.size items2.size) 0)))) s):=by
  intro prog w A R s h
  obtain ⟨hp,g,d,tk,os⟩:=s; obtain ⟨hl,hb,he,hf,h⟩:=h
  have f3:=AutoSeq1.sub_list_list
  wp_walk using wpAny_loadPart' hl,wpAny_loadPart' hb
  exact ⟨plainId_quiet plain_eq_loop _,codeAny_builtin entry_eq_loop (by
    rw [Around.under_plainId plain_eq_loop _]
    exact tR l b items items2 n n2 dd dd2 sl sl2 e f _ 0 (Nat.sub_zero _) (xaC _) prog w A R _ ⟨hl,hb,he,hf,h⟩)⟩
theorem qR (l b:Addr) (items items2:Array Value) (n n2:Nat) (dd dd2:Option Addr) (sl sl2:Array (Option Value)) (e f:Nat->Bool) :
    Meets (Builtin.«tuple.__lt__» ⟨[.ref l,.ref b],[]⟩)
      (fun A R s=>s.heap.get? l=some { cls:=.type "tuple",dict:=dd,data:=.seq items n,slots:=sl }/\s.heap.get? b=some { cls:=.type "tuple",dict:=dd2,data:=.seq items2 n2,slots:=sl2 } /\
        (∀ j (h1:j<items.size) (h2:j<items2.size),EqAt A.in1 s items[j] items2[j] (e j))/\(∀ j (h1:j<items.size) (h2:j<items2.size),e j=false->LtAt A.in1 s items[j] items2[j] (f j)) /\
        R (.ok (.ret (.bool (lexF e f items.size items2.size (min items.size items2.size) 0)))) s) :=
  .of_wp fun prog w A R s h=>by
    obtain ⟨hp,g,d,tk,os⟩:=s; obtain ⟨hl,hb,he,hf,h⟩:=h
    have f2:=AutoSeq1.sub_tuple_tuple
    have hZ:(items.toList.zip items2.toList).length=min items.size items2.size:=by simp
    wp_walk using wpAny_loadPart' hl,wpAny_loadPart' hb,wpAny_forIn_list _ (fun rest b s'=>b.1=none/\s'=⟨hp,g,d,tk,os⟩/\∃ i,rest=(items.toList.zip items2.toList).drop i/\i<=min items.size items2.size /\
      R (.ok (.ret (.bool (lexF e f items.size items2.size (min items.size items2.size - i) i)))) ⟨hp,g,d,tk,os⟩) _
    case turn =>
      rintro ⟨y,x⟩ rest b s' ⟨hb',rfl,i,hz,hi,hR⟩
      have hlt:i<(items.toList.zip items2.toList).length:=by
        rcases Nat.lt_or_ge i (items.toList.zip items2.toList).length with h' | h'
        · exact h'
        · rw [List.drop_of_length_le h'] at hz; cases hz
      have hm:i<min items.size items2.size:=hZ ▸ hlt
      have h1:i<items.size:=xan hm (Nat.min_le_left _ _)
      have h2:i<items2.size:=xan hm (Nat.min_le_right _ _)
      rw [xaT hlt] at hz
      injection hz with hyx hrest
      have hy:y=items[i]:=by have:=congrArg Prod.fst hyx; simpa using this
      have hx:x=items2[i]:=by have:=congrArg Prod.snd hyx; simpa using this
      subst hy hx
      rw [show min items.size items2.size - i=(min items.size items2.size - (i+1))+1 by lia,lexF] at hR
      refine xab (he i h1 h2 prog w _ _ ?_)
      cases hy:e i with
      | true =>
        rw [hy,if_pos rfl] at hR
        wp_walk
        exact ⟨rfl,rfl,i+1,hrest,hm,hR⟩
      | false =>
        rw [hy,if_neg xap] at hR
        simp only [Bool.not_false,if_true]
        refine xab (wpAny_rule ?_)
        refine xab (hf i h1 h2 hy prog w _ _ ?_)
        wp_walk
        exact ⟨_,rfl,hR⟩
    case fin =>
      rintro ⟨b1,b2⟩ s' ⟨hb',rfl,i,hz,hi,hR⟩
      simp only at hb'
      subst hb'
      have hge:min items.size items2.size<=i:=by
        rcases Nat.lt_or_ge i (items.toList.zip items2.toList).length with h' | h'
        · rw [xaT h'] at hz; cases hz
        · exact hZ ▸ h'
      rw [show min items.size items2.size - i=0 by lia,lexF] at hR
      wp_walk
      exact ⟨_,rfl,by simpa [Builtin.Tuple.tupleCompareSizes] using hR⟩
    case h =>
      exact ⟨rfl,rfl,0,rfl,xaC _,h⟩
section
variable {A:Around} {s:Shared}
theorem LtAt.tuples (hl:s.heap.IsTuple l items) (hb:s.heap.IsTuple b items2) (hu:A.units<cLine)
    (he:∀ j (h1:j<items.size) (h2:j<items2.size),EqAt A.in1 s items[j] items2[j] (e j)) (hf:∀ j (h1:j<items.size) (h2:j<items2.size),e j=false->LtAt A.in1 s items[j] items2[j] (f j)) :
    LtAt A s (.ref l) (.ref b) (lexF e f items.size items2.size (min items.size items2.size) 0):=fun prog w Q E h=>by
  obtain ⟨⟨cls,dd,data,sl⟩,ho,hc,n,hd⟩:=id hl
  obtain ⟨⟨cls2,dd2,data2,sl2⟩,ho2,hc2,n2,hd2⟩:=id hb
  simp only at hc hd hc2 hd2
  subst hc hd hc2 hd2
  exact richCompare_meets_room (op:=.Lt) ⟨_,ho,rfl⟩ ⟨_,ho2,rfl⟩ F.slot_tuple_lt F.entry_tuple_lt (F.args_tuple_lt_2 _ _) (qR l b items items2 n n2 dd dd2 sl sl2 e f)
    ⟨ho,ho2,he,hf,show Value.bool _≠Value.notImplemented/\Q (.bool _) s from ⟨(fun x=>nomatch x),h⟩⟩ hu
theorem LtAt.lists (hl:s.heap.IsList l items) (hb:s.heap.IsList b items2) (hu:A.units<cLine)
    (he:∀ j (h1:j<items.size) (h2:j<items2.size),EqAt A.in1 s items[j] items2[j] (e j)) (hf:∀ j (h1:j<items.size) (h2:j<items2.size),e j=false->LtAt A.in1 s items[j] items2[j] (f j)) :
    LtAt A s (.ref l) (.ref b) (lexF e f items.size items2.size (min items.size items2.size) 0):=fun prog w Q E h=>by
  obtain ⟨⟨cls,dd,data,sl⟩,ho,hc,n,hd⟩:=id hl
  obtain ⟨⟨cls2,dd2,data2,sl2⟩,ho2,hc2,n2,hd2⟩:=id hb
  simp only at hc hd hc2 hd2
  subst hc hd hc2 hd2
  exact richCompare_meets_room (op:=.Lt) ⟨_,ho,rfl⟩ ⟨_,ho2,rfl⟩ F.slot_list_lt F.entry_list_lt (F.args_list_lt_2 _ _) (ux l b items items2 n n2 dd dd2 sl sl2 e f)
    ⟨ho,ho2,he,hf,show Value.bool _≠Value.notImplemented/\Q (.bool _) s from ⟨(fun x=>nomatch x),h⟩⟩ hu
theorem LtAt.int (a:Int) (t:Tok) (b:Int) (u:Tok):LtAt A s (.int a t) (.int b u) (decide (a<b)):=fun prog w Q E h=>(show wpAny _ _ (compareOp .Lt _ _) _ _ _ from PyProof.Rows.lt_int h)
theorem LtAt.str (a:Str) (t:Tok) (b:Str) (u:Tok):LtAt A s (.str a t) (.str b u) (decide (a.cps.toList<b.cps.toList)):=fun prog w Q E h=>(show wpAny _ _ (compareOp .Lt _ _) _ _ _ from PySem.P.lt_str h)
end
def lexP (lt:PyData->PyData->Bool):List PyData->List PyData->Bool
  | [],ys=>!ys.isEmpty
  | _ :: _,[]=>false
  | x :: xs,y :: ys=>if PyData.eqv x y then lexP lt xs ys else lt x y
def ltP:Nat->PyData->PyData->Bool
  | _,.int i,.int j=>decide (i<j)
  | _,.str x,.str y=>decide (x.cps.toList<y.cps.toList)
  | n+1,.list xs,.list ys=>lexP (ltP n) xs ys
  | n+1,.tuple xs,.tuple ys=>lexP (ltP n) xs ys
  | _,_,_=>false
def CmP:Nat->PyData->PyData->Prop
  | _,.int _,.int _=>True
  | _,.str _,.str _=>True
  | n+1,.list xs,.list ys=>∀ (j:Nat) (x y:PyData),xs[j]? = some x->ys[j]? = some y->PyData.eqv x y=false->CmP n x y
  | n+1,.tuple xs,.tuple ys=>∀ (j:Nat) (x y:PyData),xs[j]? = some x->ys[j]? = some y->PyData.eqv x y=false->CmP n x y
  | _,_,_=>False
end PySem.SeqAt


namespace L2
open PySem PySem.Spec PyProof.Rows PySem.SeqAt
structure Tot (lt:PyData->PyData->Bool) (S:PyData->Prop):Prop where
  irr:∀ x,S x->lt x x=false
  tr:∀ x y z,S x->S y->S z->lt x y=true->lt y z=true->lt x z=true
  tot:∀ x y,S x->S y->lt x y=false->lt y x=false->x=y
  eqv:∀ x y,S x->S y->(PyData.eqv x y=true↔x=y)
theorem Tot.int (n:Nat):Tot (ltP n) fun x=>∃ i,x=.int i where
  irr:=by rintro x ⟨i,rfl⟩; rw [ltP]; simp
  tr:=by rintro x y z ⟨i,rfl⟩ ⟨j,rfl⟩ ⟨k,rfl⟩; rw [ltP,ltP,ltP]; simp only [decide_eq_true_eq]; lia
  tot:=by rintro x y ⟨i,rfl⟩ ⟨j,rfl⟩; rw [ltP,ltP]; simp only [decide_eq_false_iff_not,PyData.int.injEq]; lia
  eqv:=by rintro x y ⟨i,rfl⟩ ⟨j,rfl⟩; simp [PyData.eqv]
theorem Tot.str (n:Nat):Tot (ltP n) fun x=>∃ s,x=.str s where
  irr:=by rintro x ⟨i,rfl⟩; rw [ltP]; exact yc i
  tr:=by rintro x y z ⟨i,rfl⟩ ⟨j,rfl⟩ ⟨k,rfl⟩; rw [ltP,ltP,ltP]; exact fun h g=>zU (y:=j) h g
  tot:=by rintro x y ⟨i,rfl⟩ ⟨j,rfl⟩; rw [ltP,ltP]; exact fun h g=>by rw [yj (x:=i) (y:=j) h g]
  eqv:=by rintro x y ⟨i,rfl⟩ ⟨j,rfl⟩; simp [PyData.eqv]
section
variable {lt:PyData->PyData->Bool} {S:PyData->Prop}
theorem vR (T:Tot lt S) (xs:List PyData) (h:∀ x∈xs,S x):lexP lt xs xs=false:=by
  induction xs with
  | nil=>rfl
  | cons x xs ih =>
    rw [lexP,if_pos ((T.eqv x x (h x xac) (h x xac)).mpr rfl)]
    exact ih fun y hy=>h y (xaa _ hy)
open Classical in
theorem eE (T:Tot lt S) (hx:S x) (hy:S y):lexP lt (x :: xs) (y :: ys)=if x=y then lexP lt xs ys else lt x y:=by
  rw [lexP]
  by_cases e:x=y
  · rw [if_pos e,if_pos ((T.eqv x y hx hy).mpr e)]
  · rw [if_neg e,if_neg fun z=>e ((T.eqv x y hx hy).mp z)]
theorem vP (T:Tot lt S) (xs:List PyData):∀ ys:List PyData,(∀ x∈xs,S x)->(∀ y∈ys,S y)->lexP lt xs ys=false->lexP lt ys xs=false->xs=ys:=by
  induction xs with
  | nil =>
    intro ys _ _ h _
    cases ys with
    | nil=>rfl
    | cons y ys=>cases h
  | cons x xs ih =>
    intro ys hx hy h1 h2
    cases ys with
    | nil=>cases h2
    | cons y ys =>
      have sx:=hx x xac
      have sy:=hy y xac
      rw [eE T sx sy] at h1
      rw [eE T sy sx] at h2
      by_cases e:x=y
      · subst e
        rw [if_pos rfl] at h1 h2
        rw [ih ys (fun z hz=>hx z (xaa _ hz)) (fun z hz=>hy z (xaa _ hz)) h1 h2]
      · rw [if_neg e] at h1
        rw [if_neg fun z=>e z.symm] at h2
        exact absurd (T.tot x y sx sy h1 h2) e
theorem yZ (T:Tot lt S) (xs:List PyData):∀ ys zs:List PyData,(∀ x∈xs,S x)->(∀ y∈ys,S y)->(∀ z∈zs,S z)->lexP lt xs ys=true->lexP lt ys zs=true->lexP lt xs zs=true:=by
  induction xs with
  | nil =>
    intro ys zs _ _ _ h1 h2
    cases zs with
    | cons z zs=>rfl
    | nil =>
      cases ys with
      | nil=>cases h1
      | cons y ys=>cases h2
  | cons x xs ih =>
    intro ys zs hx hy hz h1 h2
    cases ys with
    | nil=>cases h1
    | cons y ys =>
      cases zs with
      | nil=>cases h2
      | cons z zs =>
        have sx:=hx x xac
        have sy:=hy y xac
        have sz:=hz z xac
        rw [eE T sx sy] at h1
        rw [eE T sy sz] at h2
        rw [eE T sx sz]
        have tl:=ih ys zs (fun z hz=>hx z (xaa _ hz)) (fun z hz=>hy z (xaa _ hz)) fun w hw=>hz w (xaa _ hw)
        by_cases e1:x=y
        · subst e1
          rw [if_pos rfl] at h1
          by_cases e2:x=z
          · subst e2
            rw [if_pos rfl] at h2 ⊢
            exact tl h1 h2
          · rw [if_neg e2] at h2 ⊢
            exact h2
        · rw [if_neg e1] at h1
          by_cases e2:y=z
          · subst e2
            rw [if_neg e1]
            exact h1
          · rw [if_neg e2] at h2
            have t:=T.tr x y z sx sy sz h1 h2
            by_cases e3:x=z
            · subst e3
              rw [T.irr x sx] at t
              cases t
            · rw [if_neg e3]; exact t
theorem rR (T:Tot lt S) (xs:List PyData):∀ ys:List PyData,(∀ x∈xs,S x)->(∀ y∈ys,S y)->(PyData.eqvAll xs ys=true↔xs=ys):=by
  induction xs with
  | nil=>intro ys _ _; cases ys <;> simp [PyData.eqvAll]
  | cons x xs ih =>
    intro ys hx hy
    cases ys with
    | nil=>simp [PyData.eqvAll]
    | cons y ys =>
      have h1:=T.eqv x y (hx x xac) (hy y xac)
      have h2:=ih ys (fun z hz=>hx z (xaa _ hz)) fun z hz=>hy z (xaa _ hz)
      simp only [PyData.eqvAll,xas,List.cons.injEq]
      exact and_congr h1 h2
end
theorem Tot.list {S:PyData->Prop} (T:Tot (ltP n) S):Tot (ltP (n+1)) fun x=>∃ xs,x=.list xs/\∀ y∈xs,S y where
  irr:=by rintro x ⟨xs,rfl,h⟩; rw [ltP]; exact vR T xs h
  tr:=by rintro x y z ⟨xs,rfl,h⟩ ⟨ys,rfl,h'⟩ ⟨zs,rfl,h''⟩; rw [ltP,ltP,ltP]; exact yZ T xs ys zs h h' h''
  tot:=by
    rintro x y ⟨xs,rfl,h⟩ ⟨ys,rfl,h'⟩
    rw [ltP,ltP]
    exact fun h1 h2=>by rw [vP T xs ys h h' h1 h2]
  eqv:=by
    rintro x y ⟨xs,rfl,h⟩ ⟨ys,rfl,h'⟩
    rw [PyData.list.injEq]
    exact rR T xs ys h h'
end L2


namespace L2
open PySem PySem.Spec PyProof.Rows PySem.SeqAt
section
structure KeyS (n:Nat) (S:PyData->Prop):Prop where
  tot:Tot (ltP (n+1)) S
  tup:∀ x,S x->∃ i xs,x=.tuple (.int i :: xs)/\x.canLay0=true/\x.depth<=20
  len:∀ xs ys,S (.tuple xs)->S (.tuple ys)->xs.length=ys.length
  cm:∀ x y,S x->S y->CmP (n+1) x y
end
end L2


namespace L2
open PySem PySem.Spec PyProof.Rows PySem.SeqAt
end L2


namespace L2
open PySem PySem.Spec PyProof.Rows PySem.SeqAt
end L2
namespace L2.Q
open PySem PySem.Spec PyProof.Rows PySem.SeqAt
end L2.Q


namespace L2
open PySem PySem.Spec PyProof.Rows PySem.SeqAt
end L2


namespace L2
open PySem PySem.Spec PyProof.Rows PySem.SeqAt
end L2
namespace L2.Q
open PySem PySem.Spec PyProof.Rows PySem.SeqAt
end L2.Q
namespace L2.Q.R
open PySem PySem.Spec PyProof.Rows L2.Q PySem.SeqAt
end L2.Q.R


namespace L2
open PySem PySem.Spec PyProof.Rows PySem.SeqAt
section
variable {X:Cx}
def yD (K:PySem.W.Frag):R2:=fun x y H Q=>∃ l xs n,x=.ref l/\y=.int n/\SqL K H l xs/\0<=n/\n<=4000/\xs.length<=1000/\∀ p,H p=none->Q (.ref p) (upd H p (.lst (List.replicate n.toNat xs).flatten))
theorem vo {xs:List V} {vs:List Value} (h:Vals xs vs) (k:Nat):Vals (List.replicate k xs).flatten (List.replicate k vs).flatten:=by
  induction k with
  | zero=>exact .nil
  | succ k ih=>rw [xaE,xaE,xaK,xaK]; exact h.append ih
theorem lG {α:Type} (xs:List α) (k:Nat):(List.replicate k xs).flatten.length=xs.length * k:=by
  induction k with
  | zero=>rfl
  | succ k ih=>rw [xaE,xaK,xaz,ih,Nat.mul_succ]; lia
theorem xu:OpR X (binaryOp .Mult) (yD X.K):=by
  intro pins s σ H x y v u Q I rx ry h
  obtain ⟨l,xs,n,rfl,rfl,hH,h0,h1,h2,q⟩:=h
  cases rx
  obtain ⟨t,rfl⟩:=ry
  obtain ⟨its,r,pl,z⟩:=I.list hH
  have hl:=r.length
  obtain ⟨⟨cls,dd,data,sl⟩,ho,hc,k,hd⟩:=id pl.isList
  simp only at hc hd
  subst hc hd
  have hm:its.toArray.size * n.toNat<=1000 * 4000:=xbh (by rw [xak]; lia) (by lia)
  have hsz:=sizeLine_eq
  refine wpAny_binaryOp_repeat_ref (T := "list") (U := "int") (by decide) ⟨_,ho,rfl⟩ (fun s'=>typeIs_int s' n t) noFill_list_mul PySem.F.fills_int_mul PySem.F.slot_int_rmul repeat_list PySem.F.slot_int_index.lookup
    (call_meets PySem.F.slot_int_rmul (typeIs_int s n t) PySem.F.entry_int_rmul (PySem.F.args_int_rmul_2 _ _) (lm_int_rmul_list_any n t l its.toArray k dd sl)
      ⟨ho,rfl,⟨_,ho,rfl⟩,call_meets PySem.F.slot_list_mul ⟨_,ho,rfl⟩ PySem.F.entry_list_mul (PySem.F.args_list_mul_2 _ _)
        (lm_list_mul_any l its.toArray k dd sl n t (by simp [Builtin.List.listFitsIndex]; lia) (by lia) (by simp only [Builtin.List.listTooLong,decide_eq_true_eq]; lia))
        ⟨ho,?_⟩⟩)
  rw [listMul_foldl_if]
  exact ⟨.ref _,_,I.lnew (t':=s.toks) (vo r _) (by
    rw [lG]
    have:xs.length * n.toNat<=1000 * 4000:=xbh h2 (by lia)
    lia),rfl,q _ I.fresh⟩
end
theorem Tot.sub {lt:PyData->PyData->Bool} {S U:PyData->Prop} (T:Tot lt S) (h:∀ x,U x->S x):Tot lt U :=
  ⟨fun x a=>T.irr x (h x a),fun x y z a b c=>T.tr x y z (h x a) (h y b) (h z c),fun x y a b=>T.tot x y (h x a) (h y b),fun x y a b=>T.eqv x y (h x a) (h y b)⟩
end L2
namespace L2.Q
open PySem PySem.Spec PyProof.Rows PySem.SeqAt
section
variable {X:Cx} {K:PySem.W.Frag} {a b:Expr} {ta tb:WE} {pos:Pos}
def uc:W2:=fun _ x _ y Q=>match x with
  | .list xs=>match y with
    | .int n=>(0<=n/\n<=4000/\xs.length<=1000)/\flats xs=true/\Q (.ow true) (.list (List.replicate n.toNat xs).flatten)
    | _=>False
  | _=>False
theorem wg {H:Hp} {xs:List D} {vs:List V} (h:Reps K H xs vs) (k:Nat):Reps K H (List.replicate k xs).flatten (List.replicate k vs).flatten:=by
  induction k with
  | zero=>exact .nil
  | succ k ih=>rw [xaE,xaE,xaK,xaK]; exact h.append ih
theorem ur {xs:List D} (h:flats xs=true) (k:Nat):flats (List.replicate k xs).flatten=true:=by
  induction k with
  | zero=>rfl
  | succ k ih=>rw [xaE,xaK,dZ,h,ih]; rfl
theorem xW:Br2 K (yD K) uc:=by
  intro Hs H m x v As n y u Bs Qd Qv w rx ry h f
  have r1:=rx.rep w
  have r2:=ry.rep w
  cases r1 with
  | list z s q=>cases r2 with
    | int n =>
      obtain ⟨⟨h0,h1,h2⟩,fl,h⟩:=h
      have hl:=q.length
      refine ⟨_,_,_,rfl,rfl,s,h0,h1,by lia,?_⟩
      refine f.lst w ?_ (wg q _) (ur fl _) h
      rw [lG,sizeLine_eq]
      have:List.length _ * n.toNat<=1000 * 4000:=xbh h2 (by lia)
      exact xat this (by decide)
    | _=>exact h.elim
  | _=>exact h.elim
theorem BJ (hK:X.K=K:=by rfl):OpR X (binaryOp .Mult) (yD K):=by subst hK; exact xu
theorem wH (ha:QE X K a ta) (hb:QE X K b tb) (hK:X.K=K:=by rfl):QE X K (.BinOp a .Mult b pos) (wOp uc ta tb):=q_op (BJ hK) xW ha hb
end
end L2.Q
namespace L2.Q.R
open PySem PySem.Spec PyProof.Rows L2.Q PySem.SeqAt
section
variable {Q:Md->L2.Q.D->Prop} {m m':Md} {xs:List L2.Q.D} {a:Int}
theorem Eo:uc m (.list xs) m' (.int a) Q=((0<=a/\a<=4000/\xs.length<=1000)/\flats xs=true/\Q (.ow true) (.list (List.replicate a.toNat xs).flatten)):=rfl
end
end L2.Q.R


namespace L2
open PySem PySem.Spec PyProof.Rows
end L2
namespace L2.Q
open PySem PySem.Spec PyProof.Rows
section
def mvE (i j:Nat) (hs xs:List D) (ρ:Env):Env:=(ρ.set j none).set i (some (.ow true (.list (hs++[.list xs]))))
def mvV (i j:Nat) (hs xs:List D) (ρ:Env):Env:=((mvE i j hs xs ρ).map (Option.map shC)).set j (some (.sh (.list xs)))
def putO (o:Option Sl) (k:Sl->Prop):Prop:=match o with
  | some s=>k s
  | none=>False
end
end L2.Q
namespace L2.Q.R
open PySem PySem.Spec PyProof.Rows L2.Q
end L2.Q.R


namespace L2
open PySem PySem.Spec PyProof.Rows
def wF (sc scope:Scope) (N cn:List Str) (ix:List Nat):Bool :=
  scope.kind == .function && scope.names.all (fun y=>y.2 != .free || vis2 (sc.names.lookup y.1)) && scope.names.all (fun y=>y.2 != .local || scope.names.lookup y.1 == some .local) &&
  ix.length == cn.length && (List.range ix.length).all (fun k=>match ix[k]?,cn[k]? with
    | some j,some y=>N[j]? == some y && vis2 (sc.names.lookup y) && scope.names.contains (y,NameKind.free) && vis2 ((rlN sc scope.names).lookup y) && !scope.names.contains (y,NameKind.cell)
    | _,_=>false) &&
  (rlN sc scope.names).all (fun y=>!(y.2 == .cell || y.2 == .free) || scope.names.contains (y.1,NameKind.free) || scope.names.contains (y.1,NameKind.cell))
theorem gW.of {X:Cx} (hsc:X.env.scope=sc) (hN:X.N=N) (h:wF sc scope N cn ix=true):gW X scope tn cn ix:=by
  unfold wF at h
  simp only [xas] at h
  obtain ⟨⟨⟨⟨⟨h1,h3⟩,h4⟩,h5⟩,h6⟩,h7⟩:=h
  rw [xaW] at h3 h4 h6 h7
  have erl:(relabel scope X.env).names=rlN sc scope.names:=by
    unfold relabel rlN
    rw [<- hsc]
    rfl
  refine ⟨by simpa using h1,fun y hy hk=>?_,fun y hy hk=>?_,by simpa using h5,fun k j hk=>?_,fun x hx=>?_⟩
  · have:=h3 y hy
    rw [hk] at this
    rw [hsc]
    exact gR (by simpa using this)
  · have:=h4 y hy
    rw [hk] at this
    simpa using this
  · have hk':k<ix.length:=(xaw.mp hk).1
    have:=h6 k (xaU.mpr hk')
    rw [hk] at this
    cases e:cn[k]? with
    | none=>rw [e] at this; cases this
    | some y =>
      rw [e] at this
      simp only [xas] at this
      obtain ⟨⟨⟨⟨a1,a2⟩,a3⟩,a4⟩,a5⟩:=this
      refine ⟨y,rfl,by rw [hN]; simpa using a1,by rw [hsc]; exact gR a2,by simpa using a3,by rw [erl]; exact gR a4,by simpa using a5⟩
  · rw [erl] at hx
    have mem:∃ k,(x,k)∈rlN sc scope.names/\(k=.cell\/k=.free):=by
      rcases hx with hx | hx
      · exact ⟨_,PySem.mem_of_lookup hx,.inl rfl⟩
      · exact ⟨_,PySem.mem_of_lookup hx,.inr rfl⟩
    obtain ⟨k,hm,hk⟩:=mem
    have:=h7 _ hm
    rcases hk with rfl | rfl <;> simpa using this
end L2
namespace L2.Q
open PySem PySem.Spec PyProof.Rows
section
variable {K:PySem.W.Frag}
def Cv (m:Md) (d:D):Prop:=d.flat=true\/m=.sh
structure rG (K:PySem.W.Frag) (H1:Hp) (b:Addr) (acc:List D) (ys:List V) (As:List Addr) (Hs:Hp) (ρ:Env) (τ:St) (H:Hp):Prop where
  sm:Same H1 Hs
  sr:SRel K Hs ρ τ H []
  eD:H b=some (.lst ys)
  nD:Hs b=none
  ra:aA K Hs H false acc ys As
  nd:(b :: As).Nodup
  own:∀ a∈As,Hs a=none
theorem rG.grow (c:rG K H1 b acc ys As Hs ρ τ H) (g:Grow Hs H Hs' H'):rG K H1 b acc ys As Hs' ρ τ H' :=
  ⟨c.sm.trans g.sh,c.sr.grow g,g.all _ _ c.eD,g.hsn c.nD (by rw [c.eD]; exact fun z=>nomatch z),c.ra.grow g.sh g.all,c.nd,fun a ha=>g.hsn (c.own a ha) (c.ra.own a ha).ne⟩
theorem rG.push (c:rG K H1 b acc ys As Hs ρ τ H) (r:RM K Hs H m d v Bs) (ok:Cv m d) (nb:Bs.Nodup) (fb:∀ a∈Bs,Hs a=none/\a∉b :: As):∃ As',rG K H1 b (acc++[d]) (ys++[v]) As' Hs ρ τ (upd H b (.lst (ys++[v]))):=by
  obtain ⟨B,sb,rb⟩:∃ B,B.Sublist Bs/\RepO K Hs H false d v B:=by
    rcases ok with hf | rfl
    · exact ⟨[],xaH _,.sh (fun _=>hf) (r.flat c.sr.wf hf)⟩
    · exact ⟨[],xaH _,.sh (fun z=>nomatch z) r.2⟩
  obtain ⟨na,nA⟩:=xau.mp c.nd
  have fb':=fun a ha=>fb a (sb.subset ha)
  refine ⟨As++(B++[]),c.sm,⟨c.sr.sr.heap,qD c.sr.wf c.nD (fun _ z=>nomatch z),xaA,fun a h=>nomatch h⟩,upd_same,c.nD,(c.ra.stay (H':=upd H b (.lst (ys++[v]))) (Same.refl _) fun a ha=>upd_ne fun z=>na (by subst z; exact ha)).append (.cons (rb.stay (Same.refl _) fun a ha=>upd_ne fun z=>(fb' a ha).2 (by subst z; exact xac)) .nil),?_,?_⟩
  · rw [xay]
    refine xau.mpr ⟨fun m=>(xaf.mp m).elim na fun m=>(fb' b m).2 xac,xah.mpr ⟨nA,sb.nodup nb,fun x hx y hy e=>(fb' y hy).2 (e ▸ xaa _ hx)⟩⟩
  · rw [xay]
    exact fun a ha=>(xaf.mp ha).elim (c.own a) fun m=>(fb' a m).1
end
end L2.Q
namespace L2.Q.R
open PySem PySem.Spec PyProof.Rows L2.Q
end L2.Q.R


namespace L2
open PySem PySem.Spec PyProof.Rows
section
theorem vg (r:RelV v u) (h:Vals xs us) (k:Nat):Vals (xs.set k v) (us.set k u):=by
  induction h generalizing k with
  | nil=>exact .nil
  | cons a _ ih =>
    cases k with
    | zero=>exact .cons r ‹_›
    | succ k=>exact .cons a (ih k)
end
end L2
namespace L2.Q
open PySem PySem.Spec PyProof.Rows
section
variable {K:PySem.W.Frag} {c:Expr}
theorem aA.put (r:RepO K Hs H fl d v []) (k:Nat) (q:aA K Hs H fl ds vs As):∃ Bs,Bs.Sublist As/\aA K Hs H fl (ds.set k d) (vs.set k v) Bs:=by
  induction k generalizing ds vs As with
  | zero =>
    cases ds with
    | nil=>obtain ⟨rfl,rfl⟩:=q.n0; exact ⟨[],List.Sublist.refl _,q⟩
    | cons x ds =>
      obtain ⟨u,us,A,B,rfl,rfl,_,q2⟩:=q.c
      exact ⟨[]++B,xai _ _,aA.cons r q2⟩
  | succ k ih =>
    cases ds with
    | nil=>obtain ⟨rfl,rfl⟩:=q.n0; exact ⟨[],List.Sublist.refl _,q⟩
    | cons x ds =>
      obtain ⟨u,us,A,B,rfl,rfl,r1,q2⟩:=q.c
      obtain ⟨Bs,sb,q3⟩:=ih q2
      exact ⟨A++Bs,List.Sublist.append (List.Sublist.refl _) sb,aA.cons r1 q3⟩
end
end L2.Q
namespace L2.Q.R
open PySem PySem.Spec PyProof.Rows L2.Q
end L2.Q.R


namespace L2.Q
open PySem PySem.Spec PyProof.Rows PySem.W
abbrev WX:=Env->(Md->D->Prop)->(Str->Prop)->Prop
def tpX (K:PySem.W.Frag) (rn:List Str) (mg:Str->Option Value) (E1:XK) (σ0:St) (t:WX):TE:=fun σ H Qv=>σ=σ0/\∃ Hs ρ tot Q Y,SRel K Hs ρ σ H tot/\t ρ Q Y /\
  (∀ v H' Hs' m d As,Grow Hs H Hs' H'->RM K Hs' H' m d v As->cG Hs' H As->Q m d->Qv v H')/\∀ n H',Same H H'->Y n->LX rn mg E1 n H'
def uw (rn:List Str) (X:Cx) (σ0:St) (E1:XK):Prop:=∀ pins H s e s',Inv X pins σ0 H s->CXx X.prog X.w X.mg rn X.stack H s E1 e s'->X.xe e s'
def sG (sp:SpD) (t:WA):WX:=fun ρ Q Y=>t ρ fun ps=>sp (ps.map (·.2)) fun m d=>xch m d Y (onK (m,d) (f:=fun p=>Q (retM p.1 p.2) p.2) ⟨⟩)
section
variable {X:Cx} {K:PySem.W.Frag} {rn:List Str} {E:XK} {σ0:St} {e:Expr} {es:List Expr} {t:WA} {ta:TA} {pos p:Pos} {k:Nat} {x:Str} {ps:List Str} {sp:SpD}
theorem sY (C:CalX X.prog X.w X.K X.mg X.base rn k x ps sp) (hr:Room k X.A) (hx:uw rn X σ0 E) (ha:PA X (e :: es) ta) (hg:Gl X x) (hdb:(x == ("__debug__" : Str))=false) (he:starEach (e :: es) X.env=(false,eval e X.env) :: starEach es X.env)
    (hpl:(backTo pos (starEach es X.env)).any (·.1)=false):PE X (.Call (.Name x p) (e :: es) [] pos) (fun σ H Q=>σ=σ0/\tCall (cj X.K rn X.mg sp) [] E ta σ H Q):=by
  intro pins s σ H Q I ⟨e0,h⟩
  subst e0
  obtain ⟨g,fd,hm,hk,hb,F⟩:=C.ex
  refine wpAny_Call_Name_kw (ld_glob I hg hm ?_ hdb)
  refine PySem.W.callWith_K (h₀:=X.base) I.ok.mod.kin hk (thn (ha pos pins s σ H _ I h) fun us s1 hx5=>L2.ex2 hx5 fun vs H1 I1 r q=>⟨I1.kIn,?_⟩) he hpl
  have r2:Vals (vs++[]) (us++[]):=r.append .nil
  have hl:(us++[]).length=ps.length:=by rw [<- r2.length]; exact F.len _ _ _ _ q
  refine wpAny_call (codeAny_mono (F.run X.A X.stack s1 H1 ⟨us,[]⟩ (us++[]) (vs++[]) Q E hr I1.env0 (hb s1 us I1.kIn hl) r2 q) fun r s' hq=>?_)
  cases r with
  | error e=>exact hx pins H1 s1 e s' I1 hq
  | ok fl =>
    cases fl with
    | ret u=>exact I1.after hq
    | next=>exact False.elim hq
    | brk=>exact False.elim hq
    | cont=>exact False.elim hq
theorem pK {σ:St} {H:Hp} {Qv:VK} {Hs:Hp} {ρ:Env} {tot:List Addr} {Y:Str->Prop} {N:Md->D->Prop} (sr:SRel K Hs ρ σ H tot) (h:t ρ fun ps=>sp (ps.map (·.2)) fun m d=>xch m d Y (N m d))
    (f:∀ v H1 Hs1 H' Hs' m d As,Grow Hs H Hs1 H1->Same H1 Hs'->Wf Hs' H'->RM K Hs' H' m d v As->As.Nodup->(∀ a∈As,Hs' a=none)->N m d->Qv v H') (fx:∀ n H',Same H H'->Y n->LX rn X.mg E n H'):tCall (cj K rn X.mg sp) [] E (tpA K t) σ H Qv:=by
  refine ⟨Hs,ρ,tot,_,sr,h,fun vs H1 Hs1 ps As g1 r1 f1 q1=>?_⟩
  exact ⟨_,_,by rw [xay]; exact r1.reps g1.wf,q1,fun v H' Hs' m d As s w r nd own q=>f v H1 Hs1 H' Hs' m d As g1 s w r nd own (ug r q),fun n H' s q=>fx n H' (g1.all.trans s) q⟩
theorem yJ (C:CalX X.prog X.w X.K X.mg X.base rn k x ps sp) (hr:Room k X.A) (hx:uw rn X σ0 E) (ha:QA X K (e :: es) t) (hK:X.K=K:=by rfl) (hg:Gl X x:=by rfl) (hdb:(x == ("__debug__" : Str))=false:=by decide) (he:starEach (e :: es) X.env=(false,eval e X.env) :: starEach es X.env:=by rfl)
    (hpl:(backTo pos (starEach es X.env)).any (·.1)=false:=by rfl):PE X (.Call (.Name x p) (e :: es) [] pos) (tpX K rn X.mg E σ0 (sG sp t)):=by
  subst hK
  refine PE.imp (sY C hr hx ha hg hdb he hpl) fun σ H Qv ⟨e0,Hs,ρ,tot,Q,Y,sr,h,f,fx⟩=>⟨e0,pK sr h (fun v H1 Hs1 H' Hs' m d As g1 s w r nd own q=>?_) fx⟩
  obtain ⟨As',r',fr⟩:=lJ g1.wf s w r nd own
  exact Fin.after f g1 v H' _ (retM m d) d As' (du g1.wf s w) r' fr q
end
end L2.Q
namespace L2.Q.R
open PySem PySem.Spec PyProof.Rows L2.Q
end L2.Q.R


namespace L2.Q
open PySem PySem.Spec PyProof.Rows PySem.W
abbrev WB:=Env->(Env->Prop)->(Str->Prop)->Prop
def tpB (K:PySem.W.Frag) (rn:List Str) (mg:Str->Option Value) (E1:XK) (σ0:St) (t:WB):TS:=fun D σ H=>σ=σ0/\∃ Hs ρ tot N Y,SRel K Hs ρ σ H tot/\t ρ N Y /\
  (∀ σ' H' Hs' ρ' tot',Same Hs Hs'->SRel K Hs' ρ' σ' H' tot'->N ρ'->D.nx σ' H')/\∀ n H',Same H H'->Y n->LX rn mg E1 n H'
def tQ (wx:WX):WB:=fun ρ N Y=>wx ρ (fun _ _=>N ρ) Y
theorem SR.Ab {K:PySem.W.Frag}:∀ (i:Nat),SR K Hs H ρ σ tot->∃ tot',tot'.Sublist tot/\SR K Hs H (ρ.set i (some (.xc a))) (σ.set i (some (.ref a))) tot':=by
  intro i s
  induction s generalizing i with
  | nil=>exact ⟨[],xaH _,.nil⟩
  | non s ih =>
    cases i with
    | zero=>exact ⟨_,List.Sublist.refl _,.xc s⟩
    | succ i=>obtain ⟨t,a,b⟩:=ih i; exact ⟨t,a,.non b⟩
  | sh q s ih =>
    cases i with
    | zero=>exact ⟨_,List.Sublist.refl _,.xc s⟩
    | succ i=>obtain ⟨t,a,b⟩:=ih i; exact ⟨t,a,.sh q b⟩
  | xc s ih =>
    cases i with
    | zero=>exact ⟨_,List.Sublist.refl _,.xc s⟩
    | succ i=>obtain ⟨t,a,b⟩:=ih i; exact ⟨t,a,.xc b⟩
  | ow ne q s ih =>
    cases i with
    | zero=>exact ⟨_,xai _ _,.xc s⟩
    | succ i=>obtain ⟨t,a,b⟩:=ih i; exact ⟨_,a.append_left _,.ow ne q b⟩
  | lk ne q s ih =>
    cases i with
    | zero=>exact ⟨_,xai _ _,.xc s⟩
    | succ i=>obtain ⟨t,a,b⟩:=ih i; exact ⟨_,a.append_left _,.lk ne q b⟩
section
variable {X:Cx} {K:PySem.W.Frag} {rn:List Str} {E1:XK} {σ0:St} {e:Expr} {wx:WX} {pos:Pos}
theorem xM (he:PE X e (tpX K rn X.mg E1 σ0 wx)) (hs:swapsWith e none pos.line X.env=pure false:=by rfl):PSs X [.Expr e pos] (tpB K rn X.mg E1 σ0 (tQ wx)):=by
  intro pins s σ H D I ⟨e0,Hs,ρ,tot,N,Y,sr,h,f,fx⟩
  exact pss_one (ps_expr he hs) pins s σ H D I ⟨e0,Hs,ρ,tot,_,_,sr,h,fun v H' Hs' m d As g1 r1 f1 q1=>f _ H' Hs' _ tot g1.sh (sr.grow g1) q1,fx⟩
end
def yW (j:Nat) (wb:WB) (hd:Addr->Str->WS):WS:=fun E ρ=>wb ρ E.nx fun n=>∀ a,hd a n { nx:=fun ρ'=>E.nx (ρ'.set j none),rt:=E.rt } (ρ.set j (some (.xc a)))
theorem xn {X:Cx} {K:PySem.W.Frag} {R:Str} 
    (xr:Aa X.K X.mg rn R) (hN:X.N.Nodup) (hj:X.N[j]? = some en) (hl:X.env.scope.names.lookup en=some .local) (hst:X.stack=X.env :: X.outer) (hf:X.env.frame=some X.env.locals)
    (hb:∀ pn xe E1 σ0,uw rn (gM X pn xe) σ0 E1->PSs (gM X pn xe) body (tpB K rn X.mg E1 σ0 wb))
    (hh:∀ pn a oe n C,n∈rn->X.mg n=some (.ref C)->XcK X.K C->(a,oe)∈pn->oe.cls=.ref C->QSs (inHand X pn a) K L (b₀ :: suite) (hd a n)) (hg:Gl X R:=by rfl) (hdb:(R == ("__debug__" : Str))=false:=by decide) :
    QS X K L (.Try body [.ExceptHandler (some (.Name R np)) (some en) (b₀ :: suite) hpos] [] [] pos) (yW j wb hd):=by
  intro pins s σ H D I hx
  obtain ⟨Hs,ρ,tot,E,sr,h,k1,k2,k3,k4,kx⟩:=hx
  obtain ⟨r,hm,xr,sub⟩:=xr.ex
  have sp0:∀ p∈X.pn++pins,p∈(X.pn++pins)++[]:=fun p hp=>by rw [xay]; exact hp
  have hbody:=hb (X.pn++pins) (fun e s'=>∃ pins' H1 s1,Inv (gM X (X.pn++pins) X.xe) pins' σ H1 s1/\CXx X.prog X.w X.mg rn X.stack H1 s1 (fun c _ H'=>∃ n C,c=.ref C/\n∈rn/\X.mg n=some (.ref C)/\Same H H'/\∀ a,hd a n { nx:=fun ρ'=>E.nx (ρ'.set j none),rt:=E.rt } (ρ.set j (some (.xc a)))) e s') _ σ
    (fun pins' H1 s1 e s' I1 c=>⟨pins',H1,s1,Inv.Cp I1,c⟩)
    [] s σ H D (Inv.gM I fun p hp=>I.pin p (by rw [xay] at hp; exact hp)) ⟨rfl,Hs,ρ,tot,_,_,sr,h,k1,fun n H' s2 q hn C hC=>⟨n,C,rfl,hn,hC,s2,q⟩⟩
  refine wpAny_Try_except (xaM hbody (fun f s1 hs=>?_) fun e s' hx=>?_)
  · have hs:=SP.j_ hs sp0
    cases f with
    | next =>
      obtain ⟨σ',H',I',q⟩:=hs
      exact pss_nil pins s1 σ' H' D I' q
    | brk=>exact hs
    | cont=>exact hs
    | ret u=>exact hs
  · obtain ⟨pins',H1,s1,I1,a,n',C,a0,H',B,rfl,hn',os,bare,un,hok,fly,cov,fr,n,C2,eC,hn,hm2,sm,hq⟩:=hx
    cases eC
    obtain ⟨xc,hsub⟩:=sub n C hn hm2
    obtain ⟨hh',g',d',t',os'⟩:=s'
    obtain rfl:os'=s1.os:=os
    have fly1:Heap.FlyingW B (X.env :: X.outer) a (.ref C) a0 hh':=hst ▸ fly
    have th:∀ b o,s1.heap.get? b=some o->∃ o',hh'.get? b=some o':=fun b o e=>un.there b o e (by simp)
    refine wpAny_looks_onW (hst ▸ I.ok.frames) hf fly1 fun h4 held up4=>wpAny_landsW held fun h5 fly5 up5=>?_
    have mv5:dI (frs X.stack) H' s1.heap hh' h5:=dI.of cov fly5.1 (up4.trans up5) fly.2.2.1
    have cov5:=cov.next mv5 hok th
    have un5:=mv5.un un
    have hok5:=mv5.hok fr hok
    have I5:Inv (gM X (X.pn++pins) X.xe) pins' σ H' ⟨h5,g',d',t',s1.os⟩:=I1.call (h':=h5) (g':=g') (d':=d') (t':=t') (ch:=[]) un5 hok5 bare (fun b z=>absurd z (by simp))
    refine wpAny_handleBy_cons (codeAny_handlers_test ?_) (by intro q; cases q)
    refine ld_glob (X:=inHand X (X.pn++pins) a) (pins:=pins') (Inv.inHand I5 fun p hp=>I5.pin p hp) hg hm ?_ hdb
    refine pF xc xr hsub I5.kIn fly5.there (codeAny_handlers_suite_as ?_)
    refine lands_againW fly5 fun h6 fly6 up6=>?_
    have ff5:h5.FunFrames B X.stack:=hst ▸ fly5.2.2.1
    have mv6:dI (frs X.stack) H' s1.heap h5 h6:=dI.of cov5 fly6.1 up6 ff5
    have un6:=mv6.un un5
    have hok6:=mv6.hok fr hok5
    have I6:Inv (gM X (X.pn++pins) X.xe) pins' σ H' ⟨h6,g',d',t',s1.os⟩:=I1.call (h':=h6) (g':=g') (d':=d') (t':=t') (ch:=[]) un6 hok6 bare (fun b z=>absurd z (by simp))
    obtain ⟨oe,vs,he,hcl,hdt,_⟩:=fly6.first
    have nf:a∉frs X.stack:=fun z=>by
      have ff6:h6.FunFrames B X.stack:=hst ▸ fly6.2.2.1
      obtain ⟨_,o,e1,d1⟩:=ff6.mem z
      rw [he] at e1; cases e1
      exact d1 vs hdt
    have na:H' a=none:=by
      cases z:H' a with
      | none=>rfl
      | some u =>
        have:=(cov5.next mv6 hok5 fun b o e=>un5.there b o e (by simp)) a oe he (.inl (by rw [z]; exact fun z=>nomatch z)) nf
        rw [fly6.2.1] at this; cases this
    have frm:∀ b,b∈frs X.stack↔b=X.env.locals\/b∈X.fs:=fun b=>by
      rw [hst]; unfold frs; rw [xaI,hf]; exact xaq
    have pa:yL X H' ⟨h6,g',d',t',s1.os⟩ (a,oe):=⟨he,na,fun z=>nf ((frm a).mpr (.inl z)),fun z=>nf ((frm a).mpr (.inr z)),fun v z=>by rw [hdt] at z; cases z⟩
    have I6h:Inv (inHand X ((a,oe) :: (X.pn++pins)) a) [] σ H' ⟨h6,g',d',t',s1.os⟩:=Inv.inHand I6 fun p hp=>by
      rw [xay] at hp
      rcases xaq.mp hp with z | z
      · rw [z]; exact pa
      · exact I6.pin p (xam _ z)
    have gr:=du sr.wf sm ⟨Same.refl H',fun _ _ e=>e⟩
    have sg:=sr.grow gr
    obtain ⟨tot6,sub6,r6⟩:=SR.Ab (a:=a) j sg.sr
    refine store_ok2 (X:=inHand X ((a,oe) :: (X.pn++pins)) a) (v:=.ref a) I6h hN hj (.inl hl) rfl (fun s7 I7 _=>?_) (.inr hl)
    refine xaM (hh ((a,oe) :: (X.pn++pins)) a oe n C hn hm2 xc xac hcl [] s7 (σ.set j (some (.ref a))) H' { nx:=fun σ8 H8=>∃ Hs8 ρ8 tot8,Same _ Hs8/\SRel K Hs8 ρ8 σ8 H8 tot8/\E.nx (ρ8.set j none),rt:=D.rt } I7
      ⟨_,ρ.set j (some (.xc a)),tot6,_,⟨r6,sg.wf,sub6.nodup sg.nod,fun b hb=>sg.own b (sub6.subset hb)⟩,hq a,fun σ8 H8 Hs8 ρ8 tot8 m8 r8 q8=>⟨Hs8,ρ8,tot8,m8,r8,q8⟩,fun _ _ _ _ _ _ _ z=>z,fun _ _ _ _ _ _ _ z=>z,
        fun v H2 Hs2 m d As s2=>k4 v H2 Hs2 m d As (gr.sh.trans s2),fun n H2 s2=>kx n H2 (gr.sh.trans s2)⟩) (fun f s8 hs=>?_) fun _ _ z=>z.elim
    cases f with
    | next =>
      obtain ⟨σ8,H8,I8,Hs8,ρ8,tot8,m8,r8,q8⟩:=hs
      have I9:Inv X pins σ8 H8 s8:=Inv.tK I8 I.ok.hd fun p hp=>by rw [xay]; exact xaa _ hp
      obtain ⟨m,hn8,lk⟩:=id I9.loc
      obtain ⟨tot9,sub9,r9⟩:=SR.yw j r8.sr
      exact wpAny_nameGoes_keeps hl hn8 (by rw [I9.ok.kind]; rfl) fun h9 v hn9 sb=>⟨σ8.set j none,H8,Inv.drop I9 hN hj lk hn9 sb,k1 _ H8 Hs8 _ tot9 (gr.sh.trans m8) ⟨r9.yV,r8.wf,sub9.nodup r8.nod,fun b hb=>r8.own b (sub9.subset hb)⟩ q8⟩
    | brk=>obtain ⟨_,_,_,z⟩:=hs; exact z.elim
    | cont=>obtain ⟨_,_,_,z⟩:=hs; exact z.elim
    | ret u =>
      obtain ⟨v,σ8,H8,I8,rv,q⟩:=hs
      have I9:Inv X pins σ8 H8 s8:=Inv.tK I8 I.ok.hd fun p hp=>by rw [xay]; exact xaa _ hp
      obtain ⟨m,hn8,_⟩:=id I9.loc
      exact wpAny_nameGoes hl hn8 (by rw [I9.ok.kind]; rfl) fun h9 m9 hn9 sb=>⟨v,_,H8,Inv.forget I9 hn9 sb,rv,q⟩
structure XNot (K:PySem.W.Frag) (mg:Str->Option Value) (R2 R1:Str):Prop where
  ex:∀ r C,mg R1=some (.ref r)->mg R2=some (.ref C)->mroIn K C (.ref r)=some false
end L2.Q
namespace L2.Q.R
open PySem PySem.Spec PyProof.Rows L2.Q
section
variable {ρ:L2.Q.Env} {E:iG} {j:Nat} {wb:WB} {hd:Addr->Str->WS} {sp:SpD} {t:WA} {N:L2.Q.Env->Prop} {Y:Str->Prop}
theorem Ef:yW j wb hd E ρ=wb ρ E.nx fun n=>∀ a,hd a n { nx:=fun ρ'=>E.nx (ρ'.set j none),rt:=E.rt } (ρ.set j (some (.xc a))):=rfl
theorem De:tQ (sG sp t) ρ N Y=t ρ fun ps=>sp (ps.map (·.2)) fun m d=>xch m d Y (onK (m,d) (f:=fun _=>N ρ) ⟨⟩):=rfl
end
end L2.Q.R


namespace L2
open PySem PySem.Spec PyProof.Rows
section
variable {X:Cx} {o i value:Expr} {pos pos':Pos} {td ty tv:TE}
def zJ (td ty tv:TE):TS:=fun D σ H=>tv σ H fun v H1=>td σ H1 fun x H2=>ty σ H2 fun y H3=>∃ a xs,∃ (j:Int) (n:Nat),x=.ref a/\y=.int j/\H3 a=some (.lst xs)/\ixN xs.length j=some n/\D.nx σ (upd H3 a (.lst (xs.set n v)))
theorem vD (ho:PE X o td) (hi:PE X i ty) (hv:PE X value tv) (hs:swapsWith value (some (.Subscript o i pos')) pos.line X.env=pure false) :
    PS X (.Assign [.Subscript o i pos'] value pos) (zJ td ty tv):=by
  intro pins s σ H D I h
  refine wpAny_Assign_Subscript (thn (hv pins s σ H _ I h) fun r s1 hx5=>L2.ex2 hx5 fun v H1 I1 rv q1=>thn (ho pins s1 σ H1 _ I1 q1) fun u s2 hx5=>L2.ex2 hx5 fun x H2 I2 rx q2=>thn (hi pins s2 σ H2 _ I2 q2) fun iv s3 hx9=>?_) hs
  obtain ⟨y,H3,I3,ry,a,xs,j,k,ex,ey,g,h0,q3⟩:=hx9
  subst ex ey
  obtain rfl:u=Value.ref a:=rx
  obtain ⟨t,rfl⟩:=ry
  obtain ⟨z,its,n,r',hl,e⟩:=I3.lstM g
  have hsl:sizeLine<2 ^ 62:=by rw [sizeLine_eq]; decide
  have fin:∀ m,m=k->SP X pins D .next { s3 with heap:=s3.heap.update a (Obj.mapSeq (·.setIfInBounds m r)) }:=fun m em=>by
    subst em
    exact ⟨σ,_,I3.lset (its':=its.set m r) (t':=s3.toks) g e (by simp) (vg rv r' _) (by simpa using z),q3⟩
  unfold ixN at h0
  split at h0
  · split at h0
    · exact PySem.W.ki_setAt (n:=n) e ‹_› (by lia) (by rw [xak]; lia) (fin _ (Option.some.inj h0))
    · cases h0
  · split at h0
    · exact PySem.W.ki_setBack (n:=n) e (by lia) (by rw [xak]; lia) (by lia) (fin _ (by rw [xak,<- hl]; exact Option.some.inj h0))
    · cases h0
end
end L2
namespace L2.Q
open PySem PySem.Spec PyProof.Rows
def owM (m:Md) (y:D) (k:List D->Prop):Prop:=match m,y with
  | .ow true,.list ys=>k ys
  | _,_=>False
theorem wG {m:Md} {y:D} {k:List D->Prop} (h:owM m y k):∃ ys,m=.ow true/\y=.list ys/\k ys:=by
  unfold owM at h
  split at h
  · exact ⟨_,rfl,rfl,h⟩
  · exact h.elim
section
variable {X:Cx} {K:PySem.W.Frag} {L:Str->Hp->Prop} {a b c:Expr} {tb tk tv:WE} {pos pos' apos:Pos} {i:Nat} {x:Str}
theorem RepO.inL {Hs H:Hp} {xs:List D} {v:V} {As:List Addr} (r:RepO K Hs H true (.list xs) v As):∃ a vs A,v=.ref a/\As=a :: A/\vs.length<=sizeLine/\H a=some (.lst vs)/\aA K Hs H true xs vs A:=by
  cases r with
  | sh hf _=>exact absurd (hf rfl) (by simp [D.flat])
  | list z e rs=>exact ⟨_,_,_,rfl,rfl,z,e,rs⟩
theorem aA.putO {Hs H:Hp} {fl:Bool} {d:D} {v:V} {C:List Addr} (r:RepO K Hs H fl d v C) {ds:List D} {vs:List V} {As:List Addr} (k:Nat) (hk:k<ds.length) (q:aA K Hs H fl ds vs As):∃ Bs,(∀ x∈Bs,x∈As\/x∈C)/\(As.Nodup->C.Nodup->(∀ x∈C,x∉As)->Bs.Nodup)/\aA K Hs H fl (ds.set k d) (vs.set k v) Bs:=by
  induction k generalizing ds vs As with
  | zero =>
    cases ds with
    | nil=>exact absurd hk (xbs _)
    | cons x ds =>
      obtain ⟨u,us,A,B,rfl,rfl,_,q2⟩:=q.c
      refine ⟨C++B,fun x hx=>(xaf.mp hx).elim .inr fun z=>.inl (xad _ z),fun n1 n2 dj=>?_,aA.cons r q2⟩
      exact xah.mpr ⟨n2,(xah.mp n1).2.1,fun x hx y hy e=>dj x hx (e ▸ xad _ hy)⟩
  | succ k ih =>
    cases ds with
    | nil=>exact absurd hk (xbs _)
    | cons x ds =>
      obtain ⟨u,us,A,B,rfl,rfl,r1,q2⟩:=q.c
      obtain ⟨Bs,m,n,q3⟩:=ih (Nat.lt_of_succ_lt_succ hk) q2
      refine ⟨A++Bs,fun x hx=>?_,fun n1 n2 dj=>?_,aA.cons r1 q3⟩
      · rcases xaf.mp hx with z | z
        · exact .inl (xam _ z)
        · exact (m x z).imp (xad _) id
      · obtain ⟨nA,nB,d2⟩:=xah.mp n1
        refine xah.mpr ⟨nA,n nB n2 fun x hx z=>dj x hx (xad _ z),fun x hx y hy e=>?_⟩
        subst e
        rcases m x hy with z | z
        · exact d2 x hx x z rfl
        · exact dj x z (xam _ hx)
def iZ (i:Nat) (tb:WE):WS:=fun E ρ=>owl ρ[i]? fun xs=>tb ρ fun m y=>owM m y fun ys=>xs.length+ys.length<=sizeLine/\E.nx (ρ.set i (some (.ow true (.list (xs++ys)))))
theorem gn (hN:X.N.Nodup) (hi:X.N[i]? = some x) (hx:Loc X.env.scope x) (ha:PE X a (tVar i)) (hb:QE X K b tb) (hK:X.K=K:=by rfl) (hs:swapsWith (.BinOp a .Add b pos) (some (.Name x pos')) apos.line X.env=pure false:=by rfl)
    (hf:X.fn x=true\/X.env.scope.names.lookup x=some .local:=by first | exact .inl rfl | exact .inr rfl | assumption):QS X K L (.Assign [.Name x pos'] (.BinOp a .Add b pos) apos) (iZ i tb):=by
  subst hK
  refine PS.imp (ps_set hN hi hx (pe_op pQ ha hb) hs hf) fun D σ H hx=>eF hx fun Hs ρ tot E sr h k1 k2 k3 k4=>?_
  obtain ⟨xs,ei,h⟩:=uz h
  obtain ⟨v,As,tot',ev,r,sA,sT,dj,srn⟩:=SR.take i sr.sr ei sr.nod
  obtain ⟨a0,vs,A,rfl,rfl,z,ea,rs⟩:=r.inL
  refine ⟨_,ev,Hs,ρ,tot,_,sr,h,fun u H1 Hs1 m y Bs g1 r1 f1 q1=>?_⟩
  obtain ⟨ys,rfl,rfl,hz,q⟩:=wG q1
  obtain ⟨c0,ws,B,rfl,rfl,z2,ec,rs2⟩:=r1.1.inL
  have l1:=rs.length
  have l2:=rs2.length
  refine ⟨vs,ws,.inl (.inl (g1.all _ _ ea)),.inl (.inl ec),by lia,fun p hp=>?_⟩
  have g2:=newL (o:=.lst (vs++ws)) g1.wf hp (fun _ z=>nomatch z)
  have g:=g1.trans g2
  have sn:SRel X.K Hs (ρ.set i none) σ H tot':=⟨srn,sr.wf,sT.nodup sr.nod,fun x hx=>sr.own x (sT.subset hx)⟩
  have s3:=sn.grow g
  obtain ⟨nA,ndA⟩:=xau.mp (sA.nodup sr.nod)
  obtain ⟨nB,ndB⟩:=xau.mp f1.1
  have hA:∀ w∈A,H w≠none:=fun w hw=>(rs.own w hw).ne
  have hB:∀ w∈B,H1 w≠none:=fun w hw=>(rs2.own w hw).ne
  have fB:∀ w∈B,Hs1 w=none/\H w=none:=fun w hw=>f1.2 w (xaa _ hw)
  have p1:∀ w,H1 w≠none->w≠p:=fun w hw e=>hw (e ▸ hp)
  have hA1:∀ w∈A,H1 w≠none:=fun w hw=>by
    obtain ⟨o,e⟩:=xaS.mp (hA w hw)
    rw [g1.all _ _ e]; exact fun z=>nomatch z
  have rr:RepO X.K Hs1 (upd H1 p (.lst (vs++ws))) true (.list (xs++ys)) (.ref p) (p :: (A++B)) :=
    .list (by rw [xaz]; lia) upd_same (((rs.grow g1.sh g1.all).stay (Same.refl _) fun w hw=>upd_ne (p1 w (hA1 w hw))).append (rs2.stay (Same.refl _) fun w hw=>upd_ne (p1 w (hB w hw))))
  obtain ⟨tot2,s4⟩:=s3.set i (m:=.ow true) (sl:=.ow true (.list (xs++ys))) ⟨rr,xa5 _ _⟩ (xau.mpr ⟨fun w=>(xaf.mp w).elim (fun w=>p1 p (hA1 p w) rfl) fun w=>p1 p (hB p w) rfl,xah.mpr ⟨ndA,ndB,fun w h1 y h2 e=>hA w h1 (e ▸ (fB y h2).2)⟩⟩) (fun w hw=>by
    rcases xaq.mp hw with rfl | hw
    · exact ⟨g1.wf.sub.free hp,fun t=>(by
        have:=(sr.sr.own w (sT.subset t)).ne
        obtain ⟨o,e⟩:=xaS.mp this
        rw [g1.all _ _ e] at hp; cases hp)⟩
    · rcases xaf.mp hw with hw | hw
      · exact ⟨g1.hsn (sr.own w (sA.subset (xaa _ hw))) (hA w hw),dj w (xaa _ hw)⟩
      · exact ⟨(fB w hw).1,fun t=>(sr.sr.own w (sT.subset t)).ne (fB w hw).2⟩) rfl
  rw [List.set_set] at s4
  exact k1 _ _ Hs1 _ tot2 g.sh s4 q
def je (i:Nat) (tb tk:WE):WS:=fun E ρ=>owl ρ[i]? fun xs=>tb ρ fun m y=>owM m y fun ys=>xs.length+ys.length<=sizeLine/\tk ρ fun _ j=>intD j fun k=>∃ d,L2.atI (xs++ys) k=some d/\E.rt (outM d) d
theorem pO {p2:Pos} (ha:PE X a (tVar i)) (hb:QE X K b tb) (hc:QE X K c tk) (hs:PlainIx c:=by exact fun _ _=>rfl) (hK:X.K=K:=by rfl):QS X K L (.Return (some (.Subscript (.BinOp a .Add b pos) c p2)) pos') (je i tb tk):=by
  subst hK
  refine PS.imp (ps_ret (pe_ix (kIx rfl) (pe_op pQ ha hb) hc hs)) fun D σ H hx=>eF hx fun Hs ρ tot E sr h k1 k2 k3 k4=>?_
  obtain ⟨xs,ei,h⟩:=uz h
  obtain ⟨v,As,tot',ev,r,sA,sT,dj,srn⟩:=SR.take i sr.sr ei sr.nod
  obtain ⟨a0,vs,A,rfl,rfl,z,ea,rs⟩:=r.inL
  refine ⟨_,ev,Hs,ρ,tot,_,sr,h,fun u H1 Hs1 m y Bs g1 r1 f1 q1=>?_⟩
  obtain ⟨ys,rfl,rfl,hz,q⟩:=wG q1
  obtain ⟨c0,ws,B,rfl,rfl,z2,ec,rs2⟩:=r1.1.inL
  have l1:=rs.length
  have l2:=rs2.length
  refine ⟨vs,ws,.inl (.inl (g1.all _ _ ea)),.inl (.inl ec),by lia,fun p hp=>?_⟩
  have g2:=newL (o:=.lst (vs++ws)) g1.wf hp (fun _ z=>nomatch z)
  have g:=g1.trans g2
  obtain ⟨nA,ndA⟩:=xau.mp (sA.nodup sr.nod)
  obtain ⟨nB,ndB⟩:=xau.mp f1.1
  have hA:∀ w∈A,H w≠none:=fun w hw=>(rs.own w hw).ne
  have hB:∀ w∈B,H1 w≠none:=fun w hw=>(rs2.own w hw).ne
  have fB:∀ w∈B,Hs1 w=none/\H w=none:=fun w hw=>f1.2 w (xaa _ hw)
  have p1:∀ w,H1 w≠none->w≠p:=fun w hw e=>hw (e ▸ hp)
  have hA1:∀ w∈A,H1 w≠none:=fun w hw=>by
    obtain ⟨o,e⟩:=xaS.mp (hA w hw)
    rw [g1.all _ _ e]; exact fun z=>nomatch z
  have ra:aA X.K Hs1 (upd H1 p (.lst (vs++ws))) true (xs++ys) (vs++ws) (A++B):=(((rs.grow g1.sh g1.all).stay (Same.refl _) fun w hw=>upd_ne (p1 w (hA1 w hw))).append (rs2.stay (Same.refl _) fun w hw=>upd_ne (p1 w (hB w hw))))
  have nd:(A++B).Nodup:=xah.mpr ⟨ndA,ndB,fun w h1 y h2 e=>hA w h1 (e ▸ (fB y h2).2)⟩
  have own:∀ w∈A++B,Hs1 w=none:=fun w hw=>by
    rcases xaf.mp hw with hw | hw
    · exact g1.hsn (sr.own w (sA.subset (xaa _ hw))) (hA w hw)
    · exact (fB w hw).1
  have ow1:∀ w∈A++B,upd H1 p (.lst (vs++ws)) w≠none:=fun w hw=>(ra.own w hw).ne
  refine ⟨Hs1,ρ,tot,_,sr.grow g,q,fun u H3 Hs3 m y Bs g3 r3 f3 q3=>?_⟩
  have ry:=r3.rep g3.wf
  cases ry with
  | int k =>
    obtain ⟨d,e3,q⟩:=q3
    obtain ⟨j,ej,ed⟩:=wW e3
    obtain ⟨w,C,ew,rw',sC,_⟩:=ra.at ed nd
    have r2:=rw'.grow g3.sh g3.all
    refine .inl ⟨vs++ws,w,.inl (.inl (g3.all _ _ upd_same)),z6 (by rw [<- ra.length]; exact ej) ew,?_⟩
    cases hf:d.flat with
    | true =>
      rw [outM,hf] at q
      exact k4 w H3 Hs3 .sh d [] (g.sh.trans g3.sh) g3.wf ⟨rfl,(r2.rep g3.wf.sub fun _ _=>rfl).gC g3.wf.tups hf⟩ xaA (fun c hc=>mem0 hc) q
    | false =>
      rw [outM,hf] at q
      exact k4 w H3 Hs3 (.ow true) d C (g.sh.trans g3.sh) g3.wf ⟨r2,r2.ne hf⟩ (sC.nodup nd) (fun c hc=>g3.hsn (own c (sC.subset hc)) (ow1 c (sC.subset hc))) q
  | _=>exact q3.elim
def nG (i:Nat) (tk tv:WE):WS:=fun E ρ=>tv ρ fun m d=>owl ρ[i]? fun xs=>tk ρ fun _ j=>intD j fun j=>∃ n,L2.ixN xs.length j=some n/\okEl m d/\E.nx (ρ.set i (some (.ow true (.list (xs.set n d)))))
theorem mC (ha:PE X a (tVar i)) (hi:QE X K b tk) (hv:QE X K c tv) (hs:swapsWith c (some (.Subscript a b pos')) pos.line X.env=pure false:=by rfl) :
    QS X K L (.Assign [.Subscript a b pos'] c pos) (nG i tk tv):=by
  refine PS.imp (vD ha hi hv hs) fun D σ H hx=>eF hx fun Hs ρ tot E sr h k1 k2 k3 k4=>?_
  refine ⟨Hs,ρ,tot,_,sr,h,fun v H1 Hs1 m1 x As1 g1 r1 f1 q1=>?_⟩
  obtain ⟨xs,ei,q1⟩:=uz q1
  have sr1:=sr.grow g1
  obtain ⟨v0,As,_,ev,ne,r0,s0,up⟩:=SR.put i sr1.sr ei sr1.nod
  refine ⟨v0,ev,Hs1,ρ,tot,_,sr1,q1,fun y H3 Hs3 m3 yd As3 g3 r3 f3 q3=>?_⟩
  have ry:=r3.rep g3.wf
  cases ry with
  | int j =>
    obtain ⟨n,h0,ok,q⟩:=q3
    have hn:=(ixN_seq h0).2.1
    have sr3:=sr1.grow g3
    obtain ⟨v0',As',_,ev',ne',r0',s0',up'⟩:=SR.put i sr3.sr ei sr3.nod
    cases ev.symm.trans ev'
    obtain ⟨a,vs,A,rfl,rfl,z,ea,rs⟩:=r0'.inL
    have hl:=rs.length
    refine ⟨a,vs,j,n,rfl,rfl,ea,by rw [<- hl]; exact h0,?_⟩
    obtain ⟨C,rC,nC,hC⟩:∃ C,RepO K Hs3 H3 true x v C/\C.Nodup/\∀ w∈C,Hs3 w=none/\H w=none:=by
      rcases ok with hf | rfl
      · exact ⟨[],.sh (fun _=>hf) ((r1.grow g3).flat g3.wf hf),xaA,fun w hw=>mem0 hw⟩
      · exact ⟨As1,r1.1.grow g3.sh g3.all,f1.1,fun w hw=>⟨g3.hsn (f1.2 w hw).1 (r1.1.own w hw).ne,(f1.2 w hw).2⟩⟩
    have own:∀ w∈tot,H w≠none:=fun w hw=>(sr.sr.own w hw).ne
    have Ca:∀ w∈C,w∉tot:=fun w hw t=>own w t (hC w hw).2
    have nd:=s0'.nodup sr3.nod
    obtain ⟨na,nA⟩:=xau.mp nd
    have aC:a∉C:=fun t=>Ca a t (s0'.subset xac)
    have st:∀ {w},w≠a->upd H3 a (.lst (vs.set n v)) w=H3 w:=fun h=>upd_ne h
    obtain ⟨B,mB,nB,rB⟩:=aA.putO (H:=upd H3 a (.lst (vs.set n v))) (rC.stay (Same.refl _) fun w hw=>st fun e=>aC (e ▸ hw)) n (by lia) (rs.stay (Same.refl _) fun w hw=>st fun e=>na (e ▸ hw))
    have aB:a∉B:=fun t=>(mB a t).elim na aC
    obtain ⟨tot2,n2,i2,s2⟩:=up' Hs3 (upd H3 a (.lst (vs.set n v))) true (.list (xs.set n x)) (a :: B) (Same.refl _) (.list (by rw [List.length_set]; exact z) upd_same rB) (xa5 _ _)
      (xau.mpr ⟨aB,nB nA nC fun w hw t=>Ca w hw (s0'.subset (xaa _ t))⟩)
      (fun w hw t=>by
        rcases xaq.mp hw with rfl | hw
        · exact xac
        · exact (mB w hw).elim (xaa _) fun q=>absurd t (Ca w q))
      (fun w _ nw=>st fun e=>nw (e ▸ xac))
    have Ha:Hs3 a=none:=sr3.own a (s0'.subset xac)
    exact k1 _ _ Hs3 _ tot2 (g1.sh.trans g3.sh) ⟨s2,qD g3.wf Ha (fun _ z=>nomatch z),n2,fun w hw=>by
      rcases i2 w hw with t | t
      · exact sr3.own w t
      · rcases xaq.mp t with rfl | t
        · exact Ha
        · exact (mB w t).elim (fun t=>sr3.own w (s0'.subset (xaa _ t))) fun t=>(hC w t).1⟩ q
  | _=>exact q3.elim
end
end L2.Q
namespace L2.Q.R
open PySem PySem.Spec PyProof.Rows L2.Q
section
variable {tb tk tv:WE} {ρ:L2.Q.Env} {E:iG} {i:Nat}
theorem owM_ {ys:List L2.Q.D} {k:List L2.Q.D->Prop}:owM (.ow true) (.list ys) k=k ys:=rfl
theorem CK:iZ i tb E ρ=onK ρ[i]? (f:=fun o=>owl o fun xs=>tb ρ fun m y=>onK (m,y) (f:=fun p=>owM p.1 p.2 fun ys=>xs.length+ys.length<=sizeLine/\E.nx (ρ.set i (some (.ow true (.list (xs++ys)))))) ⟨⟩) ⟨⟩:=rfl
theorem zp:je i tb tk E ρ=onK ρ[i]? (f:=fun o=>owl o fun xs=>tb ρ fun m y=>onK (m,y) (f:=fun p=>owM p.1 p.2 fun ys=>xs.length+ys.length<=sizeLine/\tk ρ fun _ j=>onK j (f:=fun j=>intD j fun k=>∃ d,L2.atI (xs++ys) k=some d/\onK d (f:=fun d=>E.rt (outM d) d) ⟨⟩) ⟨⟩) ⟨⟩) ⟨⟩:=rfl
theorem CT:nG i tk tv E ρ=tv ρ fun m d=>onK ρ[i]? (f:=fun o=>owl o fun xs=>tk ρ fun _ j=>onK j (f:=fun j=>intD j fun j=>∃ n,L2.ixN xs.length j=some n/\okEl m d/\E.nx (ρ.set i (some (.ow true (.list (xs.set n d)))))) ⟨⟩) ⟨⟩:=rfl
end
end L2.Q.R


namespace L2.Q
open PySem PySem.Spec PyProof.Rows
section
variable {X:Cx} {K:PySem.W.Frag}
theorem wN:OpR X (compareOp .Is) (fun x y H Q=>∃ i j,x=.bl i/\y=.bl j/\Q (.bl (i == j)) H):=by
  intro pins s σ H x y v u Q I rx ry h
  obtain ⟨i,j,rfl,rfl,q⟩:=h
  cases rx
  cases ry
  exact is_bool (fin_bl I q rfl)
def fIsB:W2:=fun _ x _ y Q=>match x,y with
  | .bl i,.bl j=>Q .sh (.bl (i == j))
  | _,_=>False
theorem wJ:Br2 K (fun x y H Q=>∃ i j,x=.bl i/\y=.bl j/\Q (.bl (i == j)) H) fIsB:=by
  intro Hs H m x v As n y u Bs Qd Qv w rx ry h f
  have r1:=rx.rep w
  have r2:=ry.rep w
  cases r1 with
  | bl i=>cases r2 with
    | bl j=>exact ⟨i,j,rfl,rfl,f.sh w (.bl _) h⟩
    | _=>exact h.elim
  | _=>exact h.elim
theorem lV:OpR X (compareOp .IsNot) (fun x y H Q=>∃ i j,x=.bl i/\y=.bl j/\Q (.bl (!(i == j))) H):=by
  intro pins s σ H x y v u Q I rx ry h
  obtain ⟨i,j,rfl,rfl,q⟩:=h
  cases rx
  cases ry
  exact isnot_bool (fin_bl I q rfl)
def qT:W2:=fun _ x _ y Q=>match x,y with
  | .bl i,.bl j=>Q .sh (.bl (!(i == j)))
  | _,_=>False
theorem mV:Br2 K (fun x y H Q=>∃ i j,x=.bl i/\y=.bl j/\Q (.bl (!(i == j))) H) qT:=by
  intro Hs H m x v As n y u Bs Qd Qv w rx ry h f
  have r1:=rx.rep w
  have r2:=ry.rep w
  cases r1 with
  | bl i=>cases r2 with
    | bl j=>exact ⟨i,j,rfl,rfl,f.sh w (.bl _) h⟩
    | _=>exact h.elim
  | _=>exact h.elim
end
namespace R
theorem Dv:qT m (.bl i) m' (.bl j) Q=Q .sh (.bl (!(i == j))):=rfl
theorem GJ:fIsB m (.bl i) m' (.bl j) Q=Q .sh (.bl (i == j)):=rfl
theorem Dz:fNe m (.bl i) m' (.bl j) Q=Q .sh (.bl (!decide (i=j))):=rfl
end R
end L2.Q

local macro_rules | `(tactic| walk_at "q") => do
  let nm (s : String) : Lean.Ident := Lean.mkIdent ((s.splitOn ".").foldl Lean.Name.mkStr .anonymous)
  let ds ← ("Ds Gz Es DN BZ Dm Hi Hc CV Aq Dl DX DY Ff Ei Ed Hg Dq DQ Fp owM_ CK zp CT Ef De Gb By DG Eb FW GQ Gh Gf Gw Gm Gv DR Ea Fz FZ Bh Fy Fv zr Cq Ar BV GR Fj wB_ Hk wOr_ Gy G8 Bb Ci wC_ wOp_ wUn_ Ce DK F_ Du Fi GD Hj G9 Ft BW Bk Df Bc CJ Di Cg Bq Dj Fb En Er Ez Dk Fw E_ Dn Gx FQ Gk Ex Fq G7 Gi FN Hh CW Fd Em Eo GJ Dv Dz GF GZ Gr Hf Ga Hd Hl Hm Gs Gj GX Ey Fe Dy Ec Fl Gq CP Bp Bw wSl_ Ay Ep Et Gu Hn Gp EY Dg Ba wpN_ A_ Gn Cu GK G3 Gd DP Ew Bx Bf Az Av Ax gN_ gT_ D_ FJ Ek Ej Eu B_ Cd Cr Cj Fo C_ BK El G_ GC Dr Fg Eh G4 Hb G6 Gg Br DW Dt".splitOn " ").toArray.mapM fun s => `(Lean.Parser.Tactic.simpLemma| ↓$(nm ("L2.Q.R." ++ s)):ident)
  let us ← ("L2.Q.mvE L2.Q.mvV L2.Q.movS L2.Q.outM L2.Q.rQ L2.Q.xF L2.Q.okSh L2.Q.okOw L2.Q.okFl L2.Q.retM L2.Q.jC L2.Q.frzE L2.Q.shS L2.Q.shC L2.Q.kJ L2.Q.yf L2.Q.asg L2.Q.itm L2.Q.aV L2.Q.D.flat L2.Q.flats L2.Q.D.isN L2.Q.D.ty L2.Q.truD L2.Q.D.key1 L2.Q.jO L2.Q.Eg L2.Q.Fx List.length_map List.map_cons List.map_nil List.length_cons List.length_nil List.replicate_succ List.replicate_zero List.cons_append List.nil_append List.append_nil List.getElem?_cons_zero List.getElem?_cons_succ List.getElem?_nil List.set_cons_zero List.set_cons_succ List.all_cons List.all_nil Option.some.injEq Option.join_some Option.map_some Option.map_none Nat.reduceAdd Nat.reduceSub true_and and_true Bool.and_true Bool.true_and Bool.and_false Bool.false_and Bool.not_true Bool.not_false Bool.false_eq_true if_true if_false decide_true decide_false reduceIte cond_true cond_false PySem.sizeLine_eq L2.Q.atI0 L2.Q.atI1 L2.Q.atI2 L2.Q.bV L2.Q.zx L2.Q.empty_app Nat.zero_add exists_eq_left' Int.reduceLT Int.reduceLE Int.reducePow Int.reduceNeg Int.reduceToNat Int.reduceAdd Int.reduceMul Int.reduceSub Nat.reduceLeDiff Nat.reduceLT false_or or_false and_self L2.G5".splitOn " ").toArray.mapM fun s => `(Lean.Parser.Tactic.simpLemma| $(nm s):ident)
  let as : Lean.TSyntaxArray [`Lean.Parser.Tactic.simpStar, `Lean.Parser.Tactic.simpErase, `Lean.Parser.Tactic.simpLemma] := (ds ++ us).map fun x => ⟨x.raw⟩
  `(tactic| simp -dsimp only [$as,*])

namespace L2.Q.Law
open PySem PySem.Spec PyProof.Rows
theorem small {n:Nat} (h:n<=10000):n<=sizeLine:=xat h (by decide)
theorem Dw {n:Nat} (h:n<=10000):n<sizeLine:=xbw h (by decide)
def isLet (c:Nat):Bool:=decide (97<=c/\c<=122)
abbrev abc:Str := "abcdefghijklmnopqrstuvwxyz"
theorem m7:sg abc=(List.range 26).map (97 + ·):=by decide +kernel
theorem z7 {i:Int} (h0:0<=i) (h1:i<26):∃ c,atI (sg abc) i=some c/\isLet c=true:=by
  refine ⟨97+i.toNat,?_,?_⟩
  · have:atI (sg abc) ((i.toNat:Nat):Int)=some (97+i.toNat):=atI_nat (by
      rw [m7]
      have:i.toNat<26:=by lia
      simp [this])
    rwa [xaJ h0] at this
  · simp [isLet]; lia
theorem wX (x:Int):∃ c,atI (sg abc) (x % 26)=some c/\isLet c=true:=z7 (xav _ (by decide)) (xar _ (by decide))
def lets (x:Str):Prop:=∀ c∈sg x,isLet c=true
def Open (x:Str):Prop:=1<=x.length/\x.length<=6/\lets x
def Deed (x:Str):Prop:=x = "*"\/Open x
theorem qK {x y:Str} (hx:lets x) (hy:lets y):lets (x++y):=fun c hc=>by
  rw [h_] at hc
  exact (xaf.mp hc).elim (hx c) (hy c)
theorem vB {c:Nat} (h:isLet c=true):lets ⟨#[c]⟩:=fun d hd=>by
  have:d=c:=by simpa [sg] using hd
  rw [this]; exact h
theorem mq {x:Str} (h:lets x) (lo hi:Option Int):lets (cutS x lo hi):=fun c hc=>by
  unfold cutS sg at hc
  rw [List.toList_toArray] at hc
  exact h c (xbq (xbr hc))
theorem eZ (c:Nat):(⟨#[c]⟩:Str).length=1:=rfl
theorem Deed.len {x:Str} (h:Deed x):x.length<=6:=by
  rcases h with rfl | h
  · decide
  · exact h.2.1
theorem Deed.ok {x:Str} (h:Deed x):PyData.strOk x=true:=by
  rw [yx]
  rcases h with rfl | h
  · have:sg "*" = [42]:=by decide +kernel
    intro c hc
    rw [this] at hc
    have:c=42:=by simpa using hc
    lia
  · intro c hc
    have:=h.2.2 c hc
    simp [isLet] at this
    lia
theorem nW:∀ (l:List Str),flats (l.map D.str)=true
  | []=>rfl
  | x :: l=>by simp [flats,nW l,D.flat]
theorem cF:∀ (l:List Int),flats (l.map D.int)=true
  | []=>rfl
  | x :: l=>by simp [flats,cF l,D.flat]
theorem wy:∀ (l:List Bool),flats (l.map D.bl)=true
  | []=>rfl
  | x :: l=>by simp [flats,wy l,D.flat]
theorem vG (l:List Str) (x:Str):l.map D.str++[D.str x]=(l++[x]).map D.str:=by simp
theorem ints_app (l:List Int) (x:Int):l.map D.int++[D.int x]=(l++[x]).map D.int:=by simp
theorem d_ {n i:Nat} {lo:Int} {x:D} (h:(iJ lo n)[i]? = some x):i<n/\x=.int (lo+(i:Nat)):=by
  unfold iJ at h
  rw [xaV] at h
  by_cases hi:i<n
  · rw [List.getElem?_range hi] at h
    exact ⟨hi,(Option.some.inj h).symm⟩
  · rw [xbc (by simpa using hi)] at h
    cases h
theorem fu (lo:Int) (n:Nat):(iJ lo n).length=n:=by simp [iJ]
theorem vX {lo:Int} {n:Nat} {x:D} (h:x∈iJ lo n):∃ i:Nat,i<n/\x=.int (lo+i):=by
  obtain ⟨i,hi⟩:=xbn.mp h
  exact ⟨i,d_ hi⟩

inductive Rw where
  | st (w d:Str) (j:Int)
  | nt (j:Int)
  | jn (w:Str) (ps:List Int)
def rwD:Rw->D
  | .st w d j=>.tup [.str w,.str d,.int j]
  | .nt j=>.tup [.str "not",.int j]
  | .jn w ps=>.tup [.str w,.tup (ps.map .int)]
def RwOk (k:Int):Rw->Prop
  | .st w d j=>(w = "some"\/w = "all")/\Deed d/\0<=j/\j<k
  | .nt j=>0<=j/\j<k
  | .jn w ps=>(w = "and"\/w = "or")/\ps.length<=200/\∀ p∈ps,0<=p/\p<k
def ScOk (l:List Rw):Prop:=∀ (i:Nat) (r:Rw),l[i]? = some r->RwOk i r
theorem um:∀ r:Rw,(rwD r).flat=true
  | .st _ _ _=>rfl
  | .nt _=>rfl
  | .jn _ ps=>by simp [rwD,D.flat,flats,cF]
theorem dM:∀ l:List Rw,flats (l.map rwD)=true
  | []=>rfl
  | r :: l=>by simp [flats,um r,dM l]
theorem Be (l:List Rw) (r:Rw):l.map rwD++[rwD r]=(l++[r]).map rwD:=by simp
theorem RwOk.mono {k k':Int} (hk:k<=k'):∀ {r:Rw},RwOk k r->RwOk k' r
  | .st _ _ _,⟨a,b,c,d⟩=>⟨a,b,c,by lia⟩
  | .nt _,⟨c,d⟩=>⟨c,by lia⟩
  | .jn _ _,⟨a,b,c⟩=>⟨a,b,fun p hp=>⟨(c p hp).1,by have:=(c p hp).2; lia⟩⟩
theorem ScOk.app {l:List Rw} {r:Rw} (h:ScOk l) (hr:RwOk l.length r):ScOk (l++[r]):=fun i x hx=>by
  by_cases hi:i<l.length
  · rw [xa3 hi] at hx
    exact h i x hx
  · rw [xaR (by lia)] at hx
    by_cases h0:i=l.length
    · subst h0
      rw [Nat.sub_self] at hx
      cases hx
      exact hr
    · rw [xbc (by simp; lia)] at hx
      cases hx
theorem ScOk.take {l:List Rw} (h:ScOk l) (n:Nat):ScOk (l.take n):=fun i x hx=>by
  rw [List.getElem?_take] at hx
  split at hx
  · exact h i x hx
  · cases hx
theorem ScOk.nil:ScOk []:=fun i r h=>by simp at h
theorem w_no:∀ {w:Str},(w = "and"\/w = "or")->w ≠ "some"/\w ≠ "all"/\w ≠ "not" := by
  rintro w (rfl | rfl) <;> decide +kernel
theorem w_sa:∀ {w:Str},(w = "some"\/w = "all")->w ≠ "not"/\w ≠ "and"/\w ≠ "or" := by
  rintro w (rfl | rfl) <;> decide +kernel
theorem n_sa:("not" : Str) ≠ "some"/\("not" : Str) ≠ "all" := by decide +kernel
theorem jy {α:Type} (l:List α):l.filter (fun _=>true)=l:=List.filter_eq_self.mpr fun _ _=>rfl
def lA (x:Str):Bool:=(decide (1<=x.length/\x.length<=6) && (sg x).all isLet) || decide (x = "*")
theorem lu {x:Str}:lA x=true↔Deed x:=by
  unfold lA Deed Open lets
  simp only [Bool.or_eq_true,xas,decide_eq_true_eq,xaW]
  constructor
  · rintro (⟨⟨h1,h2⟩,h3⟩ | h)
    · exact .inr ⟨h1,h2,h3⟩
    · exact .inl h
  · rintro (h | ⟨h1,h2,h3⟩)
    · exact .inr h
    · exact .inl ⟨⟨h1,h2⟩,h3⟩
def isOp:D->Bool
  | .str x=>decide (1<=x.length/\x.length<=6) && (sg x).all isLet
  | _=>false
def isDd:D->Bool
  | .str x=>lA x
  | _=>false
def ahd (k:Int):D->Bool
  | .int j=>decide (0<=j/\j<k)
  | _=>false
def prt (k:Int):D->Bool
  | .tup xs=>decide (xs.length<=200) && xs.all (ahd k)
  | _=>false
def rwR (k:Int) (w:Str) (r:List D):Bool :=
  if w = "some"\/w = "all" then (match r with
    | [d,j]=>isDd d && ahd k j
    | _=>false)
  else if w = "not" then (match r with
    | [j]=>ahd k j
    | _=>false)
  else if w = "and"\/w = "or" then (match r with
    | [p]=>prt k p
    | _=>false)
  else false
def isRw (k:Int):D->Bool
  | .tup (.str w :: r)=>rwR k w r
  | _=>false
def isSc:D->Bool
  | .list xs=>decide (1<=xs.length/\xs.length<=2000) && xs.zipIdx.all fun p=>isRw (p.2:Int) p.1
  | _=>false
theorem ql {k:Int} {w:Str} {r:List D} (h:w = "some"\/w = "all"):rwR k w r=(match r with
    | [d,j]=>isDd d && ahd k j
    | _=>false):=if_pos h
theorem vZ {k:Int} {r:List D}:rwR k "not" r=(match r with
    | [j]=>ahd k j
    | _=>false):=(if_neg (by decide +kernel)).trans (if_pos rfl)
theorem qC {k:Int} {w:Str} {r:List D} (h:w = "and"\/w = "or"):rwR k w r=(match r with
    | [p]=>prt k p
    | _=>false):=(if_neg (by rcases h with rfl | rfl <;> decide +kernel)).trans ((if_neg (by rcases h with rfl | rfl <;> decide +kernel)).trans (if_pos h))
theorem rw_ok {k:Int}:∀ {r:Rw} (n:Nat),RwOk k r->okD (n+2) (rwD r)=true
  | .st w d j,n,h=>by
    have h1:=h.2.1.ok
    have h2:PyData.strOk w=true:=by rcases h.1 with rfl | rfl <;> decide +kernel
    simp [rwD,okD,h1,h2]
  | .nt j,n,h=>by
    have h2:PyData.strOk "not" = true:=by decide +kernel
    simp [rwD,okD,h2]
  | .jn w ps,n,h=>by
    have h2:PyData.strOk w=true:=by rcases h.1 with rfl | rfl <;> decide +kernel
    simp [rwD,okD,h2]
theorem wK {l:List Rw} (h:ScOk l) (n:Nat):okD (n+3) (.list (l.map rwD))=true:=by
  simp only [okD,xbt,xaW]
  intro r hr
  obtain ⟨i,hi⟩:=xbn.mp hr
  exact rw_ok n (h i r hi)
theorem tG:∀ l:List Int,nbs (l.map D.int)=true
  | []=>rfl
  | x :: l=>by simp [nbs,tG l,D.nb]
theorem nQ:∀ l:List Rw,nbs (l.map rwD)=true
  | []=>rfl
  | .st _ _ _ :: l=>by simp [nbs,nQ l,rwD,D.nb]
  | .nt _ :: l=>by simp [nbs,nQ l,rwD,D.nb]
  | .jn _ ps :: l=>by simp [nbs,nQ l,rwD,D.nb,tG]
theorem yS {names:List Str} {i:Int} (h0:0<=i) (h1:i<names.length):∃ n,n∈names/\atI (names.map D.str) i=some (.str n):=by
  have hn:i.toNat<names.length:=by lia
  refine ⟨names[i.toNat],xbB hn,?_⟩
  have:=atI_nat (xs:=names.map D.str) (j:=i.toNat) (v:=.str names[i.toNat]) (by simp [hn])
  rwa [xaJ h0] at this
theorem name_mod {names:List Str} (x:Int) (h:1<=names.length):∃ n,n∈names/\atI (names.map D.str) (x % (names.length:Int))=some (.str n) :=
  yS (xav _ (by lia)) (xar _ (by lia))
theorem rw_true {k:Int}:∀ {r:Rw},RwOk k r->isRw k (rwD r)=true
  | .st w d j,⟨hw,hd,h0,h1⟩=>by
    show rwR k w [.str d,.int j]=true
    rw [ql hw]
    show (lA d && decide (0<=j/\j<k))=true
    rw [lu.mpr hd,decide_eq_true ⟨h0,h1⟩]; rfl
  | .nt j,⟨h0,h1⟩=>by
    show rwR k "not" [.int j]=true
    rw [vZ]
    exact decide_eq_true ⟨h0,h1⟩
  | .jn w ps,⟨hw,hl,hp⟩=>by
    show rwR k w [.tup (ps.map .int)]=true
    rw [qC hw]
    show (decide ((ps.map D.int).length<=200) && (ps.map D.int).all (ahd k))=true
    rw [xae,decide_eq_true hl,xbt,xbm]
    exact xaW.mpr fun p h=>decide_eq_true (hp p h)
theorem my {l:List Rw} (h:ScOk l) (h1:1<=l.length) (h2:l.length<=2000):isSc (.list (l.map rwD))=true:=by
  show (decide (1<=(l.map rwD).length/\(l.map rwD).length<=2000) && _)=true
  rw [xae,decide_eq_true ⟨h1,h2⟩,xbm]
  refine xaW.mpr fun p hp=>?_
  obtain ⟨x,i⟩:=p
  have:=List.mem_zipIdx_iff_getElem?.mp hp
  rw [xaV] at this
  obtain ⟨r,hr,rfl⟩:=Option.map_eq_some_iff.mp this
  exact rw_true (h i r hr)
theorem qO {xs:List D} {i:Nat} {x:D} (e:xs[i]? = some x) (h:isRw i x=false):isSc (.list xs)=false:=by
  show (decide _ && _)=false
  rw [Bool.and_eq_false_iff]
  exact .inr (List.all_eq_false.mpr ⟨(x,i),List.mem_zipIdx_iff_getElem?.mpr e,by simp [h]⟩)
theorem xG {xs:List D} (h:2000<xs.length):isSc (.list xs)=false:=by
  show (decide _ && _)=false
  rw [decide_eq_false (by lia)]; rfl
def gk:WS :=
  (wSeq (wIfS (wOr (wNot (wB (wUn (fIsi "str") (wVar 0)))) (wNot (wB (iz fLe fLe (wC (.int 1)) (wUn fLen (wVar 0)) (wC (.int 6))))))
  (wRet (wC (.bl false)))
  cu)
  (wRet (wUn fAll (jw (vh (wVar 0)) (gN 0) wYes (wOp (fIn false) (wVar 0) (wC (.str "abcdefghijklmnopqrstuvwxyz"))) 1 []))))
theorem yP {c:Nat}:inS ⟨#[c]⟩ abc=isLet c:=by
  rw [xg]
  have:abc.cps.toList=(List.range 26).map (97 + ·):=m7
  rw [this]
  apply xa0.mpr
  simp only [decide_eq_true_eq,isLet,xbd,xaU]
  constructor
  · rintro ⟨i,hi,rfl⟩; lia
  · intro h; exact ⟨c - 97,by lia,by lia⟩
def cP:SpD:=fun ds Q=>∃ d:D,ds=[d]/\Q .sh (.bl (isOp d))
theorem pR (ds Q) (h:cP ds Q):ds.length=["thing"].length:=by obtain ⟨_,rfl,_⟩:=h; rfl
theorem ue:∀ ds Q,cP ds Q->gk { nx:=fun _=>Q .sh .non,rt:=Q } (aV 1 ds):=by
  rintro ds Q ⟨d,rfl,h⟩
  cases d with
  | str x =>
    have h:Q .sh (.bl (decide (1<=x.length/\x.length<=6) && (sg x).all isLet)):=h
    unfold gk
    walk_at "q"
    refine R.F rfl ?_
    walk_at "q"
    refine R.D (fun h1=>?_) fun h1=>?_
    · walk_at "q"
      refine R.B (fun h2=>?_) fun h2=>?_
      rotate_left
      · have h2:x.length<=6:=by simp at h2; lia
        walk_at "q"
        refine dN (fun _=>true) (fun d=>match d with
          | .str z=>.bl (inS z abc)
          | d=>d) (fun ρ=>∃ o,ρ=[o]) _ _ _ ⟨_,rfl⟩ ?_ ?_
        · rintro y hy ρ ⟨o,rfl⟩ N1 N2 _ h2
          obtain ⟨c,hc,rfl⟩:=xbd.mp hy
          walk_at "q"
          exact ⟨.inl rfl,h2 _ ⟨_,rfl⟩ rfl⟩
        · rw [jy]
          refine ⟨(sg x).map isLet,?_,?_⟩
          · unfold sgnD
            rw [xaQ,xaQ]
            refine List.map_congr_left fun c _=>?_
            show D.bl (inS ⟨#[c]⟩ abc)=_
            rw [yP]; rfl
          · rw [decide_eq_true (by lia),xbm] at h
            rw [xbt]
            exact h
      · have h2:¬ x.length<=6:=by simp at h2; lia
        walk_at "q"
        rw [decide_eq_false (by lia),Bool.false_and] at h
        exact h
    · walk_at "q"
      rw [decide_eq_false (by lia),Bool.false_and] at h
      exact h
  | _ =>
    unfold gk
    walk_at "q"
    refine R.T rfl ?_
    walk_at "q"
    exact h
def gU:WS :=
  (wRet (jM (wUn (fIsi "int") (wVar 0)) (vy (wUn (fIsi "bool") (wVar 0)))))
def cC:SpD:=fun ds Q=>∃ d:D,ds=[d]/\Q .sh (.bl (decide (d.ty = "int")))
theorem nT (ds Q) (h:cC ds Q):ds.length=["thing"].length:=by obtain ⟨_,rfl,_⟩:=h; rfl
theorem rE:∀ ds Q,cC ds Q->gU { nx:=fun _=>Q .sh .non,rt:=Q } (aV 1 ds):=by
  rintro ds Q ⟨d,rfl,h⟩
  unfold gU
  walk_at "q"
  cases d <;> first
    | (refine R.F rfl ?_; walk_at "q"; exact h)
    | (refine R.T rfl ?_; walk_at "q"; first | exact h | (refine R.T rfl ?_; walk_at "q"; exact h) | (refine R.F rfl ?_; walk_at "q"; exact h))
def dh:WS :=
  (wSeq (wIfS (wB (wOp fLt (wVar 1) (wUn fLen (wVar 0))))
  (wRet (wOp fIx (wVar 0) (wVar 1)))
  cu)
  (wRet (wC (.int 0))))
def aF:SpD:=fun ds Q=>∃ (ns:List Int) (k:Int),ds=[.list (ns.map .int),.int k]/\0<=k/\Q .sh (.int (ns.getD k.toNat 0))
theorem iD (ds Q) (h:aF ds Q):ds.length=["_law_script", "_law_k"].length:=by obtain ⟨_,_,rfl,_⟩:=h; rfl
theorem jT:∀ ds Q,aF ds Q->dh { nx:=fun _=>Q .sh .non,rt:=Q } (aV 2 ds):=by
  rintro ds Q ⟨ns,k,rfl,hk,h⟩
  unfold dh
  walk_at "q"
  refine R.D (fun hl=>?_) fun hl=>?_
  · walk_at "q"
    have hn:k.toNat<ns.length:=by lia
    refine ⟨.int ns[k.toNat],?_,?_⟩
    · have:=atI_nat (xs:=ns.map D.int) (j:=k.toNat) (v:=.int ns[k.toNat]) (by simp [hn])
      rwa [xaJ hk] at this
    · show Q .sh _; simpa [List.getD,hn] using h
  · walk_at "q"
    have:ns.getD k.toNat 0=0:=by
      have:ns.length<=k.toNat:=by lia
      simp [List.getD,xbc this]
    rwa [this] at h

def dW:WS :=
  (wSeq (wSet 2 (wC (.str "abcdefghijklmnopqrstuvwxyz")))
  (wSeq (wSet 3 (wOp fAdd (wC (.int 1)) (wOp fMod (wVar 0) (wC (.int 6)))))
  (wSeq (wSet 0 (wOp fDiv (wVar 0) (wC (.int 6))))
  (wSeq (wSet 4 (wLst wNil))
  (wSeq (wFor (fL (wVar 3)) (gN 5)
  (wSeq (wApp (wpN 4) (wOp fMod (wVar 0) (wC (.int 26))))
  (wSet 0 (wOp fDiv (wVar 0) (wC (.int 26))))))
  (wSeq (wSet 6 (pX (wC (.str "")) (jw (qb (wVar 4)) (gN 0) wYes (wOp fIx (wVar 1) (wVar 0)) 1 [2])))
  (wSeq (wIfS (wB (wOp fEq (wOp fMod (wOp fDiv (wVar 1) (wC (.int 6))) (wC (.int 3))) (wC (.int 1))))
  (wRet (jw (qy (wC (.int 1)) (wC (.int 7))) (gN 0) wYes (wSl (wOp wu (wC (.int 6)) (wVar 1)) gO (mL (wVar 0))) 1 [6]))
  cu)
  (wSeq (wSet 7 (wOp fMod (wVar 1) (wVar 3)))
  (wSeq (wSet 8 (wLst wNil))
  (wSeq (wFor (fL (wC (.int 6))) (gN 5)
  (wSeq (wSet 9 (wOp fIx (wVar 2) (wOp fMod (wOp fAdd (wOp fIx (wVar 4) (wVar 7)) (wOp fMul (wC (.int 5)) (wVar 5))) (wC (.int 26)))))
  (wApp (wpN 8) (wOp fAdd (wOp fAdd (wSl (wVar 6) gO (mL (wVar 7))) (wVar 9)) (wSl (wVar 6) (mL (wOp fAdd (wVar 7) (wC (.int 1)))) gO)))))
  (vQ 8)))))))))))
theorem qp {n d:Nat} {k:Int} (h0:0<=k) (h1:k<=n):HT.sIx n d (some k)=k.toNat:=by
  simp only [HT.sIx]
  rw [if_neg (by lia)]
  lia
theorem pD {x:Str} {k:Int} (h0:0<=k) (h1:k<=x.length):(cutS x none (some k)).length=k.toNat:=by
  unfold cutS Str.length at *
  simp only [xak,xaG,xaO,xaF]
  rw [qp h0 (by simpa using h1)]
  simp [HT.sIx]
  lia
theorem yq {x:Str} {k:Int} (h0:0<=k) (h1:k<=x.length):(cutS x (some k) none).length=x.length - k.toNat:=by
  unfold cutS Str.length at *
  simp only [xak,xaG,xaO,xaF]
  rw [qp h0 (by simpa using h1)]
  simp [HT.sIx]
theorem vY {n:Int} {z:Str} (h:lets z):lets (repS n z):=fun c hc=>by
  unfold repS sg at hc
  rw [List.toList_toArray] at hc
  obtain ⟨l,hl,hcl⟩:=List.mem_flatten.mp hc
  rw [List.eq_of_mem_replicate hl] at hcl
  exact h c hcl
theorem lg:∀ (l:List Str),jC (l.map D.str)=some l
  | []=>rfl
  | x :: l=>by simp [jC,lg l]
theorem uG {p:Int} (h0:0<=p) (h1:p<26):atI (sg abc) p=some (97+p.toNat):=by
  have:atI (sg abc) ((p.toNat:Nat):Int)=some (97+p.toNat):=atI_nat (by
    rw [m7]
    have:p.toNat<26:=by lia
    simp [this])
  rwa [xaJ h0] at this
theorem ie:∀ l:List Nat,sg (Str.join "" (l.map fun c=>(⟨#[c]⟩:Str)))=l
  | []=>by decide +kernel
  | [c]=>rfl
  | c :: d :: l=>by
    have ih:=ie (d :: l)
    show sg ((⟨#[c]⟩:Str) ++ "" ++ Str.join "" ((d :: l).map fun c=>(⟨#[c]⟩:Str)))=_
    rw [h_,h_,ih,show sg ("" : Str)=[] by decide +kernel]
    rfl
theorem pW:∀ l:List Nat,(l.map fun _=>1).sum=l.length
  | []=>rfl
  | x :: l=>by simp [pW l]; lia
def bF:SpD:=fun ds Q=>∃ c t:Int,ds=[.int c,.int t]/\∀ names:List Str,names.length=6->(∀ n∈names,Open n)->names.Nodup->Q (.ow true) (.list (names.map .str))
theorem jP (ds Q) (h:bF ds Q):ds.length=["_law_cell", "_law_turn"].length:=by obtain ⟨_,_,rfl,_⟩:=h; rfl
theorem nZ:∀ ds Q,bF ds Q->dW { nx:=fun _=>Q .sh .non,rt:=Q } (aV 10 ds):=by
  rintro ds Q ⟨c,t,rfl,h⟩
  unfold dW
  walk_at "q"
  have s0:=xav c (show (6:Int)≠0 by decide)
  have s1:=xar c (show (0:Int)<6 by decide)
  generalize hsz:1+c % 6=size at *
  refine ⟨by lia,by lia,?_⟩
  refine lM _ (fun i ρ=>∃ (cc:Int) (ps:List Int) (o:Option Sl),ps.length=i/\(∀ p∈ps,0<=p/\p<26)/\ρ=[some (.sh (.int cc)),some (.sh (.int t)),some (.sh (.str abc)),some (.sh (.int size)),some (.ow true (.list (ps.map .int))),o,none,none,none,none]) ⟨_,[],_,rfl,(fun p hp=>nomatch hp),rfl⟩ ?_ ?_
  · rintro i x ρ hx ⟨cc,ps,o,hl,hp,rfl⟩ N hN
    obtain ⟨hi,rfl⟩:=d_ hx
    walk_at "q"
    refine ⟨by lia,?_⟩
    rw [ints_app]
    refine hN _ ⟨_,ps++[cc % 26],_,by simp [hl],fun p hp'=>?_,rfl⟩
    rcases xaf.mp hp' with h' | h'
    · exact hp p h'
    · rw [xa6.mp h']
      exact ⟨xav _ (by decide),xar _ (by decide)⟩
  rintro ρ ⟨cc,ps,o,hl,hp,rfl⟩
  rw [fu] at hl
  walk_at "q"
  have e0:(Str.ofString "").length=0:=by decide
  refine dN (fun _=>true) (fun d=>match d with
    | .int p=>.str ⟨#[97+p.toNat]⟩
    | d=>d) (fun ρ=>∃ o,ρ=[o,some (.sh (.str abc))]) _ _ _ ⟨_,rfl⟩ ?_ ?_
  · rintro y hy ρ ⟨o,rfl⟩ N1 N2 _ h2
    obtain ⟨p,hp',rfl⟩:=xbd.mp hy
    walk_at "q"
    exact ⟨_,uG (hp p hp').1 (hp p hp').2,.inl rfl,h2 _ ⟨_,rfl⟩ rfl⟩
  rw [jy]
  refine ⟨(ps.map fun p=>97+p.toNat).map fun c=>⟨#[c]⟩,?_,?_,?_⟩
  · rw [xaQ,<- lg,xaQ,xaQ]; rfl
  · rw [e0,xaQ,Nat.mul_zero,Nat.add_zero]
    show ((ps.map fun p=>97+p.toNat).map fun _=>1).sum<=_
    rw [pW,xae]; lia
  have hw:=ie (ps.map fun p=>97+p.toNat)
  generalize Str.join "" ((ps.map fun p=>97+p.toNat).map fun c=>(⟨#[c]⟩:Str))=word at hw ⊢
  have wl:word.length=size.toNat:=by
    have:(sg word).length=size.toNat:=by rw [hw,xae,hl]
    rw [<- this]; unfold sg Str.length; simp
  have wlet:lets word:=fun ch hc=>by
    rw [hw] at hc
    obtain ⟨p,hp',rfl⟩:=xbd.mp hc
    have:=hp p hp'
    simp [isLet]; lia
  refine R.D (fun _=>?_) fun _=>?_
  · walk_at "q"
    refine dN (fun _=>true) (fun d=>match d with
      | .int k=>.str (cutS (repS 6 word) none (some k))
      | d=>d) (fun ρ=>∃ o,ρ=[o,some (.sh (.str word))]) _ _ _ ⟨_,rfl⟩ ?_ ?_
    · rintro y hy ρ ⟨o,rfl⟩ N1 N2 _ h2
      obtain ⟨i,hi,rfl⟩:=vX hy
      walk_at "q"
      exact ⟨by lia,.inl rfl,h2 _ ⟨_,rfl⟩ rfl⟩
    · rw [jy]
      have e6:(List.map (fun d=>match d with
        | .int k=>D.str (cutS (repS 6 word) none (some k))
        | d=>d) (iJ 1 6))=((List.range 6).map fun i=>cutS (repS 6 word) none (some (1+(i:Nat):Int))).map D.str:=by
        unfold iJ
        rw [xaQ,xaQ]
        rfl
      rw [e6]
      have l0:∀ i:Nat,i<6->(cutS (repS 6 word) none (some (1+(i:Nat):Int))).length=(1+(i:Int)).toNat:=fun i hi=>pD (by lia) (by rw [m5,wl]; simp; lia)
      refine h _ (by simp) (fun n hn=>?_) ?_
      rotate_left
      · rw [List.Nodup,xbz]
        refine List.Pairwise.imp_of_mem (fun {a b} ha hb hab e=>?_) xbD
        have ha:=l0 a (by simpa using ha)
        have hb:=l0 b (by simpa using hb)
        rw [e] at ha
        lia
      obtain ⟨i,hi,rfl⟩:=xbd.mp hn
      have hi:i<6:=by simpa using hi
      have l1:(cutS (repS 6 word) none (some (1+(i:Nat):Int))).length=(1+(i:Int)).toNat:=pD (by lia) (by rw [m5,wl]; simp; lia)
      exact ⟨by rw [l1]; lia,by rw [l1]; lia,mq (vY wlet) _ _⟩
  · walk_at "q"
    refine ⟨by lia,?_⟩
    have a0:=xav t (show size≠0 by lia)
    have a1:=xar t (show 0<size by lia)
    generalize t % size=at' at *
    have l1:(cutS word none (some at')).length=at'.toNat:=pD a0 (by lia)
    have l2:(cutS word (some (at'+1)) none).length=word.length - (at'+1).toNat:=yq (by lia) (by lia)
    refine lM _ (fun i ρ=>∃ (names:List Str) (o5 o9:Option Sl),names=(List.range i).map (fun k=>cutS word none (some at') ++ ⟨#[97+((ps.getD at'.toNat 0+5 * (0+(k:Int))) % 26).toNat]⟩++cutS word (some (at'+1)) none)/\(∀ n∈names,Open n)/\ρ=[some (.sh (.int cc)),some (.sh (.int t)),some (.sh (.str abc)),some (.sh (.int size)),some (.ow true (.list (ps.map .int))),o5,some (.sh (.str word)),some (.sh (.int at')),some (.ow true (.list (names.map .str))),o9]) ⟨[],_,_,rfl,(fun n hn=>nomatch hn),rfl⟩ ?_ ?_
    · rintro i x ρ hx ⟨names,o5,o9,hn,hd,rfl⟩ N hN
      obtain ⟨hi,rfl⟩:=d_ hx
      have hi:i<6:=hi
      have hnl:names.length=i:=by rw [hn,xae,xbb]
      walk_at "q"
      have hat:at'.toNat<ps.length:=by lia
      refine ⟨.int ps[at'.toNat],?_,?_⟩
      · have:=atI_nat (xs:=ps.map D.int) (j:=at'.toNat) (v:=.int ps[at'.toNat]) (by simp [hat])
        rwa [xaJ a0] at this
      walk_at "q"
      obtain ⟨ch,ec,lc⟩:=wX (ps[at'.toNat]+5 * (0+(i:Int)))
      have ech:ch=97+((ps.getD at'.toNat 0+5 * (0+(i:Int))) % 26).toNat:=by
        have:=uG (xav (ps[at'.toNat]+5 * (0+(i:Int))) (show (26:Int)≠0 by decide)) (xar _ (by decide))
        rw [this] at ec
        rw [show ps.getD at'.toNat 0=ps[at'.toNat] by simp [List.getD,hat]]
        exact (Option.some.inj ec).symm
      refine ⟨.inl ⟨by lia,by lia⟩,ch,ec,?_⟩
      refine ⟨by rw [l1,eZ]; lia,by rw [l1,l2,eZ]; lia,by lia,?_⟩
      rw [vG]
      refine hN _ ⟨names++[_],_,_,by rw [List.range_succ,xa1,<- hn,ech,List.map_singleton],fun n hn'=>?_,rfl⟩
      rcases xaf.mp hn' with h' | h'
      · exact hd n h'
      · obtain rfl:n=_:=by simpa using h'
        refine ⟨?_,?_,qK (qK (mq wlet _ _) (vB lc)) (mq wlet _ _)⟩
        · rw [bV,bV,l1,l2,eZ]; lia
        · rw [bV,bV,l1,l2,eZ]; lia
    · rintro ρ ⟨names,o5,o9,hn,hd,rfl⟩
      rw [fu] at hn
      walk_at "q"
      refine h names (by rw [hn,xae,xbb]) hd ?_
      rw [hn,List.Nodup,xbz]
      refine List.Pairwise.imp_of_mem (fun {a b} ha hb hab e=>?_) xbD
      have ha:a<6:=by simpa using ha
      have hb:b<6:=by simpa using hb
      have e:=congrArg sg e
      rw [h_,h_,h_,h_,List.append_cancel_right_eq,List.append_cancel_left_eq] at e
      have e:97+((ps.getD at'.toNat 0+5 * (0+(a:Int))) % 26).toNat=97+((ps.getD at'.toNat 0+5 * (0+(b:Int))) % 26).toNat:=by simpa [sg] using e
      generalize ps.getD at'.toNat 0=z at e
      exact hab (by lia)

def eV:WS :=
  (wSeq (wSet 6 (wOp fMod (wVar 3) (wC (.int 8))))
  (wSeq (wIfS (wB (wOp fLt (wVar 6) (wC (.int 5))))
  (vf [.inl (wOp fIx (wLst (aj (wC (.str "some")) (aj (wC (.str "all")) wNil))) (wOp fDiv (wVar 6) (wC (.int 3)))),.inl (wOp fIx (wVar 2) (wOp fMod (wOp fDiv (wVar 3) (wC (.int 16))) (wUn fLen (wVar 2)))),.inr 5])
  cu)
  (wSeq (wIfS (wB (wOp fEq (wVar 6) (wC (.int 5))))
  (vf [.inl (wC (.str "not")),.inr 5])
  cu)
  (wSeq (wSet 7 (wLst wNil))
  (wSeq (wFor (fL (wOp fMod (wOp fDiv (wVar 3) (wC (.int 16))) (wC (.int 4)))) (gN 8)
  (wSeq (wFrz 5 (wApp (wpN 7) (wVar 5)))
  (wSet 5 (wOp fMod (wOp fAdd (wOp fMul (wC (.int 7)) (wVar 5)) (wOp fDiv (wVar 4) (wOp fAdd (wVar 8) (wC (.int 1))))) (wVar 1)))))
  (wRet (wTup (aj (wOp fIx (wLst (aj (wC (.str "and")) (aj (wC (.str "or")) wNil))) (wOp fSub (wVar 6) (wC (.int 6)))) (aj (wUn km (wVar 7)) wNil)))))))))
def gP:WS :=
  (wSeq (wSet 3 (wOp fMod (wOp fMul (wOp fAdd (wOp fMod (wVar 0) (wC (.int 2147483647))) (wC (.int 1))) (wOp fAdd (wC (.int 48271)) (wOp fMul (wC (.int 7)) (wVar 1)))) (wC (.int 2147483647))))
  (wSeq (wSet 4 (wOp fMod (wOp fMul (wVar 3) (wC (.int 69621))) (wC (.int 2147483629))))
  (wSeq (wIfS (wB (wOp fEq (wVar 1) (wC (.int 0))))
  (wRet (wOp fIx (wLst (aj (wTup (aj (wC (.str "and")) (aj (wTup wNil) wNil))) (aj (wTup (aj (wC (.str "or")) (aj (wTup wNil) wNil))) wNil))) (wOp fMod (wVar 3) (wC (.int 2)))))
  cu)
  (wSeq (wSet 5 (wOp fMod (wVar 4) (wVar 1)))
  (wSeq (wIfS (wB (wOp fEq (wOp fMod (wOp fDiv (wVar 3) (wC (.int 8))) (wC (.int 2))) (wC (.int 1))))
  (wSet 5 (wOp fSub (wOp fSub (wVar 1) (wC (.int 1))) (wOp fMod (wVar 4) (wOp yK (wVar 1) (wC (.int 3))))))
  cu)
  eV)))))
def cA:SpD:=fun ds Q=>∃ (c k:Int) (names:List Str),ds=[.int c,.int k,.list (names.map .str)]/\0<=k/\k<=1000/\1<=names.length/\names.length<=100/\(∀ n∈names,Deed n)/\∀ r:Rw,RwOk k r->Q .sh (rwD r)
theorem oR (ds Q) (h:cA ds Q):ds.length=["_law_cell", "_law_k", "_law_names"].length:=by obtain ⟨_,_,_,rfl,_⟩:=h; rfl
theorem row5 {Q:Md->D->Prop} {c k num more j:Int} {names:List Str} (k0:0<=k) (k1:k<=1000) (n1:1<=names.length) (n2:names.length<=100) (hd:∀ n∈names,Deed n) (h:∀ r:Rw,RwOk k r->Q .sh (rwD r)) (h0:0<=j) (h1:j<k) :
    eV { nx:=fun _=>Q .sh .non,rt:=Q } [some (.sh (.int c)),some (.sh (.int k)),some (.sh (.list (names.map .str))),some (.sh (.int num)),some (.sh (.int more)),some (.sh (.int j)),none,none,none]:=by
  unfold eV
  have nb:=xav num (show (8:Int)≠0 by decide)
  have nb1:=xar num (show (0:Int)<8 by decide)
  walk_at "q"
  have w0:num % 8 / 3=0\/num % 8 / 3=1\/num % 8 / 3=2:=by lia
  refine R.D (fun h5=>?_) fun h5=>?_
  · walk_at "q"
    obtain ⟨w,ew,hw⟩:∃ w:Str,atI [D.str (Str.ofString "some"),D.str (Str.ofString "all")] (num % 8 / 3)=some (.str w)/\(w = "some"\/w = "all"):=by
      rcases w0 with e | e | e
      · rw [e]; exact ⟨_,rfl,.inl rfl⟩
      · rw [e]; exact ⟨_,rfl,.inr rfl⟩
      · lia
    refine ⟨_,ew,?_⟩
    walk_at "q"
    obtain ⟨n,hn,en⟩:=name_mod (names:=names) (num / 16) n1
    refine ⟨by lia,_,en,?_⟩
    walk_at "q"
    exact h (.st w n j) ⟨hw,hd n hn,h0,h1⟩
  · walk_at "q"
    refine R.D (fun h6=>?_) fun h6=>?_
    · walk_at "q"
      exact h (.nt j) ⟨h0,h1⟩
    · walk_at "q"
      have f0:=xav (num / 16) (show (4:Int)≠0 by decide)
      have f1:=xar (num / 16) (show (0:Int)<4 by decide)
      generalize num / 16 % 4=cnt at *
      refine ⟨by lia,by lia,?_⟩
      refine lM _ (fun i ρ=>∃ (ps:List Int) (j:Int) (o8:Option Sl),ps.length=i/\(∀ p∈ps,0<=p/\p<k)/\0<=j/\j<k/\ρ=[some (.sh (.int c)),some (.sh (.int k)),some (.sh (.list (names.map .str))),some (.sh (.int num)),some (.sh (.int more)),some (.sh (.int j)),some (.sh (.int (num % 8))),some (.ow true (.list (ps.map .int))),o8]) ⟨[],j,_,rfl,(fun p hp=>nomatch hp),h0,h1,rfl⟩ ?_ ?_
      · rintro i x ρ hx ⟨ps,j,o8,hl,hp,h0,h1,rfl⟩ N hN
        obtain ⟨hi,rfl⟩:=d_ hx
        walk_at "q"
        refine ⟨by lia,.inl ⟨by lia,by lia⟩,by lia,by lia,?_⟩
        rw [ints_app]
        refine hN _ ⟨ps++[j],_,_,by simp [hl],fun p hp'=>?_,xav _ (by lia),xar _ (by lia),rfl⟩
        rcases xaf.mp hp' with h' | h'
        · exact hp p h'
        · rw [xa6.mp h']; exact ⟨h0,h1⟩
      · rintro ρ ⟨ps,j,o8,hl,hp,h0,h1,rfl⟩
        rw [fu] at hl
        walk_at "q"
        obtain ⟨w,ew,hw⟩:∃ w:Str,atI [D.str (Str.ofString "and"),D.str (Str.ofString "or")] (num % 8 - 6)=some (.str w)/\(w = "and"\/w = "or"):=by
          have:num % 8 - 6=0\/num % 8 - 6=1:=by lia
          rcases this with e | e
          · rw [e]; exact ⟨_,rfl,.inl rfl⟩
          · rw [e]; exact ⟨_,rfl,.inr rfl⟩
        refine ⟨_,ew,?_⟩
        walk_at "q"
        refine ⟨cF ps,?_⟩
        exact h (.jn w ps) ⟨hw,by lia,hp⟩
theorem q_:∀ ds Q,cA ds Q->gP { nx:=fun _=>Q .sh .non,rt:=Q } (aV 9 ds):=by
  rintro ds Q ⟨c,k,names,rfl,k0,k1,n1,n2,hd,h⟩
  unfold gP
  walk_at "q"
  have m0:=xav c (show (2147483647:Int)≠0 by decide)
  have m1:=xar c (show (0:Int)<2147483647 by decide)
  refine ⟨.inl ⟨by lia,by lia⟩,.inl ⟨by lia,by lia⟩,.inr ⟨by lia,by lia⟩,?_⟩
  generalize hnum:(c % 2147483647+1) * (48271+7 * k) % 2147483647=num
  generalize num * 69621 % 2147483629=more
  refine R.D (fun hk=>?_) fun hk=>?_
  · subst hk
    walk_at "q"
    have z0:=xav num (show (2:Int)≠0 by decide)
    have z1:=xar num (show (0:Int)<2 by decide)
    generalize num % 2=b at *
    have hb:b=0\/b=1:=by lia
    have q1:=h (.jn "and" []) ⟨.inl rfl,by decide,fun p hp=>nomatch hp⟩
    have q2:=h (.jn "or" []) ⟨.inr rfl,by decide,fun p hp=>nomatch hp⟩
    rcases hb with rfl | rfl
    · exact ⟨_,rfl,q1⟩
    · exact ⟨_,rfl,q2⟩
  · walk_at "q"
    refine ⟨by lia,?_⟩
    have j0:=xav more (show k≠0 by lia)
    have j1:=xar more (show 0<k by lia)
    have jj:∀ mm:Int,mm=(if (3:Int)<k then 3 else k)->0<mm/\0<=k - 1 - more % mm/\k - 1 - more % mm<k:=fun mm hm=>by
      have q0:0<mm:=by rw [hm]; split <;> lia
      have q1:mm<=k:=by rw [hm]; split <;> lia
      have q2:=xav more (show mm≠0 by lia)
      have q3:=xar more q0
      lia
    refine R.D (fun _=>?_) fun _=>?_
    · walk_at "q"
      exact ⟨(jj _ rfl).1,row5 k0 k1 n1 n2 hd h (jj _ rfl).2.1 (jj _ rfl).2.2⟩
    · walk_at "q"
      exact row5 k0 k1 n1 n2 hd h j0 j1
def bO:WS :=
  (wFrz 5 (je 4 (wLst (aj (wTup (aj (wC (.str "not")) (aj (wVar 5) wNil))) wNil)) (wOp fMod (wVar 2) (wC (.int 36)))))
def bM:WS :=
  (wSeq (wFrz 5 (iZ 4 (wLst (aj (wTup (aj (wC (.str "some")) (aj (wOp fIx (wVar 3) (wC (.int 0))) (aj (wVar 5) wNil)))) (aj (wTup (aj (wC (.str "all")) (aj (wC (.str "*")) (aj (wVar 5) wNil)))) (aj (wTup (aj (wC (.str "and")) (aj (wTup (aj (wVar 5) wNil)) wNil))) (aj (wTup (aj (wC (.str "and")) (aj (wTup (aj (wC (.int 0)) (aj (wVar 5) wNil))) wNil))) (aj (wTup (aj (wC (.str "or")) (aj (wTup (aj (wVar 5) (aj (wC (.int 0)) wNil))) wNil))) wNil))))))))
  bO)
def bU:WS :=
  (wSeq (wSet 5 (wOp fSub (wUn fNeg (wC (.int 1))) (wOp fMul (wOp fMod (wOp fDiv (wVar 2) (wC (.int 72))) (wOp fPow (wC (.int 10)) (wC (.int 30)))) (wOp fMod (wOp fDiv (wVar 2) (wC (.int 36))) (wC (.int 2))))))
  bM)
def bN:WS :=
  (wSeq (iZ 4 (wLst (aj (wTup (aj (wC (.str "or")) (aj (wTup (aj (wC (.bl false)) wNil)) wNil))) (aj (wTup (aj (wC (.str "not")) (aj (wC (.bl false)) wNil))) (aj (wTup (aj (wC (.str "some")) (aj (wC .non) (aj (wC (.int 0)) wNil)))) (aj (wTup (aj (wC (.str "all")) (aj (wC (.str "abcdefg")) (aj (wC (.int 0)) wNil)))) (aj (wTup (aj (wC (.str "or")) (aj (wC (.str "")) wNil))) (aj (wTup (aj (wC (.str "not")) wNil)) wNil))))))))
  bU)
def bR:WS :=
  (wSeq (iZ 4 (wLst (aj (wTup wNil) (aj (wTup (aj (wC (.str "or")) (aj (wUn km (wOp uc (wLst (aj (wC (.int 0)) wNil)) (wC (.int 201)))) wNil))) (aj (wTup (aj (wC (.str "all")) (aj (wC (.str "*")) (aj (wC (.str "0")) wNil)))) (aj (wTup (aj (wC (.str "not")) (aj (wC .non) wNil))) (aj (wTup (aj (wC (.int 0)) (aj (wC (.str "and")) (aj (wTup wNil) wNil)))) (aj (wTup (aj (wC (.str "and")) (aj (wC (.int 0)) wNil))) wNil))))))))
  bN)
def bQ:WS :=
  (wSeq (iZ 4 (wLst (aj (wTup (aj (wC (.str "and")) wNil)) (aj (wTup (aj (wC (.str "and")) (aj (wTup wNil) (aj (wTup wNil) wNil)))) (aj (wTup (aj (wC (.str "not")) (aj (wC (.int 0)) (aj (wC (.int 0)) wNil)))) (aj (wTup (aj (wC (.str "some")) (aj (wOp fIx (wVar 3) (wC (.int 0))) wNil))) (aj (wTup (aj (wC (.str "all")) (aj (wOp fIx (wVar 3) (wC (.int 0))) (aj (wC (.int 0)) (aj (wC (.int 0)) wNil))))) (aj (wC .non) (aj (wC (.str "and")) wNil)))))))))
  bR)
def bL:WS :=
  (wSeq (iZ 4 (wLst (aj (wTup (aj (wC (.str "or")) (aj (wTup (aj (wC (.int 0)) (aj (wOp fAdd (wVar 1) (wC (.int 1))) (aj (wC (.int 0)) wNil)))) wNil))) (aj (wTup (aj (wC (.str "and")) (aj (wLst wNil) wNil))) (aj (wTup (aj (wC (.str "some")) (aj (wOp fIx (wVar 3) (wC (.int 1))) (aj (wC (.bl true)) wNil)))) (aj (wTup (aj (wC (.str "xor")) (aj (wTup wNil) wNil))) (aj (wTup (aj (wC (.str "Some")) (aj (wOp fIx (wVar 3) (wC (.int 0))) (aj (wC (.int 0)) wNil)))) wNil)))))))
  bQ)
def cZ:WS :=
  (wSeq (wFrz 1 (wSet 4 (wLst (aj (wUn pI (wVar 0)) (aj (wTup (aj (wC (.str "some")) (aj (wUn sZ (wOp fIx (wVar 3) (wC (.int 0)))) (aj (wC (.int 0)) wNil)))) (aj (wTup (aj (wC (.str "all")) (aj (wOp fIx (wVar 3) (wC (.int 0))) (aj (wVar 1) wNil)))) (aj (wTup (aj (wC (.str "not")) (aj (wVar 1) wNil))) (aj (wTup (aj (wC (.str "not")) (aj (wUn fNeg (wC (.int 1))) wNil))) (aj (wTup (aj (wC (.str "and")) (aj (wTup (aj (wVar 1) wNil)) wNil))) wNil)))))))))
  bL)
def bf:SpD:=fun ds Q=>∃ (k c:Int) (r:Rw) (pool:List Str),ds=[rwD r,.int k,.int c,.list (pool.map .str)]/\0<=k/\k<=2000/\RwOk k r/\pool.length=6/\(∀ n∈pool,Open n)/\∀ d:D,isRw k d=false->Q (outM d) d
theorem iH (ds Q) (h:bf ds Q):ds.length=["_law_row_here", "_law_k", "_law_cell", "_law_pool"].length:=by obtain ⟨_,_,_,_,rfl,_⟩:=h; rfl
theorem oF {k:Int} {w:Str} {d j:D} (h:w = "some"\/w = "all") (hj:isDd d=false\/ahd k j=false):isRw k (.tup [.str w,d,j])=false:=by
  show rwR k w [d,j]=false
  rw [ql h]
  show (isDd d && ahd k j)=false
  rcases hj with e | e <;> simp [e]
theorem bs_n {k:Int} {j:D} (hj:ahd k j=false):isRw k (.tup [.str "not",j])=false:=by
  show rwR k "not" [j]=false
  rw [vZ]
  exact hj
theorem jV {k:Int} {w:Str} {p:D} (h:w = "and"\/w = "or") (hj:prt k p=false):isRw k (.tup [.str w,p])=false:=by
  show rwR k w [p]=false
  rw [qC h]
  exact hj
theorem dU {k j:Int} (h:¬ (0<=j/\j<k)):ahd k (.int j)=false:=decide_eq_false h
theorem lq {k:Int} {xs:List D} {d:D} (h:d∈xs) (hd:ahd k d=false):prt k (.tup xs)=false:=by
  show (decide (xs.length<=200) && xs.all (ahd k))=false
  rw [Bool.and_eq_false_iff]
  refine .inr (List.all_eq_false.mpr ⟨d,h,by simp [hd]⟩)
theorem b_n0 {k:Int}:isRw k (.tup [.str "not"])=false:=(vZ:rwR k "not" []=_)
theorem b_n2 {k:Int} {a b:D}:isRw k (.tup [.str "not",a,b])=false:=(vZ:rwR k "not" [a,b]=_)
theorem b_a0 {k:Int} {w:Str} (h:w = "and"\/w = "or"):isRw k (.tup [.str w])=false:=(qC h:rwR k w []=_)
theorem b_a2 {k:Int} {w:Str} {a b:D} (h:w = "and"\/w = "or"):isRw k (.tup [.str w,a,b])=false:=(qC h:rwR k w [a,b]=_)
theorem b_s1 {k:Int} {w:Str} {a:D} (h:w = "some"\/w = "all"):isRw k (.tup [.str w,a])=false:=(ql h:rwR k w [a]=_)
theorem b_s3 {k:Int} {w:Str} {a b c:D} (h:w = "some"\/w = "all"):isRw k (.tup [.str w,a,b,c])=false:=(ql h:rwR k w [a,b,c]=_)
theorem bs_x {k:Int} {w:Str} {r:List D} (h:¬ (w = "some"\/w = "all")/\¬ w = "not"/\¬ (w = "and"\/w = "or")):isRw k (.tup (.str w :: r))=false:=(if_neg h.1).trans ((if_neg h.2.1).trans (if_neg h.2.2))
theorem zT:∀ i:_root_.Fin 26,Unicode.upperOf (97+i.val)=[65+i.val]:=by decide +kernel
theorem Bt {x:Str} (h:Open x):isDd (.str (Txt.upper x))=false:=Bool.eq_false_iff.mpr fun z=>by
  have hl:0<x.cps.size:=h.1
  have hc:=h.2.2 x.cps[0] (by unfold sg; exact xbp.mpr (Array.getElem_mem hl))
  have hr:97<=x.cps[0]/\x.cps[0]<=122:=by simpa [isLet] using hc
  have e:Unicode.upperOf x.cps[0]=[65+(x.cps[0] - 97)]:=by
    have:=zT ⟨x.cps[0] - 97,by lia⟩
    rwa [show 97+(x.cps[0] - 97)=x.cps[0] by lia] at this
  have hm:65+(x.cps[0] - 97)∈sg (Txt.upper x):=by
    unfold sg Txt.upper placed
    rw [xbp,Array.mem_flatten]
    refine ⟨(Unicode.upperOf x.cps[0]).toArray,?_,by rw [e]; simp⟩
    exact Array.mem_iff_getElem.mpr ⟨0,by simpa using hl,by simp⟩
  rcases lu.mp z with z | z
  · rw [z,show sg (("*" : Str))=[42] by decide +kernel] at hm
    have:=xa6.mp hm
    lia
  · have:=z.2.2 _ hm
    simp [isLet] at this
    lia
def BRs (k:Int) (n:Nat) (bs:List D):Prop:=bs.length=n/\∀ d∈bs,isRw k d=false
theorem BRs.add {k:Int} {n m:Nat} {bs cs:List D} (h:BRs k n bs) (g:BRs k m cs):BRs k (n+m) (bs++cs):=⟨by rw [xaz,h.1,g.1],fun d hd=>(xaf.mp hd).elim (h.2 d) (g.2 d)⟩
theorem BRs.nil {k:Int}:BRs k 0 []:=⟨rfl,fun d hd=>nomatch hd⟩
theorem BRs.cons {k:Int} {n:Nat} {d:D} {bs:List D} (hd:isRw k d=false) (h:BRs k n bs):BRs k (n+1) (d :: bs):=⟨by rw [xaP,h.1],fun x hx=>(xaq.mp hx).elim (fun e=>e ▸ hd) (h.2 x)⟩
section
variable {Q:Md->D->Prop} {k c low:Int} {p0 p1 p2 p3 p4 p5:Str} {o0 o5:Option Sl} {bs:List D} (h:∀ d:D,isRw k d=false->Q (outM d) d) (k0:0<=k) (k1:k<=2000)
include h k0 k1
theorem Bd (l0:low<0) (B:BRs k 35 bs):bO { nx:=fun _=>Q .sh .non,rt:=Q } [o0,some (.sh (.int k)),some (.sh (.int c)),some (.sh (.list [.str p0,.str p1,.str p2,.str p3,.str p4,.str p5])),some (.ow true (.list bs)),some (.sh (.int low))]:=by
  unfold bO
  walk_at "q"
  refine ⟨by rw [B.1]; decide,?_⟩
  have B2:=B.add (.cons (bs_n (dU (k:=k) (j:=low) (by lia))) .nil)
  generalize bs++[D.tup [.str "not",.int low]]=cs at *
  have c0:=xav c (show (36:Int)≠0 by decide)
  have c1:=xar c (show (0:Int)<36 by decide)
  have hc:(c % 36).toNat<cs.length:=by rw [B2.1]; lia
  refine ⟨cs[(c % 36).toNat],?_,h _ (B2.2 _ (xbB _))⟩
  have:=atI_nat (xs:=cs) (j:=(c % 36).toNat) (v:=cs[(c % 36).toNat]) (by simp [hc])
  rwa [xaJ c0] at this
theorem CQ (l0:low<0) (B:BRs k 30 bs):bM { nx:=fun _=>Q .sh .non,rt:=Q } [o0,some (.sh (.int k)),some (.sh (.int c)),some (.sh (.list [.str p0,.str p1,.str p2,.str p3,.str p4,.str p5])),some (.ow true (.list bs)),some (.sh (.int low))]:=by
  obtain ⟨w,e⟩:∃ w,w=bO:=⟨_,rfl⟩
  unfold bM
  rw [<- e]
  walk_at "q"
  refine ⟨by rw [B.1]; decide,?_⟩
  rw [e]
  exact Bd h k0 k1 l0 (B.add (.cons (oF (.inl rfl) (.inr (dU (by lia)))) (.cons (oF (.inr rfl) (.inr (dU (by lia)))) (.cons (jV (.inl rfl) (lq (d:=.int low) (by simp) (dU (by lia)))) (.cons (jV (.inl rfl) (lq (d:=.int low) (by simp) (dU (by lia)))) (.cons (jV (.inr rfl) (lq (d:=.int low) (by simp) (dU (by lia)))) .nil))))))
theorem Ck (B:BRs k 30 bs):bU { nx:=fun _=>Q .sh .non,rt:=Q } [o0,some (.sh (.int k)),some (.sh (.int c)),some (.sh (.list [.str p0,.str p1,.str p2,.str p3,.str p4,.str p5])),some (.ow true (.list bs)),o5]:=by
  obtain ⟨w,e⟩:∃ w,w=bM:=⟨_,rfl⟩
  unfold bU
  rw [<- e]
  walk_at "q"
  have m0:=xav (c / 72) (show (1000000000000000000000000000000:Int)≠0 by decide)
  have n0:0<=c / 36 % 2/\c / 36 % 2<2:=by lia
  generalize c / 72 % 1000000000000000000000000000000=M at *
  generalize c / 36 % 2=b at *
  have z:=Int.mul_nonneg m0 n0.1
  refine ⟨by unfold CPow; decide,.inr ⟨by lia,by lia⟩,?_⟩
  rw [e]
  exact CQ h k0 k1 (by lia) B
theorem CZ (B:BRs k 24 bs):bN { nx:=fun _=>Q .sh .non,rt:=Q } [o0,some (.sh (.int k)),some (.sh (.int c)),some (.sh (.list [.str p0,.str p1,.str p2,.str p3,.str p4,.str p5])),some (.ow true (.list bs)),o5]:=by
  obtain ⟨w,e⟩:∃ w,w=bU:=⟨_,rfl⟩
  unfold bN
  rw [<- e]
  walk_at "q"
  refine ⟨by rw [B.1]; decide,?_⟩
  rw [e]
  exact Ck h k0 k1 (B.add (.cons (jV (.inr rfl) (lq (d:=.bl false) (by simp) rfl)) (.cons (bs_n rfl) (.cons (oF (.inl rfl) (.inl rfl)) (.cons (oF (.inr rfl) (.inl (by decide +kernel))) (.cons (jV (.inr rfl) rfl) (.cons b_n0 .nil)))))))
theorem Bo (B:BRs k 18 bs):bR { nx:=fun _=>Q .sh .non,rt:=Q } [o0,some (.sh (.int k)),some (.sh (.int c)),some (.sh (.list [.str p0,.str p1,.str p2,.str p3,.str p4,.str p5])),some (.ow true (.list bs)),o5]:=by
  obtain ⟨w,e⟩:∃ w,w=bN:=⟨_,rfl⟩
  unfold bR
  rw [<- e]
  walk_at "q"
  generalize hz:List.flatten _=zs
  have z1:flats zs=true:=by rw [<- hz]; decide +kernel
  have z2:zs.length=201:=by rw [<- hz]; decide +kernel
  rw [z1]
  refine ⟨rfl,?_⟩
  walk_at "q"
  refine ⟨by rw [B.1]; decide,?_⟩
  rw [e]
  exact CZ h k0 k1 (B.add (.cons (rfl) (.cons (jV (.inr rfl) (by show (decide (zs.length<=200) && _)=false; rw [z2]; rfl)) (.cons (oF (.inr rfl) (.inr rfl)) (.cons (bs_n rfl) (.cons (rfl) (.cons (jV (.inl rfl) rfl) .nil)))))))
theorem BX (B:BRs k 11 bs):bQ { nx:=fun _=>Q .sh .non,rt:=Q } [o0,some (.sh (.int k)),some (.sh (.int c)),some (.sh (.list [.str p0,.str p1,.str p2,.str p3,.str p4,.str p5])),some (.ow true (.list bs)),o5]:=by
  obtain ⟨w,e⟩:∃ w,w=bR:=⟨_,rfl⟩
  unfold bQ
  rw [<- e]
  walk_at "q"
  refine ⟨by rw [B.1]; decide,?_⟩
  rw [e]
  exact Bo h k0 k1 (B.add (.cons (b_a0 (.inl rfl)) (.cons (b_a2 (.inl rfl)) (.cons b_n2 (.cons (b_s1 (.inl rfl)) (.cons (b_s3 (.inr rfl)) (.cons (rfl) (.cons (rfl) .nil))))))))
theorem Bj (B:BRs k 6 bs):bL { nx:=fun _=>Q .sh .non,rt:=Q } [o0,some (.sh (.int k)),some (.sh (.int c)),some (.sh (.list [.str p0,.str p1,.str p2,.str p3,.str p4,.str p5])),some (.ow true (.list bs)),o5]:=by
  obtain ⟨w,e⟩:∃ w,w=bQ:=⟨_,rfl⟩
  unfold bL
  rw [<- e]
  walk_at "q"
  refine ⟨by rw [B.1]; decide,?_⟩
  rw [e]
  exact BX h k0 k1 (B.add (.cons (jV (.inr rfl) (lq (d:=.int (k+1)) (by simp) (dU (by lia)))) (.cons (jV (.inl rfl) rfl) (.cons (oF (.inl rfl) (.inr rfl)) (.cons (bs_x (by decide +kernel)) (.cons (bs_x (by decide +kernel)) .nil))))))
end
theorem jW:∀ ds Q,bf ds Q->cZ { nx:=fun _=>Q .sh .non,rt:=Q } (aV 6 ds):=by
  rintro ds Q ⟨k,c,r,pool,rfl,k0,k1,rk,hp,ho,h⟩
  obtain ⟨p0,p1,p2,p3,p4,p5,rfl⟩:∃ p0 p1 p2 p3 p4 p5,pool=[p0,p1,p2,p3,p4,p5]:=by
    match pool,hp with
    | [p0,p1,p2,p3,p4,p5],_=>exact ⟨_,_,_,_,_,_,rfl⟩
  obtain ⟨xs,e,fx⟩:∃ xs,rwD r=.tup xs/\flats xs=true:=by
    cases r with
    | st w d j=>exact ⟨_,rfl,rfl⟩
    | nt j=>exact ⟨_,rfl,rfl⟩
    | jn w ps=>exact ⟨_,rfl,by simp [flats,D.flat,cF]⟩
  have l0:=(ho p0 (by simp)).2.1
  obtain ⟨w1,e1⟩:∃ w,w=bL:=⟨_,rfl⟩
  rw [e]
  unfold cZ
  rw [<- e1]
  walk_at "q"
  refine .inl ⟨fx,by lia,?_⟩
  rw [e1]
  exact Bj h k0 k1 (o5:=none) (.cons (rfl) (.cons (oF (.inl rfl) (.inl (Bt (ho p0 (by simp))))) (.cons (oF (.inr rfl) (.inr (dU (by lia)))) (.cons (bs_n (dU (by lia))) (.cons (bs_n (dU (by lia))) (.cons (jV (.inl rfl) (lq (d:=.int k) (by simp) (dU (by lia)))) .nil))))))

def cH:WS :=
  (wSeq (wSet 2 (wLst (aj (wLst wNil) (aj (wUn km (wVar 0)) (aj (wC .non) (aj (wC (.str "and")) (aj (wC (.int 7)) (aj (wC (.bl true)) (aj uF (aj (wOp uc (wLst (aj (wTup (aj (wC (.str "and")) (aj (wTup wNil) wNil))) wNil)) (wC (.int 2001))) wNil))))))))))
  (qg 2 (wOp fMod (wVar 1) (wC (.int 8)))))
def aU:SpD:=fun ds Q=>∃ (l:List Rw) (c:Int),ds=[.list (l.map rwD),.int c]/\l.length<=2000/\∀ d:D,isSc d=false->Q (outM d) d
theorem gq (ds Q) (h:aU ds Q):ds.length=["_law_scroll_here", "_law_cell"].length:=by obtain ⟨_,_,rfl,_⟩:=h; rfl
theorem iC:∀ ds Q,aU ds Q->cH { nx:=fun _=>Q .sh .non,rt:=Q } (aV 3 ds):=by
  rintro ds Q ⟨l,c,rfl,hl,h⟩
  obtain ⟨n,hn⟩:∃ n:Int,n=2001:=⟨_,rfl⟩
  unfold cH
  rw [<- hn]
  walk_at "q"
  rw [dM l]
  refine ⟨rfl,⟨by lia,by lia⟩,?_⟩
  walk_at "q"
  have hz:isSc (.list (List.replicate n.toNat [D.tup [.str "and",.tup []]]).flatten)=false:=xG (by rw [lG,hn]; decide)
  generalize (List.replicate n.toNat [D.tup [.str "and",.tup []]]).flatten=zs at *
  have c0:=xav c (show (8:Int)≠0 by decide)
  have c1:=xar c (show (0:Int)<8 by decide)
  generalize c % 8=b at *
  have hb:b=0\/b=1\/b=2\/b=3\/b=4\/b=5\/b=6\/b=7:=by lia
  rcases hb with rfl | rfl | rfl | rfl | rfl | rfl | rfl | rfl
  · exact ⟨_,rfl,h _ rfl⟩
  · exact ⟨_,rfl,h _ rfl⟩
  · exact ⟨_,rfl,h _ rfl⟩
  · exact ⟨_,rfl,h _ rfl⟩
  · exact ⟨_,rfl,h _ rfl⟩
  · exact ⟨_,rfl,h _ rfl⟩
  · exact ⟨_,rfl,h _ rfl⟩
  · exact ⟨_,rfl,h _ hz⟩
def gh:WS :=
  (wRet (wOrV (bJ cP (aj (wVar 0) wNil)) (jM (wUn (fIsi "str") (wVar 0)) (wOp fEq (wVar 0) (wC (.str "*"))))))
def cO:SpD:=fun ds Q=>∃ d:D,ds=[d]/\Q .sh (.bl (isDd d))
theorem oW (ds Q) (h:cO ds Q):ds.length=["thing"].length:=by obtain ⟨_,rfl,_⟩:=h; rfl
theorem uD:∀ ds Q,cO ds Q->gh { nx:=fun _=>Q .sh .non,rt:=Q } (aV 1 ds):=by
  rintro ds Q ⟨d,rfl,h⟩
  cases d with
  | str x =>
    have h:Q .sh (.bl (lA x)):=h
    unfold gh
    walk_at "q"
    refine ⟨_,rfl,?_⟩
    unfold lA at h
    unfold isOp
    walk_at "q"
    refine R.B (fun e=>?_) fun e=>?_
    · walk_at "q"
      rw [e] at h
      exact h
    · walk_at "q"
      refine R.T rfl ?_
      walk_at "q"
      rw [e] at h
      exact h
  | _ =>
    unfold gh
    walk_at "q"
    refine ⟨_,rfl,?_⟩
    unfold isOp
    walk_at "q"
    refine R.F rfl ?_
    walk_at "q"
    exact h
def gY:WS :=
  (wRet (jM (bJ cC (aj (wVar 1) wNil)) (iz fLe fLt (wC (.int 0)) (wVar 1) (wVar 0))))
def bu:SpD:=fun ds Q=>∃ (k:Int) (d:D),ds=[.int k,d]/\Q .sh (.bl (ahd k d))
theorem m_ (ds Q) (h:bu ds Q):ds.length=["k", "thing"].length:=by obtain ⟨_,_,rfl,_⟩:=h; rfl
theorem rN:∀ ds Q,bu ds Q->gY { nx:=fun _=>Q .sh .non,rt:=Q } (aV 2 ds):=by
  rintro ds Q ⟨k,d,rfl,h⟩
  unfold gY
  cases d with
  | int j =>
    have h:Q .sh (.bl (decide (0<=j/\j<k))):=h
    walk_at "q"
    refine ⟨_,rfl,?_⟩
    walk_at "q"
    refine R.D (fun h1=>?_) fun h1=>?_
    · walk_at "q"
      rwa [show decide (0<=j/\j<k)=decide (j<k) by simp [h1]] at h
    · walk_at "q"
      rwa [decide_eq_false (by lia)] at h
  | _ =>
    walk_at "q"
    refine ⟨_,rfl,?_⟩
    walk_at "q"
    refine R.F rfl ?_
    walk_at "q"
    exact h
def dG:WS :=
  (wRet (jw (fL (wUn fLen (wVar 0))) (gN 0) wYes (bJ cA (aj (wOp fIx (wVar 1) (wVar 0)) (aj (wVar 0) (aj (wVar 2) wNil)))) 1 [0,1]))
def bD:SpD:=fun ds Q=>∃ (cs:List Int) (names:List Str),ds=[.list (cs.map .int),.list (names.map .str)]/\cs.length<=1000/\1<=names.length/\names.length<=100/\(∀ n∈names,Deed n)/\∀ l:List Rw,l.length=cs.length->ScOk l->Q (.ow true) (.list (l.map rwD))
theorem jf (ds Q) (h:bD ds Q):ds.length=["_law_cells", "_law_names"].length:=by obtain ⟨_,_,rfl,_⟩:=h; rfl
theorem mD:∀ ds Q,bD ds Q->dG { nx:=fun _=>Q .sh .non,rt:=Q } (aV 2 ds):=by
  rintro ds Q ⟨cs,names,rfl,hc,n1,n2,hd,h⟩
  unfold dG
  walk_at "q"
  refine ⟨by lia,by lia,?_⟩
  refine gD (fun i out=>∃ l:List Rw,out=l.map rwD/\l.length=i/\ScOk l) (fun ρ=>∃ o,ρ=[o,some (.sh (.list (cs.map .int))),some (.sh (.list (names.map .str)))]) _ 0 [] _ _ ⟨_,rfl⟩ ⟨[],rfl,rfl,ScOk.nil⟩ ?_ ?_
  · rintro i x hx ρ ⟨o,rfl⟩ out ⟨l,rfl,hl,hs⟩ N1 N2 h2
    obtain ⟨hi,rfl⟩:=d_ hx
    have hi:i<cs.length:=by simpa using hi
    walk_at "q"
    refine ⟨.int cs[i],?_,?_⟩
    · have:=atI_nat (xs:=cs.map D.int) (j:=i) (v:=.int cs[i]) (by simp [hi])
      rwa [show ((i:Nat):Int)=0+(i:Int) by lia] at this
    walk_at "q"
    refine ⟨_,_,_,rfl,by lia,by lia,n1,n2,hd,fun r hr=>?_⟩
    walk_at "q"
    refine ⟨.inl (um r),h2 _ _ ⟨_,rfl⟩ ⟨l++[r],by simp,by simp [hl],hs.app ?_⟩⟩
    rw [hl]
    simpa using hr
  · rintro out ⟨l,e,hl,hs⟩
    rw [List.nil_append] at e
    subst e
    rw [fu] at hl
    exact h l (by simpa using hl) hs

def fV:WS :=
  (wSeq (wIfS (wOr (wNot (wB (wUn (fIsi "tuple") (wVar 1)))) (wB (wOp fGt (wUn fLen (wVar 1)) (wC (.int 200)))))
  (wRet (wC (.bl false)))
  cu)
  (wRet (wUn fAll (jw (uX (wVar 1)) (gN 0) wYes (bJ bu (aj (wVar 1) (aj (wVar 0) wNil))) 1 [0]))))
def b7:SpD:=fun ds Q=>∃ (k:Int) (d:D),ds=[.int k,d]/\Q .sh (.bl (prt k d))
theorem lR (ds Q) (h:b7 ds Q):ds.length=["k", "thing"].length:=by obtain ⟨_,_,rfl,_⟩:=h; rfl
theorem pG:∀ ds Q,b7 ds Q->fV { nx:=fun _=>Q .sh .non,rt:=Q } (aV 2 ds):=by
  rintro ds Q ⟨k,d,rfl,h⟩
  unfold fV
  cases d with
  | tup xs =>
    have h:Q .sh (.bl (decide (xs.length<=200) && xs.all (ahd k))):=h
    walk_at "q"
    refine R.F rfl ?_
    walk_at "q"
    refine R.D (fun h1=>?_) fun h1=>?_
    · walk_at "q"
      rw [decide_eq_false (by lia)] at h
      exact h
    rw [decide_eq_true (by lia)] at h
    walk_at "q"
    refine dN (fun _=>true) (fun d=>.bl (ahd k d)) (fun ρ=>∃ o,ρ=[o,some (.sh (.int k))]) _ _ _ ⟨_,rfl⟩ ?_ ?_
    · rintro y hy ρ ⟨o,rfl⟩ N1 N2 _ h2
      walk_at "q"
      exact ⟨_,_,rfl,.inl rfl,h2 _ ⟨_,rfl⟩ rfl⟩
    · rw [jy]
      refine ⟨xs.map (ahd k),by rw [xaQ]; rfl,?_⟩
      rw [xbt]
      exact h
  | _ =>
    walk_at "q"
    refine R.T rfl ?_
    walk_at "q"
    exact h
def lH:WS :=
  (wSeq (wIfS (wOr (wNot (wB (wUn (fIsi "tuple") (wVar 1)))) (wOr (wB (wOp fEq (wUn fLen (wVar 1)) (wC (.int 0)))) (wNot (wB (wUn (fIsi "str") (wOp fIx (wVar 1) (wC (.int 0))))))))
  (wRet (wC (.bl false)))
  cu)
  (wSeq (wIfS (wOr (wB (wOp fEq (wOp fIx (wVar 1) (wC (.int 0))) (wC (.str "some")))) (wB (wOp fEq (wOp fIx (wVar 1) (wC (.int 0))) (wC (.str "all")))))
  (wRet (jM (wOp fEq (wUn fLen (wVar 1)) (wC (.int 3))) (jM (bJ cO (aj (wOp fIx (wVar 1) (wC (.int 1))) wNil)) (bJ bu (aj (wVar 0) (aj (wOp fIx (wVar 1) (wC (.int 2))) wNil))))))
  cu)
  (wSeq (wIfS (wB (wOp fEq (wOp fIx (wVar 1) (wC (.int 0))) (wC (.str "not"))))
  (wRet (jM (wOp fEq (wUn fLen (wVar 1)) (wC (.int 2))) (bJ bu (aj (wVar 0) (aj (wOp fIx (wVar 1) (wC (.int 1))) wNil)))))
  cu)
  (wSeq (wIfS (wOr (wB (wOp fEq (wOp fIx (wVar 1) (wC (.int 0))) (wC (.str "and")))) (wB (wOp fEq (wOp fIx (wVar 1) (wC (.int 0))) (wC (.str "or")))))
  (wRet (jM (wOp fEq (wUn fLen (wVar 1)) (wC (.int 2))) (bJ b7 (aj (wVar 0) (aj (wOp fIx (wVar 1) (wC (.int 1))) wNil)))))
  cu)
  (wRet (wC (.bl false)))))))
def dq:SpD:=fun ds Q=>∃ (k:Int) (d:D),ds=[.int k,d]/\Q .sh (.bl (isRw k d))
theorem qW (ds Q) (h:dq ds Q):ds.length=["k", "thing"].length:=by obtain ⟨_,_,rfl,_⟩:=h; rfl
theorem uW:∀ ds Q,dq ds Q->lH { nx:=fun _=>Q .sh .non,rt:=Q } (aV 2 ds):=by
  rintro ds Q ⟨k,d,rfl,h⟩
  unfold lH
  cases d with
  | tup xs =>
    cases xs with
    | nil =>
      walk_at "q"
      refine R.F rfl ?_
      walk_at "q"
      refine R.T rfl ?_
      walk_at "q"
      exact h
    | cons a r =>
      walk_at "q"
      refine R.F rfl ?_
      walk_at "q"
      refine R.F (decide_eq_false (by simp; lia)) ?_
      walk_at "q"
      cases a with
      | str w =>
        have h:Q .sh (.bl (rwR k w r)):=h
        unfold rwR at h
        walk_at "q"
        refine R.F rfl ?_
        walk_at "q"
        refine R.D (fun e1=>?_) fun e1=>?_
        · rw [if_pos (.inl e1)] at h
          walk_at "q"
          rcases r with _ | ⟨x,_ | ⟨y,_ | ⟨z,r⟩⟩⟩
          · refine R.F rfl ?_
            walk_at "q"
            exact h
          · refine R.F rfl ?_
            walk_at "q"
            exact h
          · refine R.T rfl ?_
            walk_at "q"
            refine ⟨_,rfl,?_⟩
            have h:Q .sh (.bl (isDd x && ahd k y)):=h
            walk_at "q"
            refine R.B (fun e=>?_) fun e=>?_
            · walk_at "q"
              refine ⟨_,_,rfl,?_⟩
              rw [e] at h
              exact h
            · walk_at "q"
              rw [e] at h
              exact h
          · refine R.F (decide_eq_false (by simp; lia)) ?_
            walk_at "q"
            exact h
        walk_at "q"
        refine R.D (fun e2=>?_) fun e2=>?_
        · rw [if_pos (.inr e2)] at h
          walk_at "q"
          rcases r with _ | ⟨x,_ | ⟨y,_ | ⟨z,r⟩⟩⟩
          · refine R.F rfl ?_
            walk_at "q"
            exact h
          · refine R.F rfl ?_
            walk_at "q"
            exact h
          · refine R.T rfl ?_
            walk_at "q"
            refine ⟨_,rfl,?_⟩
            have h:Q .sh (.bl (isDd x && ahd k y)):=h
            walk_at "q"
            refine R.B (fun e=>?_) fun e=>?_
            · walk_at "q"
              refine ⟨_,_,rfl,?_⟩
              rw [e] at h
              exact h
            · walk_at "q"
              rw [e] at h
              exact h
          · refine R.F (decide_eq_false (by simp; lia)) ?_
            walk_at "q"
            exact h
        rw [if_neg (fun z=>z.elim e1 e2)] at h
        walk_at "q"
        refine R.D (fun e3=>?_) fun e3=>?_
        · rw [if_pos e3] at h
          walk_at "q"
          rcases r with _ | ⟨x,_ | ⟨y,r⟩⟩
          · refine R.F rfl ?_
            walk_at "q"
            exact h
          · refine R.T rfl ?_
            walk_at "q"
            exact ⟨_,_,rfl,h⟩
          · refine R.F (decide_eq_false (by simp; lia)) ?_
            walk_at "q"
            exact h
        rw [if_neg e3] at h
        walk_at "q"
        refine R.D (fun e4=>?_) fun e4=>?_
        · rw [if_pos (.inl e4)] at h
          walk_at "q"
          rcases r with _ | ⟨x,_ | ⟨y,r⟩⟩
          · refine R.F rfl ?_
            walk_at "q"
            exact h
          · refine R.T rfl ?_
            walk_at "q"
            exact ⟨_,_,rfl,h⟩
          · refine R.F (decide_eq_false (by simp; lia)) ?_
            walk_at "q"
            exact h
        walk_at "q"
        refine R.D (fun e5=>?_) fun e5=>?_
        · rw [if_pos (.inr e5)] at h
          walk_at "q"
          rcases r with _ | ⟨x,_ | ⟨y,r⟩⟩
          · refine R.F rfl ?_
            walk_at "q"
            exact h
          · refine R.T rfl ?_
            walk_at "q"
            exact ⟨_,_,rfl,h⟩
          · refine R.F (decide_eq_false (by simp; lia)) ?_
            walk_at "q"
            exact h
        rw [if_neg (fun z=>z.elim e4 e5)] at h
        walk_at "q"
        exact h
      | _ =>
        walk_at "q"
        refine R.T rfl ?_
        walk_at "q"
        exact h
  | _ =>
    walk_at "q"
    refine R.T rfl ?_
    walk_at "q"
    exact h
def fU:WS :=
  (wSeq (wIfS (wOr (wNot (wB (wUn (fIsi "list") (wVar 0)))) (wNot (wB (iz fLe fLe (wC (.int 1)) (wUn fLen (wVar 0)) (wC (.int 2000))))))
  (wRet (wC (.bl false)))
  cu)
  (wRet (wUn fAll (jw (qH (wVar 0)) (gT 2 (qI (gN 0) (qI (gN 1) uY))) wYes (bJ dq (aj (wVar 0) (aj (wVar 1) wNil))) 2 []))))
def aG:SpD:=fun ds Q=>∃ d:D,ds=[d]/\Q .sh (.bl (isSc d))
theorem mX (ds Q) (h:aG ds Q):ds.length=["thing"].length:=by obtain ⟨_,rfl,_⟩:=h; rfl
theorem oZ:∀ ds Q,aG ds Q->fU { nx:=fun _=>Q .sh .non,rt:=Q } (aV 1 ds):=by
  rintro ds Q ⟨d,rfl,h⟩
  unfold fU
  cases d with
  | list xs =>
    have h:Q .sh (.bl (decide (1<=xs.length/\xs.length<=2000) && xs.zipIdx.all fun p=>isRw (p.2:Int) p.1)):=h
    walk_at "q"
    refine R.F rfl ?_
    walk_at "q"
    refine R.D (fun h1=>?_) fun h1=>?_
    rotate_left
    · walk_at "q"
      rw [decide_eq_false (by lia)] at h
      exact h
    walk_at "q"
    refine R.B (fun h2=>?_) fun h2=>?_
    · have h2:¬ (xs.length:Int)<=2000:=by simpa using h2
      walk_at "q"
      rw [decide_eq_false (by lia)] at h
      exact h
    have h2:(xs.length:Int)<=2000:=by simpa using h2
    rw [decide_eq_true (by lia),xbm] at h
    walk_at "q"
    refine dN (fun _=>true) (fun d=>match d with
      | .tup [.int i,x]=>.bl (isRw i x)
      | d=>d) (fun ρ=>∃ o o',ρ=[o,o']) _ _ _ ⟨_,_,rfl⟩ ?_ ?_
    · rintro y hy ρ ⟨o,o',rfl⟩ N1 N2 _ h2
      obtain ⟨i,hi⟩:=xbn.mp hy
      unfold lF at hi
      rw [List.getElem?_mapIdx] at hi
      cases e:xs[i]? with
      | none=>rw [e] at hi; cases hi
      | some r =>
        rw [e] at hi
        cases hi
        walk_at "q"
        exact ⟨_,_,rfl,.inl rfl,h2 _ ⟨_,_,rfl⟩ rfl⟩
    · rw [jy]
      refine ⟨xs.zipIdx.map fun p=>isRw (p.2:Int) p.1,?_,?_⟩
      · unfold lF
        rw [List.mapIdx_eq_zipIdx_map,xaQ,xaQ]
        rfl
      · rw [xbt]
        exact h
  | _ =>
    walk_at "q"
    refine R.T rfl ?_
    walk_at "q"
    exact h
def dg:WS :=
  (wIfS (wNot (wB (bJ aG (aj (wVar 0) wNil))))
  (sU "NoScroll" (wC (.str "this is no scroll")))
  cu)
def au:SpD:=fun ds Q=>∃ d:D,ds=[d]/\isSc d=false/\Q (.ow false) (.str "NoScroll")
theorem iI (ds Q) (h:au ds Q):ds.length=["thing"].length:=by obtain ⟨_,rfl,_⟩:=h; rfl
theorem jR:∀ ds Q,au ds Q->dg { nx:=fun _=>Q .sh .non,rt:=Q } (aV 1 ds):=by
  rintro ds Q ⟨d,rfl,hd,h⟩
  unfold dg
  walk_at "q"
  refine ⟨_,rfl,?_⟩
  rw [hd]
  walk_at "q"
  exact h
def jG:WS :=
  (wSeq (lB au (aj (wVar 1) wNil))
  lr)
def cz:SpD:=fun ds Q=>∃ m d:D,ds=[m,d]/\isSc d=false/\Q (.ow false) (.str "NoScroll")
theorem pN (ds Q) (h:cz ds Q):ds.length=["m", "scroll"].length:=by obtain ⟨_,_,rfl,_⟩:=h; rfl
theorem uv:∀ ds Q,cz ds Q->jG { nx:=fun _=>Q .sh .non,rt:=Q } (aV 2 ds):=by
  rintro ds Q ⟨m,d,rfl,hd,h⟩
  unfold jG
  walk_at "q"
  refine ⟨_,rfl,hd,?_⟩
  walk_at "q"
  exact h
def pA:WS :=
  (wSeq (lB au (aj (wVar 1) wNil))
  lr)
def dO:SpD:=fun ds Q=>∃ m d s:D,ds=[m,d,s]/\isSc d=false/\Q (.ow false) (.str "NoScroll")
theorem uA (ds Q) (h:dO ds Q):ds.length=["m", "scroll", "state"].length:=by obtain ⟨_,_,_,rfl,_⟩:=h; rfl
theorem x_:∀ ds Q,dO ds Q->pA { nx:=fun _=>Q .sh .non,rt:=Q } (aV 3 ds):=by
  rintro ds Q ⟨m,d,s,rfl,hd,h⟩
  unfold pA
  walk_at "q"
  refine ⟨_,rfl,hd,?_⟩
  walk_at "q"
  exact h
def g_:WS :=
  (wSeq (lB au (aj (wVar 0) wNil))
  lr)
def bW:SpD:=fun ds Q=>∃ d:D,ds=[d]/\isSc d=false/\Q (.ow false) (.str "NoScroll")
theorem oh (ds Q) (h:bW ds Q):ds.length=["scroll"].length:=by obtain ⟨_,rfl,_⟩:=h; rfl
theorem rK:∀ ds Q,bW ds Q->g_ { nx:=fun _=>Q .sh .non,rt:=Q } (aV 4 ds):=by
  rintro ds Q ⟨d,rfl,hd,h⟩
  unfold g_
  walk_at "q"
  refine ⟨_,rfl,hd,?_⟩
  walk_at "q"
  exact h
def dJ:WS :=
  (wSeq (lB au (aj (wVar 0) wNil))
  lr)
def aX:SpD:=fun ds Q=>∃ d:D,ds=[d]/\isSc d=false/\Q (.ow false) (.str "NoScroll")
theorem jJ (ds Q) (h:aX ds Q):ds.length=["scroll"].length:=by obtain ⟨_,rfl,_⟩:=h; rfl
theorem mJ:∀ ds Q,aX ds Q->dJ { nx:=fun _=>Q .sh .non,rt:=Q } (aV 5 ds):=by
  rintro ds Q ⟨d,rfl,hd,h⟩
  unfold dJ
  walk_at "q"
  refine ⟨_,rfl,hd,?_⟩
  walk_at "q"
  exact h
def dX:WS :=
  (wSeq (wSet 3 (wTup (aj (wC (.int 2)) (aj (wLst (aj (wTup (aj (wC (.int 0)) (aj (wC (.str "a")) (aj (wC (.int 1)) wNil)))) wNil)) wNil))))
  (wSeq (wIfS (wB (wOp fEq (wVar 0) (wC (.int 0))))
  (rT cz (aj (wVar 3) (aj (wVar 1) wNil)))
  cu)
  (wSeq (wIfS (wB (wOp fEq (wVar 0) (wC (.int 1))))
  (rT dO (aj (wVar 3) (aj (wVar 1) (aj (wVar 2) wNil))))
  cu)
  (wSeq (wIfS (wB (wOp fEq (wVar 0) (wC (.int 2))))
  (rT bW (aj (wVar 1) wNil))
  cu)
  (rT aX (aj (wVar 1) wNil))))))
def bH:SpD:=fun ds Q=>∃ (w:Int) (d s:D),ds=[.int w,d,s]/\isSc d=false/\Q (.ow false) (.str "NoScroll")
theorem jQ (ds Q) (h:bH ds Q):ds.length=["_law_way", "_law_thing", "_law_state"].length:=by obtain ⟨_,_,_,rfl,_⟩:=h; rfl
theorem ni:∀ ds Q,bH ds Q->dX { nx:=fun _=>Q .sh .non,rt:=Q } (aV 4 ds):=by
  rintro ds Q ⟨w,d,s,rfl,hd,h⟩
  unfold dX
  walk_at "q"
  refine R.D (fun e=>?_) fun e=>?_
  · walk_at "q"
    refine ⟨_,_,rfl,hd,?_⟩
    walk_at "q"
    exact h
  walk_at "q"
  refine R.D (fun e=>?_) fun e=>?_
  · walk_at "q"
    refine ⟨_,_,_,rfl,hd,?_⟩
    walk_at "q"
    exact h
  walk_at "q"
  refine R.D (fun e=>?_) fun e=>?_
  · walk_at "q"
    refine ⟨_,rfl,hd,?_⟩
    walk_at "q"
    exact h
  walk_at "q"
  refine ⟨_,rfl,hd,?_⟩
  walk_at "q"
  exact h
def cX:WS :=
  (wSeq (wSet 3 (wTup wNil))
  (wSeq (yW 4 (tQ (sG bH (aj (wVar 0) (aj (wVar 1) (aj (wVar 2) wNil))))) (fun a n=>(wSeq (wSet 5 (wIsx 4 a (decide (n = "NoState") || (decide (n = "TooBig") || (decide (n = "NoDeed") || (decide (n = "NoText") || false))))))
  (wFrz 5 (wSet 3 (wTup (aj (wIsx 4 a (decide (n = "NoScroll"))) (aj (wIsx 4 a true) (aj (wVar 5) wNil)))))))))
  (wRet (wOp fEq (wVar 3) (wTup (aj (wC (.bl true)) (aj (wC (.bl true)) (aj (wC (.bl false)) wNil))))))))
def a_:SpD:=fun ds Q=>∃ (w:Int) (d s:D),ds=[.int w,d,s]/\isSc d=false/\Q .sh (.bl true)
theorem iK (ds Q) (h:a_ ds Q):ds.length=["_law_way", "_law_thing", "_law_state"].length:=by obtain ⟨_,_,_,rfl,_⟩:=h; rfl
theorem jU:∀ ds Q,a_ ds Q->cX { nx:=fun _=>Q .sh .non,rt:=Q } (aV 6 ds):=by
  rintro ds Q ⟨w,d,s,rfl,hd,h⟩
  unfold cX
  walk_at "q"
  refine ⟨_,_,_,rfl,hd,?_⟩
  walk_at "q"
  refine fun _=>⟨by decide +kernel,by decide +kernel,?_⟩
  rw [show eqD (.tup [.bl true,.bl true,.bl (decide (("NoScroll" : Str) = "NoState") || (decide (("NoScroll" : Str) = "TooBig") || (decide (("NoScroll" : Str) = "NoDeed") || (decide (("NoScroll" : Str) = "NoText") || false))))]) (.tup [.bl true,.bl true,.bl false])=true by decide +kernel]
  exact h
def cg:WS :=
  (wSeq (wFor (fL (wC (.int 4))) (gN 2)
  (wIfS (wNot (wB (bJ a_ (aj (wOp fMod (wOp fAdd (wVar 2) (wVar 1)) (wC (.int 4))) (aj (wVar 0) (aj (wOp fIx (wLst (aj (wC (.int 0)) (aj (wC (.int 1)) (aj (wUn fNeg (wC (.int 1))) (aj (wC (.int 2)) (aj (wOp fPow (wC (.int 10)) (wC (.int 40))) wNil)))))) (wOp fMod (wOp fDiv (wVar 1) (wC (.int 4))) (wC (.int 5)))) wNil))))))
  (wRet (wC (.bl false)))
  cu))
  (wRet (wC (.bl true))))
def aM:SpD:=fun ds Q=>∃ (c:Int) (d:D),ds=[d,.int c]/\isSc d=false/\Q .sh (.bl true)
theorem fG (ds Q) (h:aM ds Q):ds.length=["_law_thing", "_law_cell"].length:=by obtain ⟨_,_,rfl,_⟩:=h; rfl
theorem gm:∀ ds Q,aM ds Q->cg { nx:=fun _=>Q .sh .non,rt:=Q } (aV 3 ds):=by
  rintro ds Q ⟨c,d,rfl,hd,h⟩
  unfold cg
  walk_at "q"
  refine lM _ (fun i ρ=>∃ o2:Option Sl,ρ=[some (.sh d),some (.sh (.int c)),o2]) ⟨_,rfl⟩ ?_ ?_
  · rintro i x ρ hx ⟨o2,rfl⟩ N hN
    obtain ⟨hi,rfl⟩:=d_ hx
    walk_at "q"
    refine ⟨by unfold CPow; decide,?_⟩
    have c0:=xav (c / 4) (show (5:Int)≠0 by decide)
    have c1:=xar (c / 4) (show (0:Int)<5 by decide)
    generalize c / 4 % 5=z at *
    obtain ⟨v,e⟩:∃ v:Int,atI [D.int 0,D.int 1,D.int (-1),D.int 2,D.int 10000000000000000000000000000000000000000] z=some (.int v):=by
      have:z=0\/z=1\/z=2\/z=3\/z=4:=by lia
      rcases this with rfl | rfl | rfl | rfl | rfl <;> exact ⟨_,rfl⟩
    refine ⟨_,e,?_⟩
    walk_at "q"
    refine ⟨_,_,_,rfl,hd,?_⟩
    walk_at "q"
    exact hN _ ⟨_,rfl⟩
  · rintro ρ ⟨o2,rfl⟩
    walk_at "q"
    exact h
def iU:WS :=
  (wSeq (nG 3 (wUn fNeg (wC (.int 1))) (wTup (aj (wC (.str "not")) (aj (wOp fSub (wUn fLen (wVar 3)) (wC (.int 1))) wNil))))
  (wRet (jM (wOp fIsB (bJ aG (aj (wVar 3) wNil)) (wC (.bl false))) (wOp fIsB (bJ aG (aj (wVar 4) wNil)) (wC (.bl true))))))
def iV:WS :=
  (wSeq (wSet 3 (wSl (wVar 3) gO (mL (wC (.int 1999)))))
  (wSeq (wApp (wpN 3) (wTup (aj (wC (.str "not")) (aj (wOp fSub (wUn fLen (wVar 3)) (wC (.int 1))) wNil))))
  (wSeq (wIfS (wB (wOp qT (bJ aG (aj (wVar 3) wNil)) (wC (.bl true))))
  (wRet (wC (.bl false)))
  cu)
  iU)))
def iM:WS :=
  (wSeq (wIfS (wOr (wB (wOp qT (bJ aG (aj (wVar 7) wNil)) (wC (.bl false)))) (wNot (wB (bJ aM (aj (wVar 7) (aj (bJ aF (aj (wVar 0) (aj (wC (.int 6)) wNil))) wNil))))))
  (wRet (wC (.bl false)))
  cu)
  (wSeq (wIfS (wB (wOp fNe (wOp fMod (wOp fDiv (wVar 1) (wC (.int 32))) (wC (.int 4))) (wC (.int 1))))
  (wSeq (nG 7 (wVar 6) (wOp fIx (wVar 3) (wVar 6)))
  (wIfS (wB (wOp qT (bJ aG (aj (wVar 7) wNil)) (wC (.bl true))))
  (wRet (wC (.bl false)))
  cu))
  cu)
  iV))
def iW:WS :=
  (wSeq (wIfS (wB (wOp fEq (wOp fMod (wOp fDiv (wVar 1) (wC (.int 32))) (wC (.int 4))) (wC (.int 1))))
  (wSet 7 (bJ aU (aj (wVar 3) (aj (bJ aF (aj (wVar 0) (aj (wC (.int 5)) wNil))) wNil))))
  cu)
  iM)
def mY:WS :=
  (wSeq (wSet 5 (bJ aF (aj (wVar 0) (aj (wC (.int 4)) wNil))))
  (wSeq (wSet 6 (wOp fMod (wVar 5) (wUn fLen (wVar 3))))
  (wSeq (wSet 7 (wUn pI (wVar 3)))
  (wSeq (nG 7 (wVar 6) (bJ bf (aj (wOp fIx (wVar 3) (wVar 6)) (aj (wVar 6) (aj (bJ aF (aj (wVar 0) (aj (wC (.int 5)) wNil))) (aj (wVar 2) wNil))))))
  iW))))
def l_:WS :=
  (wSeq (wSet 4 (wUn pI (wVar 3)))
  (wSeq (wIfS (wOr (wB (wOp qT (bJ aG (aj (wVar 3) wNil)) (wC (.bl true)))) (wB (wOp fNe (wVar 3) (wVar 4))))
  (wRet (wC (.bl false)))
  cu)
  mY))
def mF:WS :=
  (wSeq (wIfS (wB (wOp fEq (wOp fMod (wVar 1) (wC (.int 16))) (wC (.int 5))))
  (wApp (wpN 3) (wTup (aj (wOp fIx (wLst (aj (wC (.str "and")) (aj (wC (.str "or")) wNil))) (wOp fMod (wOp fDiv (wVar 1) (wC (.int 16))) (wC (.int 2)))) (aj (wUn km (jw (fL (wC (.int 200))) (gN 0) wYes (wOp fMod (wVar 0) (wUn fLen (wVar 1))) 1 [3])) wNil))))
  cu)
  l_)
def lK:WS :=
  (wSeq (wIfS (wB (wOp fEq (wOp fMod (wVar 1) (wC (.int 16))) (wC (.int 3))))
  (wSet 3 (wOp fAdd (wVar 3) (jw (fL (wOp fSub (wC (.int 2000)) (wUn fLen (wVar 3)))) (gN 0) wYes (wTup (aj (wC (.str "not")) (aj (wOp fMod (wVar 0) (wUn fLen (wVar 1))) wNil))) 1 [3])))
  cu)
  mF)
def xV:WS :=
  (wSeq (wSet 1 (bJ aF (aj (wVar 0) (aj (wC (.int 0)) wNil))))
  (wSeq (wSet 2 (bJ bF (aj (bJ aF (aj (wVar 0) (aj (wC (.int 1)) wNil))) (aj (bJ aF (aj (wVar 0) (aj (wC (.int 2)) wNil))) wNil))))
  (wSeq (wSet 3 (bJ bD (aj (wOp fAdd (wSl (wVar 0) (mL (wC (.int 7))) (mL (wC (.int 47)))) (wLst (aj (bJ aF (aj (wVar 0) (aj (wC (.int 3)) wNil))) wNil))) (aj (wOp fAdd (wLst (aj (wC (.str "*")) wNil)) (wVar 2)) wNil))))
  lK)))
abbrev sp_law:SpD:=spLaw
theorem yp (ds Q) (h:sp_law ds Q):ds.length=["_law_script"].length:=by obtain ⟨_,rfl,_⟩:=h; rfl
theorem rw_tup (r:Rw):∃ xs,rwD r=.tup xs/\flats xs=true:=by
  cases r with
  | st w d j=>exact ⟨_,rfl,rfl⟩
  | nt j=>exact ⟨_,rfl,rfl⟩
  | jn w ps=>exact ⟨_,rfl,by simp [flats,D.flat,cF]⟩
theorem tD (l:List Int) (lo hi:Option Int):cutG (l.map D.int) lo hi=(cutG l lo hi).map D.int:=by
  unfold cutG
  rw [xae,List.map_take,List.map_drop]
theorem uy (ns:List Int):(cutG ns (some 7) (some 47)).length<=40:=by
  unfold cutG
  rw [xaG]
  simp only [HT.sIx]
  rw [if_neg (by lia),if_neg (by lia)]
  lia
theorem ScOk.nots {l m:List Rw} (hl:ScOk l) (ok:∀ r∈m,∃ j,r=Rw.nt j/\0<=j/\j<l.length):ScOk (l++m):=fun i x hx=>by
  by_cases hi:i<l.length
  · rw [xa3 hi] at hx
    exact hl i x hx
  · rw [xaR (by lia)] at hx
    obtain ⟨j,rfl,h0,h1⟩:=ok x (List.mem_of_getElem? hx)
    exact ⟨h0,by lia⟩
theorem uE {l:List Rw} {n:Nat} {K:List D->Prop} (l1:1<=l.length) (h:∀ ps:List Int,ps.length=n->(∀ p∈ps,0<=p/\p<l.length)->K (ps.map .int)):fM (gN 0) wYes (wOp fMod (wVar 0) (wUn fLen (wVar 1))) (iJ 0 n) [none,some (.sh (.list (l.map rwD)))] K:=by
  refine gD (fun n out=>∃ ps:List Int,out=ps.map .int/\ps.length=n/\∀ p∈ps,0<=p/\p<l.length) (fun ρ=>∃ o,ρ=[o,some (.sh (.list (l.map rwD)))]) _ 0 [] _ _ ⟨_,rfl⟩ ⟨[],rfl,rfl,fun r hr=>nomatch hr⟩ ?_ ?_
  · rintro j y hy ρ ⟨o,rfl⟩ out ⟨ps,rfl,hm,ok⟩ N1 N2 hN2
    obtain ⟨hj,rfl⟩:=d_ hy
    walk_at "q"
    have a0:=xav (0+(j:Int)) (show (l.length:Int)≠0 by lia)
    have a1:=xar (0+(j:Int)) (show (0:Int)<l.length by lia)
    refine ⟨by lia,.inl rfl,hN2 _ _ ⟨_,rfl⟩ ⟨ps++[_],(by rw [xa1]; rfl),by simp [hm],fun p hp=>?_⟩⟩
    rcases xaf.mp hp with hp | hp
    · exact ok p hp
    · rw [xa6.mp hp]; exact ⟨a0,a1⟩
  rintro out ⟨ps,e,hm,ok⟩
  simp only [List.nil_append] at e
  subst e
  rw [fu] at hm
  exact h ps (by lia) ok
theorem yr {n:Nat} (h:1<=n):ixN n (-1)=some (n - 1):=by
  unfold ixN
  rw [if_neg (by decide),if_pos (by lia)]
  congr 1
  lia
theorem vz (l:List Rw):cutG (l.map rwD) none (some 1999)=(l.take 1999).map rwD:=by
  unfold cutG
  simp only [HT.sIx,xae,xbv,Nat.sub_zero]
  rw [if_neg (by decide),List.map_take,List.take_eq_take_iff,xae]
  lia
theorem rw_at {l:List Rw} {i:Int} (h0:0<=i) (h1:i<l.length):∃ r,l[i.toNat]? = some r/\atI (l.map rwD) i=some (rwD r):=by
  have hn:i.toNat<l.length:=by lia
  refine ⟨l[i.toNat],by simp [hn],?_⟩
  have:=atI_nat (xs:=l.map rwD) (j:=i.toNat) (v:=rwD l[i.toNat]) (by simp [hn])
  rwa [xaJ h0] at this
theorem uU {l:List Rw} {i:Nat} {r:Rw} (e:l[i]? = some r) (d:D):((l.map rwD).set i d).set i (rwD r)=l.map rwD:=by
  obtain ⟨hi,e⟩:=xaw.mp e
  rw [List.set_set,<- e,<- List.getElem_map rwD (h:=by rw [xae]; exact hi),List.set_getElem_self]
theorem uV {Q:Md->D->Prop} {l m:List Rw} {o0 o1 o2 o5 o6 o7:Option Sl} (hl:ScOk l) (l1:1<=l.length) (l2:l.length<=2000) (m1:1<=m.length) (m2:m.length<=2000) (h:∀ m,Q m (.bl true)) :
    iU { nx:=fun _=>Q .sh .non,rt:=Q } [o0,o1,o2,some (.ow true (.list (m.map rwD))),some (.ow true (.list (l.map rwD))),o5,o6,o7]:=by
  unfold iU
  walk_at "q"
  refine ⟨m.length - 1,yr m1,.inl rfl,_,rfl,?_⟩
  rw [qO (i:=m.length - 1) (x:=.tup [.str "not",.int ((m.length:Int) - 1)]) (by rw [xa7 (by rw [xae]; lia)]) (bs_n (dU (by lia)))]
  walk_at "q"
  refine ⟨_,rfl,?_⟩
  rw [my hl l1 l2]
  walk_at "q"
  exact h _
theorem mK {Q:Md->D->Prop} {l:List Rw} {o0 o1 o2 o5 o6 o7:Option Sl} (hl:ScOk l) (l1:1<=l.length) (l2:l.length<=2000) (h:∀ m,Q m (.bl true)) :
    iV { nx:=fun _=>Q .sh .non,rt:=Q } [o0,o1,o2,some (.ow true (.list (l.map rwD))),some (.ow true (.list (l.map rwD))),o5,o6,o7]:=by
  obtain ⟨w17,e17⟩:∃ w,w=iU:=⟨_,rfl⟩
  unfold iV
  rw [<- e17]
  walk_at "q"
  rw [vz]
  have tl:(l.take 1999).length=min 1999 l.length:=xaG
  have ts:=hl.take 1999
  generalize l.take 1999=m at *
  have ms:=ts.app (r:=.nt ((m.length:Int) - 1)) ⟨by lia,by lia⟩
  have em:m.map rwD++[D.tup [.str "not",.int ((m.length:Int) - 1)]]=(m++[Rw.nt ((m.length:Int) - 1)]).map rwD:=by rw [xa1]; rfl
  have ml:(m++[Rw.nt ((m.length:Int) - 1)]).length=m.length+1:=by simp
  rw [xae,em]
  refine .inl ⟨dM l,by lia,_,rfl,?_⟩
  rw [my ms (by lia) (by lia)]
  walk_at "q"
  refine R.F rfl ?_
  walk_at "q"
  rw [e17,em]
  exact uV hl l1 l2 (by lia) (by lia) h
theorem mZ {Q:Md->D->Prop} {ns:List Int} {first at':Int} {l:List Rw} {sl:Sl} {bad:D} {o2 o5:Option Sl} (hl:ScOk l) (l1:1<=l.length) (l2:l.length<=2000) (a0:0<=at') (a1:at'<l.length) (hb:isSc bad=false)
    (hs:sl=.sh bad\/sl=.ow true bad) (hw:¬ first / 32 % 4=1->∃ d,bad=.list ((l.map rwD).set at'.toNat d)/\sl=.ow true bad) (h:∀ m,Q m (.bl true)) :
    iM { nx:=fun _=>Q .sh .non,rt:=Q } [some (.sh (.list (ns.map .int))),some (.sh (.int first)),o2,some (.ow true (.list (l.map rwD))),some (.ow true (.list (l.map rwD))),o5,some (.sh (.int at')),some sl]:=by
  obtain ⟨w14,e14⟩:∃ w,w=iV:=⟨_,rfl⟩
  unfold iM
  rw [<- e14]
  walk_at "q"
  rcases hs with rfl | rfl
  · walk_at "q"
    refine ⟨_,rfl,?_⟩
    rw [hb]
    walk_at "q"
    refine ⟨ns,6,rfl,by decide,?_⟩
    generalize ns.getD _ 0=c6
    walk_at "q"
    refine ⟨_,_,rfl,hb,?_⟩
    walk_at "q"
    refine R.B (fun e=>?_) fun e=>?_
    · obtain ⟨d,_,z⟩:=hw (by simpa using e)
      cases z
    · walk_at "q"
      rw [e14]
      exact mK hl l1 l2 h
  · walk_at "q"
    refine ⟨_,rfl,?_⟩
    rw [hb]
    walk_at "q"
    refine ⟨ns,6,rfl,by decide,?_⟩
    generalize ns.getD _ 0=c6
    walk_at "q"
    refine ⟨_,_,rfl,hb,?_⟩
    walk_at "q"
    refine R.B (fun e=>?_) fun e=>?_
    · obtain ⟨d,rfl,_⟩:=hw (by simpa using e)
      obtain ⟨r,er,ea⟩:=rw_at a0 a1
      walk_at "q"
      obtain ⟨xs,ex,fx⟩:=rw_tup r
      refine ⟨_,ea,?_⟩
      have sb:=uU er d
      rw [ex] at sb ⊢
      walk_at "q"
      refine ⟨at'.toNat,by unfold ixN; rw [if_pos a0,if_pos (by rw [List.length_set,xae]; exact a1)],.inl fx,_,rfl,?_⟩
      rw [sb,my hl l1 l2]
      walk_at "q"
      refine R.F rfl ?_
      walk_at "q"
      rw [e14]
      exact mK hl l1 l2 h
    · walk_at "q"
      rw [e14]
      exact mK hl l1 l2 h
theorem qF {Q:Md->D->Prop} {ns:List Int} {first at':Int} {l:List Rw} {d:D} {o2 o5:Option Sl} (hl:ScOk l) (l1:1<=l.length) (l2:l.length<=2000) (a0:0<=at') (a1:at'<l.length) (hd:isRw at' d=false) (h:∀ m,Q m (.bl true)) :
    iW { nx:=fun _=>Q .sh .non,rt:=Q } [some (.sh (.list (ns.map .int))),some (.sh (.int first)),o2,some (.ow true (.list (l.map rwD))),some (.ow true (.list (l.map rwD))),o5,some (.sh (.int at')),some (.ow true (.list ((l.map rwD).set at'.toNat d)))]:=by
  obtain ⟨w12,e12⟩:∃ w,w=iM:=⟨_,rfl⟩
  unfold iW
  rw [<- e12]
  walk_at "q"
  have bl:isSc (.list ((l.map rwD).set at'.toNat d))=false:=qO (i:=at'.toNat) (x:=d) (by rw [xa7 (by rw [xae]; lia)]) (by rw [xaJ a0]; exact hd)
  refine R.D (fun e=>?_) fun e=>?_
  · walk_at "q"
    refine ⟨ns,5,rfl,by decide,?_⟩
    generalize ns.getD _ 0=c5
    walk_at "q"
    refine ⟨l,c5,rfl,l2,fun b hb=>?_⟩
    cases hf:b.flat with
    | true =>
      rw [show outM b=.sh by rw [outM,hf]; rfl]
      walk_at "q"
      rw [hf]
      walk_at "q"
      rw [e12]
      exact mZ hl l1 l2 a0 a1 hb (.inl rfl) (fun z=>absurd e z) h
    | false =>
      rw [show outM b=.ow true by rw [outM,hf]; rfl]
      walk_at "q"
      rw [e12]
      exact mZ hl l1 l2 a0 a1 hb (.inr rfl) (fun z=>absurd e z) h
  · walk_at "q"
    rw [e12]
    exact mZ hl l1 l2 a0 a1 bl (.inr rfl) (fun _=>⟨d,rfl,rfl⟩) h
theorem y_ {Q:Md->D->Prop} {ns:List Int} {first:Int} {l:List Rw} {pool:List Str} (hl:ScOk l) (l1:1<=l.length) (l2:l.length<=2000) (hp:pool.length=6) (ho:∀ n∈pool,Open n) (h:∀ m,Q m (.bl true)) :
    mY { nx:=fun _=>Q .sh .non,rt:=Q } [some (.sh (.list (ns.map .int))),some (.sh (.int first)),some (.ow true (.list (pool.map .str))),some (.ow true (.list (l.map rwD))),some (.ow true (.list (l.map rwD))),none,none,none]:=by
  obtain ⟨w11,e11⟩:∃ w,w=iW:=⟨_,rfl⟩
  unfold mY
  rw [<- e11]
  walk_at "q"
  refine ⟨ns,4,rfl,by decide,?_⟩
  generalize ns.getD _ 0=c4
  walk_at "q"
  have a0:=xav c4 (show (l.length:Int)≠0 by lia)
  have a1:=xar c4 (show (0:Int)<l.length by lia)
  generalize c4 % (l.length:Int)=at' at *
  obtain ⟨r,er,ea⟩:=rw_at a0 a1
  obtain ⟨xs,ex,fx⟩:=rw_tup r
  refine ⟨by lia,.inl ⟨dM l,_,ea,?_⟩⟩
  rw [ex]
  walk_at "q"
  refine ⟨ns,5,rfl,by decide,?_⟩
  generalize ns.getD _ 0=c5
  walk_at "q"
  have rk:=hl at'.toNat r er
  rw [xaJ a0] at rk
  refine ⟨at',c5,r,pool,by rw [ex],a0,by lia,rk,hp,ho,fun d hd=>?_⟩
  have ix:ixN l.length at'=some at'.toNat:=by unfold ixN; rw [if_pos a0,if_pos a1]
  cases hf:d.flat with
  | true =>
    rw [show outM d=.sh by rw [outM,hf]; rfl]
    walk_at "q"
    rw [e11]
    exact ⟨_,ix,.inl hf,qF hl l1 l2 a0 a1 hd h⟩
  | false =>
    rw [show outM d=.ow true by rw [outM,hf]; rfl]
    walk_at "q"
    rw [e11]
    exact ⟨_,ix,.inr rfl,qF hl l1 l2 a0 a1 hd h⟩
theorem tO {Q:Md->D->Prop} {ns:List Int} {first:Int} {l:List Rw} {pool:List Str} (hl:ScOk l) (l1:1<=l.length) (l2:l.length<=2000) (hp:pool.length=6) (ho:∀ n∈pool,Open n) (h:∀ m,Q m (.bl true)) :
    l_ { nx:=fun _=>Q .sh .non,rt:=Q } [some (.sh (.list (ns.map .int))),some (.sh (.int first)),some (.ow true (.list (pool.map .str))),some (.ow true (.list (l.map rwD))),none,none,none,none]:=by
  obtain ⟨w7,e7⟩:∃ w,w=mY:=⟨_,rfl⟩
  unfold l_
  rw [<- e7]
  walk_at "q"
  refine .inl ⟨dM l,_,rfl,?_⟩
  rw [my hl l1 l2]
  walk_at "q"
  refine ⟨wK hl 9,wK hl 9,R.F (by rw [(sO (.list (l.map rwD)) (.list (l.map rwD)) (nQ l) (nQ l)).mpr rfl]; rfl) ?_⟩
  walk_at "q"
  rw [e7]
  exact y_ hl l1 l2 hp ho h
theorem tE {Q:Md->D->Prop} {ns:List Int} {first:Int} {l:List Rw} {pool:List Str} (hl:ScOk l) (l1:1<=l.length) (l2:l.length<=2000) (l3:first % 16=5->l.length<=100) (hp:pool.length=6) (ho:∀ n∈pool,Open n) (h:∀ m,Q m (.bl true)) :
    mF { nx:=fun _=>Q .sh .non,rt:=Q } [some (.sh (.list (ns.map .int))),some (.sh (.int first)),some (.ow true (.list (pool.map .str))),some (.ow true (.list (l.map rwD))),none,none,none,none]:=by
  obtain ⟨w5,e5⟩:∃ w,w=l_:=⟨_,rfl⟩
  unfold mF
  rw [<- e5]
  walk_at "q"
  refine R.D (fun e=>?_) fun e=>?_
  · walk_at "q"
    obtain ⟨w,ew,hw⟩:∃ w:Str,atI [D.str (Str.ofString "and"),D.str (Str.ofString "or")] (first / 16 % 2)=some (.str w)/\(w = "and"\/w = "or"):=by
      have:first / 16 % 2=0\/first / 16 % 2=1:=by lia
      rcases this with e | e
      · rw [e]; exact ⟨_,rfl,.inl rfl⟩
      · rw [e]; exact ⟨_,rfl,.inr rfl⟩
    refine ⟨_,ew,?_⟩
    walk_at "q"
    refine uE (n:=200) (by lia) fun ps pl pk=>?_
    rw [cF ps]
    refine ⟨rfl,by lia,?_⟩
    rw [show l.map rwD++[D.tup [.str w,.tup (ps.map .int)]]=(l++[Rw.jn w ps]).map rwD by rw [xa1]; rfl,e5]
    exact tO (hl.app ⟨hw,by lia,pk⟩) (by simp) (by simp; have:=l3 e; lia) hp ho h
  · walk_at "q"
    rw [e5]
    exact tO hl l1 l2 hp ho h
theorem xQ {Q:Md->D->Prop} {ns:List Int} {first:Int} {l:List Rw} {pool:List Str} (hl:ScOk l) (l1:1<=l.length) (l2:l.length<=41) (hp:pool.length=6) (ho:∀ n∈pool,Open n) (h:∀ m,Q m (.bl true)) :
    lK { nx:=fun _=>Q .sh .non,rt:=Q } [some (.sh (.list (ns.map .int))),some (.sh (.int first)),some (.ow true (.list (pool.map .str))),some (.ow true (.list (l.map rwD))),none,none,none,none]:=by
  obtain ⟨w4,e4⟩:∃ w,w=mF:=⟨_,rfl⟩
  unfold lK
  rw [<- e4]
  walk_at "q"
  refine R.D (fun e=>?_) fun e=>?_
  · walk_at "q"
    refine ⟨by lia,by lia,?_⟩
    refine gD (fun n out=>∃ m:List Rw,out=m.map rwD/\m.length=n/\∀ r∈m,∃ j,r=.nt j/\0<=j/\j<l.length) (fun ρ=>∃ o,ρ=[o,some (.sh (.list (l.map rwD)))]) _ 0 [] _ _ ⟨_,rfl⟩ ⟨[],rfl,rfl,fun r hr=>nomatch hr⟩ ?_ ?_
    · rintro j y hy ρ ⟨o,rfl⟩ out ⟨m,rfl,hm,ok⟩ N1 N2 hN2
      obtain ⟨hj,rfl⟩:=d_ hy
      walk_at "q"
      have a0:=xav (0+(j:Int)) (show (l.length:Int)≠0 by lia)
      have a1:=xar (0+(j:Int)) (show (0:Int)<l.length by lia)
      refine ⟨by lia,.inl rfl,hN2 _ _ ⟨_,rfl⟩ ⟨m++[Rw.nt ((0+(j:Int)) % (l.length:Int))],(by rw [xa1]; rfl),by simp [hm],fun r hr=>?_⟩⟩
      rcases xaf.mp hr with hr | hr
      · exact ok r hr
      · rw [xa6.mp hr]; exact ⟨_,rfl,a0,a1⟩
    rintro out ⟨m,e',hm,ok⟩
    simp only [List.nil_append] at e'
    subst e'
    rw [fu] at hm
    refine ⟨by rw [xae]; lia,.inl ⟨dM l,dM m,?_⟩⟩
    rw [<- xa1,e4]
    refine tE (ScOk.nots hl ok) (by simp; lia) (by simp; lia) (fun z=>absurd e (by lia)) hp ho h
  · walk_at "q"
    rw [e4]
    exact tE hl l1 (by lia) (fun _=>by lia) hp ho h
theorem CG:∀ ds Q,sp_law ds Q->xV { nx:=fun _=>Q .sh .non,rt:=Q } (aV 8 ds):=by
  rintro ds Q ⟨ns,rfl,hl,h⟩
  obtain ⟨w3,e3⟩:∃ w,w=lK:=⟨_,rfl⟩
  unfold xV
  rw [<- e3]
  walk_at "q"
  refine ⟨ns,0,rfl,by decide,?_⟩
  generalize ns.getD _ 0=c0
  walk_at "q"
  refine ⟨ns,1,rfl,by decide,?_⟩
  generalize ns.getD _ 0=c1
  walk_at "q"
  refine ⟨ns,2,rfl,by decide,?_⟩
  generalize ns.getD _ 0=c2
  walk_at "q"
  refine ⟨c1,c2,rfl,fun pool hp ho nd=>?_⟩
  walk_at "q"
  refine .inl ⟨cF ns,ns,3,rfl,by decide,?_⟩
  generalize ns.getD _ 0=c3
  walk_at "q"
  rw [tD]
  have cl:=uy ns
  generalize cutG ns (some 7) (some 47)=cs at *
  refine ⟨by rw [xae]; lia,.inl ⟨cF cs,by lia,.inl ⟨nW pool,cs++[c3],("*" : Str) :: pool,by rw [xa1]; rfl,by simp; lia,by simp,by simp; lia,fun n hn=>?_,fun l ll ls=>?_⟩⟩⟩
  · rcases xaq.mp hn with rfl | hn
    · exact .inl rfl
    · exact .inr (ho n hn)
  walk_at "q"
  rw [e3]
  rw [xaz,List.length_singleton] at ll
  exact xQ ls (by lia) (by lia) hp ho h

end L2.Q.Law

namespace L2.Q.Law
open PySem PySem.Spec PyProof.Rows
def top (i:Nat):Stmt:=PySem.Challenge.pw_kinlook_k19_what_is_a_scroll.main.body.getD i (.Pass ⟨0,0,0,0⟩)
abbrev cU:Stmt:=top 5
abbrev kO:List Str:=["thing"]
abbrev dB:Stmt:=top 6
abbrev rM:List Str:=["thing"]
abbrev cL:Stmt:=top 15
abbrev pq:List Str:=["thing"]
abbrev cN:Stmt:=top 27
abbrev oY:List Str:=["k", "thing"]
abbrev bZ:Stmt:=top 28
abbrev ig:List Str:=["k", "thing"]
abbrev fj:Stmt:=top 29
abbrev rW:List Str:=["k", "thing"]
abbrev bY:Stmt:=top 30
abbrev ik:List Str:=["thing"]
abbrev aJ:Stmt:=top 31
abbrev eX:List Str:=["thing"]
abbrev bK:Stmt:=top 35
abbrev kh:List Str:=["m", "scroll"]
abbrev cY:Stmt:=top 36
abbrev p_:List Str:=["m", "scroll", "state"]
abbrev bC:Stmt:=top 37
abbrev jr:List Str:=["scroll", "depths", "row", "deepest"]
abbrev aN:Stmt:=top 39
abbrev fH:List Str:=["scroll", "sheet", "same", "turned", "row"]
abbrev bz:Stmt:=top 41
abbrev jb:List Str:=["_law_script", "_law_k"]
abbrev bh:Stmt:=top 42
abbrev dH:List Str:=["_law_cell", "_law_turn", "_law_letters", "_law_size", "_law_places", "_law_k", "_law_word", "_law_at", "_law_found", "_law_sign"]
abbrev cM:Stmt:=top 43
abbrev ph:List Str:=["_law_cell", "_law_k", "_law_names", "_law_number", "_law_more", "_law_j", "_law_way", "_law_parts", "_law_i"]
abbrev bw:Stmt:=top 44
abbrev fQ:List Str:=["_law_cells", "_law_names"]
abbrev bB:Stmt:=top 45
abbrev jd:List Str:=["_law_row_here", "_law_k", "_law_cell", "_law_pool", "_law_some", "_law_low"]
abbrev aW:Stmt:=top 46
abbrev gQ:List Str:=["_law_scroll_here", "_law_cell", "_law_some"]
abbrev aR:Stmt:=top 47
abbrev gG:List Str:=["_law_way", "_law_thing", "_law_state", "_law_m"]
abbrev bA:Stmt:=top 48
abbrev ji:List Str:=["_law_way", "_law_thing", "_law_state", "_law_kinds", "e", "_law_other"]
abbrev aP:Stmt:=top 49
abbrev fW:List Str:=["_law_thing", "_law_cell", "_law_k"]
abbrev jg:Stmt:=top 50
abbrev sI:List Str:=["_law_script", "_law_first", "_law_pool", "_law_scroll_here", "_law_kept", "_law_turn", "_law_at", "_law_bad"]
abbrev rn:List Str:=["NoScroll"]
structure Txt (K:PySem.W.Frag) (mg:Str->Option Value):Prop where
  n_ValueError:mg "ValueError" = none
  n_all:mg "all" = none
  n_bool:mg "bool" = none
  n_enumerate:mg "enumerate" = none
  n_int:mg "int" = none
  n_isinstance:mg "isinstance" = none
  n_len:mg "len" = none
  n_list:mg "list" = none
  n_min:mg "min" = none
  n_range:mg "range" = none
  n_str:mg "str" = none
  n_tuple:mg "tuple" = none
  g_HIDDEN:GlS mg "HIDDEN" "*"
  g_LETTERS:GlS mg "LETTERS" "abcdefghijklmnopqrstuvwxyz"
  g_MOST_LETTERS:GlI mg "MOST_LETTERS" 6
  g_MOST_ROWS:GlI mg "MOST_ROWS" 2000
  g_MOST_PARTS:GlI mg "MOST_PARTS" 200
  g_MOST_ROWS_TURNED:GlI mg "MOST_ROWS_TURNED" 1000
  x_NoScroll:XCl K mg "NoScroll"
  r_KinError:Aa K mg rn "KinError"
  i_NoState:∀ n C,n∈rn->mg n=some (.ref C)->∃ c,mg "NoState" = some (.ref c)/\PySem.W.kitOne K (.ref C) (.ref c)=some (decide (n = "NoState"))
  i_TooBig:∀ n C,n∈rn->mg n=some (.ref C)->∃ c,mg "TooBig" = some (.ref c)/\PySem.W.kitOne K (.ref C) (.ref c)=some (decide (n = "TooBig"))
  i_NoDeed:∀ n C,n∈rn->mg n=some (.ref C)->∃ c,mg "NoDeed" = some (.ref c)/\PySem.W.kitOne K (.ref C) (.ref c)=some (decide (n = "NoDeed"))
  i_NoText:∀ n C,n∈rn->mg n=some (.ref C)->∃ c,mg "NoText" = some (.ref c)/\PySem.W.kitOne K (.ref C) (.ref c)=some (decide (n = "NoText"))
  i_ValueError:∀ n C,n∈rn->mg n=some (.ref C)->PySem.W.kitOne K (.ref C) (.type "ValueError")=some true
  i_NoScroll:∀ n C,n∈rn->mg n=some (.ref C)->∃ c,mg "NoScroll" = some (.ref c)/\PySem.W.kitOne K (.ref C) (.ref c)=some (decide (n = "NoScroll"))
section
variable {P:Program} {w:World} {K:PySem.W.Frag} {mg:Str->Option Value} {base:Heap}
theorem lC:FnScope kO ["thing"] (defScope cU):=⟨rfl,rfl,rfl,by decide +kernel,rfl,by decide +kernel,by decide +kernel⟩
theorem rD {f:Addr} {fd:FuncData} (F:Fun K "is_open" "is_open" cU f fd) (T:Txt K mg)  : FnOk P w K mg base CX0 1 f fd ["thing"] (aD K cP) :=
  FunQ.ok (t:=gk) F lC pR (fun cdv A outer s H E hr =>
    have nd:=lC.nd
    have hu:=hr.units
    (ao (cD (qt_w (lU (fK (iw (oE T.n_isinstance (qv 0) (lZ T.n_str rY)))) (il (fK (qw oO oO uH uH aq (bj aL cJ rfl T.n_len cI (qv 0)) (q_gi T.g_MOST_LETTERS))))))
      (az (aY q_bl))
      aO)
      (az (aY (bj kAll uO rfl T.n_all sS (iB (tn:=["sign"]) (cn:=[]) (ix:=[]) rfl (oU (zK (qv 0))) (cQ.of (sc:=defScope cU) (N:=kO) rfl rfl (by decide +kernel)) (fun _ _ _ _=>(cB (i:=0) (show (["sign"]:List Str).Nodup by decide +kernel) rfl (Or.inl rfl) (.inr rfl))) (fun _ _ _ _=>eO) (fun _ _ _ _=>(nq (kIn (K:=K) hu) Cz (qv 0) (q_gs T.g_LETTERS) (by rfl))))))))) ue
theorem jq:FnScope pq ["thing"] (defScope cL):=⟨rfl,rfl,rfl,by decide +kernel,rfl,by decide +kernel,by decide +kernel⟩
theorem oV {f:Addr} {fd:FuncData} (F:Fun K "is_whole" "is_whole" cL f fd) (T:Txt K mg)  : FnOk P w K mg base CX0 1 f fd ["thing"] (aD K cC) :=
  FunQ.ok (t:=gU) F jq nT (fun cdv A outer s H E hr =>
    have nd:=jq.nd
    have hu:=hr.units
    (az (aY (nH (oE T.n_isinstance (qv 0) (lZ T.n_int wA)) (nO (BR (oE T.n_isinstance (qv 0) (lZ T.n_bool xK)))))))) rE
theorem eN:FnScope jb ["_law_script", "_law_k"] (defScope bz):=⟨rfl,rfl,rfl,by decide +kernel,rfl,by decide +kernel,by decide +kernel⟩
theorem jm {f:Addr} {fd:FuncData} (F:Fun K "_law_cell_at" "_law_cell_at" bz f fd) (T:Txt K mg)  : FnOk P w K mg base CX0 1 f fd ["_law_script", "_law_k"] (aD K aF) :=
  FunQ.ok (t:=dh) F eN iD (fun cdv A outer s H E hr =>
    have nd:=eN.nd
    have hu:=hr.units
    (ao (cD (bx sE xj (qv 1) (bj aL cJ rfl T.n_len cI (qv 0)) (nomark _))
      (az (aY (q_ix hu (qv 0) (qv 1))))
      aO)
      (az (aY aq)))) jT
theorem gA:FnScope dH ["_law_cell", "_law_turn"] (defScope bh):=⟨rfl,rfl,rfl,by decide +kernel,rfl,by decide +kernel,by decide +kernel⟩
theorem lE {f:Addr} {fd:FuncData} (F:Fun K "_law_deeds" "_law_deeds" bh f fd) (T:Txt K mg)  : FnOk P w K mg base CX0 1 f fd ["_law_cell", "_law_turn"] (aD K bF) :=
  FunQ.ok (t:=dW) F gA jP (fun cdv A outer s H E hr =>
    have nd:=gA.nd
    have hu:=hr.units
    (ao (aQ (i:=2) nd rfl (Or.inr rfl) aH)
      (ao (aQ (i:=3) nd rfl (Or.inl rfl) (gf aq (b8 (qv 0) aq)))
      (ao (aQ (i:=0) nd rfl (Or.inl rfl) (gj (qv 0) aq))
      (ao (aQ (i:=4) nd rfl (Or.inl rfl) (cR ak))
      (ao (qt PassesOwn.never rfl (fX T.n_range (qv 3)) (cB (i:=5) nd rfl (Or.inl rfl))
      (ao (nM (jo (pv 4)) (b8 (qv 0) aq))
      (az (aQ (i:=0) nd rfl (Or.inl rfl) (gj (qv 0) aq)))))
      (ao (aQ (i:=6) nd rfl (Or.inr rfl) (z9 aH (iB (tn:=["_law_k"]) (cn:=["_law_letters"]) (ix:=[2]) rfl (yu (qv 4)) (cQ.of (sc:=defScope bh) (N:=dH) rfl rfl (by decide +kernel)) (fun _ _ _ _=>(cB (i:=0) (show (["_law_k", "_law_letters"]:List Str).Nodup by decide +kernel) rfl (Or.inl rfl) (.inr rfl))) (fun _ _ _ _=>eO) (fun _ _ _ _=>(q_ix hu (qv 1) (qv 0))))))
      (ao (cD (bx (kEq (K:=K) hu) cW (b8 (gj (qv 1) aq) aq) aq (nomark _))
      (az (aY (iB (tn:=["_law_k"]) (cn:=["_law_word"]) (ix:=[6]) rfl (oU (w6 T.n_range aq aq)) (cQ.of (sc:=defScope bh) (N:=dH) rfl rfl (by decide +kernel)) (fun _ _ _ _=>(cB (i:=0) (show (["_law_k", "_law_word"]:List Str).Nodup by decide +kernel) rfl (Or.inl rfl) (.inr rfl))) (fun _ _ _ _=>eO) (fun _ _ _ _=>(jE (zO aq (qv 1)) lD (g8 (qv 0)))))))
      aO)
      (ao (aQ (i:=7) nd rfl (Or.inl rfl) (b8 (qv 1) (qv 3)))
      (ao (aQ (i:=8) nd rfl (Or.inl rfl) (cR ak))
      (ao (qt PassesOwn.never rfl (fX T.n_range aq) (cB (i:=5) nd rfl (Or.inl rfl))
      (ao (aQ (i:=9) nd rfl (Or.inl rfl) (q_ix hu (qv 2) (b8 (gf (q_ix hu (qv 4) (qv 7)) (rH aq (qv 5))) aq)))
      (az (nM (jo (pv 8)) (gf (gf (jE (qv 6) lD (g8 (qv 7))) (qv 9)) (jE (qv 6) (g8 (gf (qv 7) aq)) lD))))))
      (az (yh (pv 8)))))))))))))) nZ
theorem jk:FnScope ph ["_law_cell", "_law_k", "_law_names"] (defScope cM):=⟨rfl,rfl,rfl,by decide +kernel,rfl,by decide +kernel,by decide +kernel⟩
theorem pL {f:Addr} {fd:FuncData} (F:Fun K "_law_row" "_law_row" cM f fd) (T:Txt K mg)  : FnOk P w K mg base CX0 1 f fd ["_law_cell", "_law_k", "_law_names"] (aD K cA) :=
  FunQ.ok (t:=gP) F jk oR (fun cdv A outer s H E hr =>
    have nd:=jk.nd
    have hu:=hr.units
    (ao (aQ (i:=3) nd rfl (Or.inl rfl) (b8 (rH (gf (b8 (qv 0) aq) aq) (gf aq (rH aq (qv 1)))) aq))
      (ao (aQ (i:=4) nd rfl (Or.inl rfl) (b8 (rH (qv 3) aq) aq))
      (ao (cD (bx (kEq (K:=K) hu) cW (qv 1) aq (nomark _))
      (az (aY (q_ix hu (cR (aa (aK (aa aH (aa (aK ak) ak))) (aa (aK (aa aH (aa (aK ak) ak))) ak))) (b8 (qv 3) aq))))
      aO)
      (ao (aQ (i:=5) nd rfl (Or.inl rfl) (b8 (qv 4) (qv 1)))
      (ao (cD (bx (kEq (K:=K) hu) cW (b8 (gj (qv 3) aq) aq) aq (nomark _))
      (az (aQ (i:=5) nd rfl (Or.inl rfl) (pH (pH (qv 1) aq) (b8 (qv 4) (ym zR yE rfl T.n_min z_ (qv 1) aq)))))
      aO)
      (ao (aQ (i:=6) nd rfl (Or.inl rfl) (b8 (qv 3) aq))
      (ao (cD (bx sE xj (qv 6) aq (nomark _))
      (az (uK (qm_e (q_ix hu (cR (aa aH (aa aH ak))) (gj (qv 6) aq)) (qm_e (q_ix hu (qv 2) (b8 (gj (qv 3) aq) (bj aL cJ rfl T.n_len cI (qv 2)))) (qm_v (pv 5) wO)))))
      aO)
      (ao (cD (bx (kEq (K:=K) hu) cW (qv 6) aq (nomark _))
      (az (uK (qm_e aH (qm_v (pv 5) wO))))
      aO)
      (ao (aQ (i:=7) nd rfl (Or.inl rfl) (cR ak))
      (ao (qt PassesOwn.never rfl (fX T.n_range (b8 (gj (qv 3) aq) aq)) (cB (i:=8) nd rfl (Or.inl rfl))
      (ao (oJ 5 (nM (jo (pv 7)) (qv 5)))
      (az (aQ (i:=5) nd rfl (Or.inl rfl) (b8 (gf (rH aq (qv 5)) (gj (qv 4) (gf (qv 8) aq))) (qv 1))))))
      (az (aY (aK (aa (q_ix hu (cR (aa aH (aa aH ak))) (pH (qv 6) aq)) (aa (dD qe iQ rfl T.n_tuple fc (qv 7)) ak)))))))))))))))) q_
theorem dY:FnScope jd ["_law_row_here", "_law_k", "_law_cell", "_law_pool"] (defScope bB):=⟨rfl,rfl,rfl,by decide +kernel,rfl,by decide +kernel,by decide +kernel⟩
theorem jx {f:Addr} {fd:FuncData} (F:Fun K "_law_bad_row" "_law_bad_row" bB f fd) (T:Txt K mg)  : FnOk P w K mg base CX0 1 f fd ["_law_row_here", "_law_k", "_law_cell", "_law_pool"] (aD K bf) :=
  FunQ.ok (t:=cZ) F dY iH (fun cdv A outer s H E hr =>
    have nd:=dY.nd
    have hu:=hr.units
    (by (refine ao ?_ ?_); (with_reducible refine oJ 1 ?_); (with_reducible refine aQ (i:=4) ?_ ?_ ?_ ?_ ?_ ?_); (exact nd); (rfl); (exact Or.inl rfl); (with_reducible refine cR ?_); (with_reducible refine aa ?_ ?_ ?_); (exact (dD gK pM rfl T.n_list lW (qv 0))); (with_reducible refine aa ?_ ?_ ?_); (with_reducible refine aK ?_); (with_reducible refine aa ?_ ?_ ?_); (exact aH); (with_reducible refine aa ?_ ?_ ?_); (exact (zc (q_ix hu (qv 3) aq))); (with_reducible refine aa ?_ ?_ ?_); (exact aq); (exact ak); (rfl); (rfl); (rfl); (with_reducible refine aa ?_ ?_ ?_); (with_reducible refine aK ?_); (with_reducible refine aa ?_ ?_ ?_); (exact aH); (with_reducible refine aa ?_ ?_ ?_); (exact (q_ix hu (qv 3) aq)); (with_reducible refine aa ?_ ?_ ?_); (exact (qv 1)); (exact ak); (rfl); (rfl); (rfl); (with_reducible refine aa ?_ ?_ ?_); (with_reducible refine aK ?_); (with_reducible refine aa ?_ ?_ ?_); (exact aH); (with_reducible refine aa ?_ ?_ ?_); (exact (qv 1)); (exact ak); (rfl); (rfl); (with_reducible refine aa ?_ ?_ ?_); (with_reducible refine aK ?_); (with_reducible refine aa ?_ ?_ ?_); (exact aH); (with_reducible refine aa ?_ ?_ ?_); (exact (v_ aq)); (exact ak); (rfl); (rfl); (with_reducible refine aa ?_ ?_ ?_); (with_reducible refine aK ?_); (with_reducible refine aa ?_ ?_ ?_); (exact aH); (with_reducible refine aa ?_ ?_ ?_); (with_reducible refine aK ?_); (with_reducible refine aa ?_ ?_ ?_); (exact (qv 1)); (exact ak); (rfl); (exact ak); (rfl); (rfl); (exact ak); (rfl); (rfl); (rfl); (rfl); (rfl); (rfl); (rfl); (first | exact .inl rfl | exact .inr rfl); (exact (by (refine ao ?_ ?_); (with_reducible refine gn (i:=4) ?_ ?_ ?_ ?_ ?_ ?_ ?_ ?_); (exact nd); (rfl); (exact Or.inl rfl); (exact (pv 4)); (with_reducible refine cR ?_); (with_reducible refine aa ?_ ?_ ?_); (with_reducible refine aK ?_); (with_reducible refine aa ?_ ?_ ?_); (exact aH); (with_reducible refine aa ?_ ?_ ?_); (with_reducible refine aK ?_); (with_reducible refine aa ?_ ?_ ?_); (exact aq); (with_reducible refine aa ?_ ?_ ?_); (exact (gf (qv 1) aq)); (with_reducible refine aa ?_ ?_ ?_); (exact aq); (exact ak); (rfl); (rfl); (rfl); (exact ak); (rfl); (rfl); (with_reducible refine aa ?_ ?_ ?_); (with_reducible refine aK ?_); (with_reducible refine aa ?_ ?_ ?_); (exact aH); (with_reducible refine aa ?_ ?_ ?_); (with_reducible refine cR ?_); (exact ak); (exact ak); (rfl); (rfl); (with_reducible refine aa ?_ ?_ ?_); (with_reducible refine aK ?_); (with_reducible refine aa ?_ ?_ ?_); (exact aH); (with_reducible refine aa ?_ ?_ ?_); (exact (q_ix hu (qv 3) aq)); (with_reducible refine aa ?_ ?_ ?_); (exact q_bl); (exact ak); (rfl); (rfl); (rfl); (with_reducible refine aa ?_ ?_ ?_); (with_reducible refine aK ?_); (with_reducible refine aa ?_ ?_ ?_); (exact aH); (with_reducible refine aa ?_ ?_ ?_); (with_reducible refine aK ?_); (exact ak); (exact ak); (rfl); (rfl); (with_reducible refine aa ?_ ?_ ?_); (with_reducible refine aK ?_); (with_reducible refine aa ?_ ?_ ?_); (exact aH); (with_reducible refine aa ?_ ?_ ?_); (exact (q_ix hu (qv 3) aq)); (with_reducible refine aa ?_ ?_ ?_); (exact aq); (exact ak); (rfl); (rfl); (rfl); (exact ak); (rfl); (rfl); (rfl); (rfl); (rfl); (rfl); (rfl); (first | exact .inl rfl | exact .inr rfl); (exact (by (refine ao ?_ ?_); (with_reducible refine gn (i:=4) ?_ ?_ ?_ ?_ ?_ ?_ ?_ ?_); (exact nd); (rfl); (exact Or.inl rfl); (exact (pv 4)); (with_reducible refine cR ?_); (with_reducible refine aa ?_ ?_ ?_); (with_reducible refine aK ?_); (with_reducible refine aa ?_ ?_ ?_); (exact aH); (exact ak); (rfl); (with_reducible refine aa ?_ ?_ ?_); (with_reducible refine aK ?_); (with_reducible refine aa ?_ ?_ ?_); (exact aH); (with_reducible refine aa ?_ ?_ ?_); (with_reducible refine aK ?_); (exact ak); (with_reducible refine aa ?_ ?_ ?_); (with_reducible refine aK ?_); (exact ak); (exact ak); (rfl); (rfl); (rfl); (with_reducible refine aa ?_ ?_ ?_); (with_reducible refine aK ?_); (with_reducible refine aa ?_ ?_ ?_); (exact aH); (with_reducible refine aa ?_ ?_ ?_); (exact aq); (with_reducible refine aa ?_ ?_ ?_); (exact aq); (exact ak); (rfl); (rfl); (rfl); (with_reducible refine aa ?_ ?_ ?_); (with_reducible refine aK ?_); (with_reducible refine aa ?_ ?_ ?_); (exact aH); (with_reducible refine aa ?_ ?_ ?_); (exact (q_ix hu (qv 3) aq)); (exact ak); (rfl); (rfl); (with_reducible refine aa ?_ ?_ ?_); (with_reducible refine aK ?_); (with_reducible refine aa ?_ ?_ ?_); (exact aH); (with_reducible refine aa ?_ ?_ ?_); (exact (q_ix hu (qv 3) aq)); (with_reducible refine aa ?_ ?_ ?_); (exact aq); (with_reducible refine aa ?_ ?_ ?_); (exact aq); (exact ak); (rfl); (rfl); (rfl); (rfl); (with_reducible refine aa ?_ ?_ ?_); (exact vC); (with_reducible refine aa ?_ ?_ ?_); (exact aH); (exact ak); (rfl); (rfl); (rfl); (rfl); (rfl); (rfl); (rfl); (rfl); (rfl); (first | exact .inl rfl | exact .inr rfl); (exact (by (refine ao ?_ ?_); (with_reducible refine gn (i:=4) ?_ ?_ ?_ ?_ ?_ ?_ ?_ ?_); (exact nd); (rfl); (exact Or.inl rfl); (exact (pv 4)); (with_reducible refine cR ?_); (with_reducible refine aa ?_ ?_ ?_); (with_reducible refine aK ?_); (exact ak); (with_reducible refine aa ?_ ?_ ?_); (with_reducible refine aK ?_); (with_reducible refine aa ?_ ?_ ?_); (exact aH); (with_reducible refine aa ?_ ?_ ?_); (with_reducible refine dD (qe ?_) iQ ?_ ?_ ?_ ?_ ?_ ?_ ?_); (rfl); (rfl); (exact T.n_tuple); (exact fc); (with_reducible refine wH ?_ ?_ ?_); (with_reducible refine cR ?_); (with_reducible refine aa ?_ ?_ ?_); (exact aq); (exact ak); (rfl); (exact aq); (rfl); (rfl); (decide); (decide); (exact ak); (rfl); (rfl); (with_reducible refine aa ?_ ?_ ?_); (with_reducible refine aK ?_); (with_reducible refine aa ?_ ?_ ?_); (exact aH); (with_reducible refine aa ?_ ?_ ?_); (exact aH); (with_reducible refine aa ?_ ?_ ?_); (exact aH); (exact ak); (rfl); (rfl); (rfl); (with_reducible refine aa ?_ ?_ ?_); (with_reducible refine aK ?_); (with_reducible refine aa ?_ ?_ ?_); (exact aH); (with_reducible refine aa ?_ ?_ ?_); (exact vC); (exact ak); (rfl); (rfl); (with_reducible refine aa ?_ ?_ ?_); (with_reducible refine aK ?_); (with_reducible refine aa ?_ ?_ ?_); (exact aq); (with_reducible refine aa ?_ ?_ ?_); (exact aH); (with_reducible refine aa ?_ ?_ ?_); (with_reducible refine aK ?_); (exact ak); (exact ak); (rfl); (rfl); (rfl); (with_reducible refine aa ?_ ?_ ?_); (with_reducible refine aK ?_); (with_reducible refine aa ?_ ?_ ?_); (exact aH); (with_reducible refine aa ?_ ?_ ?_); (exact aq); (exact ak); (rfl); (rfl); (exact ak); (rfl); (rfl); (rfl); (rfl); (rfl); (rfl); (rfl); (rfl); (first | exact .inl rfl | exact .inr rfl); (exact (by (refine ao ?_ ?_); (with_reducible refine gn (i:=4) ?_ ?_ ?_ ?_ ?_ ?_ ?_ ?_); (exact nd); (rfl); (exact Or.inl rfl); (exact (pv 4)); (with_reducible refine cR ?_); (with_reducible refine aa ?_ ?_ ?_); (with_reducible refine aK ?_); (with_reducible refine aa ?_ ?_ ?_); (exact aH); (with_reducible refine aa ?_ ?_ ?_); (with_reducible refine aK ?_); (with_reducible refine aa ?_ ?_ ?_); (exact q_bl); (exact ak); (rfl); (exact ak); (rfl); (rfl); (with_reducible refine aa ?_ ?_ ?_); (with_reducible refine aK ?_); (with_reducible refine aa ?_ ?_ ?_); (exact aH); (with_reducible refine aa ?_ ?_ ?_); (exact q_bl); (exact ak); (rfl); (rfl); (with_reducible refine aa ?_ ?_ ?_); (with_reducible refine aK ?_); (with_reducible refine aa ?_ ?_ ?_); (exact aH); (with_reducible refine aa ?_ ?_ ?_); (exact vC); (with_reducible refine aa ?_ ?_ ?_); (exact aq); (exact ak); (rfl); (rfl); (rfl); (with_reducible refine aa ?_ ?_ ?_); (with_reducible refine aK ?_); (with_reducible refine aa ?_ ?_ ?_); (exact aH); (with_reducible refine aa ?_ ?_ ?_); (exact aH); (with_reducible refine aa ?_ ?_ ?_); (exact aq); (exact ak); (rfl); (rfl); (rfl); (with_reducible refine aa ?_ ?_ ?_); (with_reducible refine aK ?_); (with_reducible refine aa ?_ ?_ ?_); (exact aH); (with_reducible refine aa ?_ ?_ ?_); (exact aH); (exact ak); (rfl); (rfl); (with_reducible refine aa ?_ ?_ ?_); (with_reducible refine aK ?_); (with_reducible refine aa ?_ ?_ ?_); (exact aH); (exact ak); (rfl); (exact ak); (rfl); (rfl); (rfl); (rfl); (rfl); (rfl); (rfl); (rfl); (first | exact .inl rfl | exact .inr rfl); (exact (ao (aQ (i:=5) nd rfl (Or.inl rfl) (pH (v_ aq) (rH (b8 (gj (qv 2) aq) (Ae aq aq)) (b8 (gj (qv 2) aq) aq))))
      (by (refine ao ?_ ?_); (with_reducible refine oJ 5 ?_); (with_reducible refine gn (i:=4) ?_ ?_ ?_ ?_ ?_ ?_ ?_ ?_); (exact nd); (rfl); (exact Or.inl rfl); (exact (pv 4)); (with_reducible refine cR ?_); (with_reducible refine aa ?_ ?_ ?_); (with_reducible refine aK ?_); (with_reducible refine aa ?_ ?_ ?_); (exact aH); (with_reducible refine aa ?_ ?_ ?_); (exact (q_ix hu (qv 3) aq)); (with_reducible refine aa ?_ ?_ ?_); (exact (qv 5)); (exact ak); (rfl); (rfl); (rfl); (with_reducible refine aa ?_ ?_ ?_); (with_reducible refine aK ?_); (with_reducible refine aa ?_ ?_ ?_); (exact aH); (with_reducible refine aa ?_ ?_ ?_); (exact aH); (with_reducible refine aa ?_ ?_ ?_); (exact (qv 5)); (exact ak); (rfl); (rfl); (rfl); (with_reducible refine aa ?_ ?_ ?_); (with_reducible refine aK ?_); (with_reducible refine aa ?_ ?_ ?_); (exact aH); (with_reducible refine aa ?_ ?_ ?_); (with_reducible refine aK ?_); (with_reducible refine aa ?_ ?_ ?_); (exact (qv 5)); (exact ak); (rfl); (exact ak); (rfl); (rfl); (with_reducible refine aa ?_ ?_ ?_); (with_reducible refine aK ?_); (with_reducible refine aa ?_ ?_ ?_); (exact aH); (with_reducible refine aa ?_ ?_ ?_); (with_reducible refine aK ?_); (with_reducible refine aa ?_ ?_ ?_); (exact aq); (with_reducible refine aa ?_ ?_ ?_); (exact (qv 5)); (exact ak); (rfl); (rfl); (exact ak); (rfl); (rfl); (with_reducible refine aa ?_ ?_ ?_); (with_reducible refine aK ?_); (with_reducible refine aa ?_ ?_ ?_); (exact aH); (with_reducible refine aa ?_ ?_ ?_); (with_reducible refine aK ?_); (with_reducible refine aa ?_ ?_ ?_); (exact (qv 5)); (with_reducible refine aa ?_ ?_ ?_); (exact aq); (exact ak); (rfl); (rfl); (exact ak); (rfl); (rfl); (exact ak); (rfl); (rfl); (rfl); (rfl); (rfl); (rfl); (rfl); (first | exact .inl rfl | exact .inr rfl); (exact (by (refine az ?_); (refine oJ 5 ?_); (with_reducible refine pO ?_ ?_ ?_ ?_ ?_); (exact (pv 4)); (with_reducible refine cR ?_); (with_reducible refine aa ?_ ?_ ?_); (with_reducible refine aK ?_); (with_reducible refine aa ?_ ?_ ?_); (exact aH); (with_reducible refine aa ?_ ?_ ?_); (exact (qv 5)); (exact ak); (rfl); (rfl); (exact ak); (rfl); (exact (b8 (qv 2) aq)); (exact fun _ _=>rfl); (rfl)))))))))))))))) jW
theorem dw:FnScope gQ ["_law_scroll_here", "_law_cell"] (defScope aW):=⟨rfl,rfl,rfl,by decide +kernel,rfl,by decide +kernel,by decide +kernel⟩
theorem gH {f:Addr} {fd:FuncData} (F:Fun K "_law_bad_whole" "_law_bad_whole" aW f fd) (T:Txt K mg)  : FnOk P w K mg base CX0 1 f fd ["_law_scroll_here", "_law_cell"] (aD K aU) :=
  FunQ.ok (t:=cH) F dw gq (fun cdv A outer s H E hr =>
    have nd:=dw.nd
    have hu:=hr.units
    (by (refine ao ?_ ?_); (with_reducible refine aQ (i:=2) ?_ ?_ ?_ ?_ ?_ ?_); (exact nd); (rfl); (exact Or.inl rfl); (with_reducible refine cR ?_); (with_reducible refine aa ?_ ?_ ?_); (with_reducible refine cR ?_); (exact ak); (with_reducible refine aa ?_ ?_ ?_); (exact (dD qe iQ rfl T.n_tuple fc (qv 0))); (with_reducible refine aa ?_ ?_ ?_); (exact vC); (with_reducible refine aa ?_ ?_ ?_); (exact aH); (with_reducible refine aa ?_ ?_ ?_); (exact aq); (with_reducible refine aa ?_ ?_ ?_); (exact q_bl); (with_reducible refine aa ?_ ?_ ?_); (exact yI); (with_reducible refine aa ?_ ?_ ?_); (with_reducible refine wH ?_ ?_ ?_); (with_reducible refine cR ?_); (with_reducible refine aa ?_ ?_ ?_); (with_reducible refine aK ?_); (with_reducible refine aa ?_ ?_ ?_); (exact aH); (with_reducible refine aa ?_ ?_ ?_); (with_reducible refine aK ?_); (exact ak); (exact ak); (rfl); (rfl); (exact ak); (rfl); (exact aq); (rfl); (exact ak); (rfl); (rfl); (rfl); (rfl); (rfl); (rfl); (rfl); (rfl); (rfl); (first | exact .inl rfl | exact .inr rfl); (exact (az (wz (pv 2) (b8 (qv 1) aq)))))) iC
theorem kI:FnScope rM ["thing"] (defScope dB):=⟨rfl,rfl,rfl,by decide +kernel,rfl,by decide +kernel,by decide +kernel⟩
theorem qX {f:Addr} {fd:FuncData} (F:Fun K "is_deed" "is_deed" dB f fd) (T:Txt K mg) (c_is_open:Cal P w K mg base 1 "is_open" ["thing"] (aD K cP)):FnOk P w K mg base CX0 2 f fd ["thing"] (aD K cO) :=
  FunQ.ok (t:=gh) F kI oW (fun cdv A outer s H E hr =>
    have nd:=kI.nd
    have hu:=hr.units
    (az (aY (q_or (b_ c_is_open (hr.mono (by decide)) (aa (qv 0) ak)) (nO (nH (oE T.n_isinstance (qv 0) (lZ T.n_str rY)) (nO (nq (kEq (K:=K) hu) cW (qv 0) (q_gs T.g_HIDDEN) (nomark _))))))))) uD
theorem jH:FnScope oY ["k", "thing"] (defScope cN):=⟨rfl,rfl,rfl,by decide +kernel,rfl,by decide +kernel,by decide +kernel⟩
theorem o_ {f:Addr} {fd:FuncData} (F:Fun K "is_ahead" "is_ahead" cN f fd) (T:Txt K mg) (c_is_whole:Cal P w K mg base 1 "is_whole" ["thing"] (aD K cC)):FnOk P w K mg base CX0 2 f fd ["k", "thing"] (aD K bu) :=
  FunQ.ok (t:=gY) F jH m_ (fun cdv A outer s H E hr =>
    have nd:=jH.nd
    have hu:=hr.units
    (az (aY (nH (b_ c_is_whole (hr.mono (by decide)) (aa (qv 1) ak)) (nO (xR oO sE uH xj aq (qv 1) (qv 0))))))) rN
theorem fJ:FnScope fQ ["_law_cells", "_law_names"] (defScope bw):=⟨rfl,rfl,rfl,by decide +kernel,rfl,by decide +kernel,by decide +kernel⟩
theorem jN {f:Addr} {fd:FuncData} (F:Fun K "_law_scroll" "_law_scroll" bw f fd) (T:Txt K mg) (c__law_row:Cal P w K mg base 1 "_law_row" ["_law_cell", "_law_k", "_law_names"] (aD K cA)):FnOk P w K mg base CX0 2 f fd ["_law_cells", "_law_names"] (aD K bD) :=
  FunQ.ok (t:=dG) F fJ jf (fun cdv A outer s H E hr =>
    have nd:=fJ.nd
    have hu:=hr.units
    (az (aY (iB (tn:=["_law_k"]) (cn:=["_law_cells", "_law_names"]) (ix:=[0,1]) rfl (oU (fX T.n_range (bj aL cJ rfl T.n_len cI (qv 0)))) (cQ.of (sc:=defScope bw) (N:=fQ) rfl rfl (by decide +kernel)) (fun _ _ _ _=>(cB (i:=0) (show (["_law_k", "_law_cells", "_law_names"]:List Str).Nodup by decide +kernel) rfl (Or.inl rfl) (.inr rfl))) (fun _ _ _ _=>eO) (fun _ _ _ _=>(b_ c__law_row (hr.mono (by decide)) (aa (q_ix hu (qv 1) (qv 0)) (aa (qv 0) (aa (qv 2) ak))))))))) mD
theorem iu:FnScope ig ["k", "thing"] (defScope bZ):=⟨rfl,rfl,rfl,by decide +kernel,rfl,by decide +kernel,by decide +kernel⟩
theorem oK {f:Addr} {fd:FuncData} (F:Fun K "are_parts" "are_parts" bZ f fd) (T:Txt K mg) (c_is_ahead:Cal P w K mg base 2 "is_ahead" ["k", "thing"] (aD K bu)):FnOk P w K mg base CX0 3 f fd ["k", "thing"] (aD K b7) :=
  FunQ.ok (t:=fV) F iu lR (fun cdv A outer s H E hr =>
    have nd:=iu.nd
    have hu:=hr.units
    (ao (cD (qt_w (lU (fK (iw (oE T.n_isinstance (qv 1) (lZ T.n_tuple fc)))) (il (bx Am Bv (bj aL cJ rfl T.n_len cI (qv 1)) (q_gi T.g_MOST_PARTS) (nomark _)))))
      (az (aY q_bl))
      aO)
      (az (aY (bj kAll uO rfl T.n_all sS (iB (tn:=["part"]) (cn:=["k"]) (ix:=[0]) rfl (zP (qv 1)) (cQ.of (sc:=defScope bZ) (N:=ig) rfl rfl (by decide +kernel)) (fun _ _ _ _=>(cB (i:=0) (show (["part", "k"]:List Str).Nodup by decide +kernel) rfl (Or.inl rfl) (.inr rfl))) (fun _ _ _ _=>eO) (fun _ _ _ _=>(b_ c_is_ahead (hr.mono (by decide)) (aa (qv 1) (aa (qv 0) ak)))))))))) pG
theorem nJ:FnScope rW ["k", "thing"] (defScope fj):=⟨rfl,rfl,rfl,by decide +kernel,rfl,by decide +kernel,by decide +kernel⟩
theorem tM {f:Addr} {fd:FuncData} (F:Fun K "is_row" "is_row" fj f fd) (T:Txt K mg) (c_is_deed:Cal P w K mg base 2 "is_deed" ["thing"] (aD K cO)) (c_is_ahead:Cal P w K mg base 2 "is_ahead" ["k", "thing"] (aD K bu)) (c_are_parts:Cal P w K mg base 3 "are_parts" ["k", "thing"] (aD K b7)):FnOk P w K mg base CX0 4 f fd ["k", "thing"] (aD K dq) :=
  FunQ.ok (t:=lH) F nJ qW (fun cdv A outer s H E hr =>
    have nd:=nJ.nd
    have hu:=hr.units
    (ao (cD (qt_w (lU (fK (iw (oE T.n_isinstance (qv 1) (lZ T.n_tuple fc)))) (lU (bx (kEq (K:=K) hu) cW (bj aL cJ rfl T.n_len cI (qv 1)) aq (nomark _)) (il (fK (iw (oE T.n_isinstance (q_ix hu (qv 1) aq) (lZ T.n_str rY))))))))
      (az (aY q_bl))
      aO)
      (ao (cD (qt_w (lU (bx (kEq (K:=K) hu) cW (q_ix hu (qv 1) aq) aH (nomark _)) (il (bx (kEq (K:=K) hu) cW (q_ix hu (qv 1) aq) aH (nomark _)))))
      (az (aY (nH (nq (kEq (K:=K) hu) cW (bj aL cJ rfl T.n_len cI (qv 1)) aq (nomark _)) (nH (b_ c_is_deed (hr.mono (by decide)) (aa (q_ix hu (qv 1) aq) ak)) (nO (b_ c_is_ahead (hr.mono (by decide)) (aa (qv 0) (aa (q_ix hu (qv 1) aq) ak))))))))
      aO)
      (ao (cD (bx (kEq (K:=K) hu) cW (q_ix hu (qv 1) aq) aH (nomark _))
      (az (aY (nH (nq (kEq (K:=K) hu) cW (bj aL cJ rfl T.n_len cI (qv 1)) aq (nomark _)) (nO (b_ c_is_ahead (hr.mono (by decide)) (aa (qv 0) (aa (q_ix hu (qv 1) aq) ak)))))))
      aO)
      (ao (cD (qt_w (lU (bx (kEq (K:=K) hu) cW (q_ix hu (qv 1) aq) aH (nomark _)) (il (bx (kEq (K:=K) hu) cW (q_ix hu (qv 1) aq) aH (nomark _)))))
      (az (aY (nH (nq (kEq (K:=K) hu) cW (bj aL cJ rfl T.n_len cI (qv 1)) aq (nomark _)) (nO (b_ c_are_parts (hr.mono (by decide)) (aa (qv 0) (aa (q_ix hu (qv 1) aq) ak)))))))
      aO)
      (az (aY q_bl))))))) uW
theorem ir:FnScope ik ["thing"] (defScope bY):=⟨rfl,rfl,rfl,by decide +kernel,rfl,by decide +kernel,by decide +kernel⟩
theorem ou {f:Addr} {fd:FuncData} (F:Fun K "is_scroll" "is_scroll" bY f fd) (T:Txt K mg) (c_is_row:Cal P w K mg base 4 "is_row" ["k", "thing"] (aD K dq)):FnOk P w K mg base CX0 5 f fd ["thing"] (aD K aG) :=
  FunQ.ok (t:=fU) F ir mX (fun cdv A outer s H E hr =>
    have nd:=ir.nd
    have hu:=hr.units
    (ao (cD (qt_w (lU (fK (iw (oE T.n_isinstance (qv 0) (lZ T.n_list lW)))) (il (fK (qw oO oO uH uH aq (bj aL cJ rfl T.n_len cI (qv 0)) (q_gi T.g_MOST_ROWS))))))
      (az (aY q_bl))
      aO)
      (az (aY (bj kAll uO rfl T.n_all sS (iB (tn:=["k", "row"]) (cn:=[]) (ix:=[]) rfl (yF T.n_enumerate (qv 0)) (cQ.of (sc:=defScope bY) (N:=ik) rfl rfl (by decide +kernel)) (fun _ _ _ _=>(zX rfl (pY (cB (i:=0) (show (["k", "row"]:List Str).Nodup by decide +kernel) rfl (Or.inl rfl) (.inr rfl)) (pY (cB (i:=1) (show (["k", "row"]:List Str).Nodup by decide +kernel) rfl (Or.inl rfl) (.inr rfl)) ye)))) (fun _ _ _ _=>eO) (fun _ _ _ _=>(b_ c_is_row (hr.mono (by decide)) (aa (qv 0) (aa (qv 1) ak)))))))))) oZ
theorem eG:FnScope eX ["thing"] (defScope aJ):=⟨rfl,rfl,rfl,by decide +kernel,rfl,by decide +kernel,by decide +kernel⟩
theorem jX {f:Addr} (T:Txt K mg) (c_is_scroll:Cal P w K mg base 5 "is_scroll" ["thing"] (aD K aG)) (cdv:Value) (A:Around) (outer:List PySem.Env) (s:Shared) (H:Hp) (E:XK) (hr:Room 5 (A.deeper (envOfC "check_scroll" (defScope aJ) s.heap.objs.size f cdv))) :
    QSs (cxOf (CXx P w mg rn) P w K mg base eX "check_scroll" (defScope aJ) f cdv A outer s H E) K (LX rn mg E) (defBody aJ) dg :=
  have nd:=eG.nd
  have hu:(A.deeper (envOfC "check_scroll" (defScope aJ) s.heap.objs.size f cdv)).units+64<cLine:=hr.units
  (az (cD (fK (iw (b_ c_is_scroll (hr.mono (by decide)) (aa (qv 0) ak))))
      (az (vM rfl zW T.x_NoScroll (.head _) aH))
      aO))
theorem i_ {f:Addr} {fd:FuncData} (F:Fun K "check_scroll" "check_scroll" aJ f fd) (T:Txt K mg) (c_is_scroll:Cal P w K mg base 5 "is_scroll" ["thing"] (aD K aG)):FnOk P w K mg base (CXx P w mg rn) 6 f fd ["thing"] (cj K rn mg au) :=
  FunX.ok F eG iI (jX T c_is_scroll) jR
theorem kZ:FnScope kh ["m", "scroll"] (defScope bK):=⟨rfl,rfl,rfl,by decide +kernel,rfl,by decide +kernel,by decide +kernel⟩
theorem uJ {f:Addr} (T:Txt K mg) (c_check_scroll:CalX P w K mg base rn 6 "check_scroll" ["thing"] au) (cdv:Value) (A:Around) (outer:List PySem.Env) (s:Shared) (H:Hp) (E:XK) (hr:Room 6 (A.deeper (envOfC "held_at" (defScope bK) s.heap.objs.size f cdv))) :
    QSs (cxOf (CXx P w mg rn) P w K mg base kh "held_at" (defScope bK) f cdv A outer s H E) K (LX rn mg E) (defBody bK) jG :=
  have nd:=kZ.nd
  have hu:(A.deeper (envOfC "held_at" (defScope bK) s.heap.objs.size f cdv)).units+64<cLine:=hr.units
  (ao (iR c_check_scroll (hr.mono (by decide)) oH (aa (qv 1) ak))
      gw)
theorem qY {f:Addr} {fd:FuncData} (F:Fun K "held_at" "held_at" bK f fd) (T:Txt K mg) (c_check_scroll:CalX P w K mg base rn 6 "check_scroll" ["thing"] au):FnOk P w K mg base (CXx P w mg rn) 7 f fd ["m", "scroll"] (cj K rn mg cz) :=
  FunX.ok F kZ pN (uJ T c_check_scroll) uv
theorem qi:FnScope p_ ["m", "scroll", "state"] (defScope cY):=⟨rfl,rfl,rfl,by decide +kernel,rfl,by decide +kernel,by decide +kernel⟩
theorem zm {f:Addr} (T:Txt K mg) (c_check_scroll:CalX P w K mg base rn 6 "check_scroll" ["thing"] au) (cdv:Value) (A:Around) (outer:List PySem.Env) (s:Shared) (H:Hp) (E:XK) (hr:Room 6 (A.deeper (envOfC "holds" (defScope cY) s.heap.objs.size f cdv))) :
    QSs (cxOf (CXx P w mg rn) P w K mg base p_ "holds" (defScope cY) f cdv A outer s H E) K (LX rn mg E) (defBody cY) pA :=
  have nd:=qi.nd
  have hu:(A.deeper (envOfC "holds" (defScope cY) s.heap.objs.size f cdv)).units+64<cLine:=hr.units
  (ao (iR c_check_scroll (hr.mono (by decide)) oH (aa (qv 1) ak))
      gw)
theorem vp {f:Addr} {fd:FuncData} (F:Fun K "holds" "holds" cY f fd) (T:Txt K mg) (c_check_scroll:CalX P w K mg base rn 6 "check_scroll" ["thing"] au):FnOk P w K mg base (CXx P w mg rn) 7 f fd ["m", "scroll", "state"] (cj K rn mg dO) :=
  FunX.ok F qi uA (zm T c_check_scroll) x_
theorem iY:FnScope jr ["scroll"] (defScope bC):=⟨rfl,rfl,rfl,by decide +kernel,rfl,by decide +kernel,by decide +kernel⟩
theorem rA {f:Addr} (T:Txt K mg) (c_check_scroll:CalX P w K mg base rn 6 "check_scroll" ["thing"] au) (cdv:Value) (A:Around) (outer:List PySem.Env) (s:Shared) (H:Hp) (E:XK) (hr:Room 6 (A.deeper (envOfC "depth_of" (defScope bC) s.heap.objs.size f cdv))) :
    QSs (cxOf (CXx P w mg rn) P w K mg base jr "depth_of" (defScope bC) f cdv A outer s H E) K (LX rn mg E) (defBody bC) g_ :=
  have nd:=iY.nd
  have hu:(A.deeper (envOfC "depth_of" (defScope bC) s.heap.objs.size f cdv)).units+64<cLine:=hr.units
  (ao (iR c_check_scroll (hr.mono (by decide)) oH (aa (qv 0) ak))
      gw)
theorem pB {f:Addr} {fd:FuncData} (F:Fun K "depth_of" "depth_of" bC f fd) (T:Txt K mg) (c_check_scroll:CalX P w K mg base rn 6 "check_scroll" ["thing"] au):FnOk P w K mg base (CXx P w mg rn) 7 f fd ["scroll"] (cj K rn mg bW) :=
  FunX.ok F iY oh (rA T c_check_scroll) rK
theorem fO:FnScope fH ["scroll"] (defScope aN):=⟨rfl,rfl,rfl,by decide +kernel,rfl,by decide +kernel,by decide +kernel⟩
theorem mH {f:Addr} (T:Txt K mg) (c_check_scroll:CalX P w K mg base rn 6 "check_scroll" ["thing"] au) (cdv:Value) (A:Around) (outer:List PySem.Env) (s:Shared) (H:Hp) (E:XK) (hr:Room 6 (A.deeper (envOfC "without_not" (defScope aN) s.heap.objs.size f cdv))) :
    QSs (cxOf (CXx P w mg rn) P w K mg base fH "without_not" (defScope aN) f cdv A outer s H E) K (LX rn mg E) (defBody aN) dJ :=
  have nd:=fO.nd
  have hu:(A.deeper (envOfC "without_not" (defScope aN) s.heap.objs.size f cdv)).units+64<cLine:=hr.units
  (ao (iR c_check_scroll (hr.mono (by decide)) oH (aa (qv 0) ak))
      gw)
theorem jY {f:Addr} {fd:FuncData} (F:Fun K "without_not" "without_not" aN f fd) (T:Txt K mg) (c_check_scroll:CalX P w K mg base rn 6 "check_scroll" ["thing"] au):FnOk P w K mg base (CXx P w mg rn) 7 f fd ["scroll"] (cj K rn mg aX) :=
  FunX.ok F fO jJ (mH T c_check_scroll) mJ
theorem fZ:FnScope gG ["_law_way", "_law_thing", "_law_state"] (defScope aR):=⟨rfl,rfl,rfl,by decide +kernel,rfl,by decide +kernel,by decide +kernel⟩
theorem nF {f:Addr} (T:Txt K mg) (c_held_at:CalX P w K mg base rn 7 "held_at" ["m", "scroll"] cz) (c_holds:CalX P w K mg base rn 7 "holds" ["m", "scroll", "state"] dO) (c_depth_of:CalX P w K mg base rn 7 "depth_of" ["scroll"] bW) (c_without_not:CalX P w K mg base rn 7 "without_not" ["scroll"] aX) (cdv:Value) (A:Around) (outer:List PySem.Env) (s:Shared) (H:Hp) (E:XK) (hr:Room 7 (A.deeper (envOfC "_law_asked" (defScope aR) s.heap.objs.size f cdv))) :
    QSs (cxOf (CXx P w mg rn) P w K mg base gG "_law_asked" (defScope aR) f cdv A outer s H E) K (LX rn mg E) (defBody aR) dX :=
  have nd:=fZ.nd
  have hu:(A.deeper (envOfC "_law_asked" (defScope aR) s.heap.objs.size f cdv)).units+64<cLine:=hr.units
  (by (refine ao ?_ ?_); (with_reducible refine aQ (i:=3) ?_ ?_ ?_ ?_ ?_ ?_); (exact nd); (rfl); (exact Or.inl rfl); (with_reducible refine aK ?_); (with_reducible refine aa ?_ ?_ ?_); (exact aq); (with_reducible refine aa ?_ ?_ ?_); (with_reducible refine cR ?_); (with_reducible refine aa ?_ ?_ ?_); (with_reducible refine aK ?_); (with_reducible refine aa ?_ ?_ ?_); (exact aq); (with_reducible refine aa ?_ ?_ ?_); (exact aH); (with_reducible refine aa ?_ ?_ ?_); (exact aq); (exact ak); (rfl); (rfl); (rfl); (exact ak); (rfl); (exact ak); (rfl); (rfl); (rfl); (first | exact .inl rfl | exact .inr rfl); (exact (ao (cD (bx (kEq (K:=K) hu) cW (qv 0) aq (nomark _))
      (az (lX c_held_at (hr.mono (by decide)) oH (aa (qv 3) (aa (qv 1) ak))))
      aO)
      (ao (cD (bx (kEq (K:=K) hu) cW (qv 0) aq (nomark _))
      (az (lX c_holds (hr.mono (by decide)) oH (aa (qv 3) (aa (qv 1) (aa (qv 2) ak)))))
      aO)
      (ao (cD (bx (kEq (K:=K) hu) cW (qv 0) aq (nomark _))
      (az (lX c_depth_of (hr.mono (by decide)) oH (aa (qv 1) ak)))
      aO)
      (az (lX c_without_not (hr.mono (by decide)) oH (aa (qv 1) ak))))))))
theorem mQ {f:Addr} {fd:FuncData} (F:Fun K "_law_asked" "_law_asked" aR f fd) (T:Txt K mg) (c_held_at:CalX P w K mg base rn 7 "held_at" ["m", "scroll"] cz) (c_holds:CalX P w K mg base rn 7 "holds" ["m", "scroll", "state"] dO) (c_depth_of:CalX P w K mg base rn 7 "depth_of" ["scroll"] bW) (c_without_not:CalX P w K mg base rn 7 "without_not" ["scroll"] aX):FnOk P w K mg base (CXx P w mg rn) 8 f fd ["_law_way", "_law_thing", "_law_state"] (cj K rn mg bH) :=
  FunX.ok F fZ jQ (nF T c_held_at c_holds c_depth_of c_without_not) ni
theorem eU:FnScope ji ["_law_way", "_law_thing", "_law_state"] (defScope bA):=⟨rfl,rfl,rfl,by decide +kernel,rfl,by decide +kernel,by decide +kernel⟩
theorem jB {f:Addr} {fd:FuncData} (F:Fun K "_law_refused" "_law_refused" bA f fd) (T:Txt K mg) (c__law_asked:CalX P w K mg base rn 8 "_law_asked" ["_law_way", "_law_thing", "_law_state"] bH):FnOk P w K mg base CX0 9 f fd ["_law_way", "_law_thing", "_law_state"] (aD K a_) :=
  FunQ.ok (t:=cX) F eU iK (fun cdv A outer s H E hr =>
    have nd:=eU.nd
    have hu:=hr.units
    (ao (aQ (i:=3) nd rfl (Or.inl rfl) (aK ak))
      (ao (xn (j:=4) T.r_KinError nd rfl rfl rfl rfl (fun pn xe E1 σ0 hx1=>(xM (yJ c__law_asked (hr.mono (by decide)) hx1 (aa (qv 0) (aa (qv 1) (aa (qv 2) ak))))))
      (fun pn a oe n C hn hm xc hp hcl=>by
        obtain ⟨c_NoState,m_NoState,k_NoState⟩:=T.i_NoState n C hn hm
        obtain ⟨c_TooBig,m_TooBig,k_TooBig⟩:=T.i_TooBig n C hn hm
        obtain ⟨c_NoDeed,m_NoDeed,k_NoDeed⟩:=T.i_NoDeed n C hn hm
        obtain ⟨c_NoText,m_NoText,k_NoText⟩:=T.i_NoText n C hn hm
        obtain ⟨c_NoScroll,m_NoScroll,k_NoScroll⟩:=T.i_NoScroll n C hn hm
        exact (ao (aQ (i:=5) nd rfl (Or.inl rfl) (zY (j:=4) (cs:=[c_NoState,c_TooBig,c_NoDeed,c_NoText]) T.n_isinstance hp hcl xc (dR k_NoState (dR k_TooBig (dR k_NoDeed (dR k_NoText rO)))) (Nat.le_of_ble_eq_true rfl) (pv 4) (iT (pe_glob rfl m_NoState rfl) (iT (pe_glob rfl m_TooBig rfl) (iT (pe_glob rfl m_NoDeed rfl) (iT (pe_glob rfl m_NoText rfl) yH))))))
      (az (oJ 5 (aQ (i:=3) nd rfl (Or.inl rfl) (aK (aa (Ag (vc:=.ref c_NoScroll) (j:=4) T.n_isinstance hp hcl xc k_NoScroll (pv 4) (pe_glob rfl m_NoScroll rfl) (fun _ r=>r)) (aa (Ag (vc:=.ty "ValueError") (j:=4) T.n_isinstance hp hcl xc (T.i_ValueError n C hn hm) (pv 4) (lZ T.n_ValueError lN) (fun _ r=>r)) (aa (qv 5) ak))))))))))
      (az (aY (nq (kEq (K:=K) hu) cW (qv 3) (aK (aa q_bl (aa q_bl (aa q_bl ak)))) (nomark _))))))) jU
theorem cT:FnScope fW ["_law_thing", "_law_cell"] (defScope aP):=⟨rfl,rfl,rfl,by decide +kernel,rfl,by decide +kernel,by decide +kernel⟩
theorem fY {f:Addr} {fd:FuncData} (F:Fun K "_law_all_refused" "_law_all_refused" aP f fd) (T:Txt K mg) (c__law_refused:Cal P w K mg base 9 "_law_refused" ["_law_way", "_law_thing", "_law_state"] (aD K a_)):FnOk P w K mg base CX0 10 f fd ["_law_thing", "_law_cell"] (aD K aM) :=
  FunQ.ok (t:=cg) F cT fG (fun cdv A outer s H E hr =>
    have nd:=cT.nd
    have hu:=hr.units
    (ao (qt PassesOwn.never rfl (fX T.n_range aq) (cB (i:=2) nd rfl (Or.inl rfl))
      (az (cD (fK (iw (b_ c__law_refused (hr.mono (by decide)) (aa (b8 (gf (qv 2) (qv 1)) aq) (aa (qv 0) (aa (q_ix hu (cR (aa aq (aa aq (aa (v_ aq) (aa aq (aa (Ae aq aq) ak)))))) (b8 (gj (qv 1) aq) aq)) ak))))))
      (az (aY q_bl))
      aO)))
      (az (aY q_bl)))) gm
theorem wV:FnScope sI ["_law_script"] (defScope jg):=⟨rfl,rfl,rfl,by decide +kernel,rfl,by decide +kernel,by decide +kernel⟩
theorem ok_law {f:Addr} {fd:FuncData} (F:Fun K "law" "law" jg f fd) (T:Txt K mg) (c__law_cell_at:Cal P w K mg base 1 "_law_cell_at" ["_law_script", "_law_k"] (aD K aF)) (c__law_deeds:Cal P w K mg base 1 "_law_deeds" ["_law_cell", "_law_turn"] (aD K bF)) (c__law_scroll:Cal P w K mg base 2 "_law_scroll" ["_law_cells", "_law_names"] (aD K bD)) (c_is_scroll:Cal P w K mg base 5 "is_scroll" ["thing"] (aD K aG)) (c__law_bad_row:Cal P w K mg base 1 "_law_bad_row" ["_law_row_here", "_law_k", "_law_cell", "_law_pool"] (aD K bf)) (c__law_bad_whole:Cal P w K mg base 1 "_law_bad_whole" ["_law_scroll_here", "_law_cell"] (aD K aU)) (c__law_all_refused:Cal P w K mg base 10 "_law_all_refused" ["_law_thing", "_law_cell"] (aD K aM)):FnOk P w K mg base CX0 11 f fd ["_law_script"] (aD K sp_law) :=
  FunQ.ok (t:=xV) F wV yp (fun cdv A outer s H E hr =>
    have nd:=wV.nd
    have hu:=hr.units
    (ao (aQ (i:=1) nd rfl (Or.inl rfl) (b_ c__law_cell_at (hr.mono (by decide)) (aa (qv 0) (aa aq ak))))
      (ao (aQ (i:=2) nd rfl (Or.inl rfl) (b_ c__law_deeds (hr.mono (by decide)) (aa (b_ c__law_cell_at (hr.mono (by decide)) (aa (qv 0) (aa aq ak))) (aa (b_ c__law_cell_at (hr.mono (by decide)) (aa (qv 0) (aa aq ak))) ak))))
      (ao (aQ (i:=3) nd rfl (Or.inr rfl) (b_ c__law_scroll (hr.mono (by decide)) (aa (gf (jE (qv 0) (g8 aq) (g8 aq)) (cR (aa (b_ c__law_cell_at (hr.mono (by decide)) (aa (qv 0) (aa aq ak))) ak))) (aa (gf (cR (aa aH ak)) (qv 2)) ak))))
      (ao (cD (bx (kEq (K:=K) hu) cW (b8 (qv 1) aq) aq (nomark _))
      (az (aQ (i:=3) nd rfl (Or.inr rfl) (gf (qv 3) (iB (tn:=["_law_k"]) (cn:=["_law_scroll_here"]) (ix:=[3]) rfl (oU (fX T.n_range (pH aq (bj aL cJ rfl T.n_len cI (qv 3))))) (cQ.of (sc:=defScope jg) (N:=sI) rfl rfl (by decide +kernel)) (fun _ _ _ _=>(cB (i:=0) (show (["_law_k", "_law_scroll_here"]:List Str).Nodup by decide +kernel) rfl (Or.inl rfl) (.inr rfl))) (fun _ _ _ _=>eO) (fun _ _ _ _=>(aK (aa aH (aa (b8 (qv 0) (bj aL cJ rfl T.n_len cI (qv 1))) ak))))))))
      aO)
      (ao (cD (bx (kEq (K:=K) hu) cW (b8 (qv 1) aq) aq (nomark _))
      (az (nM (jo (pv 3)) (aK (aa (q_ix hu (cR (aa aH (aa aH ak))) (b8 (gj (qv 1) aq) aq)) (aa (dD qe iQ rfl T.n_tuple fc (iB (tn:=["_law_k"]) (cn:=["_law_scroll_here"]) (ix:=[3]) rfl (oU (fX T.n_range aq)) (cQ.of (sc:=defScope jg) (N:=sI) rfl rfl (by decide +kernel)) (fun _ _ _ _=>(cB (i:=0) (show (["_law_k", "_law_scroll_here"]:List Str).Nodup by decide +kernel) rfl (Or.inl rfl) (.inr rfl))) (fun _ _ _ _=>eO) (fun _ _ _ _=>(b8 (qv 0) (bj aL cJ rfl T.n_len cI (qv 1)))))) ak)))))
      aO)
      (ao (aQ (i:=4) nd rfl (Or.inl rfl) (dD gK pM rfl T.n_list lW (qv 3)))
      (ao (cD (qt_w (lU (bx lV mV (b_ c_is_scroll (hr.mono (by decide)) (aa (qv 3) ak)) q_bl (nomark _)) (il (bx (kNe (K:=K) hu) Ac (qv 3) (qv 4) (nomark _)))))
      (az (aY q_bl))
      aO)
      (ao (aQ (i:=5) nd rfl (Or.inl rfl) (b_ c__law_cell_at (hr.mono (by decide)) (aa (qv 0) (aa aq ak))))
      (ao (aQ (i:=6) nd rfl (Or.inl rfl) (b8 (qv 5) (bj aL cJ rfl T.n_len cI (qv 3))))
      (ao (aQ (i:=7) nd rfl (Or.inl rfl) (dD gK pM rfl T.n_list lW (qv 3)))
      (ao (mC (pv 7) (qv 6) (b_ c__law_bad_row (hr.mono (by decide)) (aa (q_ix hu (qv 3) (qv 6)) (aa (qv 6) (aa (b_ c__law_cell_at (hr.mono (by decide)) (aa (qv 0) (aa aq ak))) (aa (qv 2) ak))))))
      (ao (cD (bx (kEq (K:=K) hu) cW (b8 (gj (qv 1) aq) aq) aq (nomark _))
      (az (aQ (i:=7) nd rfl (Or.inl rfl) (b_ c__law_bad_whole (hr.mono (by decide)) (aa (qv 3) (aa (b_ c__law_cell_at (hr.mono (by decide)) (aa (qv 0) (aa aq ak))) ak)))))
      aO)
      (ao (cD (qt_w (lU (bx lV mV (b_ c_is_scroll (hr.mono (by decide)) (aa (qv 7) ak)) q_bl (nomark _)) (il (fK (iw (b_ c__law_all_refused (hr.mono (by decide)) (aa (qv 7) (aa (b_ c__law_cell_at (hr.mono (by decide)) (aa (qv 0) (aa aq ak))) ak))))))))
      (az (aY q_bl))
      aO)
      (ao (cD (bx (kNe (K:=K) hu) Ac (b8 (gj (qv 1) aq) aq) aq (nomark _))
      (ao (mC (pv 7) (qv 6) (q_ix hu (qv 3) (qv 6)))
      (az (cD (bx lV mV (b_ c_is_scroll (hr.mono (by decide)) (aa (qv 7) ak)) q_bl (nomark _))
      (az (aY q_bl))
      aO)))
      aO)
      (ao (aQ (i:=3) nd rfl (Or.inr rfl) (jE (qv 3) lD (g8 aq)))
      (ao (nM (jo (pv 3)) (aK (aa aH (aa (pH (bj aL cJ rfl T.n_len cI (qv 3)) aq) ak))))
      (ao (cD (bx lV mV (b_ c_is_scroll (hr.mono (by decide)) (aa (qv 3) ak)) q_bl (nomark _))
      (az (aY q_bl))
      aO)
      (ao (mC (pv 3) (v_ aq) (aK (aa aH (aa (pH (bj aL cJ rfl T.n_len cI (qv 3)) aq) ak))))
      (az (aY (nH (nq wN wJ (b_ c_is_scroll (hr.mono (by decide)) (aa (qv 3) ak)) q_bl (nomark _)) (nO (nq wN wJ (b_ c_is_scroll (hr.mono (by decide)) (aa (qv 4) ak)) q_bl (nomark _))))))))))))))))))))))))) CG
end
theorem us1 {us:List Value} (h:us.length=1):∃ a0,us=[a0]:=by
  cases us with
  | nil=>simp at h
  | cons a0 us =>
  cases us with
  | nil=>exact ⟨_,rfl⟩
  | cons b us=>simp at h
theorem us2 {us:List Value} (h:us.length=2):∃ a0 a1,us=[a0,a1]:=by
  cases us with
  | nil=>simp at h
  | cons a0 us =>
  cases us with
  | nil=>simp at h
  | cons a1 us =>
  cases us with
  | nil=>exact ⟨_,_,rfl⟩
  | cons b us=>simp at h
theorem us3 {us:List Value} (h:us.length=3):∃ a0 a1 a2,us=[a0,a1,a2]:=by
  cases us with
  | nil=>simp at h
  | cons a0 us =>
  cases us with
  | nil=>simp at h
  | cons a1 us =>
  cases us with
  | nil=>simp at h
  | cons a2 us =>
  cases us with
  | nil=>exact ⟨_,_,_,rfl⟩
  | cons b us=>simp at h
theorem us4 {us:List Value} (h:us.length=4):∃ a0 a1 a2 a3,us=[a0,a1,a2,a3]:=by
  cases us with
  | nil=>simp at h
  | cons a0 us =>
  cases us with
  | nil=>simp at h
  | cons a1 us =>
  cases us with
  | nil=>simp at h
  | cons a2 us =>
  cases us with
  | nil=>simp at h
  | cons a3 us =>
  cases us with
  | nil=>exact ⟨_,_,_,_,rfl⟩
  | cons b us=>simp at h
theorem all_mk {l:PySem.W.OpenLaw} {w:World} {K:PySem.W.Frag} {h:Heap} {mg:Str->Option Value} {fa:Addr} (X:K.In h) (G:h.Ns mainGlobals mg) (hfa:mg "law" = some (.ref fa))
    (a0:PySem.W.nsIn K mainGlobals "is_open" = some (some (.ref f0))) (l0:K.lookup f0=some ⟨o0,d0,.func (PySem.W.fnOf "is_open" "is_open" (defArgs cU) (defBody cU) (defScope cU) .none v0 j0 p0 e0 r0 u0),t0⟩) (c0:PySem.W.codeIn K r0 "is_open" = true) (k0:PySem.W.keepIn K (.ref f0)=true)
    (a1:PySem.W.nsIn K mainGlobals "is_deed" = some (some (.ref f1))) (l1:K.lookup f1=some ⟨o1,d1,.func (PySem.W.fnOf "is_deed" "is_deed" (defArgs dB) (defBody dB) (defScope dB) .none v1 j1 p1 e1 r1 u1),t1⟩) (c1:PySem.W.codeIn K r1 "is_deed" = true) (k1:PySem.W.keepIn K (.ref f1)=true)
    (a2:PySem.W.nsIn K mainGlobals "is_whole" = some (some (.ref f2))) (l2:K.lookup f2=some ⟨o2,d2,.func (PySem.W.fnOf "is_whole" "is_whole" (defArgs cL) (defBody cL) (defScope cL) .none v2 j2 p2 e2 r2 u2),t2⟩) (c2:PySem.W.codeIn K r2 "is_whole" = true) (k2:PySem.W.keepIn K (.ref f2)=true)
    (a3:PySem.W.nsIn K mainGlobals "is_ahead" = some (some (.ref f3))) (l3:K.lookup f3=some ⟨o3,d3,.func (PySem.W.fnOf "is_ahead" "is_ahead" (defArgs cN) (defBody cN) (defScope cN) .none v3 j3 p3 e3 r3 u3),t3⟩) (c3:PySem.W.codeIn K r3 "is_ahead" = true) (k3:PySem.W.keepIn K (.ref f3)=true)
    (a4:PySem.W.nsIn K mainGlobals "are_parts" = some (some (.ref f4))) (l4:K.lookup f4=some ⟨o4,d4,.func (PySem.W.fnOf "are_parts" "are_parts" (defArgs bZ) (defBody bZ) (defScope bZ) .none v4 j4 p4 e4 r4 u4),t4⟩) (c4:PySem.W.codeIn K r4 "are_parts" = true) (k4:PySem.W.keepIn K (.ref f4)=true)
    (a5:PySem.W.nsIn K mainGlobals "is_row" = some (some (.ref f5))) (l5:K.lookup f5=some ⟨o5,d5,.func (PySem.W.fnOf "is_row" "is_row" (defArgs fj) (defBody fj) (defScope fj) .none v5 j5 p5 e5 r5 u5),t5⟩) (c5:PySem.W.codeIn K r5 "is_row" = true) (k5:PySem.W.keepIn K (.ref f5)=true)
    (a6:PySem.W.nsIn K mainGlobals "is_scroll" = some (some (.ref f6))) (l6:K.lookup f6=some ⟨o6,d6,.func (PySem.W.fnOf "is_scroll" "is_scroll" (defArgs bY) (defBody bY) (defScope bY) .none v6 j6 p6 e6 r6 u6),t6⟩) (c6:PySem.W.codeIn K r6 "is_scroll" = true) (k6:PySem.W.keepIn K (.ref f6)=true)
    (a7:PySem.W.nsIn K mainGlobals "check_scroll" = some (some (.ref f7))) (l7:K.lookup f7=some ⟨o7,d7,.func (PySem.W.fnOf "check_scroll" "check_scroll" (defArgs aJ) (defBody aJ) (defScope aJ) .none v7 j7 p7 e7 r7 u7),t7⟩) (c7:PySem.W.codeIn K r7 "check_scroll" = true) (k7:PySem.W.keepIn K (.ref f7)=true)
    (a8:PySem.W.nsIn K mainGlobals "held_at" = some (some (.ref f8))) (l8:K.lookup f8=some ⟨o8,d8,.func (PySem.W.fnOf "held_at" "held_at" (defArgs bK) (defBody bK) (defScope bK) .none v8 j8 p8 e8 r8 u8),t8⟩) (c8:PySem.W.codeIn K r8 "held_at" = true) (k8:PySem.W.keepIn K (.ref f8)=true)
    (a9:PySem.W.nsIn K mainGlobals "holds" = some (some (.ref f9))) (l9:K.lookup f9=some ⟨o9,d9,.func (PySem.W.fnOf "holds" "holds" (defArgs cY) (defBody cY) (defScope cY) .none v9 j9 p9 e9 r9 u9),t9⟩) (c9:PySem.W.codeIn K r9 "holds" = true) (k9:PySem.W.keepIn K (.ref f9)=true)
    (a10:PySem.W.nsIn K mainGlobals "depth_of" = some (some (.ref f10))) (l10:K.lookup f10=some ⟨o10,d10,.func (PySem.W.fnOf "depth_of" "depth_of" (defArgs bC) (defBody bC) (defScope bC) .none v10 j10 p10 e10 r10 u10),t10⟩) (c10:PySem.W.codeIn K r10 "depth_of" = true) (k10:PySem.W.keepIn K (.ref f10)=true)
    (a11:PySem.W.nsIn K mainGlobals "without_not" = some (some (.ref f11))) (l11:K.lookup f11=some ⟨o11,d11,.func (PySem.W.fnOf "without_not" "without_not" (defArgs aN) (defBody aN) (defScope aN) .none v11 j11 p11 e11 r11 u11),t11⟩) (c11:PySem.W.codeIn K r11 "without_not" = true) (k11:PySem.W.keepIn K (.ref f11)=true)
    (a12:PySem.W.nsIn K mainGlobals "_law_cell_at" = some (some (.ref f12))) (l12:K.lookup f12=some ⟨o12,d12,.func (PySem.W.fnOf "_law_cell_at" "_law_cell_at" (defArgs bz) (defBody bz) (defScope bz) .none v12 j12 p12 e12 r12 u12),t12⟩) (c12:PySem.W.codeIn K r12 "_law_cell_at" = true) (k12:PySem.W.keepIn K (.ref f12)=true)
    (a13:PySem.W.nsIn K mainGlobals "_law_deeds" = some (some (.ref f13))) (l13:K.lookup f13=some ⟨o13,d13,.func (PySem.W.fnOf "_law_deeds" "_law_deeds" (defArgs bh) (defBody bh) (defScope bh) .none v13 j13 p13 e13 r13 u13),t13⟩) (c13:PySem.W.codeIn K r13 "_law_deeds" = true) (k13:PySem.W.keepIn K (.ref f13)=true)
    (a14:PySem.W.nsIn K mainGlobals "_law_row" = some (some (.ref f14))) (l14:K.lookup f14=some ⟨o14,d14,.func (PySem.W.fnOf "_law_row" "_law_row" (defArgs cM) (defBody cM) (defScope cM) .none v14 j14 p14 e14 r14 u14),t14⟩) (c14:PySem.W.codeIn K r14 "_law_row" = true) (k14:PySem.W.keepIn K (.ref f14)=true)
    (a15:PySem.W.nsIn K mainGlobals "_law_scroll" = some (some (.ref f15))) (l15:K.lookup f15=some ⟨o15,d15,.func (PySem.W.fnOf "_law_scroll" "_law_scroll" (defArgs bw) (defBody bw) (defScope bw) .none v15 j15 p15 e15 r15 u15),t15⟩) (c15:PySem.W.codeIn K r15 "_law_scroll" = true) (k15:PySem.W.keepIn K (.ref f15)=true)
    (a16:PySem.W.nsIn K mainGlobals "_law_bad_row" = some (some (.ref f16))) (l16:K.lookup f16=some ⟨o16,d16,.func (PySem.W.fnOf "_law_bad_row" "_law_bad_row" (defArgs bB) (defBody bB) (defScope bB) .none v16 j16 p16 e16 r16 u16),t16⟩) (c16:PySem.W.codeIn K r16 "_law_bad_row" = true) (k16:PySem.W.keepIn K (.ref f16)=true)
    (a17:PySem.W.nsIn K mainGlobals "_law_bad_whole" = some (some (.ref f17))) (l17:K.lookup f17=some ⟨o17,d17,.func (PySem.W.fnOf "_law_bad_whole" "_law_bad_whole" (defArgs aW) (defBody aW) (defScope aW) .none v17 j17 p17 e17 r17 u17),t17⟩) (c17:PySem.W.codeIn K r17 "_law_bad_whole" = true) (k17:PySem.W.keepIn K (.ref f17)=true)
    (a18:PySem.W.nsIn K mainGlobals "_law_asked" = some (some (.ref f18))) (l18:K.lookup f18=some ⟨o18,d18,.func (PySem.W.fnOf "_law_asked" "_law_asked" (defArgs aR) (defBody aR) (defScope aR) .none v18 j18 p18 e18 r18 u18),t18⟩) (c18:PySem.W.codeIn K r18 "_law_asked" = true) (k18:PySem.W.keepIn K (.ref f18)=true)
    (a19:PySem.W.nsIn K mainGlobals "_law_refused" = some (some (.ref f19))) (l19:K.lookup f19=some ⟨o19,d19,.func (PySem.W.fnOf "_law_refused" "_law_refused" (defArgs bA) (defBody bA) (defScope bA) .none v19 j19 p19 e19 r19 u19),t19⟩) (c19:PySem.W.codeIn K r19 "_law_refused" = true) (k19:PySem.W.keepIn K (.ref f19)=true)
    (a20:PySem.W.nsIn K mainGlobals "_law_all_refused" = some (some (.ref f20))) (l20:K.lookup f20=some ⟨o20,d20,.func (PySem.W.fnOf "_law_all_refused" "_law_all_refused" (defArgs aP) (defBody aP) (defScope aP) .none v20 j20 p20 e20 r20 u20),t20⟩) (c20:PySem.W.codeIn K r20 "_law_all_refused" = true) (k20:PySem.W.keepIn K (.ref f20)=true)
    (a21:PySem.W.nsIn K mainGlobals "law" = some (some (.ref f21))) (l21:K.lookup f21=some ⟨o21,d21,.func (PySem.W.fnOf "law" "law" (defArgs jg) (defBody jg) (defScope jg) .none v21 j21 p21 e21 r21 u21),t21⟩) (c21:PySem.W.codeIn K r21 "law" = true) (k21:PySem.W.keepIn K (.ref f21)=true)
    (n_ValueError:PySem.W.nsIn K mainGlobals "ValueError" = some none)
    (n_all:PySem.W.nsIn K mainGlobals "all" = some none)
    (n_bool:PySem.W.nsIn K mainGlobals "bool" = some none)
    (n_enumerate:PySem.W.nsIn K mainGlobals "enumerate" = some none)
    (n_int:PySem.W.nsIn K mainGlobals "int" = some none)
    (n_isinstance:PySem.W.nsIn K mainGlobals "isinstance" = some none)
    (n_len:PySem.W.nsIn K mainGlobals "len" = some none)
    (n_list:PySem.W.nsIn K mainGlobals "list" = some none)
    (n_min:PySem.W.nsIn K mainGlobals "min" = some none)
    (n_range:PySem.W.nsIn K mainGlobals "range" = some none)
    (n_str:PySem.W.nsIn K mainGlobals "str" = some none)
    (n_tuple:PySem.W.nsIn K mainGlobals "tuple" = some none)
    {t_HIDDEN:Tok} (g_HIDDEN:PySem.W.nsIn K mainGlobals "HIDDEN" = some (some (.str "*" t_HIDDEN)))
    {t_LETTERS:Tok} (g_LETTERS:PySem.W.nsIn K mainGlobals "LETTERS" = some (some (.str "abcdefghijklmnopqrstuvwxyz" t_LETTERS)))
    {t_MOST_LETTERS:Tok} (g_MOST_LETTERS:PySem.W.nsIn K mainGlobals "MOST_LETTERS" = some (some (.int 6 t_MOST_LETTERS)))
    {t_MOST_ROWS:Tok} (g_MOST_ROWS:PySem.W.nsIn K mainGlobals "MOST_ROWS" = some (some (.int 2000 t_MOST_ROWS)))
    {t_MOST_PARTS:Tok} (g_MOST_PARTS:PySem.W.nsIn K mainGlobals "MOST_PARTS" = some (some (.int 200 t_MOST_PARTS)))
    {t_MOST_ROWS_TURNED:Tok} (g_MOST_ROWS_TURNED:PySem.W.nsIn K mainGlobals "MOST_ROWS_TURNED" = some (some (.int 1000 t_MOST_ROWS_TURNED)))
    {C_KinError:Addr} (xa_KinError:PySem.W.nsIn K mainGlobals "KinError" = some (some (.ref C_KinError)))
    {C_NoDeed:Addr} (xa_NoDeed:PySem.W.nsIn K mainGlobals "NoDeed" = some (some (.ref C_NoDeed)))
    {C_NoScroll:Addr} (xa_NoScroll:PySem.W.nsIn K mainGlobals "NoScroll" = some (some (.ref C_NoScroll)))
    {C_NoState:Addr} (xa_NoState:PySem.W.nsIn K mainGlobals "NoState" = some (some (.ref C_NoState)))
    {C_NoText:Addr} (xa_NoText:PySem.W.nsIn K mainGlobals "NoText" = some (some (.ref C_NoText)))
    {C_TooBig:Addr} (xa_TooBig:PySem.W.nsIn K mainGlobals "TooBig" = some (some (.ref C_TooBig)))
    (xe_KinError:PySem.W.excIn K C_KinError [.type "ValueError",.type "Exception",.type "BaseException",.type "object"] "ValueError.__new__" = true) (xg_KinError:PySem.W.findIn K (.ref C_KinError) "__getattr__" = some none) (xh_KinError:PySem.W.findIn K (.ref C_KinError) "__getattribute__" = some (some (.builtin "BaseException.__getattribute__"))) (xi_KinError:PySem.W.findIn K (.ref C_KinError) "__class__" = some (some (.builtin "object.__class__"))) (xj_KinError:PySem.W.mroIn K C_KinError (.type "object")=some true)
    (xe_NoScroll:PySem.W.excIn K C_NoScroll [.type "ValueError",.type "Exception",.type "BaseException",.type "object"] "ValueError.__new__" = true) (xg_NoScroll:PySem.W.findIn K (.ref C_NoScroll) "__getattr__" = some none) (xh_NoScroll:PySem.W.findIn K (.ref C_NoScroll) "__getattribute__" = some (some (.builtin "BaseException.__getattribute__"))) (xi_NoScroll:PySem.W.findIn K (.ref C_NoScroll) "__class__" = some (some (.builtin "object.__class__"))) (xj_NoScroll:PySem.W.mroIn K C_NoScroll (.type "object")=some true)
    (xs_NoScroll_KinError:PySem.W.mroIn K C_NoScroll (.ref C_KinError)=some true)
    (xt_NoScroll_NoState:PySem.W.kitOne K (.ref C_NoScroll) (.ref C_NoState)=some false)
    (xt_NoScroll_TooBig:PySem.W.kitOne K (.ref C_NoScroll) (.ref C_TooBig)=some false)
    (xt_NoScroll_NoDeed:PySem.W.kitOne K (.ref C_NoScroll) (.ref C_NoDeed)=some false)
    (xt_NoScroll_NoText:PySem.W.kitOne K (.ref C_NoScroll) (.ref C_NoText)=some false)
    (xt_NoScroll_ValueError:PySem.W.kitOne K (.ref C_NoScroll) (.type "ValueError")=some true)
    (xt_NoScroll_NoScroll:PySem.W.kitOne K (.ref C_NoScroll) (.ref C_NoScroll)=some true)
    : ∃ fd:FuncData,(∀ (s:Shared) (v:Value),BindsTo s fd ⟨[v],[]⟩ [("_law_script",v)])/\∀ base:Heap,K.In base->base.Ns mainGlobals mg->FnOk l.prog w K mg base CX0 11 fa fd ["_law_script"] (aD K sp_law):=by
  have e:=hfa.symm.trans (PySem.W.mg_of X G a21)
  cases e
  have ma_KinError:=PySem.W.mg_of X G xa_KinError
  have ma_NoDeed:=PySem.W.mg_of X G xa_NoDeed
  have ma_NoScroll:=PySem.W.mg_of X G xa_NoScroll
  have ma_NoState:=PySem.W.mg_of X G xa_NoState
  have ma_NoText:=PySem.W.mg_of X G xa_NoText
  have ma_TooBig:=PySem.W.mg_of X G xa_TooBig
  have mk_KinError:XcK K C_KinError:=⟨xe_KinError,xg_KinError,xh_KinError,xi_KinError,xj_KinError⟩
  have mk_NoScroll:XcK K C_NoScroll:=⟨xe_NoScroll,xg_NoScroll,xh_NoScroll,xi_NoScroll,xj_NoScroll⟩
  have each:∀ {G:Str->Addr->Prop},G "NoScroll" C_NoScroll->∀ n C,n∈rn->mg n=some (.ref C)->G n C:=by
    intro G q_NoScroll n C hn hm
    simp only [rn,xaq,xbA,or_false] at hn
    rcases hn with rfl
    · rw [ma_NoScroll] at hm; cases hm; exact q_NoScroll
  have T:Txt K mg:=⟨PySem.W.mg_none_of X G n_ValueError,PySem.W.mg_none_of X G n_all,PySem.W.mg_none_of X G n_bool,PySem.W.mg_none_of X G n_enumerate,PySem.W.mg_none_of X G n_int,PySem.W.mg_none_of X G n_isinstance,PySem.W.mg_none_of X G n_len,PySem.W.mg_none_of X G n_list,PySem.W.mg_none_of X G n_min,PySem.W.mg_none_of X G n_range,PySem.W.mg_none_of X G n_str,PySem.W.mg_none_of X G n_tuple,⟨_,PySem.W.mg_of X G g_HIDDEN⟩,⟨_,PySem.W.mg_of X G g_LETTERS⟩,⟨_,PySem.W.mg_of X G g_MOST_LETTERS⟩,⟨_,PySem.W.mg_of X G g_MOST_ROWS⟩,⟨_,PySem.W.mg_of X G g_MOST_PARTS⟩,⟨_,PySem.W.mg_of X G g_MOST_ROWS_TURNED⟩,⟨_,ma_NoScroll,mk_NoScroll⟩,⟨_,ma_KinError,mk_KinError,each ⟨mk_NoScroll,xs_NoScroll_KinError⟩⟩,each ⟨_,ma_NoState,xt_NoScroll_NoState⟩,each ⟨_,ma_TooBig,xt_NoScroll_TooBig⟩,each ⟨_,ma_NoDeed,xt_NoScroll_NoDeed⟩,each ⟨_,ma_NoText,xt_NoScroll_NoText⟩,each xt_NoScroll_ValueError,each ⟨_,ma_NoScroll,xt_NoScroll_NoScroll⟩⟩
  have F0:=fun_mk (st:=cU) l0 c0 k0
  have F1:=fun_mk (st:=dB) l1 c1 k1
  have F2:=fun_mk (st:=cL) l2 c2 k2
  have F3:=fun_mk (st:=cN) l3 c3 k3
  have F4:=fun_mk (st:=bZ) l4 c4 k4
  have F5:=fun_mk (st:=fj) l5 c5 k5
  have F6:=fun_mk (st:=bY) l6 c6 k6
  have F7:=fun_mk (st:=aJ) l7 c7 k7
  have F8:=fun_mk (st:=bK) l8 c8 k8
  have F9:=fun_mk (st:=cY) l9 c9 k9
  have F10:=fun_mk (st:=bC) l10 c10 k10
  have F11:=fun_mk (st:=aN) l11 c11 k11
  have F12:=fun_mk (st:=bz) l12 c12 k12
  have F13:=fun_mk (st:=bh) l13 c13 k13
  have F14:=fun_mk (st:=cM) l14 c14 k14
  have F15:=fun_mk (st:=bw) l15 c15 k15
  have F16:=fun_mk (st:=bB) l16 c16 k16
  have F17:=fun_mk (st:=aW) l17 c17 k17
  have F18:=fun_mk (st:=aR) l18 c18 k18
  have F19:=fun_mk (st:=bA) l19 c19 k19
  have F20:=fun_mk (st:=aP) l20 c20 k20
  have F21:=fun_mk (st:=jg) l21 c21 k21
  refine ⟨PySem.W.fnOf "law" "law" (defArgs jg) (defBody jg) (defScope jg) .none v21 j21 p21 e21 r21 u21,fun s v=>.of_eq rfl,fun base _ _=>?_⟩
  have C0:Cal l.prog w K mg base 1 "is_open" ["thing"] (aD K cP):=F0.cal (PySem.W.mg_of X G a0) (rD F0 T ) fun _ _ _ _ _ _ us hl=>by obtain ⟨_,rfl⟩:=us1 hl; rfl
  have C2:Cal l.prog w K mg base 1 "is_whole" ["thing"] (aD K cC):=F2.cal (PySem.W.mg_of X G a2) (oV F2 T ) fun _ _ _ _ _ _ us hl=>by obtain ⟨_,rfl⟩:=us1 hl; rfl
  have C12:Cal l.prog w K mg base 1 "_law_cell_at" ["_law_script", "_law_k"] (aD K aF):=F12.cal (PySem.W.mg_of X G a12) (jm F12 T ) fun _ _ _ _ _ _ us hl=>by obtain ⟨_,_,rfl⟩:=us2 hl; rfl
  have C13:Cal l.prog w K mg base 1 "_law_deeds" ["_law_cell", "_law_turn"] (aD K bF):=F13.cal (PySem.W.mg_of X G a13) (lE F13 T ) fun _ _ _ _ _ _ us hl=>by obtain ⟨_,_,rfl⟩:=us2 hl; rfl
  have C14:Cal l.prog w K mg base 1 "_law_row" ["_law_cell", "_law_k", "_law_names"] (aD K cA):=F14.cal (PySem.W.mg_of X G a14) (pL F14 T ) fun _ _ _ _ _ _ us hl=>by obtain ⟨_,_,_,rfl⟩:=us3 hl; rfl
  have C16:Cal l.prog w K mg base 1 "_law_bad_row" ["_law_row_here", "_law_k", "_law_cell", "_law_pool"] (aD K bf):=F16.cal (PySem.W.mg_of X G a16) (jx F16 T ) fun _ _ _ _ _ _ us hl=>by obtain ⟨_,_,_,_,rfl⟩:=us4 hl; rfl
  have C17:Cal l.prog w K mg base 1 "_law_bad_whole" ["_law_scroll_here", "_law_cell"] (aD K aU):=F17.cal (PySem.W.mg_of X G a17) (gH F17 T ) fun _ _ _ _ _ _ us hl=>by obtain ⟨_,_,rfl⟩:=us2 hl; rfl
  have C1:Cal l.prog w K mg base 2 "is_deed" ["thing"] (aD K cO):=F1.cal (PySem.W.mg_of X G a1) (qX F1 T C0) fun _ _ _ _ _ _ us hl=>by obtain ⟨_,rfl⟩:=us1 hl; rfl
  have C3:Cal l.prog w K mg base 2 "is_ahead" ["k", "thing"] (aD K bu):=F3.cal (PySem.W.mg_of X G a3) (o_ F3 T C2) fun _ _ _ _ _ _ us hl=>by obtain ⟨_,_,rfl⟩:=us2 hl; rfl
  have C15:Cal l.prog w K mg base 2 "_law_scroll" ["_law_cells", "_law_names"] (aD K bD):=F15.cal (PySem.W.mg_of X G a15) (jN F15 T C14) fun _ _ _ _ _ _ us hl=>by obtain ⟨_,_,rfl⟩:=us2 hl; rfl
  have C4:Cal l.prog w K mg base 3 "are_parts" ["k", "thing"] (aD K b7):=F4.cal (PySem.W.mg_of X G a4) (oK F4 T C3) fun _ _ _ _ _ _ us hl=>by obtain ⟨_,_,rfl⟩:=us2 hl; rfl
  have C5:Cal l.prog w K mg base 4 "is_row" ["k", "thing"] (aD K dq):=F5.cal (PySem.W.mg_of X G a5) (tM F5 T C1 C3 C4) fun _ _ _ _ _ _ us hl=>by obtain ⟨_,_,rfl⟩:=us2 hl; rfl
  have C6:Cal l.prog w K mg base 5 "is_scroll" ["thing"] (aD K aG):=F6.cal (PySem.W.mg_of X G a6) (ou F6 T C5) fun _ _ _ _ _ _ us hl=>by obtain ⟨_,rfl⟩:=us1 hl; rfl
  have C7:CalX l.prog w K mg base rn 6 "check_scroll" ["thing"] au:=Fun.calX F7 (PySem.W.mg_of X G a7) (i_ F7 T C6) fun _ _ _ _ _ _ us hl=>by obtain ⟨_,rfl⟩:=us1 hl; rfl
  have C8:CalX l.prog w K mg base rn 7 "held_at" ["m", "scroll"] cz:=Fun.calX F8 (PySem.W.mg_of X G a8) (qY F8 T C7) fun _ _ _ _ _ _ us hl=>by obtain ⟨_,_,rfl⟩:=us2 hl; rfl
  have C9:CalX l.prog w K mg base rn 7 "holds" ["m", "scroll", "state"] dO:=Fun.calX F9 (PySem.W.mg_of X G a9) (vp F9 T C7) fun _ _ _ _ _ _ us hl=>by obtain ⟨_,_,_,rfl⟩:=us3 hl; rfl
  have C10:CalX l.prog w K mg base rn 7 "depth_of" ["scroll"] bW:=Fun.calX F10 (PySem.W.mg_of X G a10) (pB F10 T C7) fun _ _ _ _ _ _ us hl=>by obtain ⟨_,rfl⟩:=us1 hl; rfl
  have C11:CalX l.prog w K mg base rn 7 "without_not" ["scroll"] aX:=Fun.calX F11 (PySem.W.mg_of X G a11) (jY F11 T C7) fun _ _ _ _ _ _ us hl=>by obtain ⟨_,rfl⟩:=us1 hl; rfl
  have C18:CalX l.prog w K mg base rn 8 "_law_asked" ["_law_way", "_law_thing", "_law_state"] bH:=Fun.calX F18 (PySem.W.mg_of X G a18) (mQ F18 T C8 C9 C10 C11) fun _ _ _ _ _ _ us hl=>by obtain ⟨_,_,_,rfl⟩:=us3 hl; rfl
  have C19:Cal l.prog w K mg base 9 "_law_refused" ["_law_way", "_law_thing", "_law_state"] (aD K a_):=F19.cal (PySem.W.mg_of X G a19) (jB F19 T C18) fun _ _ _ _ _ _ us hl=>by obtain ⟨_,_,_,rfl⟩:=us3 hl; rfl
  have C20:Cal l.prog w K mg base 10 "_law_all_refused" ["_law_thing", "_law_cell"] (aD K aM):=F20.cal (PySem.W.mg_of X G a20) (fY F20 T C19) fun _ _ _ _ _ _ us hl=>by obtain ⟨_,_,rfl⟩:=us2 hl; rfl
  exact ok_law F21 T C12 C13 C15 C6 C16 C17 C20
theorem walk {l:PySem.W.OpenLaw} {q:Program} {loose:List Str} {XP:(Str->Option Value)->Heap->Prop} {YP:World->Heap->Prop} {d:DefRec} {K:Params->PySem.W.Frag} (hn:l.most=some 63) (hdf:d.params.defaults=[])
    (hY:∀ (w:World) (h:Heap),YP w h->(K w.params).In h)
    (F:∀ (w:World) (mg:Str->Option Value) (fa:Addr) (h:Heap),(K w.params).In h->h.Ns mainGlobals mg->mg d.name=some (.ref fa) ->
      ∃ fd:FuncData,(∀ (s:Shared) (u:Value),BindsTo s fd ⟨[u],[]⟩ [("_law_script",u)])/\∀ base:Heap,(K w.params).In base->base.Ns mainGlobals mg->FnOk l.prog w (K w.params) mg base CX0 11 fa fd ["_law_script"] (aD (K w.params) sp_law)) :
    PySem.W.WalkO q loose XP YP l.row.toRowW d [] (fun f vs=>PySem.call f vs) :=
  L2.walk_of (n:=63) (k:=11) (x := "_law_script") (CX:=fun _=>CX0) (sp:=fun w=>aD (K w.params) sp_law) hn (by decide) hdf ⟨rfl,by decide,by decide⟩ hY F (fun w H a ns hl hO hS=>vH hl hS) fun _ _ _ _ _ z=>z
end L2.Q.Law
open PySem PySem.W PyProof.Rows
namespace PySem.W.Fast
def tw2217768382708967316:=0
def tw8189109995436382989:=0
def tw9004931629527591880:=0
def tw4904689239864467552:=0
def tw11205321540587478435:=0
def tw2245813599036013807:=0
def tw4925088971499375236:=0
def tw11824438767062644434:=0
def tw8533851311412068731:=0
def tw11552955269730040937:=0
def tw9908220704662929272:=0
def tw1399969870098848011:=0
def tw16274005473659879156:=0
def tw12627293962069968495:=0
def tw9746672664798139754:=0
def tw8630734673734618104:=0
def tw6881396227776583842:=0
def tw17704581642180282101:=0
def tw16501111287546194376:=0
def tw15875185014946350842:=0
end PySem.W.Fast
set_option maxRecDepth 100000 in
set_option maxHeartbeats 0 in
theorem PySem.Challenge.cw_kinlook_k19_what_is_a_scroll_holds : PySem.Challenge.rw_kinlook_k19_what_is_a_scroll.Holds := by
  w_on; o_law; k_head; (case hw=>w_witness2)
  k_fill
  refine L2.Q.Law.walk (l:=PySem.Challenge.rw_kinlook_k19_what_is_a_scroll) rfl rfl (fun w h Y=>PySem.W.kIn_of Y) ?F
  case F =>
    intro w mg fa h KX G hmg
    refine' L2.Q.Law.all_mk KX G hmg ?a0 ?l0 ?c0 ?k0 ?a1 ?l1 ?c1 ?k1 ?a2 ?l2 ?c2 ?k2 ?a3 ?l3 ?c3 ?k3 ?a4 ?l4 ?c4 ?k4 ?a5 ?l5 ?c5 ?k5 ?a6 ?l6 ?c6 ?k6 ?a7 ?l7 ?c7 ?k7 ?a8 ?l8 ?c8 ?k8 ?a9 ?l9 ?c9 ?k9 ?a10 ?l10 ?c10 ?k10 ?a11 ?l11 ?c11 ?k11 ?a12 ?l12 ?c12 ?k12 ?a13 ?l13 ?c13 ?k13 ?a14 ?l14 ?c14 ?k14 ?a15 ?l15 ?c15 ?k15 ?a16 ?l16 ?c16 ?k16 ?a17 ?l17 ?c17 ?k17 ?a18 ?l18 ?c18 ?k18 ?a19 ?l19 ?c19 ?k19 ?a20 ?l20 ?c20 ?k20 ?a21 ?l21 ?c21 ?k21 ?n_ValueError ?n_all ?n_bool ?n_enumerate ?n_int ?n_isinstance ?n_len ?n_list ?n_min ?n_range ?n_str ?n_tuple ?g_HIDDEN ?g_LETTERS ?g_MOST_LETTERS ?g_MOST_ROWS ?g_MOST_PARTS ?g_MOST_ROWS_TURNED ?xa_KinError ?xa_NoDeed ?xa_NoScroll ?xa_NoState ?xa_NoText ?xa_TooBig ?xe_KinError ?xg_KinError ?xh_KinError ?xi_KinError ?xj_KinError ?xe_NoScroll ?xg_NoScroll ?xh_NoScroll ?xi_NoScroll ?xj_NoScroll ?xs_NoScroll_KinError ?xt_NoScroll_NoState ?xt_NoScroll_TooBig ?xt_NoScroll_NoDeed ?xt_NoScroll_NoText ?xt_NoScroll_ValueError ?xt_NoScroll_NoScroll
    (case a0=>k_is)
    (case l0=>k_is)
    (case c0=>k_is)
    (case k0=>k_is)
    (case a1=>k_is)
    (case l1=>k_is)
    (case c1=>k_is)
    (case k1=>k_is)
    (case a2=>k_is)
    (case l2=>k_is)
    (case c2=>k_is)
    (case k2=>k_is)
    (case a3=>k_is)
    (case l3=>k_is)
    (case c3=>k_is)
    (case k3=>k_is)
    (case a4=>k_is)
    (case l4=>k_is)
    (case c4=>k_is)
    (case k4=>k_is)
    (case a5=>k_is)
    (case l5=>k_is)
    (case c5=>k_is)
    (case k5=>k_is)
    (case a6=>k_is)
    (case l6=>k_is)
    (case c6=>k_is)
    (case k6=>k_is)
    (case a7=>k_is)
    (case l7=>k_is)
    (case c7=>k_is)
    (case k7=>k_is)
    (case a8=>k_is)
    (case l8=>k_is)
    (case c8=>k_is)
    (case k8=>k_is)
    (case a9=>k_is)
    (case l9=>k_is)
    (case c9=>k_is)
    (case k9=>k_is)
    (case a10=>k_is)
    (case l10=>k_is)
    (case c10=>k_is)
    (case k10=>k_is)
    (case a11=>k_is)
    (case l11=>k_is)
    (case c11=>k_is)
    (case k11=>k_is)
    (case a12=>k_is)
    (case l12=>k_is)
    (case c12=>k_is)
    (case k12=>k_is)
    (case a13=>k_is)
    (case l13=>k_is)
    (case c13=>k_is)
    (case k13=>k_is)
    (case a14=>k_is)
    (case l14=>k_is)
    (case c14=>k_is)
    (case k14=>k_is)
    (case a15=>k_is)
    (case l15=>k_is)
    (case c15=>k_is)
    (case k15=>k_is)
    (case a16=>k_is)
    (case l16=>k_is)
    (case c16=>k_is)
    (case k16=>k_is)
    (case a17=>k_is)
    (case l17=>k_is)
    (case c17=>k_is)
    (case k17=>k_is)
    (case a18=>k_is)
    (case l18=>k_is)
    (case c18=>k_is)
    (case k18=>k_is)
    (case a19=>k_is)
    (case l19=>k_is)
    (case c19=>k_is)
    (case k19=>k_is)
    (case a20=>k_is)
    (case l20=>k_is)
    (case c20=>k_is)
    (case k20=>k_is)
    (case a21=>k_is)
    (case l21=>k_is)
    (case c21=>k_is)
    (case k21=>k_is)
    (case n_ValueError=>k_is)
    (case n_all=>k_is)
    (case n_bool=>k_is)
    (case n_enumerate=>k_is)
    (case n_int=>k_is)
    (case n_isinstance=>k_is)
    (case n_len=>k_is)
    (case n_list=>k_is)
    (case n_min=>k_is)
    (case n_range=>k_is)
    (case n_str=>k_is)
    (case n_tuple=>k_is)
    (case g_HIDDEN=>k_is)
    (case g_LETTERS=>k_is)
    (case g_MOST_LETTERS=>k_is)
    (case g_MOST_ROWS=>k_is)
    (case g_MOST_PARTS=>k_is)
    (case g_MOST_ROWS_TURNED=>k_is)
    (case xa_KinError=>k_is)
    (case xa_NoDeed=>k_is)
    (case xa_NoScroll=>k_is)
    (case xa_NoState=>k_is)
    (case xa_NoText=>k_is)
    (case xa_TooBig=>k_is)
    (case xe_KinError=>k_exc)
    (case xg_KinError=>k_is)
    (case xh_KinError=>k_is)
    (case xi_KinError=>k_is)
    (case xj_KinError=>k_is)
    (case xe_NoScroll=>k_exc)
    (case xg_NoScroll=>k_is)
    (case xh_NoScroll=>k_is)
    (case xi_NoScroll=>k_is)
    (case xj_NoScroll=>k_is)
    (case xs_NoScroll_KinError=>k_is)
    (case xt_NoScroll_NoState=>kit_is)
    (case xt_NoScroll_TooBig=>kit_is)
    (case xt_NoScroll_NoDeed=>kit_is)
    (case xt_NoScroll_NoText=>kit_is)
    (case xt_NoScroll_ValueError=>kit_is)
    (case xt_NoScroll_NoScroll=>kit_is)
