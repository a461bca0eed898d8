import PyProof.Rows.All
import Wide.All
import OpenK.AllK
import Wide.FinOn
import Lean
import PyProof.EqAt
import PyProof.EqKinds
import PyProof.TupleCall
import PyProof.CompUse
import PyProof.NeData
import PyProof.WalksEnum
import PyProof.EnumMake
import PyProof.ZipIter
import PyProof.Rows.EnumRows
import PyProof.Rows.FactsT2
import KE.KDictList
import PyProof.Rows.SortRuns
import PyProof.Rows.SortWalk
import KE.KSortTup
import PyProof.Rows.SortStr
import PyProof.ListRange
import PyProof.StrOps2
import PyProof.StrBlock2
import PyProof.AutoIntG3
import PyProof.ListMulRight
import PyProof.Rows.ListMulArg
import PyProof.Rows.CallKwBuiltin
import PyProof.Rows.StrMul
import KE.KMinBuiltin
import PyProof.TupleKey
import PyProof.SetKind
import PyProof.Rows.SetFrom
import PyProof.DictWalks
import KE.KRevIter
import PyProof.AutoSeq1
import PySem.Challenge.RW_kinlook_k24_whole_how_far_a_scroll_looks
set_option compiler.extract_closed false
local macro_rules | `(tactic| walk_at "l") => `(tactic| first | lia | omega)
local macro_rules | `(tactic| walk_at "s1") => `(tactic| solve_by_elim (maxDepth := 4) [Nat.lt_of_lt_of_le, Nat.lt_of_le_of_lt, Nat.le_trans, Nat.lt_trans, Nat.le_of_lt, Nat.le_of_not_lt])
local macro_rules | `(tactic| walk_at "s2") => `(tactic| solve_by_elim (maxDepth := 5) [Nat.lt_of_lt_of_le, Nat.lt_of_le_of_lt, Nat.le_trans, Nat.le_of_lt, Nat.le_of_not_lt, Nat.lt_of_not_le, Nat.lt_of_succ_lt, Nat.le_of_succ_le])
local macro_rules | `(tactic| walk_at "s3") => `(tactic| solve_by_elim (maxDepth := 5) [Int.lt_of_lt_of_le, Int.lt_of_le_of_lt, Int.le_trans, Int.le_of_lt, Int.not_lt.mp, Int.not_le.mp])
local macro_rules | `(tactic| walk_at "s4") => `(tactic| solve_by_elim (maxDepth := 5) [Nat.le_trans, Nat.lt_of_lt_of_le, Nat.le_of_lt, Nat.le_add_right, Nat.le_add_left, Nat.add_le_add_left, Nat.add_lt_add_left, Nat.succ_le_succ, Nat.sub_le])
theorem L2.ex2 {α β:Type _} {A B C:α→β→Prop} {G:Prop} (x:∃ a b,A a b∧B a b∧C a b) (k:∀ a b,A a b→B a b→C a b→G):G :=
 let ⟨a,b,p,q,r⟩:=x
 k a b p q r
set_option Elab.async false
set_option linter.all false
set_option maxRecDepth 100000
namespace L2
open PySem PySem.Spec PyProof.Rows
noncomputable abbrev Key:=Sum Int Str
noncomputable def keyIs:Key→Value→Bool
 | .inl k,v=>Value.isInt k v
 | .inr x,v=>Value.isStrOf x v
noncomputable def keyH (w:World):Key→Int
 | .inl k=>hashInt k
 | .inr x=>hashStr w x
theorem keyIs_shape:∀ {k:Key} {v:Value},keyIs k v=true→(∃ i t,k=Sum.inl i∧v=Value.int i t)∨(∃ x t,k=Sum.inr x∧v=Value.str x t)
 | .inl i,v,h=>by
  obtain ⟨t,e⟩:=Value.isInt_shape (k:=i) (v:=v) h
  exact .inl ⟨i,t,rfl,e⟩
 | .inr x,v,h=>by
  obtain ⟨t,e⟩:=Value.isStrOf_shape (x:=x) (v:=v) h
  exact .inr ⟨x,t,rfl,e⟩
theorem keyIs_int (i:Int) (t:Tok):keyIs (.inl i) (.int i t)=true:=by simp [keyIs,Value.isInt]
theorem keyIs_str (x:Str) (t:Tok):keyIs (.inr x) (.str x t)=true:=by simp [keyIs,Value.isStrOf]
theorem key_ll (a b:Int):decide ((Sum.inl a:Key)=Sum.inl b)=(a == b):=by
 by_cases e:a=b
 ·subst e; simp
 ·have h:¬ (Sum.inl a:Key)=Sum.inl b:=fun q=>e (Sum.inl.inj q)
  rw [decide_eq_false h]
  exact (beq_eq_false_iff_ne.mpr e).symm
theorem key_rr (a b:Str):decide ((Sum.inr a:Key)=Sum.inr b)=decide (a=b):=by
 by_cases e:a=b
 ·subst e; simp
 ·have h:¬ (Sum.inr a:Key)=Sum.inr b:=fun q=>e (Sum.inr.inj q)
  rw [decide_eq_false h,decide_eq_false e]
theorem key_lr (a:Int) (b:Str):decide ((Sum.inl a:Key)=Sum.inr b)=false:=decide_eq_false (fun q=>nomatch q)
theorem key_rl (a:Str) (b:Int):decide ((Sum.inr a:Key)=Sum.inl b)=false:=decide_eq_false (fun q=>nomatch q)
noncomputable def mixKind (prog:Program) (w:World):PySem.KeyKind prog w Key where
 is:=keyIs
 hash:=keyH w
 inj:=fun v a b ha hb=>by
  rcases keyIs_shape ha with ⟨i,t,rfl,rfl⟩ | ⟨x,t,rfl,rfl⟩
  ·rcases keyIs_shape hb with ⟨j,u,rfl,e⟩ | ⟨y,u,rfl,e⟩
   ·injection e with e1 _; rw [e1]
   ·exact nomatch e
  ·rcases keyIs_shape hb with ⟨j,u,rfl,e⟩ | ⟨y,u,rfl,e⟩
   ·exact nomatch e
   ·injection e with e1 _; rw [e1]
 byValue:=fun k v h=>by
  rcases keyIs_shape h with ⟨i,t,rfl,rfl⟩ | ⟨x,t,rfl,rfl⟩ <;> rfl
 pyHash:=fun hv h=>by
  rcases keyIs_shape hv with ⟨i,t,rfl,rfl⟩ | ⟨x,t,rfl,rfl⟩
  ·exact wpAny_pyHash_int h
  ·exact wpAny_pyHash_str h
 eqBool:=fun hu hv h=>by
  rcases keyIs_shape hu with ⟨i,t,rfl,rfl⟩ | ⟨x,t,rfl,rfl⟩
  ·rcases keyIs_shape hv with ⟨j,u,rfl,rfl⟩ | ⟨y,u,rfl,rfl⟩
   ·rw [key_ll] at h; exact wpAny_eqBool_int h
   ·rw [key_lr] at h; exact SeqAt.EqAt.int_str i t y u _ _ _ _ h
  ·rcases keyIs_shape hv with ⟨j,u,rfl,rfl⟩ | ⟨y,u,rfl,rfl⟩
   ·rw [key_rl] at h; exact SeqAt.EqAt.str_int x t j u _ _ _ _ h
   ·rw [key_rr] at h; exact wpAny_eqBool_str h
 «strs» := fun k x t v h=>by
  rcases keyIs_shape h with ⟨i,u,rfl,e⟩ | ⟨y,u,rfl,e⟩
  ·exact nomatch e
  ·injection e with e1 _
   subst e1
   cases v <;> rfl
theorem mixKind_is (prog:Program) (w:World) (k:Key) (v:Value):(mixKind prog w).is k v=keyIs k v:=rfl
theorem mixKind_int (prog:Program) (w:World) (i:Int) (t:Tok):(mixKind prog w).is (.inl i) (.int i t)=true:=keyIs_int i t
theorem mixKind_str (prog:Program) (w:World) (x:Str) (t:Tok):(mixKind prog w).is (.inr x) (.str x t)=true:=keyIs_str x t
end L2
namespace L2
open PySem PySem.Spec PyProof.Rows
inductive V where
 | non | bl (b:Bool) | int (i:Int) | str (x:Str) | byt (b:Array UInt8) | flt (b:UInt64) | ref (a:Addr) | ty (n:String)
 deriving DecidableEq
noncomputable def RelV:V→Value→Prop
 | .non,u=>u=Value.none
 | .bl b,u=>u=Value.bool b
 | .int i,u=>∃ t,u=Value.int i t
 | .str x,u=>∃ t,u=Value.str x t
 | .byt b,u=>∃ t,u=Value.bytes b t
 | .flt b,u=>∃ t,u=Value.float b t
 | .ref a,u=>u=Value.ref a
 | .ty n,u=>u=Value.type n
noncomputable abbrev Vals:List V→List Value→Prop:=Paired RelV
theorem Vals.length {xs:List V} {us:List Value} (r:Vals xs us):xs.length=us.length:=Paired.length r
theorem Vals.get:∀ {xs:List V} {us:List Value} {i:Nat} {x:V},Vals xs us→xs[i]? = some x→∃ u,us[i]? = some u∧RelV x u
 | _,_,_,_,.nil,e=>by simp at e
 | _,_,0,_,.cons r _,e=>by simp at e; subst e; exact ⟨_,rfl,r⟩
 | _,_,i+1,x,.cons _ t,e=>by
  obtain ⟨u,h1,h2⟩:=Vals.get (i:=i) (x:=x) t (by simpa using e)
  exact ⟨u,by simpa using h1,h2⟩
theorem Vals.set {x:V} {u:Value} (r:RelV x u):∀ {xs:List V} {us:List Value} (i:Nat),Vals xs us→Vals (xs.set i x) (us.set i u)
 | _,_,_,.nil=>.nil
 | _,_,0,.cons _ t=>.cons r t
 | _,_,i+1,.cons q t=>.cons q (Vals.set r i t)
theorem Vals.append:∀ {xs ys:List V} {us ws:List Value},Vals xs us→Vals ys ws→Vals (xs++ys) (us++ws)
 | _,_,_,_,.nil,s=>s
 | _,_,_,_,.cons r t,s=>.cons r (Vals.append t s)
theorem Vals.take:∀ {xs:List V} {us:List Value} (n:Nat),Vals xs us→Vals (xs.take n) (us.take n)
 | _,_,0,_=>.nil
 | _,_,_+1,.nil=>.nil
 | _,_,n+1,.cons r t=>.cons r (Vals.take n t)
theorem Vals.drop:∀ {xs:List V} {us:List Value} (n:Nat),Vals xs us→Vals (xs.drop n) (us.drop n)
 | _,_,0,r=>r
 | _,_,_+1,.nil=>.nil
 | _,_,n+1,.cons _ t=>Vals.drop n t
noncomputable def RelO:Option V→Option Value→Prop
 | some v,some u=>RelV v u
 | none,none=>True
 | _,_=>False
noncomputable def KV {κ:Type}:List (κ × V)→List (κ × Value)→Prop:=Paired fun (p:κ × V) (q:κ × Value)=>p.1=q.1∧RelV p.2 q.2
noncomputable def kV:Key→V
 | .inl i=>.int i
 | .inr x=>.str x
inductive HO where
 /-- a list -/
 | lst (xs:List V)
 /-- a tuple (never changes) -/
 | tup (xs:List V)
 /-- a dict whose keys are ints and texts; one whose keys are tuples of ints and texts (the empty one is both) -/
 | dK (kvs:List (Key × V)) | dT (kvs:List (List Key × V))
 /-- a set of ints: its members,its size -/
 | set (S:Int→Bool) (n:Nat)
 /-- an instance of the class at C,its dict at dx,its attributes -/
 | ins (C dx:Addr) (fs:List (Str × V))
 /-- the dict of the instance at x -/
 | own (x:Addr)
 /-- the dict of an exception -/
 | xd (fs:List (Str × V))
 /-- a bound method,f of x -/
 | met (f x:Addr)
 /-- a range object lo,lo+1,.. below hi -/
 | rng (lo hi:Int)
 /-- a thing that is known to the object (the script; a dict while a loop walks it): read,never written while it is so -/
 | frz (o:Obj) (u:HO)
 /-- a code object's table -/
 | tbl (ps:Array Value)
 /-- any other thing,by what is true of its one object (a def of one's own: SetO a S n:=HO.ext fun h=>..) -/
 | ext (φ:Heap→Prop)
noncomputable abbrev Hp:=Addr→Option HO
noncomputable def upd (H:Hp) (a:Addr) (o:HO):Hp:=fun b=>if b=a then some o else H b
theorem upd_same {H:Hp} {a:Addr} {o:HO}:upd H a o a=some o:=by unfold upd; rw [if_pos rfl]
theorem upd_ne {H:Hp} {a b:Addr} {o:HO} (h:b≠a):upd H a o b=H b:=by unfold upd; rw [if_neg h]
theorem ne_of {H:Hp} {a b:Addr} {o u:HO} (h:H a=some o) (h':H b=some u) (d:o≠u):a≠b:=by
 intro e; subst e; rw [h] at h'; exact d (Option.some.inj h')
theorem ne_of_none {H:Hp} {a b:Addr} {o:HO} (h:H a=some o) (h':H b=none):a≠b:=by
 intro e; subst e; rw [h] at h'; cases h'
section
variable (P:Program) (w:World)
noncomputable def ObjOk (H:Hp) (h:Heap) (a:Addr):HO→Prop
 | .lst xs=>xs.length≤sizeLine∧∃ (its:List Value) (n:Nat),Vals xs its∧h.get? a=some { cls:=.type "list",data:=.seq its.toArray n }
 | .tup xs=>xs.length≤sizeLine∧∃ its:List Value,Vals xs its∧IsTup h a its.toArray
 | .dK kvs=>kvs.length≤sizeLine∧(a == sysModules)=false∧∃ vs,KV kvs vs∧h.DictOf (mixKind P w) a vs
 | .dT kvs=>kvs.length≤sizeLine∧(a == sysModules)=false∧∃ xs:List (List Key × Addr × Value),
   Paired (fun (p:List Key × V) (q:List Key × Addr × Value)=>p.1=q.1∧H q.2.1=some (.tup (p.1.map kV))∧RelV p.2 q.2.2) kvs xs ∧
   ∃ o es ep,h.get? a=some o∧o.ExactDict∧o.data=.dict es ep∧es.toList=xs.map (entryOfKey (tupleKind (mixKind P w)))∧(xs.map (·.1)).Nodup
 | .set S n=>h.SetOf (intKind P w) a S n
 | .ins C dx fs=>H dx=some (.own a)∧fs.length≤1000∧dx≠a∧h.get? a=some (PySem.W.instObj C dx) ∧
   ∃ mA,h.Ns1 dx mA∧(∀ f,RelO (fs.lookup f) (mA f))∧PySem.Within mA (fs.map (·.1))
 | .own _=>∃ o,h.get? a=some o
 | .xd fs=>∃ mA,h.Ns1 a mA∧∀ f,RelO (fs.lookup f) (mA f)
 | .rng lo hi=>∃ t u v,h.get? a=some { cls:=.type "range",data:=.fields #[.int lo t,.int hi u,.int 1 v] }
 | .frz o u=>h.get? a=some o∧ObjOk H h a u
 | .tbl ps=>h.get? a=some { cls:=.none,data:=.fields ps }
 | .met f x=>h.get? a=some (PySem.W.methodObj (.ref f) (.ref x))
 | .ext φ=>φ h∧(∃ o,h.get? a=some o)∧∀ h1 h2:Heap,φ h1→(∀ o,h1.get? a=some o→h2.get? a=some o)→φ h2
noncomputable def HOk (H:Hp) (h:Heap):Prop:=∀ a o,H a=some o→ObjOk P w H h a o
end
section
variable {P:Program} {w:World} {H H':Hp} {h h':Heap} {a:Addr} {o:HO}
theorem ObjOk.lt (x:ObjOk P w H h a o):a<h.objs.size:=by
 cases o with
 | lst xs=>obtain ⟨_,_,_,_,e⟩:=x; exact Heap.lt_size e
 | tup xs=>obtain ⟨_,_,_,p⟩:=x; exact p.lt
 | dK kvs=>obtain ⟨_,_,_,_,o,_,_,e,_⟩:=x; exact Heap.lt_size e
 | dT kvs=>obtain ⟨_,_,_,_,o,_,_,e,_⟩:=x; exact Heap.lt_size e
 | set S n=>obtain ⟨o,_,_,_,e,_⟩:=x; exact Heap.lt_size e
 | ins C dx fs=>obtain ⟨_,_,_,e,_⟩:=x; exact Heap.lt_size e
 | own y=>obtain ⟨_,e⟩:=x; exact Heap.lt_size e
 | xd fs=>obtain ⟨_,⟨_,_,_,e,_⟩,_⟩:=x; exact Heap.lt_size e
 | rng lo hi=>obtain ⟨_,_,_,e⟩:=x; exact Heap.lt_size e
 | frz ob u=>obtain ⟨e,_⟩:=x; exact Heap.lt_size e
 | tbl ps=>exact Heap.lt_size (show h.get? a=some _ from x)
 | met f y=>exact Heap.lt_size (show h.get? a=some _ from x)
 | ext φ=>obtain ⟨_,⟨_,e⟩,_⟩:=x; exact Heap.lt_size e
theorem Paired.mapP {α β:Type} {F G:α→β→Prop}:∀ {l₁:List α} {l₂:List β},Paired F l₁ l₂→(∀ a b,F a b→G a b)→Paired G l₁ l₂
 | _,_,.nil,_=>.nil
 | _,_,.cons r t,f=>.cons (f _ _ r) (Paired.mapP t f)
theorem ObjOk.stay (x:ObjOk P w H h a o) (k:∀ b u,(b=a∨H b=some (.own a))→h.get? b=some u→h'.get? b=some u)
  (ho:∀ b,H b=some (.own a)→H' b=some (.own a)) (ht:∀ b xs,H b=some (.tup xs)→H' b=some (.tup xs)):ObjOk P w H' h' a o:=by
 induction o with
 | lst xs=>obtain ⟨z,its,n,r,e⟩:=x; exact ⟨z,its,n,r,k _ _ (.inl rfl) e⟩
 | tup xs=>obtain ⟨z,its,r,ob,e,c⟩:=x; exact ⟨z,its,r,ob,k _ _ (.inl rfl) e,c⟩
 | dK kvs=>obtain ⟨z,y,vs,r,ob,es,ep,e,c⟩:=x; exact ⟨z,y,vs,r,ob,es,ep,k _ _ (.inl rfl) e,c⟩
 | dT kvs =>
  obtain ⟨z,y,xs,r,ob,es,ep,e,c⟩:=x
  exact ⟨z,y,xs,Paired.mapP r fun p q z=>⟨z.1,ht _ _ z.2.1,z.2.2⟩,ob,es,ep,k _ _ (.inl rfl) e,c⟩
 | set S n=>obtain ⟨ob,es,ep,t,e,c⟩:=x; exact ⟨ob,es,ep,t,k _ _ (.inl rfl) e,c⟩
 | ins C dx fs =>
  obtain ⟨d,z,ne,e,mA,⟨od,es,ep,e2,c⟩,r⟩:=x
  exact ⟨ho _ d,z,ne,k _ _ (.inl rfl) e,mA,⟨od,es,ep,k _ _ (.inr d) e2,c⟩,r⟩
 | own y=>obtain ⟨ob,e⟩:=x; exact ⟨ob,k _ _ (.inl rfl) e⟩
 | xd fs=>obtain ⟨mA,⟨od,es,ep,e,c⟩,r⟩:=x; exact ⟨mA,⟨od,es,ep,k _ _ (.inl rfl) e,c⟩,r⟩
 | rng lo hi=>obtain ⟨t,u,v,e⟩:=x; exact ⟨t,u,v,k _ _ (.inl rfl) e⟩
 | frz ob u ih=>obtain ⟨e,q⟩:=x; exact ⟨k _ _ (.inl rfl) e,ih q⟩
 | tbl ps =>
  have e:h.get? a=some { cls:=.none,data:=.fields ps }:=x
  show h'.get? a=some { cls:=.none,data:=.fields ps }
  exact k a _ (.inl rfl) e
 | met f y =>
  have e:h.get? a=some (PySem.W.methodObj (.ref f) (.ref y)):=x
  show h'.get? a=some (PySem.W.methodObj (.ref f) (.ref y))
  exact k a _ (.inl rfl) e
 | ext φ=>obtain ⟨p,⟨o,e⟩,st⟩:=x; exact ⟨st _ _ p fun o q=>k _ _ (.inl rfl) q,⟨o,k _ _ (.inl rfl) e⟩,st⟩
theorem HOk.lt (x:HOk P w H h) (e:H a=some o):a<h.objs.size:=(x a o e).lt
theorem HOk.fresh (x:HOk P w H h) (e:h.objs.size≤a):H a=none:=by
 cases q:H a with
 | none=>rfl
 | some u=>exact absurd (Nat.lt_of_lt_of_le (x.lt q) e) (Nat.lt_irrefl _)
theorem HOk.kept (x:HOk P w H h) (k:∀ b u,h.get? b=some u→h'.get? b=some u):HOk P w H h':=fun a o e =>
 (x a o e).stay (fun b u _ q=>k b u q) (fun _ q=>q) fun _ _ q=>q
theorem HOk.laid (x:HOk P w H h) (k:∀ b u,h.get? b=some u→h'.get? b=some u) (hp:h.objs.size≤a) (new:ObjOk P w (upd H a o) h' a o):HOk P w (upd H a o) h':=fun b u e=>by
 have hn:=x.fresh hp
 by_cases hb:b=a
 ·subst hb; rw [upd_same] at e; cases e; exact new
 ·rw [upd_ne hb] at e
  exact (x b u e).stay (fun c v _ q=>k c v q) (fun c q=>by rw [upd_ne (ne_of_none q hn)]; exact q) fun c xs q=>by rw [upd_ne (ne_of_none q hn)]; exact q
end
noncomputable def Rd (H:Hp) (a:Addr) (u:HO):Prop:=H a=some u∨∃ o,H a=some (.frz o u)
theorem Rd.ok {P:Program} {w:World} {H:Hp} {h:Heap} {a:Addr} {u:HO} (r:Rd H a u) (x:HOk P w H h):ObjOk P w H h a u:=by
 rcases r with r | ⟨o,r⟩
 ·exact x a u r
 ·obtain ⟨_,q⟩:=x a _ r
  exact q
noncomputable def Mut:Option HO→Prop
 | some (.lst _)=>True
 | some (.dK _)=>True
 | some (.dT _)=>True
 | some (.set _ _)=>True
 | some (.ins _ _ _)=>True
 | some (.ext _)=>True
 | _=>False
section
variable {P:Program} {w:World} {H:Hp} {h h':Heap} {x e:Addr} {o':HO}
theorem HOk.write (ok:HOk P w H h) (mu:Mut (H x)) (he:e=x∨H e=some (.own x)) (k:∀ b u,b≠e→h.get? b=some u→h'.get? b=some u) (heo:∃ u,h'.get? e=some u)
  (new:ObjOk P w (upd H x o') h' x o'):HOk P w (upd H x o') h':=fun b u q=>by
 have nown:∀ c y,H c=some (.own y)→c≠x:=fun c y r z=>by subst z; rw [r] at mu; exact mu
 have ntup:∀ c xs,H c=some (.tup xs)→c≠x:=fun c xs r z=>by subst z; rw [r] at mu; exact mu
 by_cases hb:b=x
 ·subst hb; rw [upd_same] at q; cases q; exact new
 ·rw [upd_ne hb] at q
  by_cases hbe:b=e
  ·have q':H b=some (.own x):=by
    rcases he with z | z
    ·exact absurd (hbe.trans z) hb
    ·rw [hbe]; exact z
   rw [q] at q'; cases q'
   obtain ⟨v,hv⟩:=heo
   exact ⟨v,by rw [hbe]; exact hv⟩
  ·refine (ok b u q).stay (fun c v hc r=>k c v ?_ r) (fun c r=>by rw [upd_ne (nown c b r)]; exact r) fun c xs r=>by rw [upd_ne (ntup c xs r)]; exact r
   rcases hc with rfl | hc
   ·exact hbe
   ·rintro rfl
    rcases he with z | z
    ·exact nown c b hc z
    ·rw [hc] at z; cases z; exact hb rfl
end
structure Un (fs ex:List Addr) (H H':Hp) (h h':Heap):Prop where
 keep:∀ b o,h.get? b=some o→H b=none→b∉fs→b∉ex→h'.get? b=some o
 slot:∀ b o,h.get? b=some o→H b=none→b∈fs→b∉ex→∃ sl,h'.get? b=some { o with slots:=sl }
 free:∀ b o,h.get? b=some o→H b=none→b∉ex→H' b=none
 there:∀ b o,h.get? b=some o→b∉ex→∃ o',h'.get? b=some o'
 tups:∀ b xs,H b=some (.tup xs)→H' b=some (.tup xs)
 frzs:∀ b o u,H b=some (.frz o u)→H' b=some (.frz o u)
 tbls:∀ b ps,H b=some (.tbl ps)→∃ more,H' b=some (.tbl (ps++more))
section
variable {fs fs' ex ex':List Addr} {H H1 H2:Hp} {h h1 h2 h':Heap} {a x e:Addr} {o:HO}
theorem Un.any (u:Un fs ex H H1 h h1) {b:Addr} {ob:Obj} (q:h.get? b=some ob) (n:H b=none) (hx:b∉ex):∃ sl,h1.get? b=some { ob with slots:=sl }:=by
 by_cases hb:b∈fs
 ·exact u.slot b ob q n hb hx
 ·exact ⟨ob.slots,u.keep b ob q n hb hx⟩
theorem Un.trans (a:Un fs ex H H1 h h1) (b:Un fs ex H1 H2 h1 h2):Un fs ex H H2 h h2 where
 keep:=fun c ob q n hc hx=>b.keep c ob (a.keep c ob q n hc hx) (a.free c ob q n hx) hc hx
 slot:=fun c ob q n hc hx=>by
  obtain ⟨sl,e1⟩:=a.slot c ob q n hc hx
  obtain ⟨sl',e2⟩:=b.slot c _ e1 (a.free c ob q n hx) hc hx
  exact ⟨sl',e2⟩
 free:=fun c ob q n hx=>by
  obtain ⟨o',e1⟩:=a.there c ob q hx
  exact b.free c o' e1 (a.free c ob q n hx) hx
 there:=fun c ob q hx=>by
  obtain ⟨o',e1⟩:=a.there c ob q hx
  exact b.there c o' e1 hx
 tups:=fun c xs q=>b.tups c xs (a.tups c xs q)
 frzs:=fun c ob xs q=>b.frzs c ob xs (a.frzs c ob xs q)
 tbls:=fun c ps q=>by
  obtain ⟨m1,e1⟩:=a.tbls c ps q
  obtain ⟨m2,e2⟩:=b.tbls c _ e1
  exact ⟨m1++m2,by rw [e2,Array.append_assoc]⟩
theorem Un.kept (k:∀ b u,h.get? b=some u→h'.get? b=some u):Un fs ex H H h h' :=
 ⟨fun b ob q _ _ _=>k b ob q,fun b ob q _ _ _=>⟨ob.slots,k b ob q⟩,fun _ _ _ n _=>n,fun b ob q _=>⟨ob,k b ob q⟩,fun _ _ q=>q,fun _ _ _ q=>q,fun _ ps q=>⟨#[],by rw [q]; simp⟩⟩
theorem Un.refl:Un fs ex H H h h:=Un.kept fun _ _ q=>q
theorem Un.laid (k:∀ b u,h.get? b=some u→h'.get? b=some u) (hp:h.objs.size≤a) (hn:H a=none):Un fs ex H (upd H a o) h h' where
 keep:=fun b u q _ _ _=>k b u q
 slot:=fun b u q _ _ _=>⟨u.slots,k b u q⟩
 free:=fun b u q n _=>by rw [upd_ne (Nat.ne_of_lt (Nat.lt_of_lt_of_le (Heap.lt_size q) hp))]; exact n
 there:=fun b u q _=>⟨u,k b u q⟩
 tups:=fun b xs q=>by rw [upd_ne (ne_of_none q hn)]; exact q
 frzs:=fun b u xs q=>by rw [upd_ne (ne_of_none q hn)]; exact q
 tbls:=fun b ps q=>⟨#[],by rw [upd_ne (ne_of_none q hn),q]; simp⟩
theorem Un.write (mu:Mut (H x)) (he:e=x∨H e=some (.own x)) (k:∀ b u,b≠e→h.get? b=some u→h'.get? b=some u) (heo:∃ u,h'.get? e=some u):Un fs ex H (upd H x o) h h':=by
 have hx:∀ b,H b=none→b≠x:=fun b n z=>by subst z; rw [n] at mu; exact mu
 have hb:∀ b,H b=none→b≠e:=fun b n z=>by
  subst z
  rcases he with r | r
  ·exact hx b n r
  ·rw [n] at r; cases r
 have hm:∀ b u,H b=some u→¬ Mut (some u)→b≠x:=fun b u q nm z=>by subst z; rw [q] at mu; exact nm mu
 refine ⟨fun b u q n _ _=>k b u (hb b n) q,fun b u q n _ _=>⟨u.slots,k b u (hb b n) q⟩,fun b u q n _=>by rw [upd_ne (hx b n)]; exact n,fun b u q _=>?_,
  fun b xs q=>by rw [upd_ne (hm b _ q fun z=>z)]; exact q,fun b u xs q=>by rw [upd_ne (hm b _ q fun z=>z)]; exact q,fun b ps q=>⟨#[],by rw [upd_ne (hm b _ q fun z=>z),q]; simp⟩⟩
 by_cases hbe:b=e
 ·subst hbe; exact heo
 ·exact ⟨u,k b u hbe q⟩
end
noncomputable def trk (h:Heap) (H:Hp):List Addr:=(List.range h.objs.size).filter fun a=>(H a).isSome
noncomputable def hidT (h:Heap) (H:Hp):Heap:=PySem.W.hideAll h (trk h H)
theorem hidT_size (h:Heap) (H:Hp):(hidT h H).objs.size=h.objs.size:=PySem.W.hideAll_size _ _
theorem hidT_get {h:Heap} {H:Hp} {b:Addr} {o:Obj} (e:h.get? b=some o) (n:H b=none):(hidT h H).get? b=some o :=
 PySem.W.hideAll_get _ e fun hm=>by
  have q:(H b).isSome=true:=(List.mem_filter.mp hm).2
  rw [n] at q; simp at q
theorem of_hidT {h:Heap} {H:Hp} {b:Addr} {o:Obj} (e:(hidT h H).get? b=some o):h.get? b=some o∧H b=none:=by
 have e':h.get? b=some o:=PySem.W.of_hideAll (trk h H) e
 refine ⟨e',?_⟩
 cases q:H b with
 | none=>rfl
 | some x =>
  have hm:b∈trk h H:=List.mem_filter.mpr ⟨List.mem_range.mpr (Heap.lt_size e'),by simp [q]⟩
  have z:(hidT h H).get? b=none:=PySem.W.hideAll_none (trk h H) hm
  rw [z] at e; cases e
noncomputable def allNews (g h:Heap) (L:Addr):List (Addr × Obj):=(List.range h.objs.size).filterMap fun a=>if a=L∨(g.get? a).isSome=true then none else (h.get? a).map fun o=>(a,o)
noncomputable def rest (g h:Heap) (L d:Addr):List (Addr × Obj):=(allNews g h L).filter fun p=>decide (p.1≠d)
end L2
namespace L2
open PySem PySem.Spec PyProof.Rows
structure Mod (K:PySem.W.Frag) (mg:Str→Option Value) (base:Heap):Prop where
 kin:K.In base
 glob:base.Ns mainGlobals mg
 blt:∃ mb,base.Ns builtinsNs mb∧∀ x:Str,x ≠ "__name__"→mb x=bootBuiltins x
 nolimit:base.NoLimit
structure Cx where
 prog:Program
 w:World
 K:PySem.W.Frag
 mg:Str→Option Value
 base:Heap
 A:Around
 N:List Str
 s₀:Shared
 H₀:Hp
 env:Env
 outer:List Env
 stack:List Env
 ex:List Addr
 fn:Str→Bool
 calm:Bool
 pn:List (Addr × Obj)
 xe:Value→Shared→Prop
noncomputable def frs (l:List Env):List Addr:=l.filterMap (·.frame)
noncomputable abbrev Cx.fs (X:Cx):List Addr:=frs X.outer
noncomputable def Vis (sc:Scope) (x:Str):Prop:=sc.names.lookup x=some .local∨sc.names.lookup x=some .cell∨sc.names.lookup x=some .free
noncomputable def Loc (sc:Scope) (x:Str):Prop:=sc.names.lookup x=some .local∨sc.names.lookup x=some .cell
noncomputable def Look (env:Env) (h:Heap) (m:Str→Option Value) (x:Str) (u:Value):Prop :=
 (env.kindOf x=some .local∧m x=some u)∨((env.kindOf x=some .cell∨env.kindOf x=some .free)∧∃ c,env.cells.lookup x=some c∧h.IsCell c (some u))
structure Cx.Ok (X:Cx):Prop where
 mod:Mod X.K X.mg X.base
 kind:X.env.scope.kind=.function
 glob:X.env.globals=mainGlobals
 blt:X.env.builtins=builtinsNs
 above:X.s₀.heap.objs.size≤X.env.locals
 inj:∀ x y c,X.env.cells.lookup x=some c→X.env.cells.lookup y=some c→x=y
 has:∀ x,(X.env.kindOf x=some .cell∨X.env.kindOf x=some .free)→∃ c,X.env.cells.lookup x=some c
 cab:∀ x c,X.fn x=true→X.env.cells.lookup x=some c→X.s₀.heap.objs.size≤c
 hd:X.calm=true→X.A.handled=none
 frames:X.A.frames=some X.stack
 stk:X.stack=X.outer∨(X.stack=X.env :: X.outer∧X.env.frame=some X.env.locals)
 exf:∀ b∈X.ex,b≠X.env.locals∧∀ x c,X.env.cells.lookup x=some c→c≠b
 bs:∀ b o,X.base.get? b=some o→X.s₀.heap.get? b=some o∧X.H₀ b=none
 bsz:X.base.objs.size≤X.s₀.heap.objs.size
 noex:∀ b o,X.base.get? b=some o→b∉X.ex
 exfs:∀ b∈X.ex,b∉X.fs
 funs:X.s₀.heap.FunFrames X.base X.outer
 frf:∀ b∈X.fs,X.H₀ b=none
structure Inv (X:Cx) (pins:List (Addr × Obj)) (σ:List (Option V)) (H:Hp) (s:Shared):Prop where
 ok:X.Ok
 os:s.os=X.s₀.os
 bare:AllBare s.gens
 base:Un X.fs X.ex X.H₀ H X.s₀.heap s.heap
 loc:∃ m,s.heap.Ns X.env.locals m∧∀ (i:Nat) (x:Str) (v:V),X.N[i]? = some x→σ[i]? = some (some v)→Vis X.env.scope x→∃ u,RelV v u∧Look X.env s.heap m x u
 cell:∀ x c,X.env.cells.lookup x=some c→∃ v,s.heap.IsCell c v
 free:H X.env.locals=none
 freeC:∀ x c,X.env.cells.lookup x=some c→H c=none
 pin:∀ p∈X.pn++pins,s.heap.get? p.1=some p.2∧H p.1=none∧p.1≠X.env.locals∧p.1∉X.fs∧∀ v,p.2.data≠.cell v
 hok:HOk X.prog X.w H s.heap
 len:σ.length=X.N.length
section
variable {X:Cx} {pins:List (Addr × Obj)} {σ:List (Option V)} {H H':Hp} {s:Shared} {h':Heap}
theorem Cx.Ok.nofr (ok:X.Ok) {b:Addr} {o:Obj} (e:X.base.get? b=some o):b∉X.fs:=fun hb=>by
 have:=(ok.funs.mem hb).1
 rw [e] at this; cases this
theorem Inv.bs (I:Inv X pins σ H s):∀ b o,X.base.get? b=some o→s.heap.get? b=some o∧H b=none:=fun b o e =>
 ⟨I.base.keep b o (I.ok.bs b o e).1 (I.ok.bs b o e).2 (I.ok.nofr e) (I.ok.noex b o e),I.base.free b o (I.ok.bs b o e).1 (I.ok.bs b o e).2 (I.ok.noex b o e)⟩
theorem Inv.bk (I:Inv X pins σ H s):∀ b o,X.base.get? b=some o→s.heap.get? b=some o:=fun b o e=>(I.bs b o e).1
theorem Inv.mod (I:Inv X pins σ H s):Mod X.K X.mg X.base:=I.ok.mod
theorem Inv.kIn (I:Inv X pins σ H s):X.K.In s.heap:=I.ok.mod.kin.keeps I.bk
theorem Inv.lt (I:Inv X pins σ H s):X.env.locals<s.heap.objs.size:=let ⟨_,hn,_⟩:=I.loc; hn.lt
theorem Inv.sz (I:Inv X pins σ H s):X.s₀.heap.objs.size≤s.heap.objs.size:=Nat.le_trans I.ok.above (Nat.le_of_lt I.lt)
theorem Inv.nofs (I:Inv X pins σ H s) {a:Addr} (h:s.heap.objs.size≤a):a∉X.fs:=fun hb=>by
 obtain ⟨_,o,ho,_⟩:=I.ok.funs.mem hb
 exact absurd (Nat.lt_of_lt_of_le (Heap.lt_size ho) (Nat.le_trans I.sz h)) (Nat.lt_irrefl _)
theorem Inv.cne (I:Inv X pins σ H s):∀ x c,X.env.cells.lookup x=some c→c≠X.env.locals:=fun x c e z=>by
 obtain ⟨v,o,ho,hd⟩:=I.cell x c e
 obtain ⟨m,⟨o',es,ep,ho',hd',_⟩,_⟩:=I.loc
 rw [z,ho'] at ho; cases ho; rw [hd'] at hd; cases hd
theorem Inv.funs (I:Inv X pins σ H s):s.heap.FunFrames X.base X.outer:=by
 have all:∀ (l:List Env),(∀ b∈frs l,b∈X.fs)→X.s₀.heap.FunFrames X.base l→s.heap.FunFrames X.base l:=by
  intro l
  induction l with
  | nil=>intro _ _; trivial
  | cons env r ih =>
   intro hs hl
   obtain ⟨hk,⟨L,o,hf,hn,ho,hd⟩,hr⟩:=hl
   have hL:L∈X.fs:=hs L (by unfold frs; rw [List.filterMap_cons,hf]; exact List.mem_cons_self)
   obtain ⟨sl,e⟩:=I.base.slot L o ho (I.ok.frf L hL) hL fun z=>I.ok.exfs L z hL
   exact ⟨hk,⟨L,_,hf,hn,e,hd⟩,ih (fun b hb=>hs b (by unfold frs; rw [List.filterMap_cons,hf]; exact List.mem_cons_of_mem _ hb)) hr⟩
 exact all X.outer (fun _ hb=>hb) I.ok.funs
theorem Inv.stack (I:Inv X pins σ H s):s.heap.FunFrames X.base X.stack:=by
 rcases I.ok.stk with e | ⟨e,hf⟩
 ·rw [e]; exact I.funs
 ·rw [e]
  obtain ⟨m,hn,_⟩:=I.loc
  refine .cons (by rw [I.ok.kind]; decide) hf hn ?_ I.funs
  exact Heap.get?_none_of_le (Nat.le_trans I.ok.bsz I.ok.above)
theorem Inv.stkSub (I:Inv X pins σ H s):∀ b∈frs X.stack,b∈X.env.locals :: X.fs:=fun b hb=>by
 rcases I.ok.stk with e | ⟨e,hf⟩
 ·rw [e] at hb; exact List.mem_cons_of_mem _ hb
 ·rw [e] at hb
  unfold frs at hb
  rw [List.filterMap_cons,hf] at hb
  exact hb
theorem Inv.stkFree (I:Inv X pins σ H s):∀ b∈frs X.stack,H b=none:=fun b hb=>by
 rcases List.mem_cons.mp (I.stkSub b hb) with e | hb
 ·rw [e]; exact I.free
 ·obtain ⟨_,o,ho,_⟩:=I.ok.funs.mem hb
  exact I.base.free b o ho (I.ok.frf b hb) fun z=>I.ok.exfs b z hb
theorem Inv.step {g':Array GenState} {t':Nat} {d':Drawn} {ch:List Addr} (I:Inv X pins σ H s)
  (hch:∀ b∈ch,(b∈X.ex∨X.s₀.heap.objs.size≤b)∧b≠X.env.locals∧(∀ x c,X.env.cells.lookup x=some c→c≠b)∧∀ p∈X.pn++pins,p.1≠b)
  (keep:∀ b o,b≠X.env.locals→b∉X.fs→b∉ch→s.heap.get? b=some o→H b=none→h'.get? b=some o)
  (slot:∀ b o,b≠X.env.locals→b∈X.fs→b∉ch→s.heap.get? b=some o→H b=none→∃ sl,h'.get? b=some { o with slots:=sl }) (free:∀ b o,b∉ch→s.heap.get? b=some o→H b=none→H' b=none)
  (there:∀ b o,b∉ch→s.heap.get? b=some o→∃ o',h'.get? b=some o')
  (tups:∀ b xs,H b=some (.tup xs)→H' b=some (.tup xs)) (frzs:∀ b o u,H b=some (.frz o u)→H' b=some (.frz o u)) (tbls:∀ b ps,H b=some (.tbl ps)→∃ more,H' b=some (.tbl (ps++more)))
  (ns:∀ m,s.heap.Ns X.env.locals m→h'.Ns X.env.locals m) (hok:HOk X.prog X.w H' h') (hg:AllBare g') :
  Inv X pins σ H' { s with heap:=h',gens:=g',drawn:=d',toks:=t' }:=by
 have neL:∀ b o,X.s₀.heap.get? b=some o→b≠X.env.locals:=fun b o e=>Nat.ne_of_lt (Nat.lt_of_lt_of_le (Heap.lt_size e) I.ok.above)
 have neC:∀ b o,X.s₀.heap.get? b=some o→b∉X.ex→b∉ch:=fun b o e hx hb=>by
  rcases (hch b hb).1 with z | z
  ·exact hx z
  ·exact absurd (Nat.lt_of_lt_of_le (Heap.lt_size e) z) (Nat.lt_irrefl _)
 have cellK:∀ x c,X.env.cells.lookup x=some c→∀ v,s.heap.IsCell c v→h'.IsCell c v:=fun x c e v hx9=>by
  obtain ⟨o,ho,hd⟩:=hx9
  have nch:c∉ch:=fun z=>(hch c z).2.2.1 x c e rfl
  by_cases hc:c∈X.fs
  ·obtain ⟨sl,q⟩:=slot c o (I.cne x c e) hc nch ho (I.freeC x c e)
   exact ⟨_,q,hd⟩
  ·exact ⟨o,keep c o (I.cne x c e) hc nch ho (I.freeC x c e),hd⟩
 refine ⟨I.ok,I.os,hg,⟨fun b o e n hb hx=>?_,fun b o e n hb hx=>?_,fun b o e n hx=>?_,fun b o e hx=>?_,fun b xs e=>tups b xs (I.base.tups b xs e),fun b o xs e=>frzs b o xs (I.base.frzs b o xs e),fun b ps e=>?_⟩,?_,fun x c e=>?_,?_,fun x c e=>?_,fun p hp=>?_,hok,I.len⟩
 ·exact keep b o (neL b o e) hb (neC b o e hx) (I.base.keep b o e n hb hx) (I.base.free b o e n hx)
 ·obtain ⟨sl,e1⟩:=I.base.slot b o e n hb hx
  obtain ⟨sl',e2⟩:=slot b _ (neL b o e) hb (neC b o e hx) e1 (I.base.free b o e n hx)
  exact ⟨sl',e2⟩
 ·obtain ⟨o',e1⟩:=I.base.there b o e hx
  exact free b o' (neC b o e hx) e1 (I.base.free b o e n hx)
 ·obtain ⟨o',e1⟩:=I.base.there b o e hx
  exact there b o' (neC b o e hx) e1
 ·obtain ⟨m1,e1⟩:=I.base.tbls b ps e
  obtain ⟨m2,e2⟩:=tbls b _ e1
  exact ⟨m1++m2,by rw [e2,Array.append_assoc]⟩
 ·obtain ⟨m,hn,hl⟩:=I.loc
  refine ⟨m,ns m hn,fun i x v e1 e2 e3=>?_⟩
  obtain ⟨u,r,l⟩:=hl i x v e1 e2 e3
  refine ⟨u,r,?_⟩
  rcases l with l | ⟨k,c,e,z⟩
  ·exact .inl l
  ·exact .inr ⟨k,c,e,cellK x c e _ z⟩
 ·obtain ⟨v,z⟩:=I.cell x c e
  exact ⟨v,cellK x c e v z⟩
 ·obtain ⟨m,⟨o,_,_,ho,_⟩,_⟩:=I.loc
  exact free _ o (fun z=>(hch _ z).2.1 rfl) ho I.free
 ·obtain ⟨v,o,ho,hd⟩:=I.cell x c e
  exact free c o (fun z=>(hch c z).2.2.1 x c e rfl) ho (I.freeC x c e)
 ·obtain ⟨e,n,ne,nf,d⟩:=I.pin p hp
  have nch:p.1∉ch:=fun z=>(hch p.1 z).2.2.2 p hp rfl
  exact ⟨keep p.1 p.2 ne nf nch e n,free p.1 p.2 nch e n,ne,nf,d⟩
theorem Inv.un {t':Nat} (I:Inv X pins σ H s) (u:Un X.fs [] H H' s.heap h') (hok:HOk X.prog X.w H' h'):Inv X pins σ H' { s with heap:=h',toks:=t' }:=by
 obtain ⟨m,⟨o,es,ep,ho,r⟩,_⟩:=id I.loc
 obtain ⟨sl,hL⟩:=u.any ho I.free (by simp)
 exact I.step (g':=s.gens) (d':=s.drawn) (ch:=[]) (fun _ z=>nomatch z) (fun b o _ hb _ e n=>u.keep b o e n hb (by simp)) (fun b o _ hb _ e n=>u.slot b o e n hb (by simp)) (fun b o _ e n=>u.free b o e n (by simp)) (fun b o _ e=>u.there b o e (by simp)) u.tups u.frzs u.tbls (fun m' hm=>by
  obtain ⟨o',es',ep',ho',r'⟩:=hm
  rw [ho] at ho'; cases ho'
  exact ⟨_,es',ep',hL,r'⟩) hok I.bare
theorem Inv.call {g':Array GenState} {t':Nat} {d':Drawn} {ch:List Addr} (I:Inv X pins σ H s) (u:Un (frs X.stack) ch H H' s.heap h') (hok:HOk X.prog X.w H' h') (hg:AllBare g')
  (hch:∀ b∈ch,(b∈X.ex∨X.s₀.heap.objs.size≤b)∧b≠X.env.locals∧(∀ x c,X.env.cells.lookup x=some c→c≠b)∧∀ p∈X.pn++pins,p.1≠b) :
  Inv X pins σ H' { s with heap:=h',gens:=g',drawn:=d',toks:=t' }:=by
 obtain ⟨m,⟨o,es,ep,ho,r⟩,_⟩:=id I.loc
 obtain ⟨sl,hL⟩:=u.any ho I.free fun z=>(hch _ z).2.1 rfl
 exact I.step (ch:=ch) hch (fun b o hL hb hc e n=>u.keep b o e n (fun z=>(List.mem_cons.mp (I.stkSub b z)).elim hL hb) hc) (fun b o _ _ hc e n=>u.any e n hc) (fun b o hc e n=>u.free b o e n hc) (fun b o hc e=>u.there b o e hc) u.tups u.frzs u.tbls (fun m' hm=>by
  obtain ⟨o',es',ep',ho',r'⟩:=hm
  rw [ho] at ho'; cases ho'
  exact ⟨_,es',ep',hL,r'⟩) hok hg
theorem Inv.turned {t':Nat} {it:Addr} (I:Inv X pins σ H s) (k:∀ b o,b≠it→s.heap.get? b=some o→h'.get? b=some o) (hn:H it=none) (hL:it≠X.env.locals)
  (h1:it∈X.ex∨X.s₀.heap.objs.size≤it) (h2:∀ x c,X.env.cells.lookup x=some c→c≠it) (h3:∀ p∈X.pn++pins,p.1≠it):Inv X pins σ H { s with heap:=h',toks:=t' }:=by
 have nit:∀ b u,H b=some u→b≠it:=fun b u e z=>by rw [z,hn] at e; cases e
 refine I.step (g':=s.gens) (d':=s.drawn) (ch:=[it]) (fun b hb=>?_) (fun b o _ _ hc e _=>k b o (fun z=>hc (by simp [z])) e) (fun b o _ _ hc e _=>⟨o.slots,k b o (fun z=>hc (by simp [z])) e⟩) (fun _ _ _ _ n=>n)
  (fun b o hc e=>⟨o,k b o (fun z=>hc (by simp [z])) e⟩) (fun _ _ e=>e) (fun _ _ _ e=>e) (fun b ps e=>⟨#[],by rw [e]; simp⟩) (fun m hm=>?_) (fun b u e=>?_) I.bare
 ·have e:b=it:=by simpa using hb
  subst e
  exact ⟨h1,hL,h2,h3⟩
 ·obtain ⟨o,es,ep,ho,r⟩:=hm
  exact ⟨o,es,ep,k _ o (Ne.symm hL) ho,r⟩
 ·refine (I.hok b u e).stay (fun c v hc q=>k c v ?_ q) (fun _ q=>q) fun _ _ q=>q
  rcases hc with z | z
  ·rw [z]; exact nit b u e
  ·exact nit c _ z
theorem Inv.tok (I:Inv X pins σ H s) (t:Nat):Inv X pins σ H { s with toks:=t }:=I.un (h':=s.heap) (t':=t) Un.refl I.hok
theorem Inv.kept {t':Nat} (I:Inv X pins σ H s) (k:∀ b u,s.heap.get? b=some u→h'.get? b=some u):Inv X pins σ H { s with heap:=h',toks:=t' }:=I.un (Un.kept k) (I.hok.kept k)
theorem Inv.laid {a:Addr} {o:HO} {t':Nat} (I:Inv X pins σ H s) (k:∀ b u,s.heap.get? b=some u→h'.get? b=some u) (hp:s.heap.objs.size≤a) (new:ObjOk X.prog X.w (upd H a o) h' a o) :
  Inv X pins σ (upd H a o) { s with heap:=h',toks:=t' }:=I.un (Un.laid k hp (I.hok.fresh hp)) (I.hok.laid k hp new)
theorem Inv.write {x e:Addr} {o:HO} {t':Nat} (I:Inv X pins σ H s) (mu:Mut (H x)) (he:e=x∨H e=some (.own x)) (k:∀ b u,b≠e→s.heap.get? b=some u→h'.get? b=some u) (heo:∃ u,h'.get? e=some u)
  (new:ObjOk X.prog X.w (upd H x o) h' x o):Inv X pins σ (upd H x o) { s with heap:=h',toks:=t' }:=I.un (Un.write mu he k heo) (I.hok.write mu he k heo new)
theorem Inv.pins_of {pins':List (Addr × Obj)} (I:Inv X pins σ H s) (h:∀ p∈pins',s.heap.get? p.1=some p.2∧H p.1=none∧p.1≠X.env.locals∧p.1∉X.fs∧∀ v,p.2.data≠.cell v):Inv X pins' σ H s :=
 ⟨I.ok,I.os,I.bare,I.base,I.loc,I.cell,I.free,I.freeC,fun p hp=>(List.mem_append.mp hp).elim (fun z=>I.pin p (List.mem_append_left _ z)) (h p),I.hok,I.len⟩
theorem nodup_ix {N:List Str} (hN:N.Nodup) {i j:Nat} {x:Str} (a:N[i]? = some x) (b:N[j]? = some x):i=j:=by
 obtain ⟨h1,e1⟩:=List.getElem?_eq_some_iff.mp a
 obtain ⟨h2,e2⟩:=List.getElem?_eq_some_iff.mp b
 exact (List.getElem_inj hN).mp (e1.trans e2.symm)
theorem store_ok2 {M:Model} {A:Around} {E:Value→Shared→Prop} {i:Nat} {x:Str} {v:V} {u:Value} {Q:Unit→Shared→Prop} (I:Inv X pins σ H s) (hN:X.N.Nodup) (hi:X.N[i]? = some x) (hx:Loc X.env.scope x) (r:RelV v u)
  (h:∀ s',Inv X pins (σ.set i (some v)) H s'→(∃ a,Heap.SameBut a s.heap s'.heap∧(a=X.env.locals∨X.env.cells.lookup x=some a))→Q () s') (hf:X.fn x=true∨X.env.scope.names.lookup x=some .local:=by first | exact .inl rfl | exact .inr rfl | assumption):wpAny M A (storeName X.env x u) Q E s:=by
 obtain ⟨m,hn,hl⟩:=id I.loc
 have hcls:(X.env.scope.kind == .class || (X.env.scope.kind == .module && X.env.locals != X.env.globals))=false:=by rw [I.ok.kind]; rfl
 have hiσ:i<σ.length:=by rw [I.len]; exact (List.getElem?_eq_some_iff.mp hi).1
 have cne:=I.cne
 have tracked:∀ {a:Addr} {h':Heap},(∃ o,s.heap.get? a=some o∧H a=none)→Heap.SameBut a s.heap h'→HOk X.prog X.w H h':=fun {a h'} ha hs b ob e=>by
  obtain ⟨_,_,hfree⟩:=ha
  refine (I.hok b ob e).stay (fun c w' hc q=>(hs.2 c ?_).trans q) (fun _ q=>q) fun _ _ q=>q
  rintro rfl
  rcases hc with rfl | hc
  ·rw [hfree] at e; cases e
  ·rw [hfree] at hc; cases hc
 rcases hx with hk | hk
 ·refine wpAny_storeName_local hk hn (fun h' hn' hs=>?_) hcls
  obtain ⟨oL,_,_,hoL,_⟩:=id hn
  refine h _ ⟨I.ok,I.os,I.bare,⟨fun b o e n hb hx=>?_,fun b o e n hb hx=>?_,I.base.free,fun b o e hx=>?_,I.base.tups,I.base.frzs,I.base.tbls⟩,⟨_,hn',fun j y v' e1 e2 e3=>?_⟩,fun y c e=>?_,I.free,I.freeC,fun p hp=>?_,tracked ⟨oL,hoL,I.free⟩ hs,by simpa using I.len⟩ ⟨_,hs,.inl rfl⟩
  ·exact (hs.2 b (Nat.ne_of_lt (Nat.lt_of_lt_of_le (Heap.lt_size e) I.ok.above))).trans (I.base.keep b o e n hb hx)
  ·obtain ⟨sl,e1⟩:=I.base.slot b o e n hb hx
   exact ⟨sl,(hs.2 b (Nat.ne_of_lt (Nat.lt_of_lt_of_le (Heap.lt_size e) I.ok.above))).trans e1⟩
  ·obtain ⟨o',e1⟩:=I.base.there b o e hx
   exact ⟨o',(hs.2 b (Nat.ne_of_lt (Nat.lt_of_lt_of_le (Heap.lt_size e) I.ok.above))).trans e1⟩
  ·by_cases hj:j=i
   ·subst hj
    rw [hi] at e1; cases e1
    rw [List.getElem?_set_self hiσ] at e2
    cases e2
    exact ⟨u,r,.inl ⟨hk,by simp⟩⟩
   ·rw [List.getElem?_set_ne (Ne.symm hj)] at e2
    obtain ⟨u',r',q⟩:=hl j y v' e1 e2 e3
    refine ⟨u',r',?_⟩
    rcases q with ⟨k,e⟩ | ⟨k,c,e,z⟩
    ·refine .inl ⟨k,?_⟩
     have:y≠x:=fun e=>hj (nodup_ix hN e1 (e ▸ hi))
     simp [this,e]
    ·exact .inr ⟨k,c,e,z.sameBut hs (cne y c e)⟩
  ·obtain ⟨w',z⟩:=I.cell y c e
   exact ⟨w',z.sameBut hs (cne y c e)⟩
  ·obtain ⟨e,n,ne,nf,d⟩:=I.pin p hp
   exact ⟨(hs.2 p.1 ne).trans e,n,ne,nf,d⟩
 ·have hfn:X.fn x=true:=by
   rcases hf with z | z
   ·exact z
   ·rw [z] at hk; cases hk
  obtain ⟨c,hc⟩:=I.ok.has x (.inl hk)
  obtain ⟨w',z⟩:=I.cell x c hc
  refine wpAny_storeName_cell I.ok.kind hk hc z (fun h' hc' hs=>?_)
  obtain ⟨oc,hoc,hocd⟩:=id z
  refine h { s with heap:=h' } ⟨I.ok,I.os,I.bare,⟨fun b o e n hb hx=>?_,fun b o e n hb hx=>?_,I.base.free,fun b o e hx=>?_,I.base.tups,I.base.frzs,I.base.tbls⟩,⟨m,hn.sameBut hs (Ne.symm (cne x c hc)),fun j y v' e1 e2 e3=>?_⟩,fun y c' e=>?_,I.free,I.freeC,fun p hp=>?_,tracked ⟨oc,hoc,I.freeC x c hc⟩ hs,by simpa using I.len⟩ ⟨c,hs,.inr hc⟩
  ·exact (hs.2 b (Nat.ne_of_lt (Nat.lt_of_lt_of_le (Heap.lt_size e) (I.ok.cab x c hfn hc)))).trans (I.base.keep b o e n hb hx)
  ·obtain ⟨sl,e1⟩:=I.base.slot b o e n hb hx
   exact ⟨sl,(hs.2 b (Nat.ne_of_lt (Nat.lt_of_lt_of_le (Heap.lt_size e) (I.ok.cab x c hfn hc)))).trans e1⟩
  ·obtain ⟨o',e1⟩:=I.base.there b o e hx
   exact ⟨o',(hs.2 b (Nat.ne_of_lt (Nat.lt_of_lt_of_le (Heap.lt_size e) (I.ok.cab x c hfn hc)))).trans e1⟩
  ·by_cases hj:j=i
   ·subst hj
    rw [hi] at e1; cases e1
    rw [List.getElem?_set_self hiσ] at e2
    cases e2
    exact ⟨u,r,.inr ⟨.inl hk,c,hc,hc'⟩⟩
   ·rw [List.getElem?_set_ne (Ne.symm hj)] at e2
    obtain ⟨u',r',q⟩:=hl j y v' e1 e2 e3
    refine ⟨u',r',?_⟩
    rcases q with q | ⟨k,c',e,z'⟩
    ·exact .inl q
    ·refine .inr ⟨k,c',e,z'.sameBut hs ?_⟩
     rintro rfl
     exact hj (nodup_ix hN e1 (I.ok.inj _ _ _ e hc ▸ hi))
  ·by_cases hcc:c'=c
   ·subst hcc; exact ⟨_,hc'⟩
   ·obtain ⟨w2,z2⟩:=I.cell y c' e
    exact ⟨w2,z2.sameBut hs hcc⟩
  ·obtain ⟨e,n,ne,nf,d⟩:=I.pin p hp
   refine ⟨(hs.2 p.1 ?_).trans e,n,ne,nf,d⟩
   intro q
   rw [q,hoc] at e
   have q':oc=p.2:=Option.some.inj e
   exact d w' (by rw [← q']; exact hocd)
theorem store_ok {M:Model} {A:Around} {E:Value→Shared→Prop} {i:Nat} {x:Str} {v:V} {u:Value} {Q:Unit→Shared→Prop} (I:Inv X pins σ H s) (hN:X.N.Nodup) (hi:X.N[i]? = some x) (hx:Loc X.env.scope x) (r:RelV v u)
  (h:∀ s',Inv X pins (σ.set i (some v)) H s'→Q () s') (hf:X.fn x=true∨X.env.scope.names.lookup x=some .local:=by first | exact .inl rfl | exact .inr rfl | assumption):wpAny M A (storeName X.env x u) Q E s :=
 store_ok2 I hN hi hx r (fun s' I' _=>h s' I') hf
theorem Inv.call' {s':Shared} {ch:List Addr} (I:Inv X pins σ H s) (ho:s'.os=s.os) (u:Un (frs X.stack) ch H H' s.heap s'.heap) (hok:HOk X.prog X.w H' s'.heap) (hg:AllBare s'.gens)
  (hch:∀ b∈ch,(b∈X.ex∨X.s₀.heap.objs.size≤b)∧b≠X.env.locals∧(∀ x c,X.env.cells.lookup x=some c→c≠b)∧∀ p∈X.pn++pins,p.1≠b):Inv X pins σ H' s':=by
 obtain ⟨h',g',d',t',o'⟩:=s'
 have e:o'=s.os:=ho
 subst e
 exact I.call (g':=g') (t':=t') (d':=d') u hok hg hch
end
noncomputable abbrev XK:=Value→Option Addr→Hp→Prop
noncomputable abbrev St:=List (Option V)
noncomputable abbrev VK:=V→Hp→Prop
noncomputable abbrev TE:=St→Hp→VK→Prop
noncomputable abbrev TT:=St→Hp→(Bool→Hp→Prop)→Prop
noncomputable abbrev TA:=St→Hp→(List V→Hp→Prop)→Prop
structure Ends where
 nx:St→Hp→Prop
 rt:VK
 bk:St→Hp→Prop:=fun _ _=>False
 ct:St→Hp→Prop:=fun _ _=>False
noncomputable abbrev TS:=Ends→St→Hp→Prop
noncomputable def EP (X:Cx) (pins:List (Addr × Obj)) (σ:St) (Q:VK) (u:Value) (s':Shared):Prop:=∃ v H',Inv X pins σ H' s'∧RelV v u∧Q v H'
noncomputable def TP (X:Cx) (pins:List (Addr × Obj)) (σ:St) (Q:Bool→Hp→Prop) (b:Bool) (s':Shared):Prop:=∃ H',Inv X pins σ H' s'∧Q b H'
noncomputable def AP (X:Cx) (pins:List (Addr × Obj)) (σ:St) (Q:List V→Hp→Prop) (us:List Value) (s':Shared):Prop:=∃ vs H',Inv X pins σ H' s'∧Vals vs us∧Q vs H'
noncomputable def SP (X:Cx) (pins:List (Addr × Obj)) (D:Ends) (f:Flow) (s':Shared):Prop :=
 match f with
 | .next=>∃ σ' H',Inv X pins σ' H' s'∧D.nx σ' H'
 | .brk=>∃ σ' H',Inv X pins σ' H' s'∧D.bk σ' H'
 | .cont=>∃ σ' H',Inv X pins σ' H' s'∧D.ct σ' H'
 | .ret u=>∃ v σ' H',Inv X pins σ' H' s'∧RelV v u∧D.rt v H'
noncomputable def PE (X:Cx) (e:Expr) (t:TE):Prop :=
 ∀ (pins:List (Addr × Obj)) (s:Shared) (σ:St) (H:Hp) (Q:VK),Inv X pins σ H s→t σ H Q→wpAny (model X.prog X.w) X.A (eval e X.env) (EP X pins σ Q) X.xe s
noncomputable def PT (X:Cx) (e:Expr) (t:TT):Prop :=
 ∀ (pins:List (Addr × Obj)) (s:Shared) (σ:St) (H:Hp) (Q:Bool→Hp→Prop),Inv X pins σ H s→t σ H Q→wpAny (model X.prog X.w) X.A (isTrue e X.env (eval e X.env)) (TP X pins σ Q) X.xe s
noncomputable def PW (X:Cx) (e:Expr) (t:TT):Prop :=
 ∀ (whole:Sem Value) (pins:List (Addr × Obj)) (s:Shared) (σ:St) (H:Hp) (Q:Bool→Hp→Prop),Inv X pins σ H s→t σ H Q→wpAny (model X.prog X.w) X.A (isTrue e X.env whole) (TP X pins σ Q) X.xe s
noncomputable def PA (X:Cx) (es:List Expr) (t:TA):Prop :=
 ∀ (pos:Pos) (pins:List (Addr × Obj)) (s:Shared) (σ:St) (H:Hp) (Q:List V→Hp→Prop),Inv X pins σ H s→t σ H Q→wpAny (model X.prog X.w) X.A (spliced (backTo pos (starEach es X.env))) (AP X pins σ Q) X.xe s
noncomputable def PS (X:Cx) (st:Stmt) (t:TS):Prop :=
 ∀ (pins:List (Addr × Obj)) (s:Shared) (σ:St) (H:Hp) (D:Ends),Inv X pins σ H s→t D σ H→wpAny (model X.prog X.w) X.A (exec st X.env) (SP X pins D) X.xe s
noncomputable def PSs (X:Cx) (st:List Stmt) (t:TS):Prop :=
 ∀ (pins:List (Addr × Obj)) (s:Shared) (σ:St) (H:Hp) (D:Ends),Inv X pins σ H s→t D σ H→wpAny (model X.prog X.w) X.A (execs st X.env) (SP X pins D) X.xe s
theorem thn {α:Type} {t:Sem α} {Q Q':α→Shared→Prop} {M:Model} {A:Around} {E:Value→Shared→Prop} {s:Shared} (h:wpAny M A t Q E s) (hQ:∀ a s,Q a s→Q' a s):wpAny M A t Q' E s:=wpAny_mono h hQ fun _ _ x=>x
end L2
namespace L2
open PySem PySem.Spec PyProof.Rows
section
variable {X:Cx}
noncomputable def tVar (i:Nat):TE:=fun σ H Q=>∃ v,σ[i]? = some (some v)∧Q v H
noncomputable def tC (v:V):TE:=fun _ H Q=>Q v H
theorem pe_var {i:Nat} {x:Str} {pos:Pos} (hN:X.N[i]? = some x) (hv:Vis X.env.scope x) (hd:(x == ("__debug__" : Str))=false:=by decide) (hcd:(x == ("__classdict__" : Str))=false:=by decide):PE X (.Name x pos) (tVar i):=by
 intro pins s σ H Q I h
 obtain ⟨v,e,h⟩:=h
 obtain ⟨m,hn,hl⟩:=I.loc
 obtain ⟨u,r,l⟩:=hl i x v hN e hv
 have fin:EP X pins σ Q u s:=⟨v,H,I,r,h⟩
 rcases l with ⟨hk,hm⟩ | ⟨hk,c,hc,hcell⟩
 ·exact wpAny_Name (wpAny_loadName_local I.ok.kind hk hn hm fin) hd
 ·rcases hk with hk | hk
  ·exact wpAny_Name (wpAny_loadName_cell I.ok.kind hk hc hcell fin) hd
  ·exact wpAny_Name (wpAny_loadName_free I.ok.kind hk hc hcell fin hcd) hd
theorem pe_int {i j pos}:PE X (.Constant (.int i) j pos) (tC (.int i)):=fun _ _ _ H _ I h=>wpAny_Constant_int ⟨.int i,H,I.tok _,⟨_,rfl⟩,h⟩
theorem pe_bl {b j pos}:PE X (.Constant (.bool b) j pos) (tC (.bl b)):=fun _ _ _ H _ I h=>Constant_bool ⟨.bl b,H,I,rfl,h⟩
theorem pe_str {x j pos}:PE X (.Constant (.str x) j pos) (tC (.str x)):=fun _ _ _ H _ I h=>Calls.Constant_str ⟨.str x,H,I.tok _,⟨_,rfl⟩,h⟩
noncomputable def Gl (X:Cx) (x:Str):Prop:=X.env.kindOf x=some .globalImplicit
theorem ld_glob {E:Value→Shared→Prop} {pins:List (Addr × Obj)} {s:Shared} {σ:St} {H:Hp} {x:Str} {u:Value} {pos:Pos} {Q:Value→Shared→Prop} (I:Inv X pins σ H s) (hg:Gl X x) (hm:X.mg x=some u) (h:Q u s)
  (hd:(x == ("__debug__" : Str))=false:=by decide):wpAny (model X.prog X.w) X.A (eval (.Name x pos) X.env) Q E s :=
 Calls.Name_function_global I.ok.kind hg (Calls.loadGlobal_global (by rw [I.ok.glob]; exact I.mod.glob.keeps I.bk) hm h) hd
theorem ld_blt {E:Value→Shared→Prop} {pins:List (Addr × Obj)} {s:Shared} {σ:St} {H:Hp} {x:Str} {u:Value} {pos:Pos} {Q:Value→Shared→Prop} (I:Inv X pins σ H s) (hg:Gl X x) (hm:X.mg x=none) (hv:bootBuiltins x=some u) (h:Q u s)
  (hn:x ≠ "__name__" := by decide) (hd:(x == ("__debug__" : Str))=false:=by decide):wpAny (model X.prog X.w) X.A (eval (.Name x pos) X.env) Q E s:=by
 obtain ⟨mb,h1,h2⟩:=I.mod.blt
 exact Calls.Name_function_global I.ok.kind hg (Calls.loadGlobal_builtin (by rw [I.ok.glob]; exact I.mod.glob.keeps I.bk) hm (by rw [I.ok.blt]; exact h1.keeps I.bk) ((h2 x hn).trans hv) h) hd
theorem pe_glob {x:Str} {v:V} {u:Value} {pos:Pos} (hg:Gl X x) (hm:X.mg x=some u) (r:RelV v u) (hd:(x == ("__debug__" : Str))=false:=by decide):PE X (.Name x pos) (tC v) :=
 fun _ _ _ H _ I h=>ld_glob I hg hm ⟨v,H,I,r,h⟩ hd
theorem pe_bltn {x:Str} {v:V} {u:Value} {pos:Pos} (hg:Gl X x) (hm:X.mg x=none) (hv:bootBuiltins x=some u) (r:RelV v u) (hn:x ≠ "__name__" := by decide) (hd:(x == ("__debug__" : Str))=false:=by decide):PE X (.Name x pos) (tC v) :=
 fun _ _ _ H _ I h=>ld_blt I hg hm hv ⟨v,H,I,r,h⟩ hn hd
variable {a b:Expr} {ta tb:TE} {pos:Pos}
noncomputable def tB (t:TE):TT:=fun σ H Q=>t σ H fun x H1=>∃ c,x=.bl c∧Q c H1
theorem pt_val {e:Expr} {t:TE} (h:PE X e t) (he:∀ whole,isTrue e X.env whole=(do let v ← whole; standAt e.pos; holding [v] (truthy v)):=by intro _; rfl):PT X e (tB t):=by
 intro pins s σ H Q I hw
 refine isTrue_plain (thn (h pins s σ H _ I hw) fun v s1 hx5=>L2.ex2 hx5 fun x H1 I1 r1 q1=>?_) (he _)
 obtain ⟨d,rfl,q⟩:=q1
 cases r1
 exact wpAny_truthy_bool ⟨H1,I1,q⟩
variable {tA tB':TT} {rest:List Expr}
noncomputable def tAnd (t u:TT):TT:=fun σ H Q=>t σ H fun c H1=>if c=true then u σ H1 Q else Q false H1
noncomputable def tOr (t u:TT):TT:=fun σ H Q=>t σ H fun c H1=>if c=true then Q true H1 else u σ H1 Q
noncomputable def tNot (t:TT):TT:=fun σ H Q=>t σ H fun c H1=>Q (!c) H1
theorem pw_and1 (ha:PT X a tA):PW X (.BoolOp .And [a] pos) tA:=by
 intro wh pins s σ H Q I h
 refine isTrue_and (thn (ha pins s σ H Q I h) fun c s1 e=>?_)
 cases c with
 | true=>exact isTrue_and_nil e
 | false=>exact e
theorem pw_or1 (ha:PT X a tA):PW X (.BoolOp .Or [a] pos) tA:=by
 intro wh pins s σ H Q I h
 refine isTrue_or (thn (ha pins s σ H Q I h) fun c s1 e=>?_)
 cases c with
 | false=>exact isTrue_or_nil e
 | true=>exact e
theorem pw_and (ha:PT X a tA) (hb:PW X (.BoolOp .And (b :: rest) pos) tB'):PW X (.BoolOp .And (a :: b :: rest) pos) (tAnd tA tB'):=by
 intro wh pins s σ H Q I h
 refine isTrue_and (thn (ha pins s σ H _ I h) fun c s1 hx9=>?_)
 obtain ⟨H1,I1,q1⟩:=hx9
 cases c with
 | true=>exact hb wh pins s1 σ H1 Q I1 q1
 | false=>exact ⟨H1,I1,q1⟩
theorem pw_or (ha:PT X a tA) (hb:PW X (.BoolOp .Or (b :: rest) pos) tB'):PW X (.BoolOp .Or (a :: b :: rest) pos) (tOr tA tB'):=by
 intro wh pins s σ H Q I h
 refine isTrue_or (thn (ha pins s σ H _ I h) fun c s1 hx9=>?_)
 obtain ⟨H1,I1,q1⟩:=hx9
 cases c with
 | true=>exact ⟨H1,I1,q1⟩
 | false=>exact hb wh pins s1 σ H1 Q I1 q1
theorem pt_not (ha:PT X a tA):PT X (.UnaryOp .Not a pos) (tNot tA):=by
 intro pins s σ H Q I h
 exact isTrue_not (ha pins s σ H (fun c H1=>Q (!c) H1) I h)
noncomputable def tAndV (ta tb:TE):TE:=fun σ H Q=>ta σ H fun x H1=>∃ c,x=.bl c∧if c=true then tb σ H1 Q else Q (.bl false) H1
noncomputable def tOrV (ta tb:TE):TE:=fun σ H Q=>ta σ H fun x H1=>∃ c,x=.bl c∧if c=true then Q (.bl true) H1 else tb σ H1 Q
noncomputable def tNotV (ta:TE):TE:=fun σ H Q=>ta σ H fun x H1=>∃ c,x=.bl c∧Q (.bl (!c)) H1
theorem pe_one {op} {t:TE} (h:PE X a t):PE X (.BoolOp op [a] pos) t:=fun pins s σ H Q I hw=>BoolOp_one (h pins s σ H Q I hw)
theorem pe_and (ha:PE X a ta) (hb:PE X (.BoolOp .And (b :: rest) pos) tb):PE X (.BoolOp .And (a :: b :: rest) pos) (tAndV ta tb):=by
 intro pins s σ H Q I h
 refine BoolOp_and (thn (ha pins s σ H _ I h) fun v s1 hx5=>L2.ex2 hx5 fun x H1 I1 r1 q1=>?_)
 obtain ⟨c,rfl,q1⟩:=q1
 cases r1
 refine wpAny_truthy_bool ?_
 cases c with
 | true=>exact hb pins s1 σ H1 Q I1 q1
 | false=>exact ⟨.bl false,H1,I1,rfl,q1⟩
theorem pe_or (ha:PE X a ta) (hb:PE X (.BoolOp .Or (b :: rest) pos) tb):PE X (.BoolOp .Or (a :: b :: rest) pos) (tOrV ta tb):=by
 intro pins s σ H Q I h
 refine BoolOp_or (thn (ha pins s σ H _ I h) fun v s1 hx5=>L2.ex2 hx5 fun x H1 I1 r1 q1=>?_)
 obtain ⟨c,rfl,q1⟩:=q1
 cases r1
 refine wpAny_truthy_bool ?_
 cases c with
 | false=>exact hb pins s1 σ H1 Q I1 q1
 | true=>exact ⟨.bl true,H1,I1,rfl,q1⟩
theorem pe_not (ha:PE X a ta):PE X (.UnaryOp .Not a pos) (tNotV ta):=by
 intro pins s σ H Q I h
 refine UnaryOp_ (thn (ha pins s σ H _ I h) fun v s1 hx5=>L2.ex2 hx5 fun x H1 I1 r1 q1=>?_)
 obtain ⟨c,rfl,q1⟩:=q1
 cases r1
 exact not_of (wpAny_truthy_bool ⟨.bl (!c),H1,I1,rfl,q1⟩)
noncomputable def tIf (t:TT) (ta tb:TE):TE:=fun σ H Q=>t σ H fun c H1=>if c=true then ta σ H1 Q else tb σ H1 Q
theorem pe_ifExp {c:Expr} (hc:PT X c tA) (ha:PE X a ta) (hb:PE X b tb):PE X (.IfExp c a b pos) (tIf tA ta tb):=by
 intro pins s σ H Q I h
 refine wpAny_IfExp (thn (hc pins s σ H _ I h) fun d s1 hx9=>?_)
 obtain ⟨H1,I1,q1⟩:=hx9
 cases d with
 | true=>exact ha pins s1 σ H1 Q I1 q1
 | false=>exact hb pins s1 σ H1 Q I1 q1
end
end L2
namespace L2
open PySem PySem.Spec PyProof.Rows
noncomputable def SqL (K:PySem.W.Frag) (H:Hp) (a:Addr) (xs:List V):Prop :=
 Rd H a (.lst xs) ∨
  ∃ (o:Obj) (its:Array Value) (n:Nat),K.lookup a=some o∧o.cls=.type "list"∧o.dict=none∧o.data=.seq its n∧its.size≤sizeLine∧Vals xs its.toList
noncomputable def SqT (K:PySem.W.Frag) (H:Hp) (a:Addr) (xs:List V):Prop :=
 Rd H a (.tup xs) ∨
  ∃ (o:Obj) (its:Array Value) (n:Nat),K.lookup a=some o∧o.cls=.type "tuple"∧o.data=.seq its n∧its.size≤sizeLine∧Vals xs its.toList
noncomputable def absV:Value→Option V
 | .none=>some .non
 | .bool b=>some (.bl b)
 | .int i _=>some (.int i)
 | .str x _=>some (.str x)
 | .bytes b _=>some (.byt b)
 | .float b _=>some (.flt b)
 | .ref a=>some (.ref a)
 | .type n=>some (.ty n)
 | _=>none
theorem RelV.abs {x:V} {u:Value} (r:RelV x u):absV u=some x:=by
 cases x with
 | non=>cases r; rfl
 | bl _=>cases r; rfl
 | int _=>obtain ⟨t,rfl⟩:=r; rfl
 | str _=>obtain ⟨t,rfl⟩:=r; rfl
 | byt _=>obtain ⟨t,rfl⟩:=r; rfl
 | flt _=>obtain ⟨t,rfl⟩:=r; rfl
 | ref _=>cases r; rfl
 | ty _=>cases r; rfl
theorem RelV.inj {x y:V} {u:Value} (r:RelV x u) (q:RelV y u):x=y:=Option.some.inj (r.abs.symm.trans q.abs)
theorem Vals.inj:∀ {xs ys:List V} {us:List Value},Vals xs us→Vals ys us→xs=ys
 | _,_,_,.nil,.nil=>rfl
 | _,_,_,.cons r t,.cons r' t'=>by rw [r.inj r',Vals.inj t t']
section
variable {X:Cx} {pins:List (Addr × Obj)} {σ:St} {H:Hp} {s:Shared} {a:Addr} {xs ys:List V}
theorem Inv.list (I:Inv X pins σ H s) (h:SqL X.K H a xs):∃ its:List Value,Vals xs its∧PlainL s.heap a its.toArray∧xs.length≤sizeLine:=by
 rcases h with h | ⟨o,its,n,hk,hc,hd,hs,hz,r⟩
 ·obtain ⟨z,its,n,r,e⟩:=h.ok I.hok
  exact ⟨its,r,⟨_,n,e,rfl,rfl,rfl⟩,z⟩
 ·refine ⟨its.toList,r,⟨o,n,I.kIn a o hk,hc,hd,by simpa using hs⟩,?_⟩
  have e:=r.length
  simp only [Array.length_toList] at e
  walk_at "l"
theorem Inv.tuple (I:Inv X pins σ H s) (h:SqT X.K H a xs):∃ its:List Value,Vals xs its∧IsTup s.heap a its.toArray∧xs.length≤sizeLine:=by
 rcases h with h | ⟨o,its,n,hk,hc,hs,hz,r⟩
 ·obtain ⟨z,its,r,p⟩:=h.ok I.hok
  exact ⟨its,r,p,z⟩
 ·refine ⟨its.toList,r,⟨o,I.kIn a o hk,hc,n,by simpa using hs⟩,?_⟩
  have e:=r.length
  simp only [Array.length_toList] at e
  walk_at "l"
theorem Inv.list_inj (I:Inv X pins σ H s) (h:SqL X.K H a xs) (h':SqL X.K H a ys):xs=ys:=by
 obtain ⟨its,r,⟨o,n,e,_,_,d⟩,_⟩:=I.list h
 obtain ⟨its',r',⟨o',n',e',_,_,d'⟩,_⟩:=I.list h'
 rw [e] at e'; cases e'
 rw [d] at d'
 injection d' with d1 _
 have:its=its':=by simpa using congrArg Array.toList d1
 subst this
 exact r.inj r'
theorem Inv.tuple_inj (I:Inv X pins σ H s) (h:SqT X.K H a xs) (h':SqT X.K H a ys):xs=ys:=by
 obtain ⟨its,r,⟨o,e,_,n,d⟩,_⟩:=I.tuple h
 obtain ⟨its',r',⟨o',e',_,n',d'⟩,_⟩:=I.tuple h'
 rw [e] at e'; cases e'
 rw [d] at d'
 injection d' with d1 _
 have:its=its':=by simpa using congrArg Array.toList d1
 subst this
 exact r.inj r'
end
noncomputable abbrev Cx.wish (X:Cx) (E:Value→Shared→Prop):Cx:={ X with xe:=E }
noncomputable abbrev Cx.nox (X:Cx):Cx:=X.wish fun _ _=>False
theorem Cx.Ok.wish {X:Cx} (ok:X.Ok) (E:Value→Shared→Prop):(X.wish E).Ok :=
 ⟨ok.mod,ok.kind,ok.glob,ok.blt,ok.above,ok.inj,ok.has,ok.cab,ok.hd,ok.frames,ok.stk,ok.exf,ok.bs,ok.bsz,ok.noex,ok.exfs,ok.funs,ok.frf⟩
theorem Cx.Ok.unwish {X:Cx} {E:Value→Shared→Prop} (ok:(X.wish E).Ok):X.Ok :=
 ⟨ok.mod,ok.kind,ok.glob,ok.blt,ok.above,ok.inj,ok.has,ok.cab,ok.hd,ok.frames,ok.stk,ok.exf,ok.bs,ok.bsz,ok.noex,ok.exfs,ok.funs,ok.frf⟩
section
variable {X:Cx} {pins:List (Addr × Obj)} {σ:St} {H:Hp} {s:Shared} {E:Value→Shared→Prop}
theorem Inv.wish (I:Inv X pins σ H s) (E:Value→Shared→Prop):Inv (X.wish E) pins σ H s:=⟨I.ok.wish E,I.os,I.bare,I.base,I.loc,I.cell,I.free,I.freeC,I.pin,I.hok,I.len⟩
theorem Inv.unwish (I:Inv (X.wish E) pins σ H s):Inv X pins σ H s:=⟨I.ok.unwish,I.os,I.bare,I.base,I.loc,I.cell,I.free,I.freeC,I.pin,I.hok,I.len⟩
theorem SP.unwish {D:Ends} {f:Flow} {s':Shared} (h:SP (X.wish E) pins D f s'):SP X pins D f s':=by
 cases f with
 | next=>obtain ⟨σ',H',I,q⟩:=h; exact ⟨σ',H',I.unwish,q⟩
 | brk=>obtain ⟨σ',H',I,q⟩:=h; exact ⟨σ',H',I.unwish,q⟩
 | cont=>obtain ⟨σ',H',I,q⟩:=h; exact ⟨σ',H',I.unwish,q⟩
 | ret u=>obtain ⟨v,σ',H',I,r,q⟩:=h; exact ⟨v,σ',H',I.unwish,r,q⟩
theorem PSs.nox {st:List Stmt} {t:TS} (h:PSs X.nox st t):PSs X st t:=fun pins s σ H D I hw =>
 wpAny_mono (h pins s σ H D (I.wish _) hw) (fun _ _ q=>q.unwish) fun _ _ z=>False.elim z
end
section
variable {X:Cx} {st:Stmt} {rest:List Stmt} {t u:TS} {e:Expr} {te:TE} {pos:Pos}
noncomputable def tNext:TS:=fun D σ H=>D.nx σ H
noncomputable def tSeq (t u:TS):TS:=fun D σ H=>t { D with nx:=u D } σ H
theorem pss_nil:PSs X [] tNext:=fun _ _ σ H _ I h=>wpAny_execs_nil ⟨σ,H,I,h⟩
theorem pss_cons (h1:PS X st t) (h2:PSs X rest u):PSs X (st :: rest) (tSeq t u):=by
 intro pins s σ H D I h
 refine wpAny_execs_cons (thn (h1 pins s σ H { D with nx:=u D } I h) fun f s1 q=>?_)
 cases f with
 | next =>
  obtain ⟨σ',H',I',q⟩:=q
  exact h2 pins s1 σ' H' D I' q
 | ret v=>exact q
 | brk=>exact q
 | cont=>exact q
theorem pss_one (h1:PS X st t):PSs X [st] t:=by
 intro pins s σ H D I h
 refine wpAny_execs_cons (thn (h1 pins s σ H D I h) fun f s1 q=>?_)
 cases f with
 | next=>exact wpAny_execs_nil q
 | ret v=>exact q
 | brk=>exact q
 | cont=>exact q
theorem Inv.quiet {pins:List (Addr × Obj)} {σ:St} {H:Hp} {s:Shared} (I:Inv X pins σ H s):interactive X.env=false:=by simp [interactive,I.ok.kind]
noncomputable def tDrop (te:TE):TS:=fun D σ H=>te σ H fun _ H1=>D.nx σ H1
theorem ps_expr (he:PE X e te) (hs:swapsWith e none pos.line X.env=pure false:=by rfl):PS X (.Expr e pos) (tDrop te):=by
 intro pins s σ H D I h
 exact wpAny_Expr_any (thn (he pins s σ H _ I h) fun v s1 hx5=>L2.ex2 hx5 fun x H1 I1 r1 q1=>⟨σ,H1,I1,q1⟩) I.quiet hs
noncomputable def tRet (te:TE):TS:=fun D σ H=>te σ H D.rt
theorem ps_ret (he:PE X e te):PS X (.Return (some e) pos) (tRet te):=by
 intro pins s σ H D I h
 exact wpAny_Return_some (thn (he pins s σ H _ I h) fun v s1 hx5=>L2.ex2 hx5 fun x H1 I1 r1 q1=>⟨x,σ,H1,I1,r1,q1⟩)
noncomputable def tIfS (c:TT) (t u:TS):TS:=fun D σ H=>c σ H fun b H1=>if b=true then t D σ H1 else u D σ H1
theorem ps_if {c:Expr} {a b:List Stmt} {tc:TT} (hc:PT X c tc) (ha:PSs X a t) (hb:PSs X b u):PS X (.If c a b pos) (tIfS tc t u):=by
 intro pins s σ H D I h
 refine wpAny_If (thn (hc pins s σ H _ I h) fun d s1 hx9=>?_)
 obtain ⟨H1,I1,q1⟩:=hx9
 cases d with
 | true=>exact ha pins s1 σ H1 D I1 q1
 | false=>exact hb pins s1 σ H1 D I1 q1
noncomputable def tNever:TS:=fun _ _ _=>False
theorem pss_never {sts:List Stmt}:PSs X sts tNever:=fun _ _ _ _ _ _ h=>h.elim
end
noncomputable abbrev TG:=V→St→Hp→(St→Hp→Prop)→Prop
noncomputable abbrev TGs:=List V→St→Hp→(St→Hp→Prop)→Prop
noncomputable def PG (X:Cx) (target:Expr) (t:TG):Prop :=
 ∀ (pins:List (Addr × Obj)) (s:Shared) (σ:St) (H:Hp) (v:V) (u:Value) (Q:St→Hp→Prop),Inv X pins σ H s→RelV v u→t v σ H Q →
  wpAny (model X.prog X.w) X.A (assign target X.env u) (fun _ s'=>∃ σ' H',Inv X pins σ' H' s'∧Q σ' H') X.xe s
noncomputable def PGs (X:Cx) (ts:List Expr) (t:TGs):Prop :=
 ∀ (pins:List (Addr × Obj)) (s:Shared) (σ:St) (H:Hp) (vs:List V) (us:List Value) (Q:St→Hp→Prop),Inv X pins σ H s→Vals vs us→t vs σ H Q →
  wpAny (model X.prog X.w) X.A (assignInOrder ((assignEach ts X.env).map (·.2)) us) (fun _ s'=>∃ σ' H',Inv X pins σ' H' s'∧Q σ' H') X.xe s
section
variable {X:Cx} {pos:Pos}
noncomputable def gName (i:Nat):TG:=fun v σ H Q=>Q (σ.set i (some v)) H
theorem pg_name {i:Nat} {x:Str} (hN:X.N.Nodup) (hi:X.N[i]? = some x) (hx:Loc X.env.scope x) (hf:X.fn x=true∨X.env.scope.names.lookup x=some .local:=by first | exact .inl rfl | exact .inr rfl | assumption):PG X (.Name x pos) (gName i):=by
 intro pins s σ H v u Q I r h
 exact wpAny_assign_Name (store_ok I hN hi hx r (fun s' I'=>⟨_,H,I',h⟩) hf)
noncomputable def gNil:TGs:=fun vs σ H Q=>vs=[]∧Q σ H
noncomputable def gCons (t:TG) (u:TGs):TGs:=fun vs σ H Q=>∃ v r,vs=v :: r∧t v σ H fun σ' H'=>u r σ' H' Q
theorem pgs_nil:PGs X [] gNil:=by
 intro pins s σ H vs us Q I r h
 obtain ⟨e,h⟩:=h
 subst e
 cases r
 exact assignInOrder_nil ⟨σ,H,I,h⟩
theorem pgs_cons {e:Expr} {es:List Expr} {t:TG} {u:TGs} (h1:PG X e t) (h2:PGs X es u)
  (hs:(assignEach (e :: es) X.env).map (·.2)=assign e X.env :: (assignEach es X.env).map (·.2):=by rfl):PGs X (e :: es) (gCons t u):=by
 intro pins s σ H vs us Q I r h
 obtain ⟨v,vr,e1,h⟩:=h
 subst e1
 cases r with
 | cons r rr =>
  rw [hs]
  refine assignInOrder_cons (thn (h1 pins s σ H _ _ _ I r h) fun _ s1 hx9=>?_)
  obtain ⟨σ1,H1,I1,q1⟩:=hx9
  exact h2 pins s1 σ1 H1 _ _ Q I1 rr q1
noncomputable def gTup (K:PySem.W.Frag) (n:Nat) (t:TGs):TG:=fun v σ H Q=>∃ a xs,v=.ref a∧SqT K H a xs∧xs.length=n∧t xs σ H Q
theorem pg_tup {es:List Expr} {k:Nat} {t:TGs} {n:Nat} (hc:X.calm=true) (h:PGs X es t)
  (hn:(assignEach es X.env).length=n:=by rfl) (hst:(assignEach es X.env).findIdx? (·.1)=none:=by rfl):PG X (.Tuple es k pos) (gTup X.K n t):=by
 intro pins s σ H v u Q I r hw
 obtain ⟨a,xs,e1,hq,hl,hw⟩:=hw
 subst e1
 cases r
 obtain ⟨its,rv,ht,hz⟩:=I.tuple hq
 refine assign_Tuple_tuple (I.ok.hd hc) ht (by simp [hn,← hl,rv.length]) hst fun h' hx=>?_
 have I1:Inv X pins σ H { s with heap:=h' }:=I.kept (t':=s.toks) fun b o e=>hx b o (Nat.ne_of_lt (Heap.lt_size e)) e
 exact h pins _ σ H xs _ Q I1 (by simpa using rv) hw
noncomputable def tAsg (te:TE) (g:TG):TS:=fun D σ H=>te σ H fun x H1=>g x σ H1 D.nx
theorem ps_set {i:Nat} {x:Str} {e:Expr} {te:TE} {pos':Pos} (hN:X.N.Nodup) (hi:X.N[i]? = some x) (hx:Loc X.env.scope x) (he:PE X e te) (hs:swapsWith e (some (.Name x pos')) pos.line X.env=pure false:=by rfl) (hf:X.fn x=true∨X.env.scope.names.lookup x=some .local:=by first | exact .inl rfl | exact .inr rfl | assumption) :
  PS X (.Assign [.Name x pos'] e pos) (tAsg te (gName i)):=by
 intro pins s σ H D I h
 refine wpAny_Assign_Name (thn (he pins s σ H _ I h) fun v s1 hx5=>L2.ex2 hx5 fun y H1 I1 r1 q1=>?_) hs
 exact store_ok I1 hN hi hx r1 (fun s2 I2=>⟨_,H1,I2,q1⟩) hf
end
section
variable {X:Cx} {pos:Pos}
end
structure It where
 go:Nat→Hp→Prop
 yld:Nat→Hp→V→Hp→Prop
 stop:Nat→Hp→Prop
noncomputable def FpOk (X:Cx) (pins:List (Addr × Obj)) (H:Hp) (b:Addr):Prop :=
 H b=none∧b≠X.env.locals∧b∉X.fs∧(b∈X.ex∨X.s₀.heap.objs.size≤b)∧(∀ x c,X.env.cells.lookup x=some c→c≠b)∧∀ p∈X.pn++pins,p.1≠b
theorem Inv.fpOk {X:Cx} {pins:List (Addr × Obj)} {σ:St} {H H':Hp} {s:Shared} {b:Addr} (I:Inv X pins σ H s) (hb:s.heap.objs.size≤b) (hn:H' b=none):FpOk X pins H' b:=by
 refine ⟨hn,Nat.ne_of_gt (Nat.lt_of_lt_of_le I.lt hb),I.nofs hb,.inr (Nat.le_trans I.sz hb),fun x c e z=>?_,fun p hp z=>?_⟩
 ·obtain ⟨v,q⟩:=I.cell x c e
  exact absurd (Nat.lt_of_lt_of_le q.lt (by rw [z]; exact hb)) (Nat.lt_irrefl _)
 ·exact absurd (Nat.lt_of_lt_of_le (Heap.lt_size (I.pin p hp).1) (by rw [z]; exact hb)) (Nat.lt_irrefl _)
structure Turn (P:Program) (w:World) (K:PySem.W.Frag) (tg:Expr) (J:It) (fp:List Addr) (it:Addr) (tn:Nat→Heap→Prop):Prop where
 mem:it∈fp
 obj:∀ i h,tn i h→∀ b∈fp,∃ o,h.get? b=some o∧∀ v,o.data≠.cell v
 keep:∀ i h h',tn i h→(∀ b∈fp,∀ o,h.get? b=some o→h'.get? b=some o)→tn i h'
 item:∀ (X:Cx),X.prog=P→X.w=w→X.K=K→X.calm=true→∀ (i:Nat) (pins:List (Addr × Obj)) (s:Shared) (σ:St) (H:Hp) (E:Value→Shared→Prop),Inv X pins σ H s→(∀ b∈fp,FpOk X pins H b)→tn i s.heap→J.go i H →
  wpAny (model P w) X.A (pyNext (.ref it)) (fun r s1=>∃ u,r=some u ∧
   wpAny (model P w) X.A (letOwnedTupleGo tg (.ref it) u) (fun _ s2=>∃ x H',Inv X pins σ H' s2∧RelV x u∧J.yld i H x H'∧tn (i+1) s2.heap∧∀ b∈fp,H' b=none) E s1) E s
 done:∀ (X:Cx),X.prog=P→X.w=w→X.K=K→X.calm=true→∀ (i:Nat) (pins:List (Addr × Obj)) (s:Shared) (σ:St) (H:Hp) (E:Value→Shared→Prop),Inv X pins σ H s→(∀ b∈fp,FpOk X pins H b)→tn i s.heap→J.stop i H →
  wpAny (model P w) X.A (pyNext (.ref it)) (fun r s1=>r=none∧Inv X pins σ H s1) E s
 self:∀ (A:Around) (i:Nat) (s:Shared) (Q:Value→Shared→Prop) (E:Value→Shared→Prop),tn i s.heap→Q (.ref it) s→wpAny (model P w) A (pyIter (.ref it)) Q E s
noncomputable abbrev TI:=St→Hp→(It→Hp→Prop)→Prop
noncomputable def PIE (X:Cx) (pins:List (Addr × Obj)) (σ:St) (tg:Expr) (R:It→Hp→Prop) (itv:Value) (s2:Shared):Prop :=
 ∃ (it:Addr) (fp:List Addr) (tn:Nat→Heap→Prop) (J:It) (H':Hp),itv=.ref it∧Inv X pins σ H' s2∧Turn X.prog X.w X.K tg J fp it tn∧tn 0 s2.heap∧(∀ b∈fp,FpOk X pins H' b)∧R J H'
noncomputable def PI (X:Cx) (tg iter:Expr) (wi:TI):Prop :=
 ∀ (pins:List (Addr × Obj)) (s:Shared) (σ:St) (H:Hp) (R:It→Hp→Prop),Inv X pins σ H s→wi σ H R →
  wpAny (model X.prog X.w) X.A (eval iter X.env) (fun v s1=>wpAny (model X.prog X.w) X.A (pyIter v) (PIE X pins σ tg R) X.xe s1) X.xe s
theorem go_of {M:Model} {A:Around} {E:Value→Shared→Prop} {s:Shared} {tg:Expr} {it:Addr} {u:Value} {o:Obj} {n:String} {vs:Array Value} {Q:Unit→Shared→Prop} (ho:s.heap.get? it=some o) (hc:o.cls=.type n) (hd:o.data=.fields vs)
  (hn:["enumerate", "zip", "dict_itemiterator", "dict_reverseitemiterator", "odict_iterator", "itertools.zip_longest", "itertools.pairwise"].contains n=false) (hQ:Q () s):wpAny M A (letOwnedTupleGo tg (.ref it) u) Q E s:=by
 unfold letOwnedTupleGo
 cases tg <;> first
  | exact wpAny_pure hQ
  | (cases u <;> first
     | exact wpAny_pure hQ
     | (refine wpAny_bind (wpAny_load ho ?_)
        rw [hc,hd]
        show wpAny M A (if (["enumerate", "zip", "dict_itemiterator", "dict_reverseitemiterator", "odict_iterator", "itertools.zip_longest", "itertools.pairwise"].contains n && vs[0]? == some (rawInt _))=true then _ else _) Q E s
        rw [if_neg (by intro h; rw [hn,Bool.false_and] at h; cases h)]
        exact wpAny_pure hQ))
noncomputable def Itl (K:PySem.W.Frag) (a:Addr):It :=
 ⟨fun i H=>∃ xs x,SqL K H a xs∧xs[i]? = some x,fun i H x H'=>H'=H∧∀ xs,SqL K H a xs→xs[i]? = some x,fun i H=>∃ xs,SqL K H a xs∧xs.length≤i⟩
noncomputable def Itt (K:PySem.W.Frag) (a:Addr):It :=
 ⟨fun i H=>∃ xs x,SqT K H a xs∧xs[i]? = some x,fun i H x H'=>H'=H∧∀ xs,SqT K H a xs→xs[i]? = some x,fun i H=>∃ xs,SqT K H a xs∧xs.length≤i⟩
noncomputable def Itr (lo:Int) (n:Nat):It:=⟨fun i _=>i<n,fun i H x H'=>H'=H∧x=.int (lo+i),fun i _=>n≤i⟩
theorem turn_list {P:Program} {w:World} {K:PySem.W.Frag} {tg:Expr} (a it:Addr):Turn P w K tg (Itl K a) [it] it (fun i h=>h.IsListIter it a i) where
 mem:=by simp
 obj:=fun i h st b hb=>by
  have e:b=it:=by simpa using hb
  subst e
  obtain ⟨o,e,c,d⟩:=st
  exact ⟨o,e,fun v z=>by rw [d] at z; cases z⟩
 keep:=fun i h h' st k=>st.at fun o e=>k it (by simp) o e
 item:=by
  intro X hP hw hK hc i pins s σ H E I hf st hg
  subst hP hw hK
  obtain ⟨xs,x,hq,hx⟩:=hg
  obtain ⟨its,rv,p,hz⟩:=I.list hq
  obtain ⟨u,hu,ru⟩:=rv.get hx
  obtain ⟨f0,f1,f2,f3,f4,f5⟩:=hf it (by simp)
  refine wpAny_pyNext_list_item st p.isList (x:=u) (by simpa using hu) fun h' st' sb=>?_
  have I1:Inv X pins σ H { s with heap:=h' }:=I.turned (t':=s.toks) (fun b o hb e=>(sb.2 b hb).trans e) f0 f1 f3 f4 f5
  obtain ⟨o,e,c,d⟩:=id st'
  exact ⟨u,rfl,go_of (s:={ s with heap:=h' }) e c d (by decide) ⟨x,H,I1,ru,⟨rfl,fun ys hy=>by rw [I.list_inj hy hq]; exact hx⟩,st',fun b hb=>(hf b hb).1⟩⟩
 done:=by
  intro X hP hw hK hc i pins s σ H E I hf st hg
  subst hP hw hK
  obtain ⟨xs,hq,hx⟩:=hg
  obtain ⟨its,rv,p,hz⟩:=I.list hq
  obtain ⟨f0,f1,f2,f3,f4,f5⟩:=hf it (by simp)
  have hl:=rv.length
  exact wpAny_pyNext_list_end (I.ok.hd hc) st p.isList (by simp; walk_at "l") fun h' eb=>⟨rfl,I.turned (t':=s.toks) (fun b o hb e=>eb b o hb e) f0 f1 f3 f4 f5⟩
 self:=fun _ _ _ _ _ st h=>wpAny_pyIter_listiter st h
theorem turn_tuple {P:Program} {w:World} {K:PySem.W.Frag} {tg:Expr} (a it:Addr):Turn P w K tg (Itt K a) [it] it (fun i h=>h.IsTupleIter it a i) where
 mem:=by simp
 obj:=fun i h st b hb=>by
  have e:b=it:=by simpa using hb
  subst e
  obtain ⟨o,e,c,d⟩:=st
  exact ⟨o,e,fun v z=>by rw [d] at z; cases z⟩
 keep:=fun i h h' st k=>st.at fun o e=>k it (by simp) o e
 item:=by
  intro X hP hw hK hc i pins s σ H E I hf st hg
  subst hP hw hK
  obtain ⟨xs,x,hq,hx⟩:=hg
  obtain ⟨its,rv,p,hz⟩:=I.tuple hq
  obtain ⟨u,hu,ru⟩:=rv.get hx
  obtain ⟨f0,f1,f2,f3,f4,f5⟩:=hf it (by simp)
  refine wpAny_pyNext_tuple_item st (show s.heap.IsTuple a its.toArray from p) (x:=u) (by simpa using hu) fun h' st' sb=>?_
  have I1:Inv X pins σ H { s with heap:=h' }:=I.turned (t':=s.toks) (fun b o hb e=>(sb.2 b hb).trans e) f0 f1 f3 f4 f5
  obtain ⟨o,e,c,d⟩:=id st'
  exact ⟨u,rfl,go_of (s:={ s with heap:=h' }) e c d (by decide) ⟨x,H,I1,ru,⟨rfl,fun ys hy=>by rw [I.tuple_inj hy hq]; exact hx⟩,st',fun b hb=>(hf b hb).1⟩⟩
 done:=by
  intro X hP hw hK hc i pins s σ H E I hf st hg
  subst hP hw hK
  obtain ⟨xs,hq,hx⟩:=hg
  obtain ⟨its,rv,p,hz⟩:=I.tuple hq
  obtain ⟨f0,f1,f2,f3,f4,f5⟩:=hf it (by simp)
  have hl:=rv.length
  exact wpAny_pyNext_tuple_end (I.ok.hd hc) st (show s.heap.IsTuple a its.toArray from p) (by simp; walk_at "l") fun h' eb=>⟨rfl,I.turned (t':=s.toks) (fun b o hb e=>eb b o hb e) f0 f1 f3 f4 f5⟩
 self:=fun _ _ _ _ _ st h=>wpAny_pyIter_tupleiter st h
theorem turn_range {P:Program} {w:World} {K:PySem.W.Frag} {tg:Expr} (it:Addr) (lo:Int) (n:Nat):Turn P w K tg (Itr lo n) [it] it (fun i h=>IsRangeIter h it (lo+(i:Nat) * 1) ((n:Int) - (i:Nat)) 1) where
 mem:=by simp
 obj:=fun i h st b hb=>by
  have e:b=it:=by simpa using hb
  subst e
  exact ⟨_,st,fun v z=>by
   have z':Data.fields _=Data.cell v:=z
   cases z'⟩
 keep:=fun i h h' st k=>k it (by simp) _ st
 item:=by
  intro X hP hw hK hc i pins s σ H E I hf st hg
  subst hP hw hK
  obtain ⟨f0,f1,f2,f3,f4,f5⟩:=hf it (by simp)
  have W:=Walks.range (prog:=X.prog) (w:=X.w) (I.ok.hd hc) it lo 1 n
  refine W.item i s _ _ hg st fun v h' tk hv st' kk=>?_
  obtain ⟨t,rfl⟩:=hv
  have I1:Inv X pins σ H { s with heap:=h',toks:=tk }:=I.turned (fun b o hb e=>kk b o (by simpa using hb) e) f0 f1 f3 f4 f5
  refine ⟨_,rfl,go_of (s:={ s with heap:=h',toks:=tk }) (n := "range_iterator") st' rfl rfl (by decide) ⟨.int (lo+i),H,I1,⟨t,?_⟩,⟨rfl,rfl⟩,st',fun b hb=>(hf b hb).1⟩⟩
  rw [Int.mul_one]
 done:=by
  intro X hP hw hK hc i pins s σ H E I hf st hg
  subst hP hw hK
  obtain ⟨f0,f1,f2,f3,f4,f5⟩:=hf it (by simp)
  exact wpAny_pyNext_range_end (I.ok.hd hc) st (by have:n≤i:=hg; walk_at "l") fun h' eb=>⟨rfl,I.turned (t':=s.toks) (fun b o hb e=>eb b o hb e) f0 f1 f3 f4 f5⟩
 self:=fun _ _ _ _ _ st h=>wpAny_pyIter_rangeiter st h
end L2
namespace L2
open PySem PySem.Spec PyProof.Rows
section
variable {X:Cx} {tg:Expr}
noncomputable def iList (K:PySem.W.Frag) (tl:TE):TI:=fun σ H R=>tl σ H fun x H1=>∃ a,x=.ref a∧(∃ xs,SqL K H1 a xs)∧R (Itl K a) H1
noncomputable def iTup (K:PySem.W.Frag) (tl:TE):TI:=fun σ H R=>tl σ H fun x H1=>∃ a,x=.ref a∧(∃ xs,SqT K H1 a xs)∧R (Itt K a) H1
theorem pi_list {l:Expr} {tl:TE} (hl:PE X l tl):PI X tg l (iList X.K tl):=by
 intro pins s σ H R I h
 refine thn (hl pins s σ H _ I h) fun v s1 hx5=>L2.ex2 hx5 fun x H1 I1 r1 q1=>?_
 obtain ⟨a,e,⟨xs,hq⟩,q⟩:=q1
 subst e
 cases r1
 obtain ⟨its,rv,p,hz⟩:=I1.list hq
 refine wpAny_pyIter_list p.isList ?_
 refine ⟨s1.heap.objs.size,[s1.heap.objs.size],_,_,H1,rfl,I1.kept (t':=s1.toks) fun b o e=>Heap.get?_push_of_some _ e,turn_list a _,⟨_,Heap.get?_push_size _ rfl,rfl,rfl⟩,fun b hb=>?_,q⟩
 have e:b=s1.heap.objs.size:=by simpa using hb
 subst e
 exact I1.fpOk (Nat.le_refl _) (I1.hok.fresh (Nat.le_refl _))
theorem pi_tup {l:Expr} {tl:TE} (hl:PE X l tl):PI X tg l (iTup X.K tl):=by
 intro pins s σ H R I h
 refine thn (hl pins s σ H _ I h) fun v s1 hx5=>L2.ex2 hx5 fun x H1 I1 r1 q1=>?_
 obtain ⟨a,e,⟨xs,hq⟩,q⟩:=q1
 subst e
 cases r1
 obtain ⟨its,rv,p,hz⟩:=I1.tuple hq
 refine wpAny_pyIter_tuple (show s1.heap.IsTuple a its.toArray from p) ?_
 refine ⟨s1.heap.objs.size,[s1.heap.objs.size],_,_,H1,rfl,I1.kept (t':=s1.toks) fun b o e=>Heap.get?_push_of_some _ e,turn_tuple a _,⟨_,Heap.get?_push_size _ rfl,rfl,rfl⟩,fun b hb=>?_,q⟩
 have e:b=s1.heap.objs.size:=by simpa using hb
 subst e
 exact I1.fpOk (Nat.le_refl _) (I1.hok.fresh (Nat.le_refl _))
theorem range_it {pins:List (Addr × Obj)} {σ:St} {H:Hp} {s:Shared} {R:It→Hp→Prop} {E:Value→Shared→Prop} {lo hi:Int} {t u v:Tok} {tk:Nat} (I:Inv X pins σ H s) (h1:-(2 ^ 62)≤lo) (h2:lo<2 ^ 62) (h3:-(2 ^ 62)≤hi) (h4:hi<2 ^ 62)
  (q:R (Itr lo (hi - lo).toNat) H):wpAny (model X.prog X.w) X.A (pyIter (.ref s.heap.objs.size)) (PIE X pins σ tg R) E { s with heap:=s.heap.push { cls:=.type "range",data:=.fields #[.int lo t,.int hi u,.int 1 v] },toks:=tk }:=by
 refine wpAny_pyIter_range (IsRange.new ..) (small_one h1 h2 h3 h4) ?_
 have I1:Inv X pins σ H { s with heap:=s.heap.push { cls:=.type "range",data:=.fields #[.int lo t,.int hi u,.int 1 v] },toks:=tk }:=I.kept fun b o e=>Heap.get?_push_of_some _ e
 refine ⟨(s.heap.push { cls:=.type "range",data:=.fields #[.int lo t,.int hi u,.int 1 v] }).objs.size,[(s.heap.push { cls:=.type "range",data:=.fields #[.int lo t,.int hi u,.int 1 v] }).objs.size],_,_,H,rfl,
  I1.kept (t':=tk) fun b o e=>Heap.get?_push_of_some _ e,turn_range _ lo (hi - lo).toNat,?_,fun b hb=>?_,q⟩
 ·have e1:lo+((0:Nat):Int) * 1=lo:=by simp
  have e2:(((hi - lo).toNat:Nat):Int) - ((0:Nat):Int)=Builtin.Range.rangeSize lo hi 1:=by rw [rangeSize_one]; split <;> walk_at "l"
  show IsRangeIter _ _ (lo+((0:Nat):Int) * 1) ((((hi - lo).toNat:Nat):Int) - ((0:Nat):Int)) 1
  rw [e1,e2]
  exact Heap.get?_push_size _ rfl
 ·have e:b=(s.heap.push { cls:=.type "range",data:=.fields #[.int lo t,.int hi u,.int 1 v] }).objs.size:=by simpa using hb
  subst e
  exact I1.fpOk (Nat.le_refl _) (I1.hok.fresh (Nat.le_refl _))
noncomputable def iRng1 (ta:TA):TI:=fun σ H R=>ta σ H fun vs H1=>∃ j:Int,vs=[.int j]∧-(2 ^ 62)≤j∧j<2 ^ 62∧R (Itr 0 j.toNat) H1
noncomputable def iRng2 (ta:TA):TI:=fun σ H R=>ta σ H fun vs H1=>∃ i j:Int,vs=[.int i,.int j]∧(-(2 ^ 62)≤i∧i<2 ^ 62∧-(2 ^ 62)≤j∧j<2 ^ 62)∧R (Itr i (j - i).toNat) H1
theorem pi_range1 {a:Expr} {ta:TA} {p pos:Pos} (hg:Gl X "range") (hm:X.mg "range" = none) (ha:PA X [a] ta) (hs:starEach [a] X.env=[(false,eval a X.env)]:=by rfl):PI X tg (.Call (.Name "range" p) [a] [] pos) (iRng1 ta):=by
 intro pins s σ H R I h
 refine Call_ (ld_blt I hg hm boot_range (PyProof.Rows.callWith_type1 (thn (ha pos pins s σ H _ I h) fun us s1 hx5=>L2.ex2 hx5 fun vs H1 I1 r1 q1=>?_) hs rfl))
 obtain ⟨j,e,q1,q2,q⟩:=q1
 subst e
 cases r1 with
 | cons r rr =>
  cases rr
  obtain ⟨t,rfl⟩:=r
  exact call_range_1 (range_it I1 (by decide) (by decide) q1 q2 (by simpa using q))
theorem pi_range2 {a b:Expr} {ta:TA} {p pos:Pos} (hg:Gl X "range") (hm:X.mg "range" = none) (ha:PA X [a,b] ta) (hs:starEach [a,b] X.env=[(false,eval a X.env),(false,eval b X.env)]:=by rfl) (hs2:starEach [b] X.env=[(false,eval b X.env)]:=by rfl) :
  PI X tg (.Call (.Name "range" p) [a,b] [] pos) (iRng2 ta):=by
 intro pins s σ H R I h
 refine Call_ (ld_blt I hg hm boot_range (PyProof.Rows.callWith_type1 (thn (ha pos pins s σ H _ I h) fun us s1 hx5=>L2.ex2 hx5 fun vs H1 I1 r1 q1=>?_) (by rw [hs,hs2]) (by rw [hs2]; rfl)))
 obtain ⟨i,j,e,⟨q1,q2,q3,q4⟩,q⟩:=q1
 subst e
 cases r1 with
 | cons r rr =>
  cases rr with
  | cons r' rr =>
   cases rr
   obtain ⟨t,rfl⟩:=r
   obtain ⟨t',rfl⟩:=r'
   exact call_range_2 (range_it I1 q1 q2 q3 q4 q)
noncomputable def tFor (wi:TI) (g:TG) (tb:TS):TS:=fun D σ H=>wi σ H fun J H1=>∃ W:Nat→Nat→St→Hp→Prop,(∃ m,W 0 m σ H1)∧∀ i m σ H,W i m σ H →
 (J.stop i H∧D.nx σ H)∨(J.go i H∧∃ N:St→Hp→Prop,(∀ σ' H',N σ' H'→∃ m',m'<m∧W (i+1) m' σ' H')∧∀ x H',J.yld i H x H'→g x σ H' fun σ2 H2=>tb { D with nx:=N,ct:=N,bk:=D.nx } σ2 H2)
noncomputable def pinsAt (fp:List Addr) (h:Heap):List (Addr × Obj):=fp.filterMap fun b=>(h.get? b).map fun o=>(b,o)
theorem mem_pinsAt {fp:List Addr} {h:Heap} {b:Addr} {o:Obj} (hb:b∈fp) (e:h.get? b=some o):(b,o)∈pinsAt fp h:=List.mem_filterMap.mpr ⟨b,hb,by rw [e]; rfl⟩
theorem of_pinsAt {fp:List Addr} {h:Heap} {p:Addr × Obj} (hp:p∈pinsAt fp h):p.1∈fp∧h.get? p.1=some p.2:=by
 obtain ⟨b,hb,e⟩:=List.mem_filterMap.mp hp
 cases q:h.get? b with
 | none=>rw [q] at e; cases e
 | some o =>
  rw [q] at e
  have e':(b,o)=p:=Option.some.inj e
  subst e'
  exact ⟨hb,q⟩
theorem Inv.pinned {pins:List (Addr × Obj)} {σ:St} {H:Hp} {s:Shared} {fp:List Addr} (I:Inv X pins σ H s) (hf:∀ b∈fp,FpOk X pins H b) (ho:∀ b∈fp,∃ o,s.heap.get? b=some o∧∀ v,o.data≠.cell v):Inv X (pins++pinsAt fp s.heap) σ H s :=
 I.pins_of fun p hp=>(List.mem_append.mp hp).elim (fun z=>I.pin p (List.mem_append_right _ z)) fun z=>by
  obtain ⟨hb,e⟩:=of_pinsAt z
  obtain ⟨f0,f1,f2,_⟩:=hf p.1 hb
  obtain ⟨o,e',d⟩:=ho p.1 hb
  rw [e] at e'; cases e'
  exact ⟨e,f0,f1,f2,d⟩
theorem Inv.unpinned {pins pl:List (Addr × Obj)} {σ:St} {H:Hp} {s:Shared} (I:Inv X (pins++pl) σ H s):Inv X pins σ H s:=I.pins_of fun p hp=>I.pin p (List.mem_append_right _ (List.mem_append_left _ hp))
theorem ps_for {iter:Expr} {body:List Stmt} {wi:TI} {g:TG} {tb:TS} {pos:Pos} (hp:PassesOwn (model X.prog X.w) X.A X.env X.xe) (hc:X.calm=true) (hi:PI X tg iter wi) (hg:PG X tg g) (hb:PSs X body tb)
  (hs:∀ x,foldedSetIterable iter X.env x=pure x:=by intro _; rfl):PS X (.For tg iter body [] pos) (tFor wi g tb):=by
 intro pins s σ H D I h
 refine wpAny_For (thn (hi pins s σ H _ I h) fun v s1 h1=>thn h1 fun itv s2 h2=>?_) hs
 obtain ⟨it,fp,tn,J,H2,e,I2,T,st2,f2,W,⟨m0,w0⟩,turn⟩:=h2
 subst e
 -- what stays true of the iterator's objects through the loop
 have stat:∀ {H':Hp},(∀ b∈fp,H' b=none)→∀ b∈fp,FpOk X pins H' b:=fun hn b hb=>⟨hn b hb,(f2 b hb).2⟩
 refine codeAny_forLoop_any (fun n s'=>∃ i σ' H',Inv X pins σ' H' s'∧tn i s'.heap∧(∀ b∈fp,H' b=none)∧W i n σ' H') ?_ m0 ⟨0,σ,H2,I2,st2,fun b hb=>(f2 b hb).1,w0⟩
 rintro n s3 ⟨i,σ3,H3,I3,st3,fr3,w3⟩
 rcases turn i n σ3 H3 w3 with ⟨stop,qn⟩ | ⟨go,N,hN,step⟩
 ·refine wpAny_passesOwn hp (thn (T.done X rfl rfl rfl hc i pins s3 σ3 H3 X.xe I3 (stat fr3) st3 stop) fun r s4 hx9=>?_)
  obtain ⟨hr,I4⟩:=hx9
  subst hr
  exact wpAny_execs_nil ⟨σ3,H3,I4,qn⟩
 ·refine wpAny_passesOwn hp (thn (T.item X rfl rfl rfl hc i pins s3 σ3 H3 X.xe I3 (stat fr3) st3 go) fun r s4 hx9=>?_)
  obtain ⟨u,hr,h4⟩:=hx9
  subst hr
  refine wpAny_passesOwn hp (thn h4 fun _ s5 hx9=>?_)
  obtain ⟨x,H5,I5,r5,y5,st5,fr5⟩:=hx9
  have I5':=I5.pinned (stat fr5) (T.obj _ _ st5)
  refine wpAny_passesOwn hp (thn (hg _ s5 σ3 H5 x u _ I5' r5 (step x H5 y5)) fun _ s6 hx9=>?_)
  obtain ⟨σ6,H6,I6,q6⟩:=hx9
  refine wpAny_passesOwn hp (thn (hb _ s6 σ6 H6 _ I6 q6) fun f s7 q7=>?_)
  have again:∀ {σ7:St} {H7:Hp},Inv X (pins++pinsAt fp s5.heap) σ7 H7 s7→N σ7 H7→∃ m,m<n∧∃ i σ' H',Inv X pins σ' H' s7∧tn i s7.heap∧(∀ b∈fp,H' b=none)∧W i m σ' H':=fun {σ7 H7} I7 n7=>by
   obtain ⟨m',hm,w7⟩:=hN σ7 H7 n7
   refine ⟨m',hm,i+1,σ7,H7,I7.unpinned,T.keep _ _ _ st5 fun b hb o e=>(I7.pin (b,o) (List.mem_append_right _ (List.mem_append_right _ (mem_pinsAt hb e)))).1,fun b hb=>?_,w7⟩
   obtain ⟨o,e,d⟩:=T.obj _ _ st5 b hb
   exact (I7.pin (b,o) (List.mem_append_right _ (List.mem_append_right _ (mem_pinsAt hb e)))).2.1
  cases f with
  | next=>obtain ⟨σ7,H7,I7,n7⟩:=q7; exact again I7 n7
  | cont=>obtain ⟨σ7,H7,I7,n7⟩:=q7; exact again I7 n7
  | brk=>obtain ⟨σ7,H7,I7,q7⟩:=q7; exact ⟨σ7,H7,I7.unpinned,q7⟩
  | ret v=>obtain ⟨x7,σ7,H7,I7,r7,q7⟩:=q7; exact ⟨x7,σ7,H7,I7.unpinned,r7,q7⟩
end
end L2
namespace L2
open PySem PySem.Spec PyProof.Rows
noncomputable abbrev R2:=V→V→Hp→VK→Prop
noncomputable def OpR (X:Cx) (f:Value→Value→Sem Value) (r:R2):Prop :=
 ∀ (pins:List (Addr × Obj)) (s:Shared) (σ:St) (H:Hp) (x y:V) (v u:Value) (Q:VK),Inv X pins σ H s→RelV x v→RelV y u→r x y H Q →
  wpAny (model X.prog X.w) X.A (f v u) (EP X pins σ Q) X.xe s
noncomputable def UnR (X:Cx) (f:Value→Sem Value) (r:V→Hp→VK→Prop):Prop :=
 ∀ (pins:List (Addr × Obj)) (s:Shared) (σ:St) (H:Hp) (x:V) (v:Value) (Q:VK),Inv X pins σ H s→RelV x v→r x H Q →
  wpAny (model X.prog X.w) X.A (f v) (EP X pins σ Q) X.xe s
noncomputable def CallR (X:Cx) (f:Value) (r:List V→Hp→VK→Prop):Prop :=
 ∀ (pins:List (Addr × Obj)) (s:Shared) (σ:St) (H:Hp) (xs:List V) (us:List Value) (Q:VK),Inv X pins σ H s→Vals xs us→r xs H Q →
  wpAny (model X.prog X.w) X.A (call f us) (EP X pins σ Q) X.xe s
noncomputable def TruR (X:Cx) (r:V→Hp→(Bool→Hp→Prop)→Prop):Prop :=
 ∀ (pins:List (Addr × Obj)) (s:Shared) (σ:St) (H:Hp) (x:V) (v:Value) (Q:Bool→Hp→Prop),Inv X pins σ H s→RelV x v→r x H Q →
  wpAny (model X.prog X.w) X.A (truthy v) (TP X pins σ Q) X.xe s
noncomputable def tOp (r:R2) (ta tb:TE):TE:=fun σ H Q=>ta σ H fun x H1=>tb σ H1 fun y H2=>r x y H2 Q
noncomputable def tUn (r:V→Hp→VK→Prop) (ta:TE):TE:=fun σ H Q=>ta σ H fun x H1=>r x H1 Q
noncomputable def rI (C:Int→Int→Prop) (g:Int→Int→V):R2:=fun x y H Q=>∃ i j,x=.int i∧y=.int j∧C i j∧Q (g i j) H
noncomputable def rI0 (g:Int→Int→V):R2:=fun x y H Q=>∃ i j,x=.int i∧y=.int j∧Q (g i j) H
noncomputable def rU (g:Int→V):V→Hp→VK→Prop:=fun x H Q=>∃ i,x=.int i∧Q (g i) H
section
variable {X:Cx} {a b c:Expr} {ta tb tc:TE} {pos:Pos}
theorem binT (ha:PE X a ta) (hb:PE X b tb) {pins:List (Addr × Obj)} {s:Shared} {σ:St} {H:Hp} {R:V→V→Hp→Prop} (I:Inv X pins σ H s)
  (h:ta σ H fun x H1=>tb σ H1 fun y H2=>R x y H2) {Q:Value→Shared→Prop} {f:Value→Value→Sem Value}
  (hf:∀ v u s2 x y H2,Inv X pins σ H2 s2→RelV x v→RelV y u→R x y H2→wpAny (model X.prog X.w) X.A (f v u) Q X.xe s2) :
  wpAny (model X.prog X.w) X.A (eval a X.env) (fun v s₁=>wpAny (model X.prog X.w) X.A (eval b X.env) (fun u s₂=>wpAny (model X.prog X.w) X.A (f v u) Q X.xe s₂) X.xe s₁) X.xe s:=by
 refine thn (ha pins s σ H _ I h) fun v s1 hx5=>L2.ex2 hx5 fun x H1 I1 r1 q1=>?_
 refine thn (hb pins s1 σ H1 _ I1 q1) fun u s2 hx5=>L2.ex2 hx5 fun y H2 I2 r2 q2=>?_
 exact hf v u s2 x y H2 I2 r1 r2 q2
theorem pe_op {op:Operator} {r:R2} (ho:OpR X (binaryOp op) r) (ha:PE X a ta) (hb:PE X b tb):PE X (.BinOp a op b pos) (tOp r ta tb):=by
 intro pins s σ H Q I h
 exact wpAny_BinOp (binT ha hb I h fun v u s2 x y H2 I2 rx ry q=>ho pins s2 σ H2 x y v u Q I2 rx ry q)
theorem pe_un {op:UnaryOp} {r:V→Hp→VK→Prop} (ho:UnR X (unaryOp op) r) (ha:PE X a ta):PE X (.UnaryOp op a pos) (tUn r ta):=by
 intro pins s σ H Q I h
 exact UnaryOp_ (thn (ha pins s σ H _ I h) fun v s1 hx5=>L2.ex2 hx5 fun x H1 I1 r1 q1=>ho pins s1 σ H1 x v Q I1 r1 q1)
theorem opI {f:Value→Value→Sem Value} {C:Int→Int→Prop} {g:Int→Int→Int}
  (rule:∀ (i j:Int) (t u:Tok) (s:Shared) (Q:Value→Shared→Prop) (E:Value→Shared→Prop),C i j→Q (.int (g i j) s.toks) { s with toks:=s.toks+1 }→wpAny (model X.prog X.w) X.A (f (.int i t) (.int j u)) Q E s) :
  OpR X f (rI C fun i j=>.int (g i j)):=by
 intro pins s σ H x y v u Q I rx ry h
 obtain ⟨i,j,rfl,rfl,hc,q⟩:=h
 obtain ⟨t,rfl⟩:=rx
 obtain ⟨t',rfl⟩:=ry
 exact rule i j t t' s _ _ hc ⟨.int (g i j),H,I.tok _,⟨_,rfl⟩,q⟩
theorem opI0 {f:Value→Value→Sem Value} {g:Int→Int→Int}
  (rule:∀ (i j:Int) (t u:Tok) (s:Shared) (Q:Value→Shared→Prop) (E:Value→Shared→Prop),Q (.int (g i j) s.toks) { s with toks:=s.toks+1 }→wpAny (model X.prog X.w) X.A (f (.int i t) (.int j u)) Q E s) :
  OpR X f (rI0 fun i j=>.int (g i j)):=by
 intro pins s σ H x y v u Q I rx ry h
 obtain ⟨i,j,rfl,rfl,q⟩:=h
 obtain ⟨t,rfl⟩:=rx
 obtain ⟨t',rfl⟩:=ry
 exact rule i j t t' s _ _ ⟨.int (g i j),H,I.tok _,⟨_,rfl⟩,q⟩
theorem opB0 {f:Value→Value→Sem Value} {g:Int→Int→Bool}
  (rule:∀ (i j:Int) (t u:Tok) (s:Shared) (Q:Value→Shared→Prop) (E:Value→Shared→Prop),Q (.bool (g i j)) s→wpAny (model X.prog X.w) X.A (f (.int i t) (.int j u)) Q E s) :
  OpR X f (rI0 fun i j=>.bl (g i j)):=by
 intro pins s σ H x y v u Q I rx ry h
 obtain ⟨i,j,rfl,rfl,q⟩:=h
 obtain ⟨t,rfl⟩:=rx
 obtain ⟨t',rfl⟩:=ry
 exact rule i j t t' s _ _ ⟨.bl (g i j),H,I,rfl,q⟩
noncomputable def CDiv (i j:Int):Prop:=0<j∧j<1073741824
noncomputable def CMul (i j:Int):Prop:=(-(2 ^ 64)<i∧i<2 ^ 64)∨(-(2 ^ 64)<j∧j<2 ^ 64)
theorem CMul.ok {i j:Int} (h:CMul i j):IntMulOk i j:=by
 rcases h with ⟨h1,h2⟩ | ⟨h1,h2⟩
 ·exact .of_left (intBits_le_64 h1 h2)
 ·exact .of_right (intBits_le_64 h1 h2)
theorem op_add:OpR X (binaryOp .Add) (rI0 fun i j=>.int (i+j)):=opI0 fun _ _ _ _ _ _ _ q=>add_int q
theorem op_sub:OpR X (binaryOp .Sub) (rI0 fun i j=>.int (i - j)):=opI0 fun _ _ _ _ _ _ _ q=>sub_int q
theorem op_mul:OpR X (binaryOp .Mult) (rI CMul fun i j=>.int (i * j)):=opI fun _ _ _ _ _ _ _ hc q=>mul_int q hc.ok
theorem op_fdiv:OpR X (binaryOp .FloorDiv) (rI CDiv fun i j=>.int (i / j)):=opI fun i j _ _ _ _ _ hc q=>by
 have h1:(0:Int)<j:=hc.1
 have h2:j<1073741824:=hc.2
 exact floordiv_int (by walk_at "l") (by rw [Int.fdiv_eq_ediv_of_nonneg i (by exact Int.le_of_lt ‹_›)]; exact q) (.inl (PyProof.noPylong_small (by walk_at "l")))
theorem op_mod:OpR X (binaryOp .Mod) (rI (fun _ j=>0<j) fun i j=>.int (i % j)):=opI fun i j _ _ _ _ _ hc q=>by
 have h1:(0:Int)<j:=hc
 exact mod_int' (by walk_at "l") (by rw [Int.fmod_eq_emod_of_nonneg i (by exact Int.le_of_lt ‹_›)]; exact q)
theorem unI {f:Value→Sem Value} {g:Int→Int}
  (rule:∀ (i:Int) (t:Tok) (s:Shared) (Q:Value→Shared→Prop) (E:Value→Shared→Prop),Q (.int (g i) s.toks) { s with toks:=s.toks+1 }→wpAny (model X.prog X.w) X.A (f (.int i t)) Q E s) :
  UnR X f (rU fun i=>.int (g i)):=by
 intro pins s σ H x v Q I rx h
 obtain ⟨i,rfl,q⟩:=h
 obtain ⟨t,rfl⟩:=rx
 exact rule i t s _ _ ⟨.int (g i),H,I.tok _,⟨_,rfl⟩,q⟩
theorem un_neg:UnR X (unaryOp .USub) (rU fun i=>.int (-i)):=unI fun _ _ _ _ _ q=>neg_int q
end
noncomputable def scal:V→V→Bool
 | .non,.non=>true | .non,.int _=>true | .int _,.non=>true | .non,.bl _=>true | .bl _,.non=>true | .non,.str _=>true | .str _,.non=>true
 | .int _,.int _=>true | .bl _,.bl _=>true | .str _,.str _=>true | .byt _,.byt _=>true
 | .int _,.str _=>true | .str _,.int _=>true | .bl _,.str _=>true | .str _,.bl _=>true
 | _,_=>false
noncomputable def rEq:R2:=fun x y H Q=>scal x y=true∧Q (.bl (decide (x=y))) H
noncomputable def rNe:R2:=fun x y H Q=>scal x y=true∧Q (.bl (!decide (x=y))) H
theorem dec_int {i j:Int}:decide (V.int i=V.int j)=(i == j):=by
 rw [Bool.eq_iff_iff]
 simp
theorem dec_bl {i j:Bool}:decide (V.bl i=V.bl j)=(i == j):=by
 rw [Bool.eq_iff_iff]
 simp
theorem dec_str {i j:Str}:decide (V.str i=V.str j)=(i == j):=by
 rw [Bool.eq_iff_iff]
 simp
theorem dec_byt {i j:Array UInt8}:decide (V.byt i=V.byt j)=(i.toList == j.toList):=by
 rw [Bool.eq_iff_iff]
 cases i
 cases j
 simp
section
variable {X:Cx} {a b c:Expr} {ta tb tc:TE} {pos:Pos}
theorem fin_bl {pins:List (Addr × Obj)} {σ:St} {H:Hp} {s:Shared} {Q:VK} {k k':Bool} (I:Inv X pins σ H s) (q:Q (.bl k) H) (e:k=k'):EP X pins σ Q (.bool k') s:=by
 subst e
 exact ⟨.bl k,H,I,rfl,q⟩
theorem op_eq:OpR X (compareOp .Eq) rEq:=by
 intro pins s σ H x y v u Q I rx ry h
 obtain ⟨hs,q⟩:=h
 cases x with
 | non =>
  cases rx
  cases y with
  | non=>cases ry; exact PySem.EqNone.eq_none_none (fin_bl I q (by simp))
  | bl j=>cases ry; exact PySem.EqNone.eq_none_bool (fin_bl I q (by simp))
  | int j=>obtain ⟨t',rfl⟩:=ry; exact PySem.EqNone.eq_none_int (fin_bl I q (by simp))
  | str j=>obtain ⟨t',rfl⟩:=ry; exact PySem.EqNone.eq_none_str (fin_bl I q (by simp))
  | _=>exact absurd (show false=true from hs) Bool.false_ne_true
 | bl i =>
  cases rx
  cases y with
  | non=>cases ry; exact PySem.EqNone.eq_bool_none (fin_bl I q (by simp))
  | bl j=>cases ry; exact eq_bool (fin_bl I q dec_bl)
  | str j=>obtain ⟨t',rfl⟩:=ry; exact PySem.EqMixed.eq_bool_str (fin_bl I q (by simp))
  | _=>exact absurd (show false=true from hs) Bool.false_ne_true
 | int i =>
  obtain ⟨t,rfl⟩:=rx
  cases y with
  | non=>cases ry; exact PySem.EqNone.eq_int_none (fin_bl I q (by simp))
  | int j=>obtain ⟨t',rfl⟩:=ry; exact eq_int (fin_bl I q dec_int)
  | str j=>obtain ⟨t',rfl⟩:=ry; exact PySem.EqMixed.eq_int_str (fin_bl I q (by simp))
  | _=>exact absurd (show false=true from hs) Bool.false_ne_true
 | str i =>
  obtain ⟨t,rfl⟩:=rx
  cases y with
  | non=>cases ry; exact PySem.EqNone.eq_str_none (fin_bl I q (by simp))
  | bl j=>cases ry; exact PySem.EqMixed.eq_str_bool (fin_bl I q (by simp))
  | int j=>obtain ⟨t',rfl⟩:=ry; exact PySem.EqMixed.eq_str_int (fin_bl I q (by simp))
  | str j=>obtain ⟨t',rfl⟩:=ry; exact eq_str (fin_bl I q dec_str)
  | _=>exact absurd (show false=true from hs) Bool.false_ne_true
 | byt i =>
  obtain ⟨t,rfl⟩:=rx
  cases y with
  | byt j=>obtain ⟨t',rfl⟩:=ry; exact PySem.W.eq_bytes (fin_bl I q dec_byt)
  | _=>exact absurd (show false=true from hs) Bool.false_ne_true
 | _=>cases y <;> exact absurd (show false=true from hs) Bool.false_ne_true
theorem op_ne:OpR X (compareOp .NotEq) rNe:=by
 intro pins s σ H x y v u Q I rx ry h
 obtain ⟨hs,q⟩:=h
 cases x with
 | non =>
  cases rx
  cases y with
  | non=>cases ry; exact PySem.EqNone.ne_none_none (fin_bl I q (by simp))
  | bl j=>cases ry; exact PySem.EqNone.ne_none_bool (fin_bl I q (by simp))
  | int j=>obtain ⟨t',rfl⟩:=ry; exact PySem.EqNone.ne_none_int (fin_bl I q (by simp))
  | str j=>obtain ⟨t',rfl⟩:=ry; exact PySem.EqNone.ne_none_str (fin_bl I q (by simp))
  | _=>exact absurd (show false=true from hs) Bool.false_ne_true
 | bl i =>
  cases rx
  cases y with
  | non=>cases ry; exact PySem.EqNone.ne_bool_none (fin_bl I q (by simp))
  | bl j=>cases ry; exact ne_bool (fin_bl I q (congrArg not dec_bl))
  | str j=>obtain ⟨t',rfl⟩:=ry; exact PySem.EqMixed.ne_bool_str (fin_bl I q (by simp))
  | _=>exact absurd (show false=true from hs) Bool.false_ne_true
 | int i =>
  obtain ⟨t,rfl⟩:=rx
  cases y with
  | non=>cases ry; exact PySem.EqNone.ne_int_none (fin_bl I q (by simp))
  | int j=>obtain ⟨t',rfl⟩:=ry; exact ne_int (fin_bl I q (congrArg not dec_int))
  | str j=>obtain ⟨t',rfl⟩:=ry; exact PySem.EqMixed.ne_int_str (fin_bl I q (by simp))
  | _=>exact absurd (show false=true from hs) Bool.false_ne_true
 | str i =>
  obtain ⟨t,rfl⟩:=rx
  cases y with
  | non=>cases ry; exact PySem.EqNone.ne_str_none (fin_bl I q (by simp))
  | bl j=>cases ry; exact PySem.EqMixed.ne_str_bool (fin_bl I q (by simp))
  | int j=>obtain ⟨t',rfl⟩:=ry; exact PySem.EqMixed.ne_str_int (fin_bl I q (by simp))
  | str j=>obtain ⟨t',rfl⟩:=ry; exact ne_str (fin_bl I q (congrArg not dec_str))
  | _=>exact absurd (show false=true from hs) Bool.false_ne_true
 | byt i =>
  obtain ⟨t,rfl⟩:=rx
  cases y with
  | byt j=>obtain ⟨t',rfl⟩:=ry; exact PySem.W.ne_bytes (fin_bl I q (congrArg not dec_byt))
  | _=>exact absurd (show false=true from hs) Bool.false_ne_true
 | _=>cases y <;> exact absurd (show false=true from hs) Bool.false_ne_true
theorem op_lt:OpR X (compareOp .Lt) (rI0 fun i j=>.bl (decide (i<j))):=opB0 fun _ _ _ _ _ _ _ q=>lt_int q
theorem op_le:OpR X (compareOp .LtE) (rI0 fun i j=>.bl (decide (i≤j))):=opB0 fun _ _ _ _ _ _ _ q=>le_int q
theorem op_gt:OpR X (compareOp .Gt) (rI0 fun i j=>.bl (decide (j<i))):=opB0 fun _ _ _ _ _ _ _ q=>gt_int q
theorem op_lt_str:OpR X (compareOp .Lt) (fun x y H Q=>∃ i j,x=.str i∧y=.str j∧Q (.bl (decide (i.cps.toList<j.cps.toList))) H):=by
 intro pins s σ H x y v u Q I rx ry h
 obtain ⟨i,j,rfl,rfl,q⟩:=h
 obtain ⟨t,rfl⟩:=rx
 obtain ⟨t',rfl⟩:=ry
 exact lt_str (fin_bl I q rfl)
theorem op_in_str:OpR X (compareOp .In) (fun x y H Q=>∃ i j,x=.str i∧y=.str j∧Q (.bl (!(Builtin.Str.occurrences j i 0 j.length 1).isEmpty)) H):=by
 intro pins s σ H x y v u Q I rx ry h
 obtain ⟨i,j,rfl,rfl,q⟩:=h
 obtain ⟨t,rfl⟩:=rx
 obtain ⟨t',rfl⟩:=ry
 exact in_str (fin_bl I q rfl)
theorem op_notin_str:OpR X (compareOp .NotIn) (fun x y H Q=>∃ i j,x=.str i∧y=.str j∧Q (.bl (!(!(Builtin.Str.occurrences j i 0 j.length 1).isEmpty))) H):=by
 intro pins s σ H x y v u Q I rx ry h
 obtain ⟨i,j,rfl,rfl,q⟩:=h
 obtain ⟨t,rfl⟩:=rx
 obtain ⟨t',rfl⟩:=ry
 exact notIn_str (fin_bl I q rfl)
theorem OpR.or {f:Value→Value→Sem Value} {r r':R2} (h:OpR X f r) (h':OpR X f r'):OpR X f (fun x y H Q=>r x y H Q∨r' x y H Q):=by
 intro pins s σ H x y v u Q I rx ry q
 rcases q with q | q
 ·exact h pins s σ H x y v u Q I rx ry q
 ·exact h' pins s σ H x y v u Q I rx ry q
theorem nomark (b:Expr) {op:CmpOp} (h:op≠.In:=by decide) (h2:op≠.NotIn:=by decide):behindInMarks op b=false:=by
 have e1:(op == CmpOp.In)=false:=by cases op <;> first | rfl | exact absurd rfl h
 have e2:(op == CmpOp.NotIn)=false:=by cases op <;> first | rfl | exact absurd rfl h2
 cases b <;> simp [behindInMarks,e1,e2]
theorem pe_cmpR {op:CmpOp} {r:R2} (ho:OpR X (compareOp op) r) (ha:PE X a ta) (hb:PE X b tb) (hm:behindInMarks op b=false):PE X (.Compare a [op] [b] pos) (tOp r ta tb):=by
 intro pins s σ H Q I h
 exact wpAny_Compare1 (binT ha hb I h fun v u s2 x y H2 I2 rx ry q=>ho pins s2 σ H2 x y v u Q I2 rx ry q) hm
noncomputable def tTest (t:TE):TT:=fun σ H Q=>t σ H fun x H'=>∃ k,x=.bl k∧Q k H'
theorem pt_cmpR {op:CmpOp} {r:R2} (ho:OpR X (compareOp op) r) (ha:PE X a ta) (hb:PE X b tb) (hm:behindInMarks op b=false):PT X (.Compare a [op] [b] pos) (tTest (tOp r ta tb)):=by
 intro pins s σ H Q I h
 refine wpAny_isTrue_Compare1 (thn (ha pins s σ H _ I h) fun v s1 hx5=>L2.ex2 hx5 fun x H1 I1 r1 q1=>thn (hb pins s1 σ H1 _ I1 q1) fun u s2 hx5=>L2.ex2 hx5 fun y H2 I2 r2 q2 =>
  thn (ho pins s2 σ H2 x y v u _ I2 r1 r2 q2) fun c s3 ⟨z,H3,I3,r3,k,e,q3⟩=>?_) hm
 subst e
 cases r3
 exact wpAny_truthy_bool ⟨H3,I3,q3⟩
noncomputable def tChain (r r':R2) (ta tb tc:TE):TE:=fun σ H Q=>ta σ H fun x H1=>tb σ H1 fun y H2=>r x y H2 fun z H3=>∃ k,z=.bl k ∧
 (if k=true then tc σ H3 fun w' H4=>r' y w' H4 Q else Q (.bl false) H3)
theorem pe_chain {op op':CmpOp} {r r':R2} (ho:OpR X (compareOp op) r) (ho':OpR X (compareOp op') r') (ha:PE X a ta) (hb:PE X b tb) (hc:PE X c tc)
  (hm:lastMarks [op,op'] [b,c]=false:=by with_unfolding_all rfl):PE X (.Compare a [op,op'] [b,c] pos) (tChain r r' ta tb tc):=by
 intro pins s σ H Q I h
 refine Compare_chain (thn (ha pins s σ H _ I h) fun v s1 hx5=>L2.ex2 hx5 fun x H1 I1 r1 q1=>chain_link (thn (hb pins s1 σ H1 _ I1 q1) fun u s2 hx5=>L2.ex2 hx5 fun y H2 I2 r2 q2 =>
  thn (ho pins s2 σ H2 x y v u _ I2 r1 r2 q2) fun d s3 ⟨z,H3,I3,r3,k,e,q3⟩=>?_)) hm
 subst e
 cases r3
 refine wpAny_truthy_bool ?_
 cases k with
 | false=>exact ite_ff ⟨.bl false,H3,I3,rfl,q3⟩
 | true=>exact ite_tt (chain_last (thn (hc pins s3 σ H3 _ I3 q3) fun w' s4 ⟨z',H4,I4,r4,q4⟩=>ho' pins s4 σ H4 y z' u w' Q I4 r2 r4 q4))
theorem pt_chain {op op':CmpOp} {r r':R2} (ho:OpR X (compareOp op) r) (ho':OpR X (compareOp op') r') (ha:PE X a ta) (hb:PE X b tb) (hc:PE X c tc)
  (hm:lastMarks [op,op'] [b,c]=false:=by with_unfolding_all rfl):PT X (.Compare a [op,op'] [b,c] pos) (tTest (tChain r r' ta tb tc)):=by
 intro pins s σ H Q I h
 refine isTrue_chain (thn (ha pins s σ H _ I h) fun v s1 hx5=>L2.ex2 hx5 fun x H1 I1 r1 q1=>test_link (thn (hb pins s1 σ H1 _ I1 q1) fun u s2 hx5=>L2.ex2 hx5 fun y H2 I2 r2 q2 =>
  thn (ho pins s2 σ H2 x y v u _ I2 r1 r2 q2) fun d s3 ⟨z,H3,I3,r3,k,e,q3⟩=>?_)) hm
 subst e
 cases r3
 refine wpAny_truthy_bool ?_
 cases k with
 | false =>
  obtain ⟨k',e',q'⟩:=q3
  cases e'
  exact ite_ff ⟨H3,I3,q'⟩
 | true =>
  refine ite_tt (test_last (thn (hc pins s3 σ H3 _ I3 q3) fun w' s4 ⟨z',H4,I4,r4,q4⟩=>thn (ho' pins s4 σ H4 y z' u w' _ I4 r2 r4 q4) fun d' s5 hx9=>?_))
  obtain ⟨z2,H5,I5,r5,k2,e2,q5⟩:=hx9
  subst e2
  cases r5
  exact wpAny_truthy_bool ⟨H5,I5,q5⟩
noncomputable def TruV (K:PySem.W.Frag) (x:V) (H:Hp) (k:Bool):Prop :=
 match x with
 | .non=>k=false
 | .bl b=>k=b
 | .int i=>k=(i != 0)
 | .str y=>y.length≤sizeLine∧k=((y.length:Int) != 0)
 | .byt y=>y.size≤sizeLine∧k=((y.size:Int) != 0)
 | .ref p=>(∃ xs,SqL K H p xs∧k = !xs.isEmpty)∨(∃ xs,SqT K H p xs∧k = !xs.isEmpty)∨∃ kvs,H p=some (.dK kvs)∧k = !kvs.isEmpty
 | _=>False
theorem isEmpty_kv {κ:Type} {kvs:List (κ × V)} {vs:List (κ × Value)} (r:KV kvs vs):(!vs.isEmpty) = !kvs.isEmpty:=by
 cases r <;> rfl
theorem isEmpty_of {xs:List V} {its:List Value} (r:Vals xs its):(!its.toArray.isEmpty) = !xs.isEmpty:=by
 cases r <;> simp
theorem line63:(sizeLine:Nat)<2 ^ 63:=by rw [sizeLine_eq]; decide
theorem tru_ok:TruR X (fun x H Q=>∃ k,TruV X.K x H k∧Q k H):=by
 intro pins s σ H x v Q I rx h
 obtain ⟨k,e,q⟩:=h
 have hl:=line63
 have hs:sizeLine=16777216:=sizeLine_eq
 cases x with
 | non =>
  cases rx
  have e':k=false:=e
  subst e'
  exact truthy_none ⟨H,I,q⟩
 | bl b =>
  cases rx
  have e':k=b:=e
  subst e'
  exact wpAny_truthy_bool ⟨H,I,q⟩
 | int i =>
  obtain ⟨t,rfl⟩:=rx
  have e':k=(i != 0):=e
  subst e'
  exact PySem.P.truthy_int ⟨H,I,q⟩
 | str y =>
  obtain ⟨t,rfl⟩:=rx
  obtain ⟨hy,e'⟩:y.length≤sizeLine∧k=((y.length:Int) != 0):=e
  subst e'
  exact PySem.P.truthy_str (by walk_at "l") ⟨H,I.tok _,q⟩
 | byt y =>
  obtain ⟨t,rfl⟩:=rx
  obtain ⟨hy,e'⟩:y.size≤sizeLine∧k=((y.size:Int) != 0):=e
  subst e'
  exact PySem.W.truthy_bytes (by walk_at "l") ⟨H,I.tok _,q⟩
 | ref p =>
  cases rx
  have e':(∃ xs,SqL X.K H p xs∧k = !xs.isEmpty)∨(∃ xs,SqT X.K H p xs∧k = !xs.isEmpty)∨∃ kvs,H p=some (.dK kvs)∧k = !kvs.isEmpty:=e
  rcases e' with ⟨xs,hx,e'⟩ | ⟨xs,hx,e'⟩ | ⟨kvs,hx,e'⟩
  ·subst e'
   obtain ⟨its,r,pl,hz⟩:=I.list hx
   have hlen:=r.length
   exact wpAny_truthy_list pl.isList (by simp only [List.size_toArray]; walk_at "l") ⟨H,I.tok _,by rw [isEmpty_of r]; exact q⟩
  ·subst e'
   obtain ⟨its,r,pl,hz⟩:=I.tuple hx
   have hlen:=r.length
   exact truthy_tuple pl (by simp only [List.size_toArray]; walk_at "l") ⟨H,I.tok _,by rw [isEmpty_of r]; exact q⟩
  ·subst e'
   obtain ⟨hz,hS,vs,r,m⟩:kvs.length≤sizeLine∧(p == sysModules)=false∧∃ vs,KV kvs vs∧s.heap.DictOf (mixKind X.prog X.w) p vs:=I.hok p _ hx
   have hlen:kvs.length=vs.length:=Paired.length r
   exact wpAny_truthy_dict hS m (by walk_at "l") ⟨H,I.tok _,by rw [isEmpty_kv r]; exact q⟩
 | _=>exact (show False from e).elim
theorem pt_truth (ha:PE X a ta) (he:∀ whole,isTrue a X.env whole=(do let v ← whole; standAt a.pos; holding [v] (truthy v))) :
  PT X a (fun σ H Q=>ta σ H fun x H'=>∃ k,TruV X.K x H' k∧Q k H'):=by
 intro pins s σ H Q I h
 exact isTrue_plain (thn (ha pins s σ H _ I h) fun v s1 hx5=>L2.ex2 hx5 fun x H1 I1 r1 q1=>tru_ok pins s1 σ H1 x v Q I1 r1 q1) (he _)
theorem op_add_str:OpR X (binaryOp .Add) (fun x y H Q=>∃ i j,x=.str i∧y=.str j∧i.length+j.length≤sizeLine∧Q (.str (i++j)) H):=by
 intro pins s σ H x y v u Q I rx ry h
 obtain ⟨i,j,rfl,rfl,hz,q⟩:=h
 obtain ⟨t,rfl⟩:=rx
 obtain ⟨t',rfl⟩:=ry
 exact add_str (fun t' tk=>⟨.str (i++j),H,I.tok _,⟨_,rfl⟩,q⟩) hz
theorem vals1 {x:V} {us:List Value} (r:Vals [x] us):∃ u,us=[u]∧RelV x u:=by
 cases r with
 | cons r1 r2=>cases r2; exact ⟨_,rfl,r1⟩
theorem vals2 {x y:V} {us:List Value} (r:Vals [x,y] us):∃ u w',us=[u,w']∧RelV x u∧RelV y w':=by
 cases r with
 | cons r1 r2 =>
  cases r2 with
  | cons r3 r4=>cases r4; exact ⟨_,_,rfl,r1,r3⟩
theorem call_min2 (hc:X.calm=true):CallR X (.builtin "min") (fun xs H Q=>∃ i j,xs=[.int i,.int j]∧Q (.int (if j<i then j else i)) H):=by
 intro pins s σ H xs us Q I r h
 obtain ⟨i,j,rfl,q⟩:=h
 obtain ⟨u,w',rfl,⟨t,rfl⟩,⟨t',rfl⟩⟩:=vals2 r
 refine min_two_ints (I.ok.hd hc) fun h' tk k=>⟨_,H,I.kept k,?_,q⟩
 by_cases hj:j<i
 ·rw [if_pos hj,if_pos hj]; exact ⟨_,rfl⟩
 ·rw [if_neg hj,if_neg hj]; exact ⟨_,rfl⟩
noncomputable def LenV (K:PySem.W.Frag) (x:V) (H:Hp) (n:Nat):Prop :=
 match x with
 | .str y=>y.length≤sizeLine∧n=y.length
 | .byt y=>y.size≤sizeLine∧n=y.size
 | .ref p=>(∃ xs,SqL K H p xs∧n=xs.length)∨∃ xs,SqT K H p xs∧n=xs.length
 | _=>False
theorem call_len:CallR X (.builtin "len") (fun xs H Q=>∃ x n,xs=[x]∧LenV X.K x H n∧Q (.int n) H):=by
 intro pins s σ H xs us Q I r h
 obtain ⟨x,n,rfl,e,q⟩:=h
 obtain ⟨u,rfl,rx⟩:=vals1 r
 have hl:=line63
 have hs:sizeLine=16777216:=sizeLine_eq
 cases x with
 | str y =>
  obtain ⟨t,rfl⟩:=rx
  obtain ⟨hy,e'⟩:y.length≤sizeLine∧n=y.length:=e
  subst e'
  exact len_str (by walk_at "l") ⟨.int _,H,I.tok _,⟨_,rfl⟩,q⟩
 | byt y =>
  obtain ⟨t,rfl⟩:=rx
  obtain ⟨hy,e'⟩:y.size≤sizeLine∧n=y.size:=e
  subst e'
  exact PySem.W.len_bytes (by walk_at "s4") ⟨.int _,H,I.tok _,⟨_,rfl⟩,q⟩
 | ref p =>
  cases rx
  have e':(∃ xs,SqL X.K H p xs∧n=xs.length)∨∃ xs,SqT X.K H p xs∧n=xs.length:=e
  rcases e' with ⟨xs,hx,e'⟩ | ⟨xs,hx,e'⟩
  ·subst e'
   obtain ⟨its,r',pl,hz⟩:=I.list hx
   have hlen:=r'.length
   exact Calls.call_len_list pl.isList (by simp only [List.size_toArray]; walk_at "l") ⟨.int xs.length,H,I.tok _,⟨_,by simp only [List.size_toArray]; rw [hlen]⟩,q⟩
  ·subst e'
   obtain ⟨its,r',pl,hz⟩:=I.tuple hx
   have hlen:=r'.length
   exact len_tuple pl (by simp only [List.size_toArray]; walk_at "l") ⟨.int xs.length,H,I.tok _,⟨_,by simp only [List.size_toArray]; rw [hlen]⟩,q⟩
 | _=>exact (show False from e).elim
end
end L2
namespace L2
open PySem PySem.Spec PyProof.Rows
structure ObjM (h:Heap) (x dx C:Addr) (mA:Str→Option Value):Prop where
 obj:h.get? x=some (PySem.W.instObj C dx)
 ns:h.Ns1 dx mA
 ne:dx≠x
theorem lookIn_ns {h:Heap} {dx:Addr} {mA:Str→Option Value} (n:h.Ns1 dx mA):∃ od,h.get? dx=some od∧∀ name,PySem.W.lookIn name od=some (mA name):=by
 obtain ⟨o,es,ep,ho,hd,hk,_,hm⟩:=n
 refine ⟨o,ho,fun name=>?_⟩
 have e:=hm name
 unfold nsFind findBy at e
 rw [← Array.find?_toList] at e
 unfold PySem.W.lookIn
 rw [hd]
 dsimp only
 split
 ·rename_i y q
  rw [q] at e
  exact congrArg some e
 ·rename_i q
  rw [q] at e
  have a:es.toList.any (·.refKey)=false:=by
   rw [List.any_eq_false]
   intro y hy
   obtain ⟨z,t,hkey⟩:=hk y (Array.mem_toList_iff.mp hy)
   simp [DictEntry.refKey,hkey]
  have a':¬ es.toList.any (·.refKey)=true:=by rw [a]; exact Bool.false_ne_true
  rw [if_neg a']
  exact congrArg some e
theorem ObjM.look {h:Heap} {x dx C:Addr} {mA:Str→Option Value} (I:ObjM h x dx C mA):∃ od,PySem.W.InstAt h x (PySem.W.instObj C dx) C (some od)∧∀ name,PySem.W.lookIn name od=some (mA name) :=
 let ⟨od,ho,hl⟩:=lookIn_ns I.ns
 ⟨od,⟨I.obj,rfl,rfl,ho⟩,hl⟩
section
variable {prog:Program} {w:World} {A:Around} {E:Value→Shared→Prop} {s:Shared} {K:PySem.W.Frag} {x dx C f:Addr} {mA:Str→Option Value} {name:Str} {v:Value}
end
theorem RelO.some_of {v:V} {o:Option Value} (r:RelO (some v) o):∃ u,o=some u∧RelV v u:=by
 cases o with
 | none=>exact (show False from r).elim
 | some u=>exact ⟨u,rfl,r⟩
section
variable {P:Program} {w:World} {H H':Hp} {h h':Heap} {a C dx:Addr} {fs fs':List (Str × V)}
theorem ins_get (hok:HOk P w H h) (e:H a=some (.ins C dx fs)):∃ mA,ObjM h a dx C mA∧(∀ f,RelO (fs.lookup f) (mA f))∧PySem.Within mA (fs.map (·.1))∧fs.length≤1000∧H dx=some (.own a):=by
 obtain ⟨d,z,ne,ob,mA,n,r,q⟩:=(show ObjOk P w H h a (.ins C dx fs) from hok a _ e)
 exact ⟨mA,⟨ob,n,ne⟩,r,q,z,d⟩
end
structure Cls (K:PySem.W.Frag) (C:Addr):Prop where
 pg:PySem.W.plainGet K C Str.empty=true
 hd:PySem.W.hasDictIn K C=true
 po:PySem.W.plainOver K C=true
 sa:PySem.W.findIn K (.ref C) "__setattr__" = some (some (.builtin "object.__setattr__"))
theorem Cls.get {K:PySem.W.Frag} {C:Addr} (c:Cls K C) (f:Str):PySem.W.plainGet K C f=true:=c.pg
section
variable {X:Cx} {pins:List (Addr × Obj)} {σ:St} {H:Hp} {s:Shared} {a C dx:Addr} {fs:List (Str × V)} {f:Str} {v:V} {A:Around} {E:Value→Shared→Prop}
end
section
variable {X:Cx} {o e value:Expr} {f:Str} {pos pos' tpos:Pos} {ta tv:TE}
end
section
variable {X:Cx} {pins:List (Addr × Obj)} {σ:St} {H:Hp} {s:Shared} {A:Around} {E:Value→Shared→Prop} {Q:Value→Shared→Prop} {c:Value} {b:Bool}
inductive TyOf (K:PySem.W.Frag) (H:Hp):V→Value→Prop where
 | non:TyOf K H .non (.type "NoneType")
 | bl (x:Bool):TyOf K H (.bl x) (.type "bool")
 | int (i:Int):TyOf K H (.int i) (.type "int")
 | str (x:Str):TyOf K H (.str x) (.type "str")
 | flt (x:UInt64):TyOf K H (.flt x) (.type "float")
 | lst {a:Addr} {xs:List V} (e:H a=some (.lst xs)):TyOf K H (.ref a) (.type "list")
 | frz {a:Addr} {o:Obj} {xs:List V} (e:H a=some (.frz o (.lst xs))):TyOf K H (.ref a) (.type "list")
 | tup {a:Addr} {xs:List V} (e:H a=some (.tup xs)):TyOf K H (.ref a) (.type "tuple")
 | dK {a:Addr} {kvs:List (Key × V)} (e:H a=some (.dK kvs)):TyOf K H (.ref a) (.type "dict")
 | dT {a:Addr} {kvs:List (List Key × V)} (e:H a=some (.dT kvs)):TyOf K H (.ref a) (.type "dict")
 | ins {a C dx:Addr} {fs:List (Str × V)} (e:H a=some (.ins C dx fs)) (cl:Cls K C) (ha:PySem.W.findIn K (.ref C) "__class__" = some (some (.builtin "object.__class__")))
   (hn:PySem.W.specialIn K (.builtin "object.__class__") "__get__" = some (some (.builtin "getset_descriptor.__get__"))) (htk:PySem.W.takesIn K (.builtin "object.__class__")=some true)
   (hm:PySem.W.mroIn K C (.type "object")=some true):TyOf K H (.ref a) (.ref C)
theorem isinst_ok {x:V} {u t:Value} (I:Inv X pins σ H s) (rx:RelV x u) (ty:TyOf X.K H x t) (e:PySem.W.kitOne X.K t c=some b) (h:∀ tk,Q (.bool b) { s with toks:=tk }) :
  wpAny (model X.prog X.w) A (call (.builtin "isinstance") [u,c]) Q E s:=by
 cases ty with
 | non=>cases (show u=Value.none from rx); exact PySem.W.kia_one PySem.W.kitx_none I.kIn True.intro e (fun z=>nomatch z) h
 | bl y=>cases (show u=Value.bool y from rx); exact PySem.W.kia_one PySem.W.kitx_bool I.kIn True.intro e (fun z=>nomatch z) h
 | int i=>obtain ⟨t,q⟩:=(show ∃ t,u=Value.int i t from rx); cases q; exact PySem.W.kia_one PySem.W.kitx_int I.kIn True.intro e (fun z=>nomatch z) h
 | str y=>obtain ⟨t,q⟩:=(show ∃ t,u=Value.str y t from rx); cases q; exact PySem.W.kia_one PySem.W.kitx_str I.kIn True.intro e (fun z=>nomatch z) h
 | flt y=>obtain ⟨t,q⟩:=(show ∃ t,u=Value.float y t from rx); cases q; exact PySem.W.kia_one PySem.W.kitx_float I.kIn True.intro e (fun z=>nomatch z) h
 | @lst a xs ea =>
  cases (show u=Value.ref a from rx)
  obtain ⟨_,_,n,_,h1⟩:=(show ObjOk X.prog X.w H s.heap a (.lst xs) from I.hok a _ ea)
  exact PySem.W.kia_one PySem.W.kitx_list I.kIn ⟨_,h1,rfl⟩ e (fun z=>nomatch z) h
 | @frz a ob xs ea =>
  cases (show u=Value.ref a from rx)
  obtain ⟨_,_,_,n,_,h1⟩:=(show ObjOk X.prog X.w H s.heap a (.frz ob (.lst xs)) from I.hok a _ ea)
  exact PySem.W.kia_one PySem.W.kitx_list I.kIn ⟨_,h1,rfl⟩ e (fun z=>nomatch z) h
 | @tup a xs ea =>
  cases (show u=Value.ref a from rx)
  obtain ⟨_,_,_,p⟩:=(show ObjOk X.prog X.w H s.heap a (.tup xs) from I.hok a _ ea)
  obtain ⟨o,h1,h2,_⟩:=p
  exact PySem.W.kia_one PySem.W.kitx_tuple I.kIn ⟨o,h1,h2⟩ e (fun z=>nomatch z) h
 | @dK a kvs ea =>
  cases (show u=Value.ref a from rx)
  obtain ⟨_,_,vs,_,p⟩:=(show ObjOk X.prog X.w H s.heap a (.dK kvs) from I.hok a _ ea)
  obtain ⟨o,es,ep,h1,h2,_⟩:=p
  exact PySem.W.kia_one PySem.W.kitx_dict I.kIn ⟨o,h1,h2.1⟩ e (fun z=>nomatch z) h
 | @dT a kvs ea =>
  cases (show u=Value.ref a from rx)
  obtain ⟨_,_,xs,_,o,es,ep,h1,h2,_⟩:=(show ObjOk X.prog X.w H s.heap a (.dT kvs) from I.hok a _ ea)
  exact PySem.W.kia_one PySem.W.kitx_dict I.kIn ⟨o,h1,h2.1⟩ e (fun z=>nomatch z) h
 | @ins a C dx fs ea cl ha hn htk hm =>
  cases (show u=Value.ref a from rx)
  obtain ⟨mA,O,_⟩:=ins_get I.hok ea
  obtain ⟨od,J,_⟩:=O.look
  exact PySem.W.kia_one (PySem.W.kitx_own (cl.get _) cl.hd ha hn htk hm) I.kIn J e (fun z=>nomatch z) h
end
end L2
namespace L2
open PySem PySem.Spec PyProof.Rows
structure Room (k:Nat) (A:Around):Prop where
 hd:A.handled=none
 dp:A.depth+3 * k+5<recursionLimit
 un:A.units+16 * k+200<cLine
theorem Room.mono {j k:Nat} {A:Around} (r:Room k A) (h:j≤k):Room j A:=⟨r.hd,by have:=r.dp; walk_at "l",by have:=r.un; walk_at "l"⟩
theorem Room.deeper {k:Nat} {A:Around} (r:Room (k+1) A) (env:Env):Room k (A.deeper env) :=
 ⟨r.hd,by have:=r.dp; show A.depth+1+3 * k+5<_; walk_at "l",by have:=r.un; show A.units+3+16 * k+200<_; walk_at "l"⟩
theorem Room.depth {k:Nat} {A:Around} (r:Room k A):A.depth<recursionLimit:=by have:=r.dp; walk_at "l"
theorem Room.units {k:Nat} {A:Around} (r:Room k A):A.units+64<cLine:=by have:=r.un; walk_at "l"
noncomputable def tNil:TA:=fun _ H Q=>Q [] H
noncomputable def tCons (ta:TE) (tr:TA):TA:=fun σ H Q=>ta σ H fun x H1=>tr σ H1 fun xs H2=>Q (x :: xs) H2
section
variable {X:Cx} {e:Expr} {es:List Expr} {te:TE} {t:TA} {pos:Pos}
theorem pa_nil:PA X [] tNil:=fun _ _ _ _ H Q I h=>Calls.spliced_nil ⟨[],H,I,.nil,h⟩
theorem pa_cons (ha:PE X e te) (hr:PA X es t) (hs:starEach (e :: es) X.env=(false,eval e X.env) :: starEach es X.env:=by rfl):PA X (e :: es) (tCons te t):=by
 intro pos pins s σ H Q I h
 rw [hs]
 show wpAny _ _ (spliced ((false,eval e X.env) :: backTo pos (starEach es X.env))) _ _ s
 refine Calls.spliced_cons (thn (ha pins s σ H _ I h) fun u s1 hx5=>L2.ex2 hx5 fun x H1 I1 r1 q1=>?_)
 exact thn (hr pos pins s1 σ H1 _ I1 q1) fun us s2 hx5=>L2.ex2 hx5 fun xs H2 I2 r2 q2=>⟨x :: xs,H2,I2,.cons r1 r2,q2⟩
noncomputable def tTup (t:TA):TE:=fun σ H Q=>t σ H fun xs H1=>xs.length≤sizeLine∧∀ p,H1 p=none→Q (.ref p) (upd H1 p (.tup xs))
noncomputable def tLst (t:TA):TE:=fun σ H Q=>t σ H fun xs H1=>xs.length≤sizeLine∧∀ p,H1 p=none→Q (.ref p) (upd H1 p (.lst xs))
theorem pe_tup {x1} (h:PA X es t):PE X (.Tuple es x1 pos) (tTup t):=by
 intro pins s σ H Q I hq
 refine wpAny_Tuple_spliced (thn (h pos pins s σ H _ I hq) fun us s1 ⟨xs,H1,I1,r,z,q⟩=>⟨by rw [← r.length]; exact z,?_⟩)
 have hf:H1 s1.heap.objs.size=none:=I1.hok.fresh (Nat.le_refl _)
 refine ⟨.ref s1.heap.objs.size,upd H1 s1.heap.objs.size (.tup xs),I1.laid (t':=s1.toks) (fun b u e=>Heap.get?_push_of_some _ e) (Nat.le_refl _) ?_,rfl,q _ hf⟩
 exact ⟨z,us,r,⟨_,Heap.get?_push_size _ rfl,rfl,_,rfl⟩⟩
theorem pe_lst (h:PA X es t):PE X (.List es pos) (tLst t):=by
 intro pins s σ H Q I hq
 refine wpAny_List_spliced (thn (h pos pins s σ H _ I hq) fun us s1 ⟨xs,H1,I1,r,z,q⟩=>⟨by rw [← r.length]; exact z,?_⟩)
 have hf:H1 s1.heap.objs.size=none:=I1.hok.fresh (Nat.le_refl _)
 refine ⟨.ref s1.heap.objs.size,upd H1 s1.heap.objs.size (.lst xs),I1.laid (t':=s1.toks) (fun b u e=>Heap.get?_push_of_some _ e) (Nat.le_refl _) ?_,rfl,q _ hf⟩
 exact ⟨z,us,0,r,Heap.get?_push_size _ rfl⟩
end
noncomputable abbrev Sp:=List V→Hp→VK→XK→Prop
noncomputable abbrev CXT:=List Env→Hp→Shared→XK→Value→Shared→Prop
structure Env0 (P:Program) (w:World) (K:PySem.W.Frag) (mg:Str→Option Value) (base:Heap) (A:Around) (outer:List Env) (s:Shared) (H:Hp):Prop where
 frames:A.frames=some outer
 mod:Mod K mg base
 bs:∀ b o,base.get? b=some o→s.heap.get? b=some o∧H b=none
 bsz:base.objs.size≤s.heap.objs.size
 funs:s.heap.FunFrames base outer
 frf:∀ b∈frs outer,H b=none
 hok:HOk P w H s.heap
 bare:AllBare s.gens
noncomputable def CE (outer:List Env) (P:Program) (w:World) (H:Hp) (s:Shared) (Q:VK) (u:Value) (s':Shared):Prop :=
 ∃ v H',s'.os=s.os∧AllBare s'.gens∧Un (frs outer) [] H H' s.heap s'.heap∧HOk P w H' s'.heap∧RelV v u∧Q v H'
noncomputable def CR (CX:CXT) (outer:List Env) (P:Program) (w:World) (H:Hp) (s:Shared) (Q:VK) (E:XK) (r:Result) (s':Shared):Prop :=
 match r with
 | .ok (.ret u)=>CE outer P w H s Q u s'
 | .ok _=>False
 | .error e=>CX outer H s E e s'
structure FnOk (P:Program) (w:World) (K:PySem.W.Frag) (mg:Str→Option Value) (base:Heap) (CX:CXT) (k:Nat) (f:Addr) (fd:FuncData) (ps:List Str) (sp:Sp):Prop where
 len:∀ vs H Q E,sp vs H Q E→vs.length=ps.length
 run:∀ (A:Around) (outer:List Env) (s:Shared) (H:Hp) (args:Args) (us:List Value) (vs:List V) (Q:VK) (E:XK),Room k A→Env0 P w K mg base A outer s H→BindsTo s fd args (ps.zip us)→Vals vs us→sp vs H Q E →
  codeAny (model P w) A (.call (.ref f) args) (CR CX outer P w H s Q E) s
section
variable {X:Cx} {pins:List (Addr × Obj)} {σ:St} {H:Hp} {s s':Shared}
theorem Inv.env0 (I:Inv X pins σ H s):Env0 X.prog X.w X.K X.mg X.base X.A X.stack s H :=
 ⟨I.ok.frames,I.ok.mod,I.bs,Nat.le_trans I.ok.bsz I.sz,I.stack,I.stkFree,I.hok,I.bare⟩
theorem Inv.after {Q:VK} {u:Value} (I:Inv X pins σ H s) (h:CE X.stack X.prog X.w H s Q u s'):EP X pins σ Q u s':=by
 obtain ⟨v,H',os,bare,un,hok,r,q⟩:=h
 obtain ⟨hh,g,d,t,os'⟩:=s'
 obtain rfl:os'=s.os:=os
 exact ⟨v,H',I.call (h':=hh) (g':=g) (d':=d) (t':=t) (ch:=[]) un hok bare (fun b z=>absurd z (by simp)),r,q⟩
end
noncomputable def tCall (sp:Sp) (dvs:List V) (E:XK) (t:TA):TE:=fun σ H Q=>t σ H fun vs H1=>sp (vs++dvs) H1 Q E
noncomputable def Binds (K:PySem.W.Frag) (fd:FuncData) (ps:List Str) (ds:List Value):Prop :=
 ∀ (s:Shared) (us:List Value),K.In s.heap→(us++ds).length=ps.length→BindsTo s fd ⟨us,[]⟩ (ps.zip (us++ds))
theorem Binds.all {K:PySem.W.Frag} {fd:FuncData} {ps:List Str} (h:∀ us:List Value,us.length=ps.length→bindArgs fd ⟨us,[]⟩=pure (ps.zip us)):Binds K fd ps []:=fun s us _ hl=>by
 rw [List.append_nil] at hl ⊢
 exact .of_eq (h us hl)
noncomputable def Passes (CX:CXT) (X:Cx) (E:XK):Prop:=∀ (pins:List (Addr × Obj)) (σ:St) (H:Hp) (s:Shared) (e:Value) (s':Shared),Inv X pins σ H s→CX X.stack H s E e s'→X.xe e s'
section
variable {X:Cx} {CX:CXT} {k:Nat} {f C:Addr} {fd:FuncData} {ps:List Str} {sp:Sp} {dvs:List V} {ds:List Value} {E:XK} {x m:Str} {p pos apos:Pos} {e o:Expr} {es:List Expr} {ta:TE} {t:TA}
theorem run_fn {pins:List (Addr × Obj)} {σ:St} {H:Hp} {s:Shared} {Q:VK} {us:List Value} {vs:List V} (F:FnOk X.prog X.w X.K X.mg X.base CX k f fd ps sp) (hr:Room k X.A) (hb:Binds X.K fd ps ds) (hd:Vals dvs ds) (hx:Passes CX X E)
  (I:Inv X pins σ H s) (r:Vals vs us) (h:sp (vs++dvs) H Q E):wpAny (model X.prog X.w) X.A (call (.ref f) us) (EP X pins σ Q) X.xe s:=by
 have r2:Vals (vs++dvs) (us++ds):=r.append hd
 have hl:(us++ds).length=ps.length:=by rw [← r2.length]; exact F.len _ _ _ _ h
 refine wpAny_call (codeAny_mono (F.run X.A X.stack s H ⟨us,[]⟩ (us++ds) (vs++dvs) Q E hr I.env0 (hb s us I.kIn hl) r2 h) fun r s' hq=>?_)
 cases r with
 | error e=>exact hx pins σ H s e s' I hq
 | ok fl =>
  cases fl with
  | ret u=>exact I.after hq
  | next=>exact False.elim hq
  | brk=>exact False.elim hq
  | cont=>exact False.elim hq
theorem pe_call (F:FnOk X.prog X.w X.K X.mg X.base CX k f fd ps sp) (hr:Room k X.A) (hg:Gl X x) (hm:X.mg x=some (.ref f)) (hk:PySem.W.keepIn X.K (.ref f)=true) (hb:Binds X.K fd ps ds) (hd:Vals dvs ds) (hx:Passes CX X E)
  (ha:PA X (e :: es) t) (hdb:(x == ("__debug__" : Str))=false:=by decide) (he:starEach (e :: es) X.env=(false,eval e X.env) :: starEach es X.env:=by rfl) (hpl:(backTo pos (starEach es X.env)).any (·.1)=false:=by rfl) :
  PE X (.Call (.Name x p) (e :: es) [] pos) (tCall sp dvs E t):=by
 intro pins s σ H Q I h
 refine wpAny_Call_Name_kw (ld_glob I hg hm ?_ hdb)
 refine PySem.W.callWith_K (h₀:=X.base) I.ok.mod.kin hk (thn (ha pos pins s σ H _ I h) fun us s1 hx5=>L2.ex2 hx5 fun vs H1 I1 r q=>⟨I1.kIn,?_⟩) he hpl
 exact run_fn F hr hb hd hx I1 r q
end
section
variable {X:Cx} {CX:CXT} {k:Nat} {f C:Addr} {fd:FuncData} {ps ks:List Str} {sp:Sp} {E:XK} {x m:Str} {p pos apos kpos:Pos} {e o:Expr} {es:List Expr} {kws:List Keyword} {te ta:TE} {t tk:TA} {nm:Option Str}
variable {g:List Value→List Value→List Value} {gV:List V→List V→List V}
end
structure FnScope (N P:List Str) (sc:Scope):Prop where
 kind:sc.kind=.function
 co:sc.isCoroutine=false
 gen:sc.isGenerator=false
 nd:N.Nodup
 pre:N.take P.length=P
 par:∀ x∈P,sc.names.lookup x=some .local∨sc.names.lookup x=some .cell
 nofree:∀ y∈sc.names,y.2≠.free
theorem bindL_out {kindOf:Str→Option NameKind} {x:Str}:∀ {binds:List (Str × Value)} {m:Str→Option Value},(∀ v,(x,v)∉binds)→bindL kindOf binds m x=m x
 | [],_,_=>rfl
 | (n,v) :: r,m,h=>by
  unfold bindL
  rw [bindL_out fun w hw=>h w (List.mem_cons_of_mem _ hw)]
  split
  ·have:x≠n:=by rintro rfl; exact h v List.mem_cons_self
   simp [this]
  ·rfl
theorem bindC_out {kindOf:Str→Option NameKind} {x:Str}:∀ {binds:List (Str × Value)} {m:Str→Option Value},(∀ v,(x,v)∉binds)→bindC kindOf binds m x=m x
 | [],_,_=>rfl
 | (n,v) :: r,m,h=>by
  unfold bindC
  rw [bindC_out fun w hw=>h w (List.mem_cons_of_mem _ hw)]
  split
  ·rfl
  ·have:x≠n:=by rintro rfl; exact h v List.mem_cons_self
   simp [this]
theorem bindL_get {kindOf:Str→Option NameKind} {x:Str} {v:Value}:∀ {P:List Str} {vs:List Value} {i:Nat} {m:Str→Option Value},P.Nodup→P[i]? = some x→vs[i]? = some v→kindOf x=some .local →
  bindL kindOf (P.zip vs) m x=some v
 | [],_,_,_,_,h,_,_=>by simp at h
 | _ :: _,[],_,_,_,_,h,_=>by simp at h
 | p :: P,w :: vs,0,m,nd,h1,h2,hk=>by
  simp at h1 h2; subst h1; subst h2
  show bindL kindOf ((p,w) :: P.zip vs) m p=_
  unfold bindL
  rw [bindL_out fun v hv=>(List.nodup_cons.mp nd).1 (List.of_mem_zip hv).1,if_pos hk]
  simp
 | p :: P,w :: vs,i+1,m,nd,h1,h2,hk=>by
  show bindL kindOf ((p,w) :: P.zip vs) m x=_
  unfold bindL
  exact bindL_get (i:=i) (List.nodup_cons.mp nd).2 (by simpa using h1) (by simpa using h2) hk
theorem bindC_get {kindOf:Str→Option NameKind} {x:Str} {v:Value}:∀ {P:List Str} {vs:List Value} {i:Nat} {m:Str→Option Value},P.Nodup→P[i]? = some x→vs[i]? = some v→kindOf x≠some .local →
  bindC kindOf (P.zip vs) m x=some v
 | [],_,_,_,_,h,_,_=>by simp at h
 | _ :: _,[],_,_,_,_,h,_=>by simp at h
 | p :: P,w :: vs,0,m,nd,h1,h2,hk=>by
  simp at h1 h2; subst h1; subst h2
  show bindC kindOf ((p,w) :: P.zip vs) m p=_
  unfold bindC
  rw [bindC_out fun v hv=>(List.nodup_cons.mp nd).1 (List.of_mem_zip hv).1,if_neg hk]
  simp
 | p :: P,w :: vs,i+1,m,nd,h1,h2,hk=>by
  show bindC kindOf ((p,w) :: P.zip vs) m x=_
  unfold bindC
  exact bindC_get (i:=i) (List.nodup_cons.mp nd).2 (by simpa using h1) (by simpa using h2) hk
noncomputable def start (N:List Str) (vs:List V):St:=vs.map some++List.replicate (N.length - vs.length) none
noncomputable def cxOf (CX:CXT) (P:Program) (w:World) (K:PySem.W.Frag) (mg:Str→Option Value) (base:Heap) (N:List Str) (qual:Str) (scope:Scope) (f:Addr) (cd:Value) (A:Around) (outer:List Env) (s:Shared) (H:Hp) (E:XK):Cx where
 prog:=P
 w:=w
 K:=K
 mg:=mg
 base:=base
 A:=A.deeper (envOfC qual scope s.heap.objs.size f cd)
 N:=N
 s₀:=s
 H₀:=H
 env:=envOfC qual scope s.heap.objs.size f cd
 outer:=outer
 stack:=envOfC qual scope s.heap.objs.size f cd :: outer
 ex:=[]
 calm:=true
 fn:=fun _=>true
 pn:=[]
 xe:=fun e s'=>wpAny (model P w) (A.deeper (envOfC qual scope s.heap.objs.size f cd)) (leaving (envOfC qual scope s.heap.objs.size f cd) e) (fun _ s''=>CX outer H s E e s'') (fun e' s''=>CX outer H s E e' s'') s'
theorem cell_has {sc:Scope} {n:Nat} {x:Str} (h:sc.names.lookup x=some .cell):∃ c,(cellsFrom n sc.names []).lookup x=some c:=by
 have q:=PySem.W.cellsFrom_some sc.names n [] (.inl h)
 exact Option.isSome_iff_exists.mp q
theorem inv_start {CX:CXT} {P:Program} {w:World} {K:PySem.W.Frag} {mg:Str→Option Value} {base:Heap} {N ps:List Str} {qual:Str} {scope:Scope} {f:Addr} {cd:Value} {A:Around} {outer:List Env} {s s1:Shared} {H:Hp} {E:XK} {us:List Value} {vs:List V}
  (S:FnScope N ps scope) (hd:A.handled=none) (e0:Env0 P w K mg base A outer s H) (hl:vs.length=ps.length) (r:Vals vs us)
  (x:InCallC s s.heap.objs.size (bindL (envOfC qual scope s.heap.objs.size f cd).kindOf (ps.zip us) fun _=>none) (cellsFrom (s.heap.objs.size+1) scope.names []) (bindC (envOfC qual scope s.heap.objs.size f cd).kindOf (ps.zip us) fun _=>none) s1) :
  Inv (cxOf CX P w K mg base N qual scope f cd A outer s H E) [] (start N vs) H s1:=by
 have hpl:ps.length≤N.length:=by have:=congrArg List.length S.pre; rw [List.length_take] at this; walk_at "l"
 obtain ⟨h1,tk,rfl,hk⟩:=x.done
 have noA:∀ b:Addr,b∉(cxOf CX P w K mg base N qual scope f cd A outer s H E).ex:=fun b z=>absurd (show b∈([]:List Addr) from z) (by simp)
 refine ⟨⟨e0.mod,S.kind,rfl,rfl,Nat.le_refl _,fun y z c h1 h2=>?_,fun y hy=>?_,fun y c _ h=>?_,fun _=>hd,Around.frames_deeper e0.frames,.inr ⟨rfl,rfl⟩,fun b z=>absurd z (noA b),e0.bs,e0.bsz,fun b _ _=>noA b,fun b z=>absurd z (noA b),e0.funs,e0.frf⟩,
  rfl,e0.bare,Un.kept hk,⟨_,x.toInCall.ns,fun i y v h1 h2 h3=>?_⟩,fun y c h=>⟨_,x.cell y c h⟩,e0.hok.fresh (Nat.le_refl _),fun y c h=>?_,fun p hp=>absurd (show p∈([]:List (Addr × Obj)) from hp) (by simp),e0.hok.kept hk,?_⟩
 ·exact name_of_addr x.apart (PySem.mem_of_lookup h1) (PySem.mem_of_lookup h2)
 ·have hy:scope.names.lookup y=some .cell∨scope.names.lookup y=some .free:=hy
  rcases hy with hy | hy
  ·exact cell_has hy
  ·exact absurd rfl (S.nofree _ (PySem.mem_of_lookup hy))
 ·exact Nat.le_of_lt (x.above y c (PySem.mem_of_lookup h))
 ·have hi:i<vs.length:=by
   unfold start at h2
   by_cases hi:i<vs.length
   ·exact hi
   ·rw [List.getElem?_append_right (by simpa using hi)] at h2
    rw [List.getElem?_replicate] at h2
    split at h2 <;> cases h2
  have ha:vs[i]? = some v:=by
   unfold start at h2
   rw [List.getElem?_append_left (by simpa using hi),List.getElem?_map] at h2
   cases e:vs[i]? with
   | none=>rw [e] at h2; cases h2
   | some a=>rw [e] at h2; cases h2; rfl
  obtain ⟨u,hu,rv⟩:=r.get ha
  have hp:ps[i]? = some y:=by
   rw [← S.pre,List.getElem?_take_of_lt (by walk_at "l")]; exact h1
  have ndP:ps.Nodup:=by rw [← S.pre]; exact S.nd.sublist (List.take_sublist _ _)
  refine ⟨u,rv,?_⟩
  rcases S.par y (List.mem_of_getElem? hp) with k | k
  ·exact .inl ⟨k,bindL_get ndP hp hu k⟩
  ·obtain ⟨c,e⟩:=cell_has (n:=s.heap.objs.size+1) k
   refine .inr ⟨.inl k,c,e,?_⟩
   have q:=x.cell y c e
   rw [bindC_get ndP hp hu (by show scope.names.lookup y≠_; rw [k]; decide)] at q
   exact q
 ·exact e0.hok.fresh (Nat.le_of_lt (x.above y c (PySem.mem_of_lookup h)))
 ·unfold start
  show _=N.length
  rw [List.length_append,List.length_map,List.length_replicate]
  walk_at "l"
theorem fn_of {CX:CXT} {P:Program} {w:World} {K:PySem.W.Frag} {mg:Str→Option Value} {base:Heap} {k:Nat} {f:Addr} {name qual:Str} {params:Arguments} {body:List Stmt} {scope:Scope} {dV kV doc pm cdv ct oc:Value} {an od:Option Addr}
  {osl:Array (Option Value)} {N ps:List Str} {sp:Sp} (lk:K.lookup f=some ⟨oc,od,.func (PySem.W.fnOf name qual params body scope dV kV doc pm an cdv ct),osl⟩) (hcd:PySem.W.codeIn K cdv qual=true) (S:FnScope N ps scope)
  (len:∀ vs H Q E,sp vs H Q E→vs.length=ps.length)
  (hbody:∀ (A:Around) (outer:List Env) (s:Shared) (H:Hp) (vs:List V) (Q:VK) (E:XK),Room k (A.deeper (envOfC qual scope s.heap.objs.size f cdv))→sp vs H Q E →
   ∃ t,PSs (cxOf CX P w K mg base N qual scope f cdv A outer s H E) body t∧t { nx:=fun _ H'=>Q .non H',rt:=Q } (start N vs) H) :
  FnOk P w K mg base CX (k+1) f (PySem.W.fnOf name qual params body scope dV kV doc pm an cdv ct) ps sp:=by
 refine ⟨len,fun A outer s H args us vs Q E hr e0 hb r hsp=>?_⟩
 have hl:=len _ _ _ _ hsp
 have KX:K.In s.heap:=e0.mod.kin.keeps fun b o e=>(e0.bs b o e).1
 have lim:s.heap.NoLimit:=e0.mod.nolimit.keeps fun b o e=>(e0.bs b o e).1
 have hkind:∀ y∈ps.zip us,scope.names.lookup y.1=some .local∨(scope.names.lookup y.1=some .cell∧((cellsFrom (s.heap.objs.size+1) scope.names []).lookup y.1).isSome=true):=fun ⟨n,v⟩ hy=>by
  rcases S.par n (List.of_mem_zip hy).1 with q | q
  ·exact .inl q
  ·exact .inr ⟨q,PySem.W.cellsFrom_some _ _ _ (.inl q)⟩
 refine codeAny_call_function hr.depth (KX _ _ lk) rfl S.co S.gen rfl (PySem.W.codeRec_of KX hcd) (hb _ _ _ _ ?_)
 refine wpAny_newFunctionEnv_cells S.kind hkind fun env he s1 x=>?_
 subst he
 refine ⟨lim.keeps x.toInCall.keep,codeAny_func ?_⟩
 obtain ⟨t,ht,hq⟩:=hbody A outer s H vs Q E (hr.deeper _) hsp
 have I:Inv (cxOf CX P w K mg base N qual scope f cdv A outer s H E) [] (start N vs) H s1:=inv_start S hr.hd e0 hl r x
 refine wpAny_mono (ht [] s1 (start N vs) H _ I hq) (fun fl s' hs=>?_) fun e s' hs=>hs
 have fin:∀ {σ':St} {H':Hp} {v:V} {u:Value},Inv (cxOf CX P w K mg base N qual scope f cdv A outer s H E) [] σ' H' s'→RelV v u→Q v H'→CE outer P w H s Q u s' :=
  fun {σ' H' v u} J rv q=>⟨v,H',J.os,J.bare,J.base,J.hok,rv,q⟩
 cases fl with
 | ret u =>
  obtain ⟨v,σ',H',J,rv,q⟩:=hs
  exact fin J rv q
 | next =>
  obtain ⟨σ',H',J,q⟩:=hs
  exact fin (v:=V.non) (u:=Value.none) J rfl q
 | brk =>
  obtain ⟨_,_,_,q⟩:=hs
  exact False.elim q
 | cont =>
  obtain ⟨_,_,_,q⟩:=hs
  exact False.elim q
end L2
namespace L2
open PySem PySem.Spec PyProof.Rows
section
variable {X:Cx} {x:Str} {p pos:Pos} {e:Expr} {es:List Expr} {t:TA} {id T:String} {r:List V→Hp→VK→Prop}
noncomputable def tCB (r:List V→Hp→VK→Prop) (t:TA):TE:=fun σ H Q=>t σ H fun vs H1=>r vs H1 Q
theorem pe_callB (hc:CallR X (.builtin id) r) (hg:Gl X x) (hm:X.mg x=none) (hv:bootBuiltins x=some (.builtin id)) (ha:PA X (e :: es) t) (hn:x ≠ "__name__" := by decide) (hdb:(x == ("__debug__" : Str))=false:=by decide)
  (he:starEach (e :: es) X.env=(false,eval e X.env) :: starEach es X.env:=by rfl) (hpl:(backTo pos (starEach es X.env)).any (·.1)=false:=by rfl):PE X (.Call (.Name x p) (e :: es) [] pos) (tCB r t):=by
 intro pins s σ H Q I h
 refine wpAny_Call_Name_kw (ld_blt I hg hm hv ?_ hn hdb)
 exact PyProof.Rows.callWith_builtin1 (thn (ha pos pins s σ H _ I h) fun us s1 hx5=>L2.ex2 hx5 fun vs H1 I1 r1 q1=>hc pins s1 σ H1 vs us Q I1 r1 q1) he hpl
theorem pe_callTy (hc:CallR X (.type T) r) (hg:Gl X x) (hm:X.mg x=none) (hv:bootBuiltins x=some (.type T)) (ha:PA X (e :: es) t) (hn:x ≠ "__name__" := by decide) (hdb:(x == ("__debug__" : Str))=false:=by decide)
  (he:starEach (e :: es) X.env=(false,eval e X.env) :: starEach es X.env:=by rfl) (hpl:(backTo pos (starEach es X.env)).any (·.1)=false:=by rfl):PE X (.Call (.Name x p) (e :: es) [] pos) (tCB r t):=by
 intro pins s σ H Q I h
 refine wpAny_Call_Name_kw (ld_blt I hg hm hv ?_ hn hdb)
 exact PyProof.Rows.callWith_type1 (thn (ha pos pins s σ H _ I h) fun us s1 hx5=>L2.ex2 hx5 fun vs H1 I1 r1 q1=>hc pins s1 σ H1 vs us Q I1 r1 q1) he hpl
end
end L2
namespace HT
open PySem PyProof.Rows
section
open PySem.SeqAt
open PySem.AutoSeq1 (wpAny_loadPart')
open PySem.MeetsSeq PySem.MeetsSeq2 PySem.MeetsSeq3
end
section
variable {prog:Program} {w:World} {A:Around} {E:Value→Shared→Prop} {s:Shared}
theorem cat_tup {t b:Addr} {vs ws:List Value} {Q:Value→Shared→Prop} (ht:IsTup s.heap t vs.toArray) (hb:IsTup s.heap b ws.toArray) (hv:vs≠[])
  (h1:ws=[]→Q (.ref t) s) (h2:ws≠[]→Q (.ref s.heap.objs.size) { s with heap:=s.heap.push { cls:=.type "tuple",data:=.seq (vs++ws).toArray } })
  (hsz:vs.length+ws.length≤sizeLine):wpAny (model prog w) A (binaryOp .Add (.ref t) (.ref b)) Q E s:=by
 obtain ⟨⟨cls,dd,data,sl⟩,ho,hc,n,hd⟩:=id ht
 obtain ⟨⟨cls2,dd2,data2,sl2⟩,ho2,hc2,n2,hd2⟩:=id hb
 simp only at hc hd hc2 hd2
 subst hc hd hc2 hd2
 have e:vs.toArray++ws.toArray=(vs++ws).toArray:=by simp
 by_cases hw:ws=[]
 ·exact concat_meets ⟨_,ho,rfl⟩ ⟨_,ho2,rfl⟩ noFill_tuple_add seq_tuple_add PySem.F.slot_tuple_add PySem.F.entry_tuple_add (PySem.F.args_tuple_add_2 _ _)
   (tuple_addW1 t b vs.toArray ws.toArray n n2 dd dd2 sl sl2 (by simpa using hv) (by simp [hw])) ⟨ho,ho2,h1 hw⟩
 ·refine concat_meets ⟨_,ho,rfl⟩ ⟨_,ho2,rfl⟩ noFill_tuple_add seq_tuple_add PySem.F.slot_tuple_add PySem.F.entry_tuple_add (PySem.F.args_tuple_add_2 _ _)
   (tuple_addW2 t b vs.toArray ws.toArray n n2 dd dd2 sl sl2 (by simpa using hv) (by simpa using hw) (by rw [List.size_toArray,List.size_toArray]; exact hsz)) ⟨ho,ho2,?_⟩
  rw [e]
  exact h2 hw
noncomputable def sIx (n d:Nat):Option Int→Nat
 | none=>d
 | some v=>if v<0 then (v+(n:Int)).toNat else min v.toNat n
theorem sIx_le (n d:Nat) (hd:d≤n) (o:Option Int):sIx n d o≤n:=by
 cases o with
 | none=>exact hd
 | some v =>
  show (if v<0 then (v+(n:Int)).toNat else min v.toNat n)≤n
  by_cases hv:v<0
  ·rw [if_pos hv]; walk_at "l"
  ·rw [if_neg hv]; exact Nat.min_le_right _ _
theorem clip_eq (v:Int) (n d:Nat):(if v<0 then max (v+(n:Int)) 0 else min v (n:Int))=((sIx n d (some v):Nat):Int):=by
 show (if v<0 then max (v+(n:Int)) 0 else min v (n:Int))=(((if v<0 then (v+(n:Int)).toNat else min v.toNat n):Nat):Int)
 by_cases hv:v<0
 ·simp only [if_pos hv]; walk_at "l"
 ·simp only [if_neg hv]; walk_at "l"
theorem adjust_gen (lo hi:Option Int) (n:Nat):Builtin.Slice.sliceAdjust lo hi 1 (n:Int)=(((sIx n 0 lo:Nat):Int),((sIx n n hi:Nat):Int)):=by
 have h1:¬ ((1:Int)<0):=by decide
 unfold Builtin.Slice.sliceAdjust
 simp only [h1,if_false]
 refine Prod.ext ?_ ?_
 ·cases lo with
  | none=>rfl
  | some v=>exact clip_eq v n 0
 ·cases hi with
  | none=>rfl
  | some v=>exact clip_eq v n n
theorem places_gen (i j:Nat):Builtin.Slice.slicePlaces (i:Int) (j:Int) 1=j - i:=by
 unfold Builtin.Slice.slicePlaces
 have h1:(1:Int)>0:=by exact Int.le_refl _
 simp only [h1,if_true,Int.ediv_one]
 split <;> walk_at "l"
theorem slicePart_ {v:Value} {o:Option Int} {Q:Option Int→Shared→Prop} (p:IsPart v o) (h:Q o s):wpAny (model prog w) A (Builtin.Slice.slicePartIndex v) Q E s:=by
 cases p with
 | none=>exact slicePart_none h
 | int i t=>exact slicePart_int h
theorem sliceApplied_gen {sl:Addr} {vl vu:Value} {lo hi:Option Int} {n:Nat} {Q:Int × Int × Nat→Shared→Prop} (hs:s.heap.IsSliceOf sl vl vu .none) (pl:IsPart vl lo) (pu:IsPart vu hi)
  (h:Q (((sIx n 0 lo:Nat):Int),1,sIx n n hi - sIx n 0 lo) s):wpAny (model prog w) A (Builtin.Slice.sliceApplied (.ref sl) (pure (n:Int))) Q E s:=by
 obtain ⟨os,hos,hcs,hds⟩:=id hs
 unfold Builtin.Slice.sliceApplied Builtin.Slice.sliceFields
 refine wpAny_bind (wpAny_bind (wpAny_field hos hds (x:=vl) rfl (wpAny_bind (wpAny_field hos hds (x:=vu) rfl (wpAny_bind (wpAny_field hos hds (x:=.none) rfl (wpAny_pure ?_)))))))
 refine wpAny_bind (slicePart_none ?_)
 show wpAny _ _ (if ((1:Int) == 0)=true then _ else _) _ _ s
 rw [if_neg (by decide)]
 refine wpAny_bind (slicePart_ pl (wpAny_bind (slicePart_ pu (wpAny_bind (wpAny_pure ?_)))))
 show wpAny _ _ (match Builtin.Slice.sliceAdjust lo hi 1 (n:Int) with | (lo,hi)=>pure (lo,(1:Int),Builtin.Slice.slicePlaces lo hi 1)) _ _ s
 rw [adjust_gen lo hi n]
 show wpAny _ _ (pure (((sIx n 0 lo:Nat):Int),(1:Int),Builtin.Slice.slicePlaces ((sIx n 0 lo:Nat):Int) ((sIx n n hi:Nat):Int) 1)) _ _ s
 rw [places_gen]
 exact wpAny_pure h
theorem pick_gen (xs:Array Value) (i k:Nat):((List.range k).filterMap fun (m:Nat)=>xs[((i:Int)+(m:Int) * 1).toNat]?).toArray=((xs.toList.drop i).take k).toArray:=by
 have e:(fun (m:Nat)=>xs[((i:Int)+(m:Int) * 1).toNat]?)=fun m=>xs[i+m]? := by
  funext m
  have:((i:Int)+(m:Int) * 1).toNat=i+m:=by exact (Nat.add_assoc ..).symm
  rw [this]
 rw [e]
 have:=pick_run xs i k
 rw [List.filterMap_map] at this
 have e2:((fun x=>xs[x]?) ∘ fun x=>i+x)=fun m=>xs[i+m]? := rfl
 rw [e2] at this
 rw [this]
theorem getItem_tuple_cut {t sl:Addr} {items:Array Value} {vl vu:Value} {lo hi:Option Int} {Q:Value→Shared→Prop} (ht:IsTup s.heap t items) (hs:s.heap.IsSliceOf sl vl vu .none) (pl:IsPart vl lo) (pu:IsPart vu hi)
  (hw:¬ (sIx items.size 0 lo=0∧sIx items.size items.size hi=items.size))
  (h:Q (.ref s.heap.objs.size) { s with heap:=s.heap.push { cls:=.type "tuple",data:=.seq ((items.toList.drop (sIx items.size 0 lo)).take (sIx items.size items.size hi - sIx items.size 0 lo)).toArray } })
  (hsz:items.size≤sizeLine):wpAny (model prog w) A (getItem (.ref t) (.ref sl)) Q E s:=by
 have htake:sizeOk (.seq ((items.toList.drop (sIx items.size 0 lo)).take (sIx items.size items.size hi - sIx items.size 0 lo)).toArray):=by
  show ((items.toList.drop (sIx items.size 0 lo)).take (sIx items.size items.size hi - sIx items.size 0 lo)).toArray.size≤sizeLine
  rw [List.size_toArray,List.length_take,List.length_drop,Array.length_toList]
  walk_at "l"
 have hj:sIx items.size items.size hi≤items.size:=sIx_le _ _ (Nat.le_refl _) hi
 obtain ⟨os,hos,hcs,hds⟩:=id hs
 have hTs:s.TypeIs (.ref sl) "slice" := ⟨os,hos,hcs⟩
 unfold getItem
 try with_reducible refine wpAny_holding ?_
 first | refine wpAny_bind (wpAny_pure ?_) | skip
 refine wpAny_bind (wpAny_sequenceKey ht.typeIs (by decide) ?_)
 refine wpAny_bind (wpAny_callSpecial?_slot (name:=Str.ofString "__getitem__") ht.typeIs PyProof.Rows.slot_tuple_getitem
  (wpAny_call_entry PyProof.Rows.slot_tuple_getitem ht.typeIs entry_tuple_getitem ?_ (args_tuple_getitem _ _)))
 show wpAny _ _ (Builtin.Tuple.tupleItemsOf (.ref t) >>= _) _ _ s
 refine wpAny_bind (tupleItemsOf_ ht ?_)
 refine wpAny_bind (wpAny_typeOf hTs ?_)
 rw [if_pos (by decide)]
 refine wpAny_bind (sliceApplied_gen hs pl pu ?_)
 have hno:¬ ((((sIx items.size 0 lo:Nat):Int) == 0 && (1:Int) == 1 && (sIx items.size items.size hi - sIx items.size 0 lo) == items.size)=true):=by
  intro q
  rw [Bool.and_eq_true,Bool.and_eq_true] at q
  have q1:((sIx items.size 0 lo:Nat):Int)=0:=eq_of_beq q.1.1
  have q2:sIx items.size items.size hi - sIx items.size 0 lo=items.size:=eq_of_beq q.2
  exact hw ⟨by walk_at "l",by walk_at "l"⟩
 show wpAny _ _ (if (((sIx items.size 0 lo:Nat):Int) == 0 && (1:Int) == 1 && (sIx items.size items.size hi - sIx items.size 0 lo) == items.size)=true then _ else _) _ _ s
 rw [if_neg hno,pick_gen]
 first
  | exact wpAny_bind (m:=Builtin.Tuple.tupleExact _) (wpAny_newObj_type (wpAny_pure ⟨_,rfl,wpAny_pure h⟩) htake)
  | exact wpAny_bind (m:=Builtin.Tuple.tupleExact _) (wpAny_newObj_type (wpAny_bind (wpAny_pure (wpAny_pure ⟨_,rfl,wpAny_pure h⟩))) htake)
  | exact wpAny_bind (wpAny_bind (m:=Builtin.Tuple.tupleExact _) (wpAny_newObj_type (wpAny_pure (wpAny_pure ⟨_,rfl,wpAny_pure h⟩)) htake))
  | exact wpAny_bind (wpAny_bind (m:=Builtin.Tuple.tupleExact _) (wpAny_newObj_type (wpAny_pure ⟨_,rfl,wpAny_pure h⟩) htake))
end
end HT
namespace L2
open PySem PySem.Spec PyProof.Rows
noncomputable abbrev TO:=St→Hp→(Option Int→Hp→Prop)→Prop
noncomputable def PO (X:Cx) (e:Option Expr) (t:TO):Prop :=
 ∀ (pins:List (Addr × Obj)) (s:Shared) (σ:St) (H:Hp) (Q:Option Int→Hp→Prop),Inv X pins σ H s→t σ H Q →
  wpAny (model X.prog X.w) X.A (evalPart e X.env) (fun u s'=>∃ o H',Inv X pins σ H' s'∧IsPart u o∧Q o H') X.xe s
noncomputable def tNoPart:TO:=fun _ H Q=>Q none H
noncomputable def tPart (t:TE):TO:=fun σ H Q=>t σ H fun x H1=>∃ i,x=.int i∧Q (some i) H1
section
variable {X:Cx} {e:Expr} {te:TE} {lo hi:Option Expr} {tl th:TO} {pos p2:Pos}
theorem po_none:PO X none tNoPart:=by
 intro pins s σ H Q I h
 rw [evalPart_none]
 exact wpAny_pure ⟨none,H,I,.none,h⟩
theorem po_some (h:PE X e te):PO X (some e) (tPart te):=by
 intro pins s σ H Q I hw
 rw [evalPart_some]
 refine thn (h pins s σ H _ I hw) fun u s1 hx5=>L2.ex2 hx5 fun x H1 I1 r1 q1=>?_
 obtain ⟨i,rfl,q⟩:=q1
 obtain ⟨t,rfl⟩:=r1
 exact ⟨some i,H1,I1,.int i t,q⟩
noncomputable def SlR (X:Cx) (r:V→Option Int→Option Int→Hp→VK→Prop):Prop :=
 ∀ (pins:List (Addr × Obj)) (s:Shared) (σ:St) (H:Hp) (x:V) (v vl vu:Value) (lo hi:Option Int) (sl:Addr) (Q:VK),Inv X pins σ H s→RelV x v→s.heap.IsSliceOf sl vl vu .none→IsPart vl lo→IsPart vu hi→r x lo hi H Q →
  ∃ T id,typeLookup (.type T) "__getitem__" = pure (some (.builtin id))∧s.TypeIs v T∧wpAny (model X.prog X.w) X.A (getItem v (.ref sl)) (EP X pins σ Q) X.xe s
noncomputable def tSl (r:V→Option Int→Option Int→Hp→VK→Prop) (te:TE) (tl th:TO):TE:=fun σ H Q=>te σ H fun x H1=>tl σ H1 fun l H2=>th σ H2 fun u H3=>r x l u H3 Q
theorem pe_slice {r:V→Option Int→Option Int→Hp→VK→Prop} (hr:SlR X r) (he:PE X e te) (hl:PO X lo tl) (hu:PO X hi th):PE X (.Subscript e (.Slice lo hi none p2) pos) (tSl r te tl th):=by
 intro pins s σ H Q I h
 refine Subscript_ (thn (he pins s σ H _ I h) fun v s1 hx5=>L2.ex2 hx5 fun x H1 I1 r1 q1=>?_)
 refine wpAny_Slice (thn (hl pins s1 σ H1 _ I1 q1) fun vl s2 hx5=>L2.ex2 hx5 fun l H2 I2 pl q2=>thn (hu pins s2 σ H2 _ I2 q2) fun vu s3 hx5=>L2.ex2 hx5 fun u H3 I3 pu q3=>?_)
 rw [evalPart_none]
 refine wpAny_pure ?_
 have I4:Inv X pins σ H3 { s3 with heap:=s3.heap.push { cls:=.type "slice",data:=.fields #[vl,vu,.none] } }:=I3.kept (t':=s3.toks) fun b ob q=>Heap.get?_push_of_some _ q
 obtain ⟨T,id,hT,ht,hg⟩:=hr pins { s3 with heap:=s3.heap.push { cls:=.type "slice",data:=.fields #[vl,vu,.none] } } σ H3 x v vl vu l u s3.heap.objs.size Q I4 r1 (Heap.IsSliceOf.new ..) pl pu q3
 show wpAny (model X.prog X.w) X.A (subscriptTail e (.Slice lo hi none p2) v (.ref s3.heap.objs.size)) (EP X pins σ Q) X.xe { s3 with heap:=s3.heap.push { cls:=.type "slice",data:=.fields #[vl,vu,.none] } }
 exact tail_any (ops:=[.ref s3.heap.objs.size,v]) ht hT hg (by with_unfolding_all rfl)
noncomputable def cutV (xs:List V) (lo hi:Option Int):List V:=(xs.drop (HT.sIx xs.length 0 lo)).take (HT.sIx xs.length xs.length hi - HT.sIx xs.length 0 lo)
theorem cutV_length (xs:List V) (lo hi:Option Int):(cutV xs lo hi).length≤xs.length:=by
 unfold cutV
 rw [List.length_take,List.length_drop]
 walk_at "l"
noncomputable def rSlT (K:PySem.W.Frag):V→Option Int→Option Int→Hp→VK→Prop:=fun x lo hi H Q=>∃ a xs,x=.ref a∧SqT K H a xs ∧
 ¬ (HT.sIx xs.length 0 lo=0∧HT.sIx xs.length xs.length hi=xs.length)∧∀ p,H p=none→Q (.ref p) (upd H p (.tup (cutV xs lo hi)))
theorem sl_tup:SlR X (rSlT X.K):=by
 intro pins s σ H x v vl vu lo hi sl Q I rx hs pl pu h
 obtain ⟨a,xs,rfl,hx,hw,q⟩:=h
 cases rx
 obtain ⟨its,r,ht,hz⟩:=I.tuple hx
 have hlen:its.toArray.size=xs.length:=by rw [List.size_toArray]; exact r.length.symm
 refine ⟨"tuple",_,PyProof.Rows.slot_tuple_getitem.lookup,ht.typeIs,?_⟩
 refine HT.getItem_tuple_cut ht hs pl pu (by rw [hlen]; exact hw) ?_ (by rw [hlen]; exact hz)
 rw [hlen]
 refine ⟨.ref s.heap.objs.size,_,I.laid (t':=s.toks) (o:=.tup (cutV xs lo hi)) (fun b ob q=>Heap.get?_push_of_some _ q) (Nat.le_refl _) ?_,rfl,q _ (I.hok.fresh (Nat.le_refl _))⟩
 exact ⟨Nat.le_trans (cutV_length xs lo hi) hz,_,(r.drop (HT.sIx xs.length 0 lo)).take (HT.sIx xs.length xs.length hi - HT.sIx xs.length 0 lo),IsTup.new _ _⟩
noncomputable def rCatT (K:PySem.W.Frag):R2:=fun x y H Q=>∃ a b xs ys,x=.ref a∧y=.ref b∧SqT K H a xs∧SqT K H b ys∧xs≠[]∧xs.length+ys.length≤sizeLine ∧
 (ys=[]→Q (.ref a) H)∧(ys≠[]→∀ p,H p=none→Q (.ref p) (upd H p (.tup (xs++ys))))
theorem Vals.nil_iff {xs:List V} {us:List Value} (r:Vals xs us):us=[]↔xs=[]:=by
 cases r with
 | nil=>simp
 | cons _ _=>simp
theorem op_catT:OpR X (binaryOp .Add) (rCatT X.K):=by
 intro pins s σ H x y v u Q I rx ry h
 obtain ⟨a,b,xs,ys,rfl,rfl,ha,hb,hx,hz,q1,q2⟩:=h
 cases rx
 cases ry
 obtain ⟨its,r1,p1,_⟩:=I.tuple ha
 obtain ⟨its2,r2,p2,_⟩:=I.tuple hb
 refine HT.cat_tup p1 p2 (fun z=>hx (r1.nil_iff.mp z)) (fun z=>⟨.ref a,H,I,rfl,q1 (r2.nil_iff.mp z)⟩) (fun z=>?_) (by rw [← r1.length,← r2.length]; exact hz)
 refine ⟨.ref s.heap.objs.size,_,I.laid (t':=s.toks) (o:=.tup (xs++ys)) (fun b ob q=>Heap.get?_push_of_some _ q) (Nat.le_refl _) ?_,rfl,q2 (fun w=>z (r2.nil_iff.mpr w)) _ (I.hok.fresh (Nat.le_refl _))⟩
 exact ⟨by rw [List.length_append]; exact hz,_,r1.append r2,IsTup.new _ _⟩
end
end L2
namespace L2
open PySem PySem.Spec PyProof.Rows
noncomputable def ixN (n:Nat) (i:Int):Option Nat:=if 0≤i then (if i<n then some i.toNat else none) else if -(n:Int)≤i then some (i+n).toNat else none
noncomputable def atI {α:Type} (xs:List α) (i:Int):Option α:=(ixN xs.length i).bind fun j=>xs[j]?
theorem ixN_seq {n:Nat} {i:Int} {j:Nat} (h:ixN n i=some j):seqIndex? i n=some j∧j<n∧-(n:Int)≤i∧i<n:=by
 unfold ixN at h
 by_cases h0:0≤i
 ·rw [if_pos h0] at h
  by_cases h1:i<n
  ·rw [if_pos h1] at h
   have e:i.toNat=j:=Option.some.inj h
   exact ⟨by rw [seqIndex_of h0 h1,e],by walk_at "l",by walk_at "l",h1⟩
  ·rw [if_neg h1] at h; cases h
 ·rw [if_neg h0] at h
  by_cases h1:-(n:Int)≤i
  ·rw [if_pos h1] at h
   have e:(i+n).toNat=j:=Option.some.inj h
   exact ⟨by rw [seqIndex_neg (by exact Int.not_le.mp ‹_›) h1,e],by walk_at "l",h1,by walk_at "l"⟩
  ·rw [if_neg h1] at h; cases h
theorem atI_get {α:Type} {xs:List α} {i:Int} {v:α} (h:atI xs i=some v):∃ j,seqIndex? i xs.length=some j∧xs[j]? = some v∧j<xs.length∧-(xs.length:Int)≤i∧i<xs.length:=by
 unfold atI at h
 cases e:ixN xs.length i with
 | none=>rw [e] at h; cases h
 | some j =>
  rw [e] at h
  obtain ⟨h1,h2,h3,h4⟩:=ixN_seq e
  exact ⟨j,h1,h,h2,h3,h4⟩
theorem atI_nat {α:Type} {xs:List α} {j:Nat} {v:α} (h:xs[j]? = some v):atI xs (j:Int)=some v:=by
 have hj:j<xs.length:=(List.getElem?_eq_some_iff.mp h).1
 have e:ixN xs.length (j:Int)=some j:=by
  unfold ixN
  rw [if_pos (by walk_at "s1"),if_pos (by walk_at "l")]; simp
 unfold atI; rw [e]; exact h
theorem atI_last {α:Type} (xs:List α) (v:α):atI (xs++[v]) (-1)=some v:=by
 have hl:(xs++[v]).length=xs.length+1:=by simp
 have e:ixN (xs++[v]).length (-1)=some xs.length:=by
  unfold ixN
  rw [hl,if_neg (by decide),if_pos (by walk_at "l")]
  congr 1
  walk_at "l"
 unfold atI
 rw [e]
 show (xs++[v])[xs.length]? = some v
 simp
noncomputable def PlainIx (b:Expr):Prop:=∀ o i,subscripted b false o i=operate [o,i] (getItem o i)
noncomputable def IxR (X:Cx) (r:R2):Prop :=
 ∀ (value slice:Expr) (pins:List (Addr × Obj)) (s:Shared) (σ:St) (H:Hp) (x y:V) (v u:Value) (Q:VK),Inv X pins σ H s→RelV x v→RelV y u→r x y H Q →
  subscripted slice false v u=operate [v,u] (getItem v u)→wpAny (model X.prog X.w) X.A (subscriptTail value slice v u) (EP X pins σ Q) X.xe s
noncomputable def MtR (X:Cx) (id:String) (r:V→List V→Hp→VK→Prop):Prop :=
 ∀ (pins:List (Addr × Obj)) (s:Shared) (σ:St) (H:Hp) (x:V) (xs:List V) (v:Value) (us:List Value) (Q:VK),Inv X pins σ H s→RelV x v→Vals xs us→r x xs H Q →
  wpAny (model X.prog X.w) X.A (call (.builtin id) (v :: us)) (EP X pins σ Q) X.xe s
section
variable {X:Cx} {a b:Expr} {ta tb:TE} {pos:Pos}
theorem IxR.or {r r':R2} (h:IxR X r) (h':IxR X r'):IxR X (fun x y H Q=>r x y H Q∨r' x y H Q):=by
 intro value slice pins s σ H x y v u Q I rx ry q hs
 rcases q with q | q
 ·exact h value slice pins s σ H x y v u Q I rx ry q hs
 ·exact h' value slice pins s σ H x y v u Q I rx ry q hs
theorem pe_ix {r:R2} (hr:IxR X r) (ha:PE X a ta) (hb:PE X b tb) (hs:PlainIx b):PE X (.Subscript a b pos) (tOp r ta tb):=by
 intro pins s σ H Q I h
 exact Subscript_ (binT ha hb I h fun v u s2 x y H2 I2 rx ry q=>hr a b pins s2 σ H2 x y v u Q I2 rx ry q (hs _ _))
noncomputable def rIxL (K:PySem.W.Frag):R2:=fun x y H Q=>∃ p xs i v,x=.ref p∧y=.int i∧SqL K H p xs∧atI xs i=some v∧Q v H
noncomputable def rIxT (K:PySem.W.Frag):R2:=fun x y H Q=>∃ p xs i v,x=.ref p∧y=.int i∧SqT K H p xs∧atI xs i=some v∧Q v H
noncomputable def rIxS:R2:=fun x y H Q=>∃ z i c,x=.str z∧y=.int i∧z.length≤sizeLine∧atI z.cps.toList i=some c∧Q (.str ⟨#[c]⟩) H
theorem ix_list:IxR X (rIxL X.K):=by
 intro value slice pins s σ H x y v u Q I rx ry h hs
 obtain ⟨p,xs,i,z,rfl,rfl,hq,he,q⟩:=h
 cases rx
 obtain ⟨t,rfl⟩:=ry
 obtain ⟨its,r,pl,hz⟩:=I.list hq
 obtain ⟨j,h1,h2,h3,h4,h5⟩:=atI_get he
 obtain ⟨w,ew,rw'⟩:=r.get h2
 have hl:=r.length
 have hn:=line63
 have fin:EP X pins σ Q w s:=⟨z,H,I,rw',q⟩
 by_cases h0:0≤i
 ·have hj:i.toNat=j:=by
   rw [seqIndex_of h0 h5] at h1
   exact Option.some.inj h1
  exact item_listR pl.isList h0 (by walk_at "l") (by rw [hj]; simpa using ew) fin hs
 ·have hj:(i+(its.toArray.size:Int)).toNat=j:=by
   rw [seqIndex_neg (by exact Int.not_le.mp ‹_›) h4] at h1
   rw [List.size_toArray,← hl]
   exact Option.some.inj h1
  exact subscriptTail_builtinR (x:=w) pl.isList.typeIs slot_list_getitem.lookup
   (wpAny_getItem_list_neg (Q:=fun r s'=>r=w∧EP X pins σ Q r s') pl.isList (by exact Int.not_le.mp ‹_›) (by rw [List.size_toArray] <;> walk_at "l") (by walk_at "l") (by rw [hj]; simpa using ew) ⟨rfl,fin⟩) hs
theorem ix_tup:IxR X (rIxT X.K):=by
 intro value slice pins s σ H x y v u Q I rx ry h hs
 obtain ⟨p,xs,i,z,rfl,rfl,hq,he,q⟩:=h
 cases rx
 obtain ⟨t,rfl⟩:=ry
 obtain ⟨its,r,pl,hz⟩:=I.tuple hq
 obtain ⟨j,h1,h2,h3,h4,h5⟩:=atI_get he
 obtain ⟨w,ew,rw'⟩:=r.get h2
 have hl:=r.length
 have hn:=line63
 have fin:EP X pins σ Q w s:=⟨z,H,I,rw',q⟩
 exact subscriptTail_builtinR (x:=w) pl.typeIs slot_tuple_getitem.lookup
  (getItem_tuple (j:=j) (Q:=fun r s'=>r=w∧EP X pins σ Q r s') pl (by walk_at "l") (by walk_at "l") (by rw [List.size_toArray,← hl]; exact h1) (by simpa using ew) ⟨rfl,fin⟩) hs
theorem ix_str:IxR X rIxS:=by
 intro value slice pins s σ H x y v u Q I rx ry h hs
 obtain ⟨z,i,c,rfl,rfl,hz,he,q⟩:=h
 obtain ⟨t,rfl⟩:=rx
 obtain ⟨t',rfl⟩:=ry
 obtain ⟨j,h1,h2,h3,h4,h5⟩:=atI_get he
 have hl:z.cps.toList.length=z.length:=by simp [Str.length]
 rw [hl] at h1 h4 h5
 have hn:=line63
 exact tail_any (typeIs_str s z t) slot_str_getitem.lookup (getItem_str (c:=c) (by
  have e1:decide (i < -(2 ^ 63:Int))=false:=decide_eq_false (by walk_at "l")
  have e2:decide (i ≥ 2 ^ 63)=false:=decide_eq_false (by walk_at "l")
  rw [e1,e2,Bool.or_false]) (by rw [h1]; simpa using h2) ⟨.str ⟨#[c]⟩,H,I.tok _,⟨_,rfl⟩,q⟩) hs
noncomputable def rIx (K:PySem.W.Frag):R2:=fun x y H Q=>rIxL K x y H Q∨rIxT K x y H Q∨rIxS x y H Q
theorem ix_seq:IxR X (rIx X.K):=ix_list.or (ix_tup.or ix_str)
theorem slice_bounds (lo hi:Option Int) (n:Nat):(sliceBounds lo hi none n).1=((HT.sIx n 0 lo:Nat):Int)∧(sliceBounds lo hi none n).2.1=((HT.sIx n n hi:Nat):Int)∧(sliceBounds lo hi none n).2.2=1:=by
 refine ⟨?_,?_,rfl⟩
 ·cases lo with
  | none=>simp [sliceBounds,HT.sIx]
  | some i =>
   simp only [sliceBounds,HT.sIx,Option.getD_none,show (1:Int)>0 by decide,if_true]
   by_cases h:i<0
   ·simp only [h,if_true] <;> walk_at "l"
   ·simp only [h,if_false] <;> walk_at "l"
 ·cases hi with
  | none=>simp [sliceBounds,HT.sIx]
  | some i =>
   simp only [sliceBounds,HT.sIx,Option.getD_none,show (1:Int)>0 by decide,if_true]
   by_cases h:i<0
   ·simp only [h,if_true] <;> walk_at "l"
   ·simp only [h,if_false] <;> walk_at "l"
theorem slicePick_cut (its:List Value) (lo hi:Option Int):slicePick its.toArray lo hi none=((its.drop (HT.sIx its.length 0 lo)).take (HT.sIx its.length its.length hi - HT.sIx its.length 0 lo)).toArray:=by
 obtain ⟨h1,h2,h3⟩:=slice_bounds lo hi its.toArray.size
 unfold slicePick
 rw [h1,h2,h3]
 simp only [sliceRange_one,pick_run,List.size_toArray] <;> rfl
noncomputable def rSlL (K:PySem.W.Frag):V→Option Int→Option Int→Hp→VK→Prop:=fun x lo hi H Q=>∃ a xs,x=.ref a∧SqL K H a xs∧∀ p,H p=none→Q (.ref p) (upd H p (.lst (cutV xs lo hi)))
theorem sl_list:SlR X (rSlL X.K):=by
 intro pins s σ H x v vl vu lo hi sl Q I rx hs pl pu h
 obtain ⟨a,xs,rfl,hx,q⟩:=h
 cases rx
 obtain ⟨its,r,ht,hz⟩:=I.list hx
 have hlen:=r.length
 refine ⟨"list",_,slot_list_getitem.lookup,ht.isList.typeIs,?_⟩
 refine wpAny_getItem_list_slice ht.isList hs pl pu .none (by simp) ?_ (by rw [List.size_toArray] <;> walk_at "l")
 rw [slicePick_cut,← hlen]
 refine ⟨.ref s.heap.objs.size,_,I.laid (t':=s.toks) (o:=.lst (cutV xs lo hi)) (fun b ob q=>Heap.get?_push_of_some _ q) (Nat.le_refl _) ?_,rfl,q _ (I.hok.fresh (Nat.le_refl _))⟩
 exact ⟨Nat.le_trans (cutV_length xs lo hi) hz,_,0,(r.drop (HT.sIx xs.length 0 lo)).take (HT.sIx xs.length xs.length hi - HT.sIx xs.length 0 lo),Heap.get?_push_size _ rfl⟩
noncomputable def flatV:V→Bool
 | .non=>true
 | .bl _=>true
 | .int _=>true
 | .str _=>true
 | _=>false
noncomputable def eqV:V→V→Bool
 | .non,.non=>true
 | .bl a,.bl b=>a == b
 | .bl a,.int b=>(if a then 1 else 0) == b
 | .int a,.bl b=>a == (if b then 1 else 0)
 | .int a,.int b=>a == b
 | .str a,.str b=>a == b
 | _,_=>false
theorem eqAt_V {A:Around} {s:Shared} {y x:V} {u v:Value} (ry:RelV y u) (rx:RelV x v) (fy:flatV y=true) (fx:flatV x=true):SeqAt.EqAt A s u v (eqV y x):=by
 cases y with
 | non =>
  cases ry
  cases x with
  | non=>cases rx; exact SeqAt.EqAt.same _
  | bl b=>cases rx; exact SeqAt.EqAt.none_bool b
  | int b=>obtain ⟨t,rfl⟩:=rx; exact SeqAt.EqAt.none_int b t
  | str b=>obtain ⟨t,rfl⟩:=rx; exact SeqAt.EqAt.none_str b t
  | _=>exact absurd (show false=true from fx) Bool.false_ne_true
 | bl a =>
  cases ry
  cases x with
  | non=>cases rx; exact SeqAt.EqAt.bool_none a
  | bl b=>cases rx; exact SeqAt.EqAt.bool_bool a b
  | int b=>obtain ⟨t,rfl⟩:=rx; exact SeqAt.EqAt.bool_int a b t
  | str b=>obtain ⟨t,rfl⟩:=rx; exact SeqAt.EqAt.bool_str a b t
  | _=>exact absurd (show false=true from fx) Bool.false_ne_true
 | int a =>
  obtain ⟨t',rfl⟩:=ry
  cases x with
  | non=>cases rx; exact SeqAt.EqAt.int_none a t'
  | bl b=>cases rx; exact SeqAt.EqAt.int_bool a t' b
  | int b=>obtain ⟨t,rfl⟩:=rx; exact SeqAt.EqAt.int_int a t' b t
  | str b=>obtain ⟨t,rfl⟩:=rx; exact SeqAt.EqAt.int_str a t' b t
  | _=>exact absurd (show false=true from fx) Bool.false_ne_true
 | str a =>
  obtain ⟨t',rfl⟩:=ry
  cases x with
  | non=>cases rx; exact SeqAt.EqAt.str_none a t'
  | bl b=>cases rx; exact SeqAt.EqAt.str_bool a t' b
  | int b=>obtain ⟨t,rfl⟩:=rx; exact SeqAt.EqAt.str_int a t' b t
  | str b=>obtain ⟨t,rfl⟩:=rx; exact SeqAt.EqAt.str_str a t' b t
  | _=>exact absurd (show false=true from fx) Bool.false_ne_true
 | _=>exact absurd (show false=true from fy) Bool.false_ne_true
noncomputable def eqU (x:V) (u:Value):Bool:=match u with
 | .none=>eqV .non x
 | .bool b=>eqV (.bl b) x
 | .int i _=>eqV (.int i) x
 | .str z _=>eqV (.str z) x
 | _=>false
theorem eqU_of {x y:V} {u:Value} (r:RelV y u) (f:flatV y=true):eqU x u=eqV y x:=by
 cases y with
 | non=>cases r; rfl
 | bl b=>cases r; rfl
 | int i=>obtain ⟨t,rfl⟩:=r; rfl
 | str z=>obtain ⟨t,rfl⟩:=r; rfl
 | _=>exact absurd (show false=true from f) Bool.false_ne_true
theorem any_eqU {x:V}:∀ {xs:List V} {us:List Value},Vals xs us→xs.all flatV=true→us.any (eqU x)=xs.any fun y=>eqV y x
 | _,_,.nil,_=>rfl
 | y :: xs,u :: us,.cons r t,f=>by
  rw [List.all_cons,Bool.and_eq_true] at f
  rw [List.any_cons,List.any_cons,eqU_of r f.1,any_eqU t f.2]
theorem mem_eqAt {A:Around} {s:Shared} {x:V} {v:Value} (rx:RelV x v) (fx:flatV x=true):∀ {xs:List V} {us:List Value},Vals xs us→xs.all flatV=true→∀ u∈us,SeqAt.EqAt A s u v (eqU x u)
 | _,_,.nil,_=>fun u hu=>by cases hu
 | y :: xs,u :: us,.cons r t,f=>fun u' hu=>by
  rw [List.all_cons,Bool.and_eq_true] at f
  rcases List.mem_cons.mp hu with rfl | hu
  ·rw [eqU_of r f.1]; exact eqAt_V r rx f.1 fx
  ·exact mem_eqAt rx fx t f.2 u' hu
noncomputable def inV (x:V) (xs:List V):Bool:=xs.any fun y=>eqV y x
noncomputable def rIn (K:PySem.W.Frag) (neg:Bool):R2:=fun x y H Q=>∃ p xs,y=.ref p∧(SqL K H p xs∨SqT K H p xs)∧flatV x=true∧xs.all flatV=true∧Q (.bl (if neg then !inV x xs else inV x xs)) H
theorem op_in_seq:OpR X (compareOp .In) (rIn X.K false):=by
 intro pins s σ H x y v u Q I rx ry h
 obtain ⟨p,xs,rfl,hq,fx,fs,q⟩:=h
 cases ry
 rcases hq with hq | hq
 ·obtain ⟨its,r,pl,hz⟩:=I.list hq
  refine SeqAt.in_listAt (eqU x) pl.isList (fun w hw=>mem_eqAt rx fx r fs w (by simpa using hw)) ⟨.bl _,H,I,rfl,?_⟩
  rw [show its.toArray.any (eqU x)=its.any (eqU x) by simp,any_eqU r fs]
  exact q
 ·obtain ⟨its,r,pl,hz⟩:=I.tuple hq
  refine SeqAt.in_tupleAt (eqU x) pl (fun w hw=>mem_eqAt rx fx r fs w (by simpa using hw)) ⟨.bl _,H,I,rfl,?_⟩
  rw [show its.toArray.any (eqU x)=its.any (eqU x) by simp,any_eqU r fs]
  exact q
theorem op_notIn_seq:OpR X (compareOp .NotIn) (rIn X.K true):=by
 intro pins s σ H x y v u Q I rx ry h
 obtain ⟨p,xs,rfl,hq,fx,fs,q⟩:=h
 cases ry
 rcases hq with hq | hq
 ·obtain ⟨its,r,pl,hz⟩:=I.list hq
  refine SeqAt.notIn_listAt (eqU x) pl.isList (fun w hw=>mem_eqAt rx fx r fs w (by simpa using hw)) ⟨.bl _,H,I,rfl,?_⟩
  rw [show its.toArray.any (eqU x)=its.any (eqU x) by simp,any_eqU r fs]
  exact q
 ·obtain ⟨its,r,pl,hz⟩:=I.tuple hq
  refine SeqAt.notIn_tupleAt (eqU x) pl (fun w hw=>mem_eqAt rx fx r fs w (by simpa using hw)) ⟨.bl _,H,I,rfl,?_⟩
  rw [show its.toArray.any (eqU x)=its.any (eqU x) by simp,any_eqU r fs]
  exact q
theorem CallR.or {f:Value} {r r':List V→Hp→VK→Prop} (h:CallR X f r) (h':CallR X f r'):CallR X f (fun xs H Q=>r xs H Q∨r' xs H Q):=by
 intro pins s σ H xs us Q I rs q
 rcases q with q | q
 ·exact h pins s σ H xs us Q I rs q
 ·exact h' pins s σ H xs us Q I rs q
theorem call_list_of:CallR X (.type "list") (fun xs H Q=>∃ p ys,xs=[.ref p]∧(SqL X.K H p ys∨SqT X.K H p ys)∧∀ l,H l=none→Q (.ref l) (upd H l (.lst ys))):=by
 intro pins s σ H xs us Q I r h
 obtain ⟨p,ys,rfl,hq,q⟩:=h
 obtain ⟨u,rfl,rx⟩:=vals1 r
 cases rx
 have fin:∀ (its:List Value),Vals ys its→ys.length≤sizeLine→∀ (h':Heap) (c':Nat),(∀ b o',s.heap.get? b=some o'→h'.get? b=some o') →
   h'.get? s.heap.objs.size=some { cls:=.type "list",dict:=none,data:=.seq its.toArray c',slots:=#[] }→EP X pins σ Q (.ref s.heap.objs.size) { s with heap:=h' }:=fun its r' hz h' c' kp e =>
  ⟨.ref s.heap.objs.size,_,I.laid (t':=s.toks) kp (Nat.le_refl _) (show ObjOk X.prog X.w _ h' _ (.lst ys) from ⟨hz,its,c',r',e⟩),rfl,q _ (I.hok.fresh (Nat.le_refl _))⟩
 rcases hq with hq | hq
 ·obtain ⟨its,r',pl,hz⟩:=I.list hq
  have hlen:=r'.length
  obtain ⟨o,ho,hc,n,hd⟩:=pl.isList
  exact call_list_seq p (.inl rfl) ho hc hd (fun h' c' kp e=>fin its r' hz h' c' kp e) (by simp only [List.size_toArray] <;> walk_at "l")
 ·obtain ⟨its,r',pl,hz⟩:=I.tuple hq
  have hlen:=r'.length
  obtain ⟨o,ho,hc,n,hd⟩:=pl
  exact call_list_seq p (.inr rfl) ho hc hd (fun h' c' kp e=>fin its r' hz h' c' kp e) (by simp only [List.size_toArray] <;> walk_at "l")
theorem call_tuple_of:CallR X (.type "tuple") (fun xs H Q=>∃ p ys,xs=[.ref p]∧((SqL X.K H p ys∧∀ l,H l=none→Q (.ref l) (upd H l (.tup ys)))∨(SqT X.K H p ys∧Q (.ref p) H))):=by
 intro pins s σ H xs us Q I r h
 obtain ⟨p,ys,rfl,h⟩:=h
 obtain ⟨u,rfl,rx⟩:=vals1 r
 cases rx
 rcases h with ⟨hq,q⟩ | ⟨hq,q⟩
 ·obtain ⟨its,r',pl,hz⟩:=I.list hq
  have hlen:=r'.length
  refine call_tuple_list pl.isList (fun h' kp=>?_) (by simp only [List.size_toArray] <;> walk_at "l")
  have I1:Inv X pins σ H { s with heap:=h' }:=I.kept (t':=s.toks) kp
  have I2:Inv X pins σ (upd H h'.objs.size (.tup ys)) { s with heap:=h'.push { cls:=.type "tuple",data:=.seq its.toArray } } :=
   I1.laid (t':=s.toks) (fun b o e=>Heap.get?_push_of_some _ e) (Nat.le_refl _) (show ObjOk X.prog X.w _ _ _ (.tup ys) from ⟨hz,its,r',IsTup.new _ _⟩)
  exact ⟨.ref h'.objs.size,_,I2,rfl,q _ (I1.hok.fresh (Nat.le_refl _))⟩
 ·obtain ⟨its,r',pl,hz⟩:=I.tuple hq
  exact call_tuple_same pl ⟨.ref p,H,I,rfl,q⟩
noncomputable def tyV (K:PySem.W.Frag) (T:String) (x:V) (H:Hp):Prop:=match x with
 | .str _=>T = "str"
 | .int _=>T = "int"
 | .ref p=>(T = "list"∧∃ xs,SqL K H p xs)∨(T = "tuple"∧∃ o,K.lookup p=some o∧o.cls=.type "tuple"∧o.dict=none) ∨
   (T = "dict"∧((∃ kvs,H p=some (.dK kvs))∨∃ kvs,H p=some (.dT kvs)))∨(T = "set"∧∃ S n,H p=some (.set S n))
 | _=>False
theorem tyV_is {pins:List (Addr × Obj)} {σ:St} {H:Hp} {s:Shared} {T:String} {x:V} {v:Value} (I:Inv X pins σ H s) (r:RelV x v) (ty:tyV X.K T x H) :
  s.TypeIs v T∧∀ a,v=.ref a→∃ ob,s.heap.get? a=some ob∧ob.dict=none:=by
 cases x with
 | str z =>
  obtain ⟨t,rfl⟩:=r
  cases (show T = "str" from ty)
  exact ⟨typeIs_str s z t,fun _ e=>nomatch e⟩
 | int i =>
  obtain ⟨t,rfl⟩:=r
  cases (show T = "int" from ty)
  exact ⟨typeIs_int s i t,fun _ e=>nomatch e⟩
 | ref p =>
  cases r
  rcases ty with ⟨rfl,xs,hq⟩ | ⟨rfl,o,hk,hc,hd⟩ | ⟨rfl,hk⟩ | ⟨rfl,S,n,hk⟩
  ·obtain ⟨its,_,pl,_⟩:=I.list hq
   refine ⟨pl.isList.typeIs,fun a e=>?_⟩
   cases e
   obtain ⟨o,n,e,c,hd,_⟩:=pl
   exact ⟨o,e,hd⟩
  ·refine ⟨⟨o,I.kIn p o hk,hc⟩,fun a e=>?_⟩
   cases e
   exact ⟨o,I.kIn _ o hk,hd⟩
  ·have z:∃ o,s.heap.get? p=some o∧o.ExactDict:=by
    rcases hk with ⟨kvs,hk⟩ | ⟨kvs,hk⟩
    ·obtain ⟨_,_,_,_,o,_,_,e,ex,_⟩:=I.hok p _ hk
     exact ⟨o,e,ex⟩
    ·obtain ⟨_,_,_,_,o,_,_,e,ex,_⟩:=I.hok p _ hk
     exact ⟨o,e,ex⟩
   obtain ⟨o,e,ex⟩:=z
   refine ⟨⟨o,e,ex.1⟩,fun a e2=>?_⟩
   cases e2
   exact ⟨o,e,ex.2.1⟩
  ·obtain ⟨o,_,_,_,e,ex,_⟩:=I.hok p _ hk
   refine ⟨⟨o,e,ex.1⟩,fun a e2=>?_⟩
   cases e2
   exact ⟨o,e,ex.2.1⟩
 | _=>exact False.elim ty
noncomputable def tBM (K:PySem.W.Frag) (T:String) (r:V→List V→Hp→VK→Prop) (to:TE) (t:TA):TE:=fun σ H Q=>to σ H fun x H1=>tyV K T x H1∧t σ H1 fun xs H2=>r x xs H2 Q
variable {o e:Expr} {es:List Expr} {to:TE} {t:TA} {name:Str} {apos cpos:Pos} {T id:String} {r:V→List V→Hp→VK→Prop}
theorem pe_bm (pa:PlainAttrs T) (slot:Slot T name id) (hty:typeOf (.builtin id)=pure (.type "method_descriptor")) (hm:MtR X id r) (ho:PE X o to) (ha:PA X (e :: es) t)
  (hbase:attributeBase o name X.env (eval o X.env)=eval o X.env:=by rfl)
  (hfew:((backTo cpos (starEach (e :: es) X.env)).all (fun x=>!x.1) && (backToKw cpos (keywordEach [] X.env)).all (fun x=>x.1.isSome)
   && decide ((e :: es).length+([]:List Keyword).length+(if ([]:List Keyword).isEmpty then 0 else 1)<30))=true:=by rfl)
  (hline:(apos.endLine == cpos.line)=true:=by rfl) (hs:starEach (e :: es) X.env=(false,eval e X.env) :: starEach es X.env:=by rfl) (hplain:(backTo cpos (starEach es X.env)).any (·.1)=false:=by rfl) :
  PE X (.Call (.Attribute o name apos) (e :: es) [] cpos) (tBM X.K T r to t):=by
 intro pins s σ H Q I h
 refine wpAny_Call_method_late hbase hfew hline rfl (thn (ho pins s σ H _ I h) fun v s1 hx9=>?_)
 obtain ⟨x,H1,I1,r1,ty,q1⟩:=hx9
 obtain ⟨h1,h2⟩:=tyV_is I1 r1 ty
 refine ⟨T,id,pa,slot,hty,h1,h2,?_⟩
 have hA:=ha cpos pins s1 σ H1 _ I1 q1
 rw [hs] at hA ⊢
 refine Calls.callWith_builtin (by show (false || (backTo cpos (starEach es X.env)).any (·.1))=false; rw [hplain] <;> rfl) (Calls.evalArgs_plain ?_)
 exact thn hA fun us s2 hx5=>L2.ex2 hx5 fun vs H2 I2 r2 q2=>hm pins s2 σ H2 x vs v us Q I2 r1 r2 q2
end
end L2
namespace L2
open PySem PySem.Spec PyProof.Rows
noncomputable def MtM (X:Cx) (id:String) (r:V→List V→Hp→VK→Prop):Prop :=
 ∀ (pins:List (Addr × Obj)) (s:Shared) (σ:St) (H:Hp) (x:V) (xs:List V) (v:Value) (us:List Value) (Q:VK),Inv X pins σ H s→RelV x v→Vals xs us→r x xs H Q →
  wpAny (model X.prog X.w) X.A (call (.builtin id) (v :: us)) (EP X pins σ Q) X.xe s
theorem Vals.one {x:V} {us:List Value} (h:Vals [x] us):∃ u,us=[u]∧RelV x u:=by
 cases h
 rename_i r h
 cases h
 exact ⟨_,rfl,‹_›⟩
theorem Vals.two {x y:V} {us:List Value} (h:Vals [x,y] us):∃ u v,us=[u,v]∧RelV x u∧RelV y v:=by
 cases h
 rename_i r h
 cases h
 rename_i q h
 cases h
 exact ⟨_,_,rfl,‹_›,‹_›⟩
theorem Vals.zero:∀ {us:List Value},Vals [] us→us=[]
 | _,.nil=>rfl
theorem Vals.rep {xs:List V} {us:List Value} (h:Vals xs us):∀ k:Nat,Vals (List.replicate k xs).flatten (List.replicate k us).flatten
 | 0=>.nil
 | k+1=>by
  rw [List.replicate_succ,List.replicate_succ,List.flatten_cons,List.flatten_cons]
  exact Vals.append h (Vals.rep h k)
section
variable {X:Cx} {pins:List (Addr × Obj)} {σ:St} {H:Hp} {s:Shared} {l b:Addr} {xs ys zs:List V}
theorem Inv.lset {its its':List Value} {n:Nat} {f:Array Value→Array Value} {t':Nat} (I:Inv X pins σ H s) (hH:H l=some (.lst xs))
  (e:s.heap.get? l=some { cls:=.type "list",data:=.seq its.toArray n }) (hf:f its.toArray=its'.toArray) (hv:Vals ys its') (hz:ys.length≤sizeLine) :
  Inv X pins σ (upd H l (.lst ys)) { s with heap:=s.heap.update l (Obj.mapSeq f),toks:=t' }:=by
 have q:=PySem.IsL.update e f
 rw [hf] at q
 refine I.write (x:=l) (e:=l) (by rw [hH]; exact trivial) (.inl rfl) (fun b' u hb hu=>(Heap.get?_update_other s.heap (Obj.mapSeq f) (Ne.symm hb)).trans hu) ⟨_,q⟩ ?_
 exact ⟨hz,its',_,hv,q⟩
theorem Inv.lnew {its:List Value} {t':Nat} (I:Inv X pins σ H s) (hv:Vals ys its) (hz:ys.length≤sizeLine) :
  Inv X pins σ (upd H s.heap.objs.size (.lst ys)) { s with heap:=s.heap.push { cls:=.type "list",data:=.seq its.toArray },toks:=t' } :=
 I.laid (fun _ _ q=>Heap.get?_push_of_some _ q) (Nat.le_refl _) ⟨hz,its,0,hv,Heap.get?_push_size _ rfl⟩
theorem Inv.fresh (I:Inv X pins σ H s):H s.heap.objs.size=none:=I.hok.fresh (Nat.le_refl _)
theorem Inv.lstM (I:Inv X pins σ H s) (hH:H l=some (.lst xs)):xs.length≤sizeLine∧∃ (its:List Value) (n:Nat),Vals xs its∧xs.length=its.length∧s.heap.get? l=some { cls:=.type "list",data:=.seq its.toArray n }:=by
 obtain ⟨z,its,n,r,e⟩:=I.hok l _ hH
 exact ⟨z,its,n,r,r.length,e⟩
end
section
variable {X:Cx}
noncomputable def rAppend:V→List V→Hp→VK→Prop:=fun x vs H Q=>∃ l xs y,x=.ref l∧vs=[y]∧H l=some (.lst xs)∧xs.length<sizeLine∧Q .non (upd H l (.lst (xs++[y])))
theorem mt_append:MtM X "list.append" rAppend:=by
 intro pins s σ H x vs v us Q I rx rv h
 obtain ⟨l,xs,y,rfl,rfl,hH,hz,q⟩:=h
 cases rx
 obtain ⟨u,rfl,ru⟩:=rv.one
 obtain ⟨z,its,n,r,hl,e⟩:=I.lstM hH
 refine call_meets F.slot_list_append ⟨_,e,rfl⟩ F.entry_list_append (F.args_list_append_2 _ _) (PySem.list_append l its.toArray n u (by rw [List.size_toArray]; walk_at "l")) ⟨e,?_⟩
 refine ⟨.non,_,I.lset (its':=its++[u]) hH e (by simp) (r.append (.cons ru .nil)) ?_,rfl,q⟩
 rw [List.length_append,List.length_singleton]
 assumption
theorem len_rep {α:Type} (xs:List α) (k:Nat):(List.replicate k xs).flatten.length=k * xs.length:=by
 induction k with
 | zero=>simp
 | succ k ih=>rw [List.replicate_succ,List.flatten_cons,List.length_append,ih,Nat.succ_mul,Nat.add_comm]
end
section
variable {prog:Program} {w:World} {A:Around} {E:Value→Shared→Prop} {s:Shared}
set_option maxRecDepth 100000 in
end
section
variable {X:Cx}
end
end L2
namespace L2
open PySem PySem.Spec PyProof.Rows
section
variable {κ:Type} [DecidableEq κ]
noncomputable def valV (kvs:List (κ × V)) (k:κ):Option V:=(kvs.find? fun kv=>decide (kv.1=k)).map (·.2)
noncomputable def putK (kvs:List (κ × V)) (k:κ) (v:V):List (κ × V) :=
 if (kvs.any fun kv=>decide (kv.1=k))=true then kvs.map (fun kv=>if kv.1=k then (kv.1,v) else kv) else kvs++[(k,v)]
noncomputable def dropK (kvs:List (κ × V)) (k:κ):List (κ × V):=kvs.filter fun kv=>decide (kv.1≠k)
theorem valV_pos {p:κ × V} {r:List (κ × V)} {k:κ} (e:p.1=k):valV (p :: r) k=some p.2:=by simp [valV,List.find?_cons,e]
theorem valV_neg {p:κ × V} {r:List (κ × V)} {k:κ} (e:¬ p.1=k):valV (p :: r) k=valV r k:=by simp [valV,List.find?_cons,e]
theorem valV_any (k:κ):∀ kvs:List (κ × V),(kvs.any fun kv=>decide (kv.1=k))=(valV kvs k).isSome
 | []=>rfl
 | p :: r=>by
  rw [List.any_cons]
  by_cases e:p.1=k
  ·simp only [valV_pos e,decide_eq_true e,Bool.true_or,Option.isSome_some]
  ·rw [valV_neg e,decide_eq_false e,Bool.false_or]; exact valV_any k r
theorem valV_map (k j:κ) (y:V):∀ kvs:List (κ × V),valV (kvs.map fun kv=>if kv.1=k then (kv.1,y) else kv) j=(valV kvs j).map fun x=>if j=k then y else x
 | []=>rfl
 | p :: r=>by
  have ih:=valV_map k j y r
  rw [List.map_cons]
  by_cases h:p.1=k
  ·rw [if_pos h]
   by_cases e:p.1=j
   ·rw [valV_pos (p:=(p.1,y)) e,valV_pos e,Option.map_some,if_pos (e.symm.trans h)]
   ·rw [valV_neg (p:=(p.1,y)) e,valV_neg e,ih]
  ·rw [if_neg h]
   by_cases e:p.1=j
   ·rw [valV_pos (p:=p) e,valV_pos e,Option.map_some,if_neg (fun z=>h (e.trans z))]
   ·rw [valV_neg (p:=p) e,valV_neg e,ih]
theorem valV_snoc (k j:κ) (y:V):∀ kvs:List (κ × V),valV kvs k=none→valV (kvs++[(k,y)]) j=if j=k then some y else valV kvs j
 | [],_=>by
  by_cases e:k=j
  ·rw [if_pos e.symm]; exact valV_pos (p:=(k,y)) e
  ·rw [if_neg (fun z=>e z.symm)]; exact valV_neg (p:=(k,y)) e
 | p :: r,hn=>by
  rw [List.cons_append]
  have hk:¬ p.1=k:=fun z=>by rw [valV_pos z] at hn; cases hn
  rw [valV_neg hk] at hn
  have ih:=valV_snoc k j y r hn
  by_cases e:p.1=j
  ·rw [valV_pos e,valV_pos e,if_neg (fun z=>hk (e.trans z))]
  ·rw [valV_neg e,valV_neg e,ih]
theorem valV_put (kvs:List (κ × V)) (k j:κ) (y:V):valV (putK kvs k y) j=if j=k then some y else valV kvs j:=by
 unfold putK
 by_cases a:(kvs.any fun kv=>decide (kv.1=k))=true
 ·rw [if_pos a,valV_map]
  rw [valV_any] at a
  by_cases e:j=k
  ·obtain ⟨x,hx⟩:=Option.isSome_iff_exists.mp a
   rw [if_pos e,e,hx,Option.map_some,if_pos rfl]
  ·rw [if_neg e]
   cases valV kvs j with
   | none=>rfl
   | some x=>rw [Option.map_some,if_neg e]
 ·rw [if_neg a]
  refine valV_snoc k j y kvs ?_
  rw [valV_any] at a
  cases q:valV kvs k with
  | none=>rfl
  | some x=>rw [q] at a; exact (a rfl).elim
theorem length_putK (kvs:List (κ × V)) (k:κ) (v:V):(putK kvs k v).length≤kvs.length+1:=by
 unfold putK
 split
 ·rw [List.length_map]; exact Nat.le_add_right _ _
 ·rw [List.length_append,List.length_cons,List.length_nil]; exact Nat.le_refl _
theorem RelO.isSome_eq {o:Option V} {u:Option Value} (r:RelO o u):o.isSome=u.isSome:=by
 cases o with
 | none=>cases u with
  | none=>rfl
  | some _=>exact (show False from r).elim
 | some _=>cases u with
  | none=>exact (show False from r).elim
  | some _=>rfl
theorem RelO.getD {o:Option V} {u:Option Value} {d:V} {d':Value} (r:RelO o u) (rd:RelV d d'):RelV (o.getD d) (u.getD d'):=by
 cases o with
 | none=>cases u with
  | none=>exact rd
  | some _=>exact (show False from r).elim
 | some _=>cases u with
  | none=>exact (show False from r).elim
  | some _=>exact r
theorem KV.val {kvs:List (κ × V)} {vs:List (κ × Value)} (r:KV kvs vs) (k:κ):RelO (valV kvs k) (valueAt vs k):=by
 unfold KV at r
 induction r with
 | nil=>exact True.intro
 | @cons p q ps qs h t ih =>
  obtain ⟨h1,h2⟩:=h
  by_cases e:p.1=k
  ·have e':q.1=k:=h1.symm.trans e
   have b:valueAt (q :: qs) k=some q.2:=by simp [valueAt,List.find?_cons,e']
   rw [valV_pos e,b]; exact h2
  ·have e':¬ q.1=k:=fun z=>e (h1.trans z)
   have b:valueAt (q :: qs) k=valueAt qs k:=by simp [valueAt,List.find?_cons,e']
   rw [valV_neg e,b]; exact ih
theorem KV.any {kvs:List (κ × V)} {vs:List (κ × Value)} (r:KV kvs vs) (k:κ):(kvs.any fun kv=>decide (kv.1=k))=vs.any fun kv=>decide (kv.1=k):=by
 unfold KV at r
 induction r with
 | nil=>rfl
 | cons h t ih=>rw [List.any_cons,List.any_cons,ih,h.1]
theorem KV.repl {kvs:List (κ × V)} {vs:List (κ × Value)} (r:KV kvs vs) (k:κ) {y:V} {u:Value} (ry:RelV y u) :
  KV (kvs.map fun kv=>if kv.1=k then (kv.1,y) else kv) (vs.map fun kv=>if kv.1=k then (kv.1,u) else kv):=by
 unfold KV at r ⊢
 induction r with
 | nil=>exact .nil
 | @cons p q ps qs h t ih =>
  rw [List.map_cons,List.map_cons]
  refine .cons ?_ ih
  obtain ⟨h1,h2⟩:=h
  by_cases e:p.1=k
  ·rw [if_pos e,if_pos (h1.symm.trans e)]; exact ⟨h1,ry⟩
  ·rw [if_neg e,if_neg (fun z=>e (h1.trans z))]; exact ⟨h1,h2⟩
theorem KV.put {kvs:List (κ × V)} {vs:List (κ × Value)} (r:KV kvs vs) (k:κ) {y:V} {u:Value} (ry:RelV y u):KV (putK kvs k y) (stored vs k u):=by
 unfold putK stored
 rw [r.any k]
 by_cases e:(vs.any fun kv=>decide (kv.1=k))=true
 ·rw [if_pos e,if_pos e]; exact r.repl k ry
 ·rw [if_neg e,if_neg e]; exact Paired.snoc r ⟨rfl,ry⟩
theorem KV.drop {kvs:List (κ × V)} {vs:List (κ × Value)} (r:KV kvs vs) (k:κ):KV (dropK kvs k) (without vs k):=by
 unfold KV at r ⊢
 unfold dropK without
 induction r with
 | nil=>exact .nil
 | @cons p q ps qs h t ih =>
  obtain ⟨h1,h2⟩:=h
  rw [List.filter_cons,List.filter_cons]
  by_cases e:p.1=k
  ·have a:¬ decide (p.1≠k)=true:=by simp [e]
   have b:¬ decide (q.1≠k)=true:=by simp [h1.symm.trans e]
   rw [if_neg a,if_neg b]; exact ih
  ·have e':¬ q.1=k:=fun z=>e (h1.trans z)
   have a:decide (p.1≠k)=true:=by simp [e]
   have b:decide (q.1≠k)=true:=by simp [e']
   rw [if_pos a,if_pos b]; exact .cons ⟨h1,h2⟩ ih
theorem KV.length {kvs:List (κ × V)} {vs:List (κ × Value)} (r:KV kvs vs):kvs.length=vs.length:=Paired.length r
end
theorem kV_is {P:Program} {w:World} {k:Key} {u:Value} (r:RelV (kV k) u):(mixKind P w).is k u=true:=by
 cases k with
 | inl i=>obtain ⟨t,e⟩:=(show ∃ t,u=Value.int i t from r); subst e; exact mixKind_int P w i t
 | inr x=>obtain ⟨t,e⟩:=(show ∃ t,u=Value.str x t from r); subst e; exact mixKind_str P w x t
theorem items_are {P:Program} {w:World}:∀ {ks:List Key} {us:List Value},Vals (ks.map kV) us→ItemsAre (mixKind P w) ks us
 | [],_,r=>by rw [List.map_nil] at r; cases r; exact .nil
 | k :: ks,_,r=>by
  rw [List.map_cons] at r
  cases r with
  | cons h t=>exact .cons (kV_is h) (items_are t)
noncomputable abbrev KT (H:Hp):List (List Key × V)→List (List Key × Addr × Value)→Prop:=Paired fun p q=>p.1=q.1∧H q.2.1=some (.tup (p.1.map kV))∧RelV p.2 q.2.2
theorem KT.val {H:Hp} {kvs:List (List Key × V)} {xs:List (List Key × Addr × Value)} (r:KT H kvs xs) (k:List Key):RelO (valV kvs k) ((atKey xs k).map (·.2)):=by
 induction r with
 | nil=>exact True.intro
 | @cons p q ps qs h t ih =>
  obtain ⟨h1,_,h2⟩:=h
  by_cases e:p.1=k
  ·have e':q.1=k:=h1.symm.trans e
   have b:atKey (q :: qs) k=some q.2:=by simp [atKey,List.find?_cons,e']
   rw [valV_pos e,b]; exact h2
  ·have e':¬ q.1=k:=fun z=>e (h1.trans z)
   have b:atKey (q :: qs) k=atKey qs k:=by simp [atKey,List.find?_cons,e']
   rw [valV_neg e,b]; exact ih
theorem KT.repl {H:Hp} {kvs:List (List Key × V)} {xs:List (List Key × Addr × Value)} (r:KT H kvs xs) (k:List Key) {y:V} {u:Value} (ry:RelV y u) :
  KT H (kvs.map fun kv=>if kv.1=k then (kv.1,y) else kv) (xs.map (putAt k u)):=by
 induction r with
 | nil=>exact .nil
 | @cons p q ps qs h t ih =>
  rw [List.map_cons,List.map_cons]
  refine .cons ?_ ih
  obtain ⟨h1,h2,h3⟩:=h
  unfold putAt
  by_cases e:p.1=k
  ·rw [if_pos e,if_pos (h1.symm.trans e)]; exact ⟨h1,h2,ry⟩
  ·rw [if_neg e,if_neg (fun z=>e (h1.trans z))]; exact ⟨h1,h2,h3⟩
theorem KT.put {H:Hp} {kvs:List (List Key × V)} {xs:List (List Key × Addr × Value)} (r:KT H kvs xs) (k:List Key) {b:Addr} {y:V} {u:Value} (hb:H b=some (.tup (k.map kV))) (ry:RelV y u) :
  KT H (putK kvs k y) (storedH xs k b u):=by
 have e:(kvs.any fun kv=>decide (kv.1=k))=(atKey xs k).isSome:=by
  rw [valV_any,(r.val k).isSome_eq,Option.isSome_map]
 unfold putK storedH
 rw [e]
 by_cases q:(atKey xs k).isSome=true
 ·rw [if_pos q,if_pos q]; exact r.repl k ry
 ·rw [if_neg q,if_neg q]; exact Paired.snoc r ⟨rfl,hb,ry⟩
theorem KT.keeps {H H':Hp} {kvs:List (List Key × V)} {xs:List (List Key × Addr × Value)} (r:KT H kvs xs) (ht:∀ b ys,H b=some (.tup ys)→H' b=some (.tup ys)):KT H' kvs xs :=
 Paired.mapP r fun _ _ z=>⟨z.1,ht _ _ z.2.1,z.2.2⟩
section
variable {P:Program} {w:World} {H:Hp} {h:Heap} {a:Addr}
theorem rd_of {u:HO} (ok:HOk P w H h) (e:Rd H a u):ObjOk P w H h a u:=e.ok ok
theorem dk_rd {kvs:List (Key × V)} (ok:HOk P w H h) (e:Rd H a (.dK kvs)):kvs.length≤sizeLine∧(a == sysModules)=false∧∃ vs,KV kvs vs∧h.DictOf (mixKind P w) a vs :=
 show ObjOk P w H h a (.dK kvs) from rd_of ok e
theorem key_of {ks:List Key} (ok:HOk P w H h) (e:H a=some (.tup (ks.map kV))):(tupleKind (mixKind P w)).is h ks a:=by
 obtain ⟨_,its,r,o,h1,h2,n,h3⟩:=(show ObjOk P w H h a (.tup (ks.map kV)) from ok a _ e)
 exact ⟨o,its.toArray,n,h1,h2,h3,by simpa using items_are r⟩
theorem dt_rd {kvs:List (List Key × V)} (ok:HOk P w H h) (e:Rd H a (.dT kvs)):kvs.length≤sizeLine∧(a == sysModules)=false ∧
  ∃ xs,KT H kvs xs∧h.DictOfH (tupleKind (mixKind P w)) a xs:=by
 obtain ⟨z,y,xs,r,o,es,ep,h1,h2,h3,h4,h5⟩:=(show ObjOk P w H h a (.dT kvs) from rd_of ok e)
 refine ⟨z,y,xs,r,o,es,ep,h1,h2,h3,h4,fun x hx=>?_,h5⟩
 have all:∀ {l:List (List Key × V)} {m:List (List Key × Addr × Value)},KT H l m→∀ x∈m,(tupleKind (mixKind P w)).is h x.1 x.2.1:=by
  intro l m q
  induction q with
  | nil=>intro x hx; exact nomatch hx
  | @cons p q ps qs hq t ih =>
   intro x hx
   rcases List.mem_cons.mp hx with e | hx
   ·subst e
    exact key_of ok (by rw [← hq.1]; exact hq.2.1)
   ·exact ih x hx
 exact all r x hx
theorem dt_of {kvs:List (List Key × V)} (ok:HOk P w H h) (e:H a=some (.dT kvs)):kvs.length≤sizeLine∧(a == sysModules)=false ∧
  ∃ xs,KT H kvs xs∧h.DictOfH (tupleKind (mixKind P w)) a xs:=dt_rd ok (.inl e)
end
noncomputable def DGet (H:Hp) (a:Addr) (y:V) (r:Option V):Prop :=
 (∃ kvs k,Rd H a (.dK kvs)∧y=kV k∧r=valV kvs k)∨∃ kvs k b,Rd H a (.dT kvs)∧y=.ref b∧H b=some (.tup (k.map kV))∧r=valV kvs k
noncomputable def DPut (H:Hp) (a:Addr) (y v:V) (H':Hp):Prop :=
 (∃ kvs k,H a=some (.dK kvs)∧y=kV k∧kvs.length<sizeLine∧H'=upd H a (.dK (putK kvs k v))) ∨
 ∃ kvs k b,H a=some (.dT kvs)∧y=.ref b∧H b=some (.tup (k.map kV))∧kvs.length<sizeLine∧H'=upd H a (.dT (putK kvs k v))
theorem DGet.k {H:Hp} {a:Addr} {kvs:List (Key × V)} {k:Key} (e:H a=some (.dK kvs)):DGet H a (kV k) (valV kvs k):=.inl ⟨kvs,k,.inl e,rfl,rfl⟩
theorem DGet.t {H:Hp} {a b:Addr} {kvs:List (List Key × V)} {k:List Key} (e:H a=some (.dT kvs)) (eb:H b=some (.tup (k.map kV))):DGet H a (.ref b) (valV kvs k):=.inr ⟨kvs,k,b,.inl e,rfl,eb,rfl⟩
theorem DPut.k {H:Hp} {a:Addr} {kvs:List (Key × V)} {k:Key} {v:V} (e:H a=some (.dK kvs)) (hl:kvs.length<sizeLine):DPut H a (kV k) v (upd H a (.dK (putK kvs k v))):=.inl ⟨kvs,k,e,rfl,hl,rfl⟩
theorem DPut.t {H:Hp} {a b:Addr} {kvs:List (List Key × V)} {k:List Key} {v:V} (e:H a=some (.dT kvs)) (eb:H b=some (.tup (k.map kV))) (hl:kvs.length<sizeLine) :
  DPut H a (.ref b) v (upd H a (.dT (putK kvs k v))):=.inr ⟨kvs,k,b,e,rfl,eb,hl,rfl⟩
section
variable {X:Cx} {pins:List (Addr × Obj)} {σ:St} {H:Hp} {s:Shared} {a:Addr} {y v:V} {u r:Value} {o:Option V} {A:Around} {E:Value→Shared→Prop}
theorem Inv.big (I:Inv X pins σ H s):sysModules<s.heap.objs.size:=by
 have h:mainGlobals<s.heap.objs.size:=(I.mod.glob.keeps I.bk).lt
 exact Nat.lt_trans (by decide) h
theorem d_getItem {Q:Value→Shared→Prop} (hu:A.units+1<cLine) (I:Inv X pins σ H s) (g:DGet H a y (some v)) (ry:RelV y u) (h:∀ w' s',Inv X pins σ H s'→RelV v w'→Q w' s') :
  wpAny (model X.prog X.w) A (getItem (.ref a) u) Q E s:=by
 rcases g with ⟨kvs,k,e,ey,l⟩ | ⟨kvs,k,b,e,ey,eb,l⟩
 ·subst ey
  obtain ⟨z,hd,vs,rel,dd⟩:=dk_rd I.hok e
  obtain ⟨w',hw,rw'⟩:=RelO.some_of (v:=v) (o:=valueAt vs k) (by rw [l]; exact rel.val k)
  exact wpAny_getItem_of (kV_is ry) dd.mapOf hw (h w' _ (I.tok _) rw')
 ·subst ey
  cases (show u=Value.ref b from ry)
  obtain ⟨z,hd,xs,rel,dd⟩:=dt_rd I.hok e
  obtain ⟨w',hw,rw'⟩:=RelO.some_of (v:=v) (o:=(atKey xs k).map (·.2)) (by rw [l]; exact rel.val k)
  obtain ⟨p,hp,hp2⟩:=Option.map_eq_some_iff.mp hw
  refine wpAny_getItem_heap (tupleKind_room_in1 hu) (key_of I.hok eb) dd hp ?_
  rw [hp2]
  exact h w' _ (I.tok _) rw'
theorem d_in {Q:Value→Shared→Prop} (hu:A.units+1<cLine) (I:Inv X pins σ H s) (g:DGet H a y o) (ry:RelV y u) (h:∀ s',Inv X pins σ H s'→Q (.bool o.isSome) s') :
  wpAny (model X.prog X.w) A (compareOp .In u (.ref a)) Q E s:=by
 rcases g with ⟨kvs,k,e,ey,l⟩ | ⟨kvs,k,b,e,ey,eb,l⟩
 ·subst ey
  obtain ⟨z,hd,vs,rel,dd⟩:=dk_rd I.hok e
  refine wpAny_in_of (kV_is ry) hd dd.mapOf ?_
  rw [← (rel.val k).isSome_eq,← l]
  exact h _ (I.tok _)
 ·subst ey
  cases (show u=Value.ref b from ry)
  obtain ⟨z,hd,xs,rel,dd⟩:=dt_rd I.hok e
  refine wpAny_in_heap (tupleKind_room_in1 hu) (key_of I.hok eb) hd dd ?_
  have q:=(rel.val k).isSome_eq
  rw [Option.isSome_map] at q
  rw [← q,← l]
  exact h _ (I.tok _)
theorem d_notIn {Q:Value→Shared→Prop} (hu:A.units+1<cLine) (I:Inv X pins σ H s) (g:DGet H a y o) (ry:RelV y u) (h:∀ s',Inv X pins σ H s'→Q (.bool (!o.isSome)) s') :
  wpAny (model X.prog X.w) A (compareOp .NotIn u (.ref a)) Q E s:=by
 rcases g with ⟨kvs,k,e,ey,l⟩ | ⟨kvs,k,b,e,ey,eb,l⟩
 ·subst ey
  obtain ⟨z,hd,vs,rel,dd⟩:=dk_rd I.hok e
  refine wpAny_notIn_of (kV_is ry) hd dd.mapOf ?_
  rw [← (rel.val k).isSome_eq,← l]
  exact h _ (I.tok _)
 ·subst ey
  cases (show u=Value.ref b from ry)
  obtain ⟨z,hd,xs,rel,dd⟩:=dt_rd I.hok e
  refine wpAny_notIn_heap (tupleKind_room_in1 hu) (key_of I.hok eb) hd dd ?_
  have q:=(rel.val k).isSome_eq
  rw [Option.isSome_map] at q
  rw [← q,← l]
  exact h _ (I.tok _)
theorem d_write {h':Heap} {t':Nat} {ob:HO} (I:Inv X pins σ H s) (mu:Mut (H a)) (hs:Heap.SameBut a s.heap h') (he:∃ q,h'.get? a=some q) (new:ObjOk X.prog X.w (upd H a ob) h' a ob) :
  Inv X pins σ (upd H a ob) { s with heap:=h',toks:=t' } :=
 I.write (x:=a) (e:=a) mu (.inl rfl) (fun b q hb z=>(hs.2 b hb).trans z) he new
end
section
variable {X:Cx} {pins:List (Addr × Obj)} {σ:St} {H:Hp} {s:Shared} {a:Addr} {kvs:List (Key × V)} {k:Key} {u:Value} {A:Around} {E:Value→Shared→Prop}
theorem d_len {Q:Value→Shared→Prop} (I:Inv X pins σ H s) (e:Rd H a (.dK kvs)) (h:∀ t s',Inv X pins σ H s'→Q (.int kvs.length t) s'):wpAny (model X.prog X.w) A (call (.builtin "len") [.ref a]) Q E s:=by
 obtain ⟨z,hd,vs,rel,dd⟩:=dk_rd I.hok e
 refine call_len_dict hd dd (by rw [← rel.length]; rw [sizeLine_eq] at z; walk_at "l") ?_
 rw [← rel.length]
 exact h _ _ (I.tok _)
end
theorem dict_typeIs {X:Cx} {pins:List (Addr × Obj)} {σ:St} {H:Hp} {s:Shared} {a:Addr} {y:V} {o:Option V} (I:Inv X pins σ H s) (g:DGet H a y o):s.TypeIs (.ref a) "dict" := by
 rcases g with ⟨kvs,k,e,_,_⟩ | ⟨kvs,k,b,e,_,_,_⟩
 ·obtain ⟨_,_,vs,_,dd⟩:=dk_rd I.hok e
  exact dd.typeIs
 ·obtain ⟨_,_,xs,_,dd⟩:=dt_rd I.hok e
  exact dd.typeIs
section
variable {X:Cx} {o i e value:Expr} {pos pos' tpos:Pos} {td ty tv:TE}
end
theorem dt_empty {P:Program} {w:World} {H:Hp} (h:Heap) (hb:sysModules<h.objs.size):ObjOk P w H (h.push { cls:=.type "dict",data:=.dict #[] }) h.objs.size (.dT []) :=
 ⟨Nat.zero_le _,beq_eq_false_iff_ne.mpr (Ne.symm (Nat.ne_of_lt hb)),[],.nil,_,#[],0,Heap.get?_push_size _ rfl,⟨rfl,rfl,rfl⟩,rfl,rfl,List.nodup_nil⟩
noncomputable def tDNewT:TE:=fun _ H Q=>∀ p,H p=none→Q (.ref p) (upd H p (.dT []))
section
variable {X:Cx} {pos:Pos}
theorem pe_dnewT:PE X (.Dict [] [] pos) tDNewT:=fun pins s σ H Q I h =>
 wpAny_Dict_empty ⟨.ref s.heap.objs.size,_,I.laid (a:=s.heap.objs.size) (o:=.dT []) (t':=s.toks) (fun _ _ q=>Heap.get?_push_of_some _ q) (Nat.le_refl _) (dt_empty s.heap I.big),rfl,h _ (I.hok.fresh (Nat.le_refl _))⟩
end
structure M2 (X:Cx) (o:Expr) (m:Str) (apos:Pos) (e f:Expr) (cpos:Pos):Prop where
 base:attributeBase o m X.env (eval o X.env)=eval o X.env
 few:((backTo cpos (starEach [e,f] X.env)).all (fun x=>!x.1) && (backToKw cpos (keywordEach [] X.env)).all (fun x=>x.1.isSome)
  && decide (([e,f]:List Expr).length+([]:List Keyword).length+(if ([]:List Keyword).isEmpty then 0 else 1)<30))=true
 line:(apos.endLine == cpos.line)=true
 trees:backTo cpos (starEach [e,f] X.env)=[(false,eval e X.env),(false,eval f X.env)]
noncomputable def IsD (H:Hp) (a:Addr):Prop:=(∃ kvs,Rd H a (.dK kvs))∨∃ kvs,Rd H a (.dT kvs)
theorem isD_at {X:Cx} {pins:List (Addr × Obj)} {σ:St} {H:Hp} {s:Shared} {a:Addr} (I:Inv X pins σ H s) (d:IsD H a) :
  s.TypeIs (.ref a) "dict"∧(∀ b,Value.ref a=.ref b→∃ ob,s.heap.get? b=some ob∧ob.dict=none)∧(a == sysModules)=false:=by
 rcases d with ⟨kvs,e⟩ | ⟨kvs,e⟩
 ·obtain ⟨_,hd,vs,_,dd⟩:=dk_rd I.hok e
  refine ⟨dd.typeIs,fun b q=>?_,hd⟩
  cases q
  obtain ⟨ob,_,_,h1,h2,_⟩:=dd
  exact ⟨ob,h1,h2.2.1⟩
 ·obtain ⟨_,hd,xs,_,dd⟩:=dt_rd I.hok e
  refine ⟨dd.typeIs,fun b q=>?_,hd⟩
  cases q
  obtain ⟨ob,_,_,h1,h2,_⟩:=dd
  exact ⟨ob,h1,h2.2.1⟩
section
variable {X:Cx} {pins:List (Addr × Obj)} {σ:St} {H:Hp} {s:Shared} {a:Addr} {y d:V} {u r:Value} {o:Option V} {A:Around} {E:Value→Shared→Prop}
theorem d_get2 {Q:Value→Shared→Prop} (hu:A.units+1<cLine) (I:Inv X pins σ H s) (g:DGet H a y o) (ry:RelV y u) (rd:RelV d r) (h:∀ w' s',Inv X pins σ H s'→RelV (o.getD d) w'→Q w' s') :
  wpAny (model X.prog X.w) A (call (.builtin "dict.get") [.ref a,u,r]) Q E s:=by
 rcases g with ⟨kvs,k,e,ey,l⟩ | ⟨kvs,k,b,e,ey,eb,l⟩
 ·subst ey
  obtain ⟨z,hd,vs,rel,dd⟩:=dk_rd I.hok e
  refine call_meetsIn PySem.F.slot_dict_get dd.typeIs PySem.F.entry_dict_get (PySem.F.args_dict_get_3 _ _ _) (meets_dict_get_default (mixKind X.prog X.w) a (kV_is ry) hd r) ⟨_,dd.mapOf,h _ _ (I.tok _) ?_⟩
  rw [l]
  exact (rel.val k).getD rd
 ·subst ey
  cases (show u=Value.ref b from ry)
  obtain ⟨z,hd,xs,rel,dd⟩:=dt_rd I.hok e
  refine call_meetsIn PySem.F.slot_dict_get dd.typeIs PySem.F.entry_dict_get (PySem.F.args_dict_get_3 _ _ _) (meetsH_dict_get_default (tupleKind (mixKind X.prog X.w)) a b hd r) ⟨tupleKind_room_in1 hu,k,xs,key_of I.hok eb,dd,h _ _ (I.tok _) ?_⟩
  rw [l]
  exact (rel.val k).getD rd
end
noncomputable def tDGet2 (td ty tx:TE):TE:=fun σ H Q=>td σ H fun x H1=>∃ a,x=.ref a∧IsD H1 a∧ty σ H1 fun y H2=>tx σ H2 fun z H3=>∃ o,DGet H3 a y o∧Q (o.getD z) H3
section
variable {X:Cx} {o e f:Expr} {apos cpos:Pos} {td ty tx:TE}
theorem pe_dget2 (hu:X.A.units+1<cLine) (ho:PE X o td) (he:PE X e ty) (hf:PE X f tx) (m:M2 X o "get" apos e f cpos):PE X (.Call (.Attribute o "get" apos) [e,f] [] cpos) (tDGet2 td ty tx):=by
 intro pins s σ H Q I h
 refine wpAny_Call_method m.base m.few m.line PySem.F.plainAttrs_dict PySem.F.slot_dict_get PySem.F.type_dict_get (thn (ho pins s σ H _ I h) fun u s1 hx9=>?_)
 obtain ⟨x,H1,I1,rx,a,ex,d,q1⟩:=hx9
 subst ex
 obtain rfl:u=Value.ref a:=rx
 obtain ⟨t1,t2,_⟩:=isD_at I1 d
 refine ⟨t1,t2,?_⟩
 rw [m.trees]
 refine Calls.callWith_builtin rfl (Calls.evalArgs_plain (Calls.spliced_cons (thn (he pins s1 σ H1 _ I1 q1) fun iv s2 hx5=>L2.ex2 hx5 fun y H2 I2 ry q2 =>
  Calls.spliced_cons (thn (hf pins s2 σ H2 _ I2 q2) fun fv s3 ⟨z,H3,I3,rz,ov,g,q3⟩=>Calls.spliced_nil ?_))))
 exact d_get2 hu I3 g ry rz fun w' s4 I4 rw'=>⟨_,H3,I4,rw',q3⟩
end
section
variable {X:Cx} {pins:List (Addr × Obj)} {σ:St} {H:Hp} {s:Shared} {a:Addr} {kvs:List (Key × V)} {A:Around} {E:Value→Shared→Prop}
end
section
variable {X:Cx} {pins:List (Addr × Obj)} {σ:St} {H:Hp} {s:Shared} {a:Addr} {y:V} {u:Value} {A:Around} {E:Value→Shared→Prop}
end
end L2
namespace Att
open PySem PySem.W PySem.Calls PyProof.Rows
theorem ints_of_wellAll {P:Params} {h:Heap}:∀ (ns:List Int) (vs:List Value),WellAll P h vs (ns.map WData.int)→IntsAre vs ns:=by
 intro ns
 induction ns with
 | nil =>
  intro vs w
  rw [List.map_nil] at w
  cases w
  exact .nil
 | cons n ns ih =>
  intro vs w
  rw [List.map_cons] at w
  cases w with
  | cons a b =>
   cases a
   exact .cons _ _ (ih _ b)
theorem script_of {l:OpenLaw} {n:Nat} (hn:l.most=some n) {P:Params} {h:Heap} {args:List WData} {vals:List Value}
  (hpre:l.row.toRowW.claim.pre args=true) (hwl:WellAll P h vals args) :
  ∃ a vs ns,vals=[Value.ref a]∧args=[WData.list (ns.map WData.int)]∧h.get? a=some { cls:=.type "list",data:=.seq vs.toArray }∧IntsAre vs ns∧ns.length≤n:=by
 have hsh:WShape.hasAll [] args [.list .int]=true:=(pre_splitW hpre).1
 have hc:l.pre.holds [] { args:=args }=true:=(pre_splitW hpre).2
 obtain ⟨d,r,rfl,h1,h2⟩:=hasAllW_cons hsh
 obtain rfl:=hasAllW_nil h2
 obtain ⟨xs,rfl,h3⟩:=hasW_list h1
 obtain ⟨ns,rfl⟩:=items_int h3
 have hlen:ns.length≤n:=by
  unfold OpenLaw.pre at hc
  have h4:(WTm.not (.lt (.lit (.int (n:Int))) (.len (.arg 0)))).holds [] { args:=[.list (ns.map .int)] }=true:=by
   have h4:=(holds_andW hc).1
   rw [hn] at h4
   exact h4
  have h5:=condW_of h4 (w_not (w_lt w_lit (w_len_list (w_arg rfl))))
  rw [List.length_map] at h5
  refine Nat.le_of_not_lt fun q=>?_
  have q':(n:Int)<((ns.length:Nat):Int):=by walk_at "l"
  first
   | (rw [decide_eq_true q'] at h5; exact absurd h5 (by decide))
   | (simp at h5; walk_at "l")
 cases hwl with
 | cons w1 w2 =>
  cases w2
  cases w1 with
  | list ho hall=>exact ⟨_,_,ns,rfl,rfl,ho,ints_of_wellAll ns _ hall,hlen⟩
theorem post_true (l:OpenLaw) (args:List WData):l.row.toRowW.claim.post args (.bool true) args=true :=
 postW_of (r:=l.row.toRowW) (X:=(true == true))
  (show WShape.has [] (.bool true) .bool=true by first | rfl | decide | simp [WShape.has,WShape.arms,WShape.armsAll])
  (show (WTm.eq .res (.lit (.bool true))).value [] { args:=args,res:=some (.bool true),after:=args }=some (.bool (true == true)) from w_eq_bool (w_res rfl) w_lit) rfl
theorem attach_call {l:OpenLaw} {n:Nat} {q:Program} {loose:List Str} {XP:(Str→Option Value)→Heap→Prop} {YP:World→Heap→Prop} {d:DefRec}
  (hn:l.most=some n) (hdf:d.params.defaults=[])
  (call:∀ (w:World) (s₀ s₁:Shared) (mg mb:Str→Option Value) (fa:Addr) (o:Obj) (pm cd doc:Value) (a:Addr) (vs:List Value) (ns:List Int),
   Ground q loose [] XP w s₀ mg mb s₁.heap→YP w s₁.heap →
   s₁.heap.get? fa=some o→o.data=.func (docDef d.name d.params d.body d.scope pm cd doc)→s₁.heap.CodeRec cd d.name→mg d.name=some (.ref fa) →
   s₁.heap.get? a=some { cls:=.type "list",data:=.seq vs.toArray }→IntsAre vs ns→ns.length≤n→s₁.gens = #[] →
   codeAny (model l.prog w) callerA (.call (.ref fa) ⟨[.ref a],[]⟩) (fun r s'=>r=.ok (.ret (.bool true))∧OldK s₁.heap s'.heap∧s'.os=s₁.os∧AllBare s'.gens) s₁) :
  WalkO q loose XP YP l.row.toRowW d [] (fun f vs=>PySem.call f vs):=by
 intro w s₀ s₁ mg mb G Y fa o pm cd doc dV kV ho hd hcd hD hmg hg args vals as hpre hlay hrd hwl hlo
 obtain rfl:dV=.none:=Dflts.none hD hdf
 obtain rfl:kV=.none:=Dflts.noKw hD
 obtain ⟨a,vs,ns,rfl,rfl,hobj,hints,hlen⟩:=script_of hn hpre hwl
 refine enter_call (codeAny_mono (call w s₀ s₁ mg mb fa o pm cd doc a vs ns G Y ho (fd_plain hd) hcd hmg hobj hints hlen hg) fun r s' hq=>?_)
 obtain ⟨rfl,h2,h3,h4⟩:=hq
 exact ⟨.inl ⟨.bool true,.bool true,[],rfl,fun _=>rfl,.bool true,post_true l _,fun _=>⟨List.Pairwise.nil,fun _ hm=>(nomatch hm)⟩⟩,h2,h3,h4⟩
section
variable {prog:Program} {w:World} {A:Around} {E:Value→Shared→Prop} {s:Shared} {K:Frag}
end
end Att
namespace L2
open PySem PySem.Spec PyProof.Rows
theorem vals_ints:∀ {vs:List Value} {ns:List Int},IntsAre vs ns→Vals (ns.map V.int) vs
 | _,_,.nil=>.nil
 | _,_,.cons n t h=>.cons ⟨t,rfl⟩ (vals_ints h)
noncomputable def Only (H:Hp):Prop:=∀ b,H b=none∨∃ o xs,H b=some (.frz o (.lst xs))
theorem law_call {P:Program} {w:World} {K:PySem.W.Frag} {mg mb:Str→Option Value} {CX:CXT} {k:Nat} {fa a:Addr} {fd:FuncData} {x:Str} {sp:Sp} {s₁:Shared} {vs:List Value} {ns:List Int}
  (KX:K.In s₁.heap) (hns:s₁.heap.Ns mainGlobals mg) (hb:s₁.heap.Ns builtinsNs mb) (hbb:∀ x:Str,x ≠ "__name__"→mb x=bootBuiltins x) (hlim:s₁.heap.NoLimit) (hg:s₁.gens = #[])
  (ha:s₁.heap.get? a=some { cls:=.type "list",data:=.seq vs.toArray }) (hi:IntsAre vs ns) (hl:ns.length≤sizeLine) (hr:Room k callerA)
  (F:∀ base:Heap,K.In base→base.Ns mainGlobals mg→FnOk P w K mg base CX k fa fd [x] sp) (hbind:∀ (s:Shared) (u:Value),BindsTo s fd ⟨[u],[]⟩ [(x,u)])
  (hsp:∀ H:Hp,Only H→SqL K H a (ns.map V.int)→sp [.ref a] H (fun v _=>v=.bl true) fun _ _ _=>False)
  (hCX:∀ H e s',CX [] H s₁ (fun _ _ _=>False) e s'→False) :
  codeAny (model P w) callerA (.call (.ref fa) ⟨[.ref a],[]⟩) (fun r s'=>r=.ok (.ret (.bool true))∧OldK s₁.heap s'.heap∧s'.os=s₁.os∧AllBare s'.gens) s₁:=by
 have rv:=vals_ints hi
 have lenV:=hi.length
 -- from an abstract heap in which nothing but the script may be tracked
 have core:∀ H:Hp,Only H→SqL K H a (ns.map V.int)→HOk P w H s₁.heap→(∀ b,H b≠none→b=a)→(H a≠none→K.lookup a=none) →
   codeAny (model P w) callerA (.call (.ref fa) ⟨[.ref a],[]⟩) (fun r s'=>r=.ok (.ret (.bool true))∧OldK s₁.heap s'.heap∧s'.os=s₁.os∧AllBare s'.gens) s₁:=by
  intro H hO hS hok hA hK
  have base_of:∀ {b:Addr} {o:Obj},s₁.heap.get? b=some o→H b=none→(hidT s₁.heap H).get? b=some o:=fun e n=>hidT_get e n
  have noA:∀ {b:Addr} {o:Obj} {es:Array DictEntry} {ep:Nat},s₁.heap.get? b=some o→o.data=.dict es ep→H b=none:=fun {b o es ep} e d=>by
   cases q:H b with
   | none=>rfl
   | some u =>
    have e':b=a:=hA b (by rw [q]; simp)
    subst e'
    rw [ha] at e; cases e
    have d':Data.seq vs.toArray _=Data.dict es ep:=d
    cases d'
  have nsK:∀ {b:Addr} {m:Str→Option Value},s₁.heap.Ns b m→(hidT s₁.heap H).Ns b m:=fun {b m} ⟨o,es,ep,e,d,r⟩=>⟨o,es,ep,base_of e (noA e d),d,r⟩
  have hKb:K.In (hidT s₁.heap H):=fun b o e=>base_of (KX b o e) (by
   cases q:H b with
   | none=>rfl
   | some u =>
    have e':b=a:=hA b (by rw [q]; simp)
    subst e'
    rw [hK (by rw [q]; simp)] at e; cases e)
  have hM:Mod K mg (hidT s₁.heap H):=⟨hKb,nsK hns,⟨mb,nsK hb,hbb⟩,let ⟨mc,h1,h2⟩:=hlim; ⟨mc,nsK h1,h2⟩⟩
  have e0:Env0 P w K mg (hidT s₁.heap H) callerA [] s₁ H:=⟨rfl,hM,fun b o e=>of_hidT e,Nat.le_of_eq (hidT_size _ _),trivial,fun b hb=>absurd (show b∈([]:List Addr) from hb) (by simp),hok,.of_eq hg⟩
  refine codeAny_mono ((F _ hKb (nsK hns)).run callerA [] s₁ H ⟨[.ref a],[]⟩ [.ref a] [.ref a] _ _ hr e0 (hbind s₁ (.ref a)) (.cons rfl .nil) (hsp H hO hS)) fun r s' h=>?_
  cases r with
  | error e=>exact (hCX H e s' h).elim
  | ok fl =>
   cases fl with
   | next=>exact False.elim h
   | brk=>exact False.elim h
   | cont=>exact False.elim h
   | ret u =>
    obtain ⟨v,H',os,bare,un,hok',r',q⟩:=h
    have q':v=.bl true:=q
    subst q'
    obtain rfl:u=Value.bool true:=r'
    refine ⟨rfl,OldK.of_keep fun b o e=>?_,os,bare⟩
    cases q:H b with
    | none=>exact un.keep b o e q (by intro z; exact absurd (show b∈([]:List Addr) from z) (by simp)) (by simp)
    | some u =>
     rcases hO b with z | ⟨ob,xs,z⟩
     ·rw [q] at z; cases z
     ·have z2:=un.frzs b ob _ z
      obtain ⟨e1,_⟩:=hok b _ z
      obtain ⟨e2,_⟩:=hok' b _ z2
      rw [e] at e1; cases e1
      exact e2
 cases hk:K.lookup a with
 | some o =>
  -- the script is one of the module's own objects
  have e:=KX a o hk
  rw [ha] at e
  cases e
  refine core (fun _=>none) (fun _=>.inl rfl) (.inr ⟨_,vs.toArray,_,hk,rfl,rfl,rfl,by rw [List.size_toArray,lenV]; exact hl,by simpa using rv⟩) (fun b u z=>by have z':(none:Option HO)=some u:=z; cases z') (fun b z=>absurd rfl z) fun z=>absurd rfl z
 | none =>
  refine core (fun b=>if b=a then some (.frz { cls:=.type "list",data:=.seq vs.toArray } (.lst (ns.map V.int))) else none) (fun b=>?_) (.inl (.inr ⟨{ cls:=.type "list",data:=.seq vs.toArray },if_pos rfl⟩)) (fun b u z=>?_) (fun b z=>?_) fun _=>hk
  ·by_cases hb:b=a
   ·exact .inr ⟨_,_,if_pos hb⟩
   ·exact .inl (if_neg hb)
  ·by_cases hb:b=a
   ·have z':=(if_pos hb).symm.trans z
    cases z'
    subst hb
    exact ⟨ha,by rw [List.length_map]; exact hl,vs,_,rv,ha⟩
   ·have z':=(if_neg hb).symm.trans z
    cases z'
  ·by_cases hb:b=a
   ·exact hb
   ·exact absurd (if_neg hb) z
end L2
namespace L2
open PySem PySem.Spec PyProof.Rows
theorem walk_of {l:PySem.W.OpenLaw} {n k:Nat} {q:Program} {loose:List Str} {XP:(Str→Option Value)→Heap→Prop} {YP:World→Heap→Prop} {d:DefRec} {K:Params→PySem.W.Frag} {CX:World→CXT} {sp:World→Sp} {x:Str}
  (hn:l.most=some n) (hn2:n≤sizeLine) (hdf:d.params.defaults=[]) (hr:Room k callerA)
  (hY:∀ (w:World) (h:Heap),YP w h→(K w.params).In h)
  (F:∀ (w:World) (mg:Str→Option Value) (fa:Addr) (h:Heap),(K w.params).In h→h.Ns mainGlobals mg→mg d.name=some (.ref fa) →
   ∃ fd:FuncData,(∀ (s:Shared) (u:Value),BindsTo s fd ⟨[u],[]⟩ [(x,u)]) ∧
    ∀ base:Heap,(K w.params).In base→base.Ns mainGlobals mg→FnOk l.prog w (K w.params) mg base (CX w) k fa fd [x] (sp w))
  (hsp:∀ (w:World) (H:Hp) (a:Addr) (ns:List Int),ns.length≤n→Only H→SqL (K w.params) H a (ns.map V.int)→sp w [.ref a] H (fun v _=>v=.bl true) fun _ _ _=>False)
  (hCX:∀ (w:World) (H:Hp) (s:Shared) (e:Value) (s':Shared),CX w [] H s (fun _ _ _=>False) e s'→False) :
  PySem.W.WalkO q loose XP YP l.row.toRowW d [] (fun f vs=>PySem.call f vs):=by
 refine Att.attach_call hn hdf fun w s₀ s₁ mg mb fa o pm cd doc a vs ns G Y ho hd hcd hmg hobj hints hlen hg=>?_
 have KX:=hY w _ Y
 obtain ⟨fd,hb,hF⟩:=F w mg fa _ KX G.T.g hmg
 exact law_call KX G.T.g G.T.b G.T.builtins G.T.nolimit hg hobj hints (Nat.le_trans hlen hn2) hr hF hb (fun H hO hS=>hsp w H a ns hlen hO hS) fun H e s'=>hCX w H s₁ e s'
end L2
namespace L2
open PySem PySem.Spec PyProof.Rows
noncomputable def defArgs (s:Stmt):Arguments:=match s with
 | .FunctionDef _ a _ _ _ _ _ _ _ _=>a
 | _=>{ posonlyargs:=[],args:=[],vararg:=none,kwonlyargs:=[],kw_defaults:=[],kwarg:=none,defaults:=[] }
noncomputable def defBody (s:Stmt):List Stmt:=match s with
 | .FunctionDef _ _ b _ _ _ _ _ _ _=>b
 | _=>[]
noncomputable def defScope (s:Stmt):Scope:=match s with
 | .FunctionDef _ _ _ _ _ _ sc _ _ _=>sc
 | _=>{ kind:=.function,names:=[],isGenerator:=false,isCoroutine:=false }
noncomputable abbrev CX0:CXT:=fun _ _ _ _ _ _=>False
noncomputable abbrev E0:XK:=fun _ _ _=>False
theorem pass0 {X:Cx}:Passes CX0 X E0:=fun _ _ _ _ _ _ _ h=>h.elim
structure Fun (K:PySem.W.Frag) (x qual:Str) (st:Stmt) (f:Addr) (fd:FuncData):Prop where
 ex:∃ (oc:Value) (od:Option Addr) (kV doc pm:Value) (an:Option Addr) (cdv ct:Value) (osl:Array (Option Value)),
  fd=PySem.W.fnOf x qual (defArgs st) (defBody st) (defScope st) .none kV doc pm an cdv ct∧K.lookup f=some ⟨oc,od,.func fd,osl⟩∧PySem.W.codeIn K cdv qual=true
 kp:PySem.W.keepIn K (.ref f)=true
section
variable {P:Program} {w:World} {K:PySem.W.Frag} {mg:Str→Option Value} {base:Heap}
theorem Fun.ok {x qual:Str} {st:Stmt} {f:Addr} {fd:FuncData} {N ps:List Str} {k:Nat} {sp:Sp} (F:Fun K x qual st f fd) (S:FnScope N ps (defScope st)) (len:∀ vs H Q E,sp vs H Q E→vs.length=ps.length)
  (hbody:∀ (cdv:Value) (A:Around) (outer:List Env) (s:Shared) (H:Hp) (vs:List V) (Q:VK) (E:XK),Room k (A.deeper (envOfC qual (defScope st) s.heap.objs.size f cdv))→sp vs H Q E →
   ∃ t,PSs (cxOf CX0 P w K mg base N qual (defScope st) f cdv A outer s H E).nox (defBody st) t∧t { nx:=fun _ H'=>Q .non H',rt:=Q } (start N vs) H):FnOk P w K mg base CX0 (k+1) f fd ps sp:=by
 obtain ⟨oc,od,kV,doc,pm,an,cdv,ct,osl,rfl,lk,hcd⟩:=F.ex
 refine fn_of lk hcd S len fun A outer s H vs Q E hr hsp=>?_
 obtain ⟨t,h,q⟩:=hbody cdv A outer s H vs Q E hr hsp
 exact ⟨t,h.nox,q⟩
theorem Fun.binds {x qual:Str} {st:Stmt} {f:Addr} {fd:FuncData} {ps:List Str} (F:Fun K x qual st f fd)
  (h:∀ (kV doc pm:Value) (an:Option Addr) (cdv ct:Value) (us:List Value),us.length=ps.length→bindArgs (PySem.W.fnOf x qual (defArgs st) (defBody st) (defScope st) .none kV doc pm an cdv ct) ⟨us,[]⟩=pure (ps.zip us)):Binds K fd ps []:=by
 obtain ⟨oc,od,kV,doc,pm,an,cdv,ct,osl,rfl,lk,hcd⟩:=F.ex
 exact .all (h kV doc pm an cdv ct)
theorem fun_mk {x qual:Str} {st:Stmt} {f:Addr} {oc:Value} {od an:Option Addr} {osl:Array (Option Value)} {kV doc pm cdv ct:Value} (l:K.lookup f=some ⟨oc,od,.func (PySem.W.fnOf x qual (defArgs st) (defBody st) (defScope st) .none kV doc pm an cdv ct),osl⟩)
  (c:PySem.W.codeIn K cdv qual=true) (k:PySem.W.keepIn K (.ref f)=true):Fun K x qual st f (PySem.W.fnOf x qual (defArgs st) (defBody st) (defScope st) .none kV doc pm an cdv ct):=⟨⟨oc,od,kV,doc,pm,an,cdv,ct,osl,rfl,l,c⟩,k⟩
end
section
variable {X:Cx}
theorem pv (i:Nat) {x:Str} {pos:Pos} (hN:X.N[i]? = some x:=by rfl) (hv:Vis X.env.scope x:=by first | exact Or.inl rfl | exact Or.inr (Or.inl rfl) | exact Or.inr (Or.inr rfl)) (hd:(x == ("__debug__" : Str))=false:=by decide)
  (hcd:(x == ("__classdict__" : Str))=false:=by decide):PE X (.Name x pos) (tVar i):=pe_var hN hv hd hcd
theorem call_lenD:CallR X (.builtin "len") (fun xs H Q=>∃ a kvs,xs=[V.ref a]∧H a=some (.dK kvs)∧Q (.int kvs.length) H):=by
 intro pins s σ H xs us Q I r h
 obtain ⟨a,kvs,rfl,ha,q⟩:=h
 obtain ⟨u,rfl,ru⟩:=vals1 r
 cases ru
 exact d_len I (.inl ha) fun t s' I'=>⟨.int kvs.length,H,I',⟨t,rfl⟩,q⟩
end
noncomputable def Same (H H':Hp):Prop:=∀ b o,H b=some o→H' b=some o
theorem Same.refl (H:Hp):Same H H:=fun _ _ h=>h
theorem Same.trans {H H1 H2:Hp} (a:Same H H1) (b:Same H1 H2):Same H H2:=fun c o h=>b c o (a c o h)
theorem Same.free {H H':Hp} (e:Same H H') {l:Addr} (h:H' l=Option.none):H l=Option.none:=by
 cases q:H l with
 | none=>rfl
 | some o =>
  rw [e l o q] at h
  cases h
theorem Same.seq {K:PySem.W.Frag} {H H':Hp} {a:Addr} {xs:List V} (e:Same H H') (h:SqL K H a xs):SqL K H' a xs:=by
 rcases h with (h | ⟨o,h⟩) | h
 ·exact .inl (.inl (e _ _ h))
 ·exact .inl (.inr ⟨o,e _ _ h⟩)
 ·exact .inr h
section
variable {κ:Type} [DecidableEq κ]
end
end L2
set_option Elab.async false
set_option linter.all false
set_option maxRecDepth 100000
set_option maxHeartbeats 4000000
namespace L2
open PySem PySem.Spec PyProof.Rows
noncomputable def clOf (env:Env):List (Str × NameKind)→List (Str × Addr)→List (Str × Addr)
 | [],cs=>cs
 | (n,k) :: r,cs=>clOf env r (if k == NameKind.free then (n,(env.cells.lookup n).getD 0) :: cs else cs)
theorem gR (env:Env):∀ (names:List (Str × NameKind)) (cs:List (Str × Addr)),(∀ y∈names,y.2=.free→∃ c,env.cells.lookup y.1=some c) →
  (forIn names cs fun x r=>match x with
   | (name,kind)=>if (kind == NameKind.free)=true then do let a ← cellOf env name; pure (ForInStep.yield ((name,a) :: r)) else pure (ForInStep.yield r):Sem (List (Str × Addr)))=pure (clOf env names cs)
 | [],cs,_=>rfl
 | (n,k) :: r,cs,h=>by
  rw [List.forIn_cons]
  have ih:=gR env r
  by_cases hk:k=.free
  ·subst hk
   obtain ⟨c,e⟩:=h (n,.free) List.mem_cons_self rfl
   have e:env.cells.lookup n=some c:=e
   have e2:cellOf env n=pure c:=by unfold cellOf; rw [e]
   have e3:clOf env ((n,.free) :: r) cs=clOf env r ((n,c) :: cs):=by
    show clOf env r (if (NameKind.free == NameKind.free)=true then (n,(env.cells.lookup n).getD 0) :: cs else cs)=_
    rw [e]; rfl
   rw [e3,← ih ((n,c) :: cs) fun y hy=>h y (List.mem_cons_of_mem _ hy)]
   simp only [beq_self_eq_true,if_true,e2]
   rfl
  ·have hb:(k == NameKind.free)=false:=by simpa using hk
   have e3:clOf env ((n,k) :: r) cs=clOf env r cs:=by
    show clOf env r (if (k == NameKind.free)=true then _ else cs)=_
    rw [hb]; rfl
   rw [e3,← ih cs fun y hy=>h y (List.mem_cons_of_mem _ hy)]
   simp only [hb,Bool.false_eq_true,if_false]
   rfl
theorem ou {scope:Scope} {env:Env} (h:∀ y∈scope.names,y.2=.free→∃ c,env.cells.lookup y.1=some c):closureFor scope env=pure (clOf env scope.names []):=by
 have:=gR env scope.names [] h
 unfold closureFor
 rw [← bind_pure (forIn scope.names [] _)] at this
 exact this
theorem mH {env:Env} {x:Str} {c:Addr}:∀ {names:List (Str × NameKind)} {cs:List (Str × Addr)},(∀ y∈names,y.2=.free→∃ c,env.cells.lookup y.1=some c)→(∀ y d,cs.lookup y=some d→env.cells.lookup y=some d) →
  (clOf env names cs).lookup x=some c→env.cells.lookup x=some c
 | [],cs,_,h,e=>h x c e
 | (n,k) :: r,cs,hf,h,e=>by
  refine mH (names:=r) (fun y hy=>hf y (List.mem_cons_of_mem _ hy)) ?_ e
  intro y d hd
  by_cases hk:k=.free
  ·subst hk
   obtain ⟨c',e'⟩:=hf (n,.free) List.mem_cons_self rfl
   have e':env.cells.lookup n=some c':=e'
   simp only [beq_self_eq_true,if_true,e',Option.getD_some,List.lookup_cons] at hd
   cases hb:y == n with
   | true=>rw [hb] at hd; have:y=n:=eq_of_beq hb; subst this; rw [e']; exact hd
   | false=>rw [hb] at hd; exact h y d hd
  ·have hb:(k == NameKind.free)=false:=by simpa using hk
   simp only [hb,Bool.false_eq_true,if_false] at hd
   exact h y d hd
theorem jN {env:Env} {x:Str}:∀ {names:List (Str × NameKind)} {cs:List (Str × Addr)},((x,NameKind.free)∈names∨∃ c,cs.lookup x=some c)→∃ c,(clOf env names cs).lookup x=some c
 | [],cs,h=>by
  rcases h with h | h
  ·exact nomatch h
  ·exact h
 | (n,k) :: r,cs,h=>by
  refine jN (names:=r) ?_
  rcases h with h | ⟨c,h⟩
  ·rcases List.mem_cons.mp h with e | h
   ·cases e
    refine .inr ⟨(env.cells.lookup x).getD 0,?_⟩
    simp only [beq_self_eq_true,if_true,List.lookup_cons]
   ·exact .inl h
  ·refine .inr ?_
   by_cases hk:(k == NameKind.free)=true
   ·simp only [hk,if_true,List.lookup_cons]
    cases hb:x == n with
    | true=>exact ⟨_,rfl⟩
    | false=>exact ⟨c,h⟩
   ·simp only [hk,if_false]
    exact ⟨c,h⟩
noncomputable def bH (X:Cx) (scope:Scope) (C:Addr) (N:List Str) (fp:List Addr) (s₃:Shared) (H₃:Hp):Cx :=
 { X with N:=N,s₀:=s₃,H₀:=H₃,env:=compEnvC scope (clOf X.env scope.names []) C X.env,outer:=X.stack,stack:=X.stack,ex:=fp,fn:=fun _=>false,pn:=[],xe:=fun _ _=>False }
noncomputable def PTs (X:Cx) (ifs:List Expr) (t:TT):Prop :=
 ∀ (pins:List (Addr × Obj)) (s:Shared) (σ:St) (H:Hp) (Q:Bool→Hp→Prop),Inv X pins σ H s→t σ H Q →
  wpAny (model X.prog X.w) X.A (forIn ifs true fun c r=>if r=true then do let ok ← isTrue c X.env (eval c X.env); pure (ForInStep.yield ok) else pure (ForInStep.yield r)) (TP X pins σ Q) X.xe s
noncomputable def tYes:TT:=fun _ H Q=>Q true H
theorem Ag {X:Cx}:PTs X [] tYes:=fun _ _ _ H _ I h=>wpAny_tests_nil ⟨H,I,h⟩
theorem BX {X:Cx} {c:Expr} {t:TT} (h:PT X c t):PTs X [c] t:=fun pins s σ H Q I hw=>wpAny_tests_one (h pins s σ H Q I hw)
theorem fQ {prog:Program} {w:World} {A:Around} {R:Result→Shared→Prop} {s:Shared} {elt target iter:Expr} {ifs:List Expr} {scope:Scope} {pos:Pos} {it acc:Value} {env:Env} (I:Nat→Shared→Prop) (E:Value→Shared→Prop)
  (turn:∀ n s,I n s→wpAny (model prog w) A (pyNext it) (fun r s₁=>match r with
   | none=>R (.ok .next) s₁
   | some v=>wpAny (model prog w) A (letOwnedTupleGo target it v) (fun _ s₀=>wpAny (model prog w) A (assign target env v) (fun _ s₂ =>
     wpAny (model prog w) A (forIn ifs true fun c r=>if r=true then do let ok ← isTrue c env (eval c env); pure (ForInStep.yield ok) else pure (ForInStep.yield r)) (fun ok s₃ =>
      if ok=true then wpAny (model prog w) A (eval elt env) (fun x s₄ =>
       wpAny (model prog w) A (call (.builtin "list.append") [acc,x]) (fun _ s₅=>∃ m,m<n∧I m s₅) E s₄) E s₃
      else ∃ m,m<n∧I m s₃) E s₂) E s₀) E s₁) E s)
  (hE:∀ e s',E e s'→notedBy (model prog w) A env (fun e s'=>R (.error e) s') e s')
  (n:Nat) (h:I n s) :
  codeAny (model prog w) A (.compLoop (.ListComp elt [⟨target,iter,ifs,0⟩] scope pos) 0 it acc env) R s:=by
 refine codeAny_loop rfl I (fun n s hI=>?_) n h
 show wpAny _ A ((compTurn (.ListComp elt [⟨target,iter,ifs,0⟩] scope pos) 0 it acc env).onRaise (fun x=>do noteFrame x env; theTreesLotGoes x)) _ _ s
 refine wpAny_noted ?_
 rw [compTurn_list]
 refine wpAny_mono (Q:=_) (E:=E) ?_ (fun _ _ q=>q) hE
 refine wpAny_bind (wpAny_standAt (wpAny_bind (wpAny_mono (turn n s hI) (fun r s₁ h₁=>?_) fun _ _ h'=>h')))
 cases r with
 | none=>exact wpAny_pure h₁
 | some v =>
  refine wpAny_bind (wpAny_mono h₁ (fun _ s₀ h₀=>?_) fun _ _ h'=>h')
  refine wpAny_bind (wpAny_mono h₀ (fun _ s₂ h₂=>wpAny_bind (wpAny_mono h₂ (fun ok s₃ h₃=>?_) fun _ _ h'=>h')) fun _ _ h'=>h')
  cases ok with
  | false=>exact wpAny_pure ⟨rfl,h₃⟩
  | true =>
   exact wpAny_bind (wpAny_bind (wpAny_mono h₃ (fun x s₄ h₄=>wpAny_bind (wpAny_mono h₄ (fun _ s₅ h₅=>wpAny_pure (wpAny_pure ⟨rfl,h₅⟩)) fun _ _ h'=>h')) fun _ _ h'=>h'))
noncomputable def mZ (tn:Nat) (ix:List Nat) (σ:St):St:=List.replicate tn none++ix.map fun j=>(σ[j]?).join
noncomputable def wG (wi:TI) (g:TG) (tc:TT) (te:TE) (tn:Nat) (ix:List Nat):TE:=fun σ H Q=>wi σ H fun J H1=>∀ D,H1 D=none →
 ∃ W:Nat→Nat→St→Hp→Prop,(∃ m,W 0 m (mZ tn ix σ) (upd H1 D (.lst [])))∧∀ i m τ H,W i m τ H →
  (J.stop i H∧Q (.ref D) H)∨(J.go i H∧∃ (N1:St→V→Hp→Prop) (N2:St→Hp→Prop),
   (∀ τ2 v H4,N1 τ2 v H4→∃ ys m',H4 D=some (.lst ys)∧ys.length<sizeLine∧m'<m∧W (i+1) m' τ2 (upd H4 D (.lst (ys++[v])))) ∧
   (∀ τ2 H3,N2 τ2 H3→∃ m',m'<m∧W (i+1) m' τ2 H3) ∧
   ∀ x H',J.yld i H x H'→g x τ H' fun τ2 H2=>tc τ2 H2 fun b H3=>if b=true then te τ2 H3 (N1 τ2) else N2 τ2 H3)
section
variable {X:Cx} {tg iter elt:Expr} {ifs:List Expr} {scope:Scope} {pos:Pos} {wi:TI} {g:TG} {tc:TT} {te:TE} {tn cn:List Str} {ix:List Nat}
structure bY (X:Cx) (scope:Scope) (tn cn:List Str) (ix:List Nat):Prop where
 kind:scope.kind=.function
 nocell:∀ y∈scope.names,y.2≠.cell
 free:∀ y∈scope.names,y.2=.free→X.env.scope.names.lookup y.1=some .cell∨X.env.scope.names.lookup y.1=some .free
 names:∀ y∈scope.names,y.2=.local→scope.names.lookup y.1=some .local
 len:ix.length=cn.length
 cap:∀ (k j:Nat),ix[k]? = some j→∃ y,cn[k]? = some y∧X.N[j]? = some y∧(X.env.scope.names.lookup y=some .cell∨X.env.scope.names.lookup y=some .free)∧(y,NameKind.free)∈scope.names ∧
  ((relabel scope X.env).names.lookup y=some .cell∨(relabel scope X.env).names.lookup y=some .free)
 all:∀ x,(relabel scope X.env).names.lookup x=some .cell∨(relabel scope X.env).names.lookup x=some .free→(x,NameKind.free)∈scope.names
theorem vz {pins:List (Addr × Obj)} {σ:St} {H:Hp} {s:Shared} {fp:List Addr} {C:Addr} (O:bY X scope tn cn ix) (I:Inv X pins σ H s) (hf:∀ b∈fp,FpOk X pins H b) (hfs:∀ b∈fp,b<s.heap.objs.size) (hC:s.heap.objs.size≤C) :
  (bH X scope C (tn++cn) fp s H).Ok:=by
 have hcl:∀ y∈scope.names,y.2=.free→∃ c,X.env.cells.lookup y.1=some c:=fun y hy hk=>I.ok.has y.1 (O.free y hy hk)
 have sub:∀ x c,(clOf X.env scope.names []).lookup x=some c→X.env.cells.lookup x=some c:=fun x c e=>mH hcl (fun y d h=>by simp at h) e
 refine ⟨I.ok.mod,O.kind,I.ok.glob,I.ok.blt,hC,fun x y c h1 h2=>I.ok.inj x y c (sub x c h1) (sub y c h2),fun x hx=>jN (.inl (O.all x hx)),(fun x c h _=>nomatch h),I.ok.hd,I.ok.frames,.inl rfl,fun b hb=>⟨?_,fun x c e=>?_⟩,
  I.bs,Nat.le_trans I.ok.bsz I.sz,fun b o e hb=>?_,fun b hb=>?_,I.stack,I.stkFree⟩
 ·exact Nat.ne_of_lt (Nat.lt_of_lt_of_le (hfs b hb) hC)
 ·exact (hf b hb).2.2.2.2.1 x c (sub x c e)
 ·rcases (hf b hb).2.2.2.1 with z | z
  ·exact I.ok.noex b o e z
  ·exact absurd (Nat.lt_of_lt_of_le (Heap.lt_size e) (Nat.le_trans I.ok.bsz z)) (Nat.lt_irrefl _)
 ·intro hz
  rcases List.mem_cons.mp (I.stkSub b hz) with e | e
  ·exact (hf b hb).2.1 e
  ·exact (hf b hb).2.2.1 e
theorem rZ {pos1:Pos} {use:Option (Value→Sem Unit)} {P:Value→Shared→Prop} (hc:X.calm=true) (hi:PI X tg iter wi) (O:bY X scope tn cn ix)
  (hg:∀ C fp s₃ H₃,PG (bH X scope C (tn++cn) fp s₃ H₃) tg g) (hcs:∀ C fp s₃ H₃,PTs (bH X scope C (tn++cn) fp s₃ H₃) ifs tc) (he:∀ C fp s₃ H₃,PE (bH X scope C (tn++cn) fp s₃ H₃) elt te)
  (hs:∀ x,foldedSetIterable iter X.env x=pure x) {pins:List (Addr × Obj)} {s:Shared} {σ:St} {H:Hp} {Q:V→Hp→Prop} (I:Inv X pins σ H s) (h:wG wi g tc te tn.length ix σ H Q)
  (fin:∀ (C D:Addr) (m:Str→Option Value) (H5:Hp) (s6:Shared) (r:Flow),Inv X pins σ H5 s6→s6.heap.Ns C m→H5 C=none→FpOk X pins H5 C→Q (.ref D) H5→compPost (model X.prog X.w) X.A X.xe use P (.ref D) C (.ok r) s6) :
  wpAny (model X.prog X.w) X.A (comprehension (.ListComp elt [⟨tg,iter,ifs,0⟩] scope pos) scope X.env pos1 (newList []) false (eval iter X.env) use) P X.xe s:=by
 have hcl:∀ y∈scope.names,y.2=.free→∃ c,X.env.cells.lookup y.1=some c:=fun y hy hk=>I.ok.has y.1 (O.free y hy hk)
 have sub:∀ x c,(clOf X.env scope.names []).lookup x=some c→X.env.cells.lookup x=some c:=fun x c e=>mH hcl (fun y d h=>by simp at h) e
 refine wpAny_comprehension_free (use:=use) rfl hs (ou hcl) O.kind O.names (thn (hi pins s σ H _ I h) fun v s1 h1=>thn h1 fun itv s2 h2=>?_)
 obtain ⟨it,fp,tnn,J,H2,e,I2,T,st2,f2,h2⟩:=h2
 subst e
 obtain ⟨W,⟨m0,w0⟩,turn⟩:=h2 s2.heap.objs.size (I2.hok.fresh (Nat.le_refl _))
 refine wpAny_newObj_type ?_
 have I3:Inv X pins σ (upd H2 s2.heap.objs.size (.lst [])) { s2 with heap:=s2.heap.push { cls:=.type "list",data:=.seq ([]:List Value).toArray } }:=I2.lnew (its:=[]) (t':=s2.toks) .nil (Nat.zero_le _)
 generalize hD:s2.heap.objs.size=D at *
 generalize hs3:({ s2 with heap:=s2.heap.push { cls:=.type "list",data:=.seq ([]:List Value).toArray } }:Shared)=s3 at *
 have k23:∀ b o,s2.heap.get? b=some o→s3.heap.get? b=some o:=fun b o e=>by rw [← hs3]; exact Heap.get?_push_of_some _ e
 have sz3:s3.heap.objs.size=D+1:=by rw [← hs3,← hD]; exact Heap.size_push ..
 have f3:∀ b∈fp,FpOk X pins (upd H2 D (.lst [])) b:=fun b hb=>by
  obtain ⟨f0,fr⟩:=f2 b hb
  obtain ⟨o,ho,_⟩:=T.obj _ _ st2 b hb
  refine ⟨?_,fr⟩
  rw [upd_ne (Nat.ne_of_lt (by rw [← hD]; exact Heap.lt_size ho))]
  exact f0
 have st3:tnn 0 s3.heap:=T.keep _ _ _ st2 fun b hb o e=>k23 b o e
 have lt3:∀ b∈fp,b<s3.heap.objs.size:=fun b hb=>by
  obtain ⟨o,ho,_⟩:=T.obj _ _ st3 b hb
  exact Heap.lt_size ho
 refine wpAny_newFunctionEnv O.nocell (by intro y hy; simp at hy) (fun h₁ hns₁ hsb₁=>?_) O.kind
 have k34:∀ b o,s3.heap.get? b=some o→h₁.get? b=some o:=fun b o e=>hsb₁.extBut b o (Nat.ne_of_lt (Heap.lt_size e)) (Heap.get?_push_of_some _ e)
 -- the block's context
 have ok':=vz (C:=s3.heap.objs.size) O I3 f3 lt3 (Nat.le_refl _)
 have I4:Inv (bH X scope s3.heap.objs.size (tn++cn) fp s3 (upd H2 D (.lst []))) [] (mZ tn.length ix σ) (upd H2 D (.lst [])) { s3 with heap:=h₁,toks:=s3.toks+([]:List (Str × Value)).length }:=by
  refine ⟨ok',rfl,I3.bare,Un.kept k34,⟨_,hns₁,fun i x v e1 e2 e3=>?_⟩,fun x c e=>?_,I3.hok.fresh (Nat.le_refl _),fun x c e=>I3.freeC x c (sub x c e),fun p hp=>absurd hp (by simp [bH]),I3.hok.kept k34,?_⟩
  ·have hi':tn.length≤i:=by
    by_cases q:i<tn.length
    ·unfold mZ at e2
     rw [List.getElem?_append_left (by simpa using q),List.getElem?_replicate] at e2
     simp [q] at e2
    ·exact Nat.le_of_not_lt ‹_›
   unfold mZ at e2
   rw [List.getElem?_append_right (by simpa using hi'),List.length_replicate,List.getElem?_map] at e2
   have e1:(tn++cn)[i]? = some x:=e1
   rw [List.getElem?_append_right hi'] at e1
   cases q:ix[i - tn.length]? with
   | none=>rw [q] at e2; cases e2
   | some j =>
    rw [q] at e2
    obtain ⟨y,c1,c2,c3,c4,c5⟩:=O.cap _ _ q
    rw [c1] at e1; cases e1
    have e2:σ[j]?.join=some v:=Option.some.inj e2
    have ej:σ[j]? = some (some v):=by
     cases z:σ[j]? with
     | none=>rw [z] at e2; cases e2
     | some o=>rw [z] at e2; exact congrArg some e2
    obtain ⟨m,hn,hl⟩:=I3.loc
    obtain ⟨u,r,l⟩:=hl j x v c2 ej (c3.elim (fun z=>.inr (.inl z)) fun z=>.inr (.inr z))
    refine ⟨u,r,.inr ⟨c5,?_⟩⟩
    rcases l with ⟨hk,_⟩ | ⟨hk,c,hcc,hce⟩
    ·have hk:X.env.scope.names.lookup x=some .local:=hk
     rcases c3 with z | z
     ·rw [z] at hk; cases hk
     ·rw [z] at hk; cases hk
    ·obtain ⟨c',hc'⟩:=jN (env:=X.env) (cs:=[]) (Or.inl c4)
     have:=sub x c' hc'
     rw [hcc] at this; cases this
     obtain ⟨o,ho,hd⟩:=hce
     exact ⟨c,hc',o,k34 _ _ ho,hd⟩
  ·obtain ⟨v,o,ho,hd⟩:=I3.cell x c (sub x c e)
   exact ⟨v,o,k34 _ _ ho,hd⟩
  ·show (mZ tn.length ix σ).length=(tn++cn).length
   unfold mZ
   simp [O.len]
 -- from the block back to the body
 have back:∀ {τ:St} {H':Hp} {s':Shared},Inv (bH X scope s3.heap.objs.size (tn++cn) fp s3 (upd H2 D (.lst []))) [] τ H' s'→Inv X pins σ H' s':=fun {τ H' s'} I' =>
  Inv.call' (ch:=fp) I3 I'.os I'.base I'.hok I'.bare fun b hb=>by
   obtain ⟨_,f1,_,f3',f4,f5⟩:=f3 b hb
   exact ⟨f3',f1,f4,f5⟩
 have fpC:∀ {H':Hp},(∀ b∈fp,H' b=none)→∀ b∈fp,FpOk (bH X scope s3.heap.objs.size (tn++cn) fp s3 (upd H2 D (.lst []))) [] H' b:=fun hn b hb =>
  ⟨hn b hb,(ok'.exf b hb).1,ok'.exfs b hb,.inl hb,(ok'.exf b hb).2,fun p hp=>absurd hp (by simp [bH])⟩
 have loop:∀ s4:Shared,Inv (bH X scope s3.heap.objs.size (tn++cn) fp s3 (upd H2 D (.lst []))) [] (mZ tn.length ix σ) (upd H2 D (.lst [])) s4→tnn 0 s4.heap →
   codeAny (model X.prog X.w) X.A (.compLoop (.ListComp elt [⟨tg,iter,ifs,0⟩] scope pos) 0 (.ref it) (.ref D) (compEnvC scope (clOf X.env scope.names []) s3.heap.objs.size X.env))
    (compPost (model X.prog X.w) X.A X.xe use P (.ref D) s3.heap.objs.size) s4:=by
  intro s4 I4 st4
  refine fQ (fun n s'=>∃ i τ H',Inv (bH X scope s3.heap.objs.size (tn++cn) fp s3 (upd H2 D (.lst []))) [] τ H' s'∧tnn i s'.heap∧(∀ b∈fp,H' b=none)∧W i n τ H') (fun _ _=>False) ?_ (fun _ _ z=>z.elim) m0
   ⟨0,_,_,I4,st4,fun b hb=>(f3 b hb).1,w0⟩
  rintro n s5 ⟨i,τ,H5,I5,st5,fr5,w5⟩
  rcases turn i n τ H5 w5 with ⟨stop,qn⟩ | ⟨go,N1,N2,hN1,hN2,step⟩
  ·refine thn (T.done (bH X scope s3.heap.objs.size (tn++cn) fp s3 (upd H2 D (.lst []))) rfl rfl rfl hc i [] s5 τ H5 (fun _ _=>False) I5 (fpC fr5) st5 stop) fun r s6 hx9=>?_
   obtain ⟨hr,I6⟩:=hx9
   subst hr
   have J6:=back I6
   obtain ⟨m,hn,_⟩:=I6.loc
   exact fin _ D m H5 s6 _ J6 hn I6.free (I3.fpOk (b:=s3.heap.objs.size) (H':=H5) (Nat.le_refl _) I6.free) qn
  ·refine thn (T.item (bH X scope s3.heap.objs.size (tn++cn) fp s3 (upd H2 D (.lst []))) rfl rfl rfl hc i [] s5 τ H5 (fun _ _=>False) I5 (fpC fr5) st5 go) fun r s6 hx9=>?_
   obtain ⟨u,hr,h6⟩:=hx9
   subst hr
   refine thn h6 fun _ s7 hx9=>?_
   obtain ⟨x,H7,I7,r7,y7,st7,fr7⟩:=hx9
   have I7':=I7.pinned (fpC fr7) (T.obj _ _ st7)
   refine thn (hg _ _ _ _ _ s7 τ H7 x u _ I7' r7 (step x H7 y7)) fun _ s8 hx9=>?_
   obtain ⟨τ8,H8,I8,q8⟩:=hx9
   refine thn (hcs _ _ _ _ _ s8 τ8 H8 _ I8 q8) fun ok s9 hx9=>?_
   obtain ⟨H9,I9,q9⟩:=hx9
   have again:∀ {s':Shared} {H':Hp} {m':Nat},Inv (bH X scope s3.heap.objs.size (tn++cn) fp s3 (upd H2 D (.lst []))) ([]++pinsAt fp s7.heap) τ8 H' s'→m'<n→W (i+1) m' τ8 H' →
     ∃ m,m<n∧∃ i τ H',Inv (bH X scope s3.heap.objs.size (tn++cn) fp s3 (upd H2 D (.lst []))) [] τ H' s'∧tnn i s'.heap∧(∀ b∈fp,H' b=none)∧W i m τ H':=fun {s' H' m'} J hm w'=>by
    refine ⟨m',hm,i+1,τ8,H',J.unpinned,T.keep _ _ _ st7 fun b hb o e=>(J.pin (b,o) (List.mem_append_right _ (List.mem_append_right _ (mem_pinsAt hb e)))).1,fun b hb=>?_,w'⟩
    obtain ⟨o,e,d⟩:=T.obj _ _ st7 b hb
    exact (J.pin (b,o) (List.mem_append_right _ (List.mem_append_right _ (mem_pinsAt hb e)))).2.1
   cases ok with
   | false =>
    rw [if_neg Bool.false_ne_true] at q9 ⊢
    obtain ⟨m',hm,w'⟩:=hN2 _ _ q9
    exact again I9 hm w'
   | true =>
    rw [if_pos rfl] at q9 ⊢
    refine thn (he _ _ _ _ _ s9 τ8 H9 _ I9 q9) fun x9 s10 hx5=>L2.ex2 hx5 fun v10 H10 I10 r10 q10=>?_
    obtain ⟨ys,m',hH,hz,hm,w'⟩:=hN1 _ _ _ q10
    refine thn (mt_append _ s10 τ8 H10 (.ref D) [v10] (.ref D) [x9] (fun _ H'=>H'=upd H10 D (.lst (ys++[v10]))) I10 rfl (.cons r10 .nil) ⟨D,ys,v10,rfl,rfl,hH,hz,rfl⟩) fun _ s11 hx5=>L2.ex2 hx5 fun _ H11 I11 _ q11=>?_
    subst q11
    exact again I11 hm w'
 exact codeAny_compStart_list (loop _ I4 (T.keep _ _ _ st3 fun b hb o e=>k34 b o e)) (T.self _ 0 _ _ _ (T.keep _ _ _ st3 fun b hb o e=>k34 b o e) (loop _ I4 (T.keep _ _ _ st3 fun b hb o e=>k34 b o e)))
theorem Bx (hc:X.calm=true) (hi:PI X tg iter wi) (O:bY X scope tn cn ix)
  (hg:∀ C fp s₃ H₃,PG (bH X scope C (tn++cn) fp s₃ H₃) tg g) (hcs:∀ C fp s₃ H₃,PTs (bH X scope C (tn++cn) fp s₃ H₃) ifs tc) (he:∀ C fp s₃ H₃,PE (bH X scope C (tn++cn) fp s₃ H₃) elt te)
  (hs:∀ x,foldedSetIterable iter X.env x=pure x:=by intro _; rfl):PE X (.ListComp elt [⟨tg,iter,ifs,0⟩] scope pos) (wG wi g tc te tn.length ix):=by
 intro pins s σ H Q I h
 rw [eval_ListComp]
 refine rZ (use:=none) (P:=EP X pins σ Q) hc hi O hg hcs he hs I h fun C D m H5 s6 r J6 hn hf ⟨_,g1,_,g3,g4,g5⟩ qn=>⟨m,hn,fun h' hsb=>⟨.ref D,H5,?_,rfl,qn⟩⟩
 exact J6.turned (t':=s6.toks) (fun b o hb e=>hsb.extBut b o hb e) hf g1 g3 g4 g5
end
end L2
set_option Elab.async false
set_option linter.all false
set_option maxRecDepth 100000
set_option maxHeartbeats 4000000
namespace L2
open PySem PySem.Spec PyProof.Rows
section
variable {X:Cx} {tg iter elt:Expr} {ifs:List Expr} {scope:Scope} {pos:Pos} {wi:TI} {g:TG} {tc:TT} {te:TE} {tn cn:List Str} {ix:List Nat}
theorem uD {i:Nat} {x:Str} {pos' spos:Pos} (hN:X.N.Nodup) (hi0:X.N[i]? = some x) (hx:Loc X.env.scope x) (hc:X.calm=true) (hi:PI X tg iter wi) (O:bY X scope tn cn ix)
  (hg:∀ C fp s₃ H₃,PG (bH X scope C (tn++cn) fp s₃ H₃) tg g) (hcs:∀ C fp s₃ H₃,PTs (bH X scope C (tn++cn) fp s₃ H₃) ifs tc) (he:∀ C fp s₃ H₃,PE (bH X scope C (tn++cn) fp s₃ H₃) elt te)
  (hsw:swapsWith (.ListComp elt [⟨tg,iter,ifs,0⟩] scope pos) (some (.Name x pos')) spos.line X.env=pure true)
  (hs:∀ x,foldedSetIterable iter X.env x=pure x:=by intro _; rfl) (hf:X.fn x=true∨X.env.scope.names.lookup x=some .local:=by first | exact .inl rfl | exact .inr rfl | assumption) :
  PS X (.Assign [.Name x pos'] (.ListComp elt [⟨tg,iter,ifs,0⟩] scope pos) spos) (tAsg (wG wi g tc te tn.length ix) (gName i)):=by
 intro pins s σ H D0 I h
 rw [exec_Assign_Name_used _ _ _ _ hsw]
 refine wpAny_bind (wpAny_standAt (wpAny_bind ?_))
 show wpAny _ _ (do let _ ← comprehension (.ListComp elt [⟨tg,iter,ifs,0⟩] scope pos) scope X.env _ (newList []) false (eval iter X.env) (some (assign (.Name x pos') X.env))) _ _ s
 refine wpAny_bind (wpAny_mono (rZ (use:=some (assign (.Name x pos') X.env)) (P:=fun _ s'=>SP X pins D0 .next s') hc hi O hg hcs he hs I h fun C D m H5 s6 r J6 hn hfr ⟨_,g1,_,g3,g4,g5⟩ qn=>?_) (fun _ s' hq=>wpAny_pure (wpAny_pure hq)) fun _ _ e=>e)
 refine (show wpAny _ _ (assign (.Name x pos') X.env (.ref D)) _ _ s6 from wpAny_assign_Name (store_ok2 J6 hN hi0 hx (v:=.ref D) rfl (fun s7 I7 hx9=>?_) hf))
 obtain ⟨a,sb,ha⟩:=hx9
 have hCa:C≠a:=by
  rcases ha with rfl | ha
  ·exact g1
  ·exact Ne.symm (g4 _ a ha)
 refine ⟨m,hn.sameBut sb hCa,fun h' hsb=>⟨_,H5,?_,qn⟩⟩
 exact I7.turned (t':=s7.toks) (fun b o hb e=>hsb.extBut b o hb e) hfr g1 g3 g4 g5
end
end L2
set_option Elab.async false
set_option linter.all false
set_option maxRecDepth 100000
set_option maxHeartbeats 4000000
namespace L2
open PySem PySem.Spec PyProof.Rows
noncomputable def isiT (a b:String):Bool:=a == b || (a == "bool" && b == "int")
noncomputable def okTy (b:String):Bool:=["str", "int", "bool", "list", "tuple", "dict"].contains b
theorem iK (K:PySem.W.Frag) (a b:String) (ha:a∈["NoneType", "bool", "int", "str", "list", "tuple", "dict"]) (hb:b∈["str", "int", "bool", "list", "tuple", "dict"]):PySem.W.kitOne K (.type a) (.type b)=some (isiT a b):=by
 simp only [List.mem_cons,List.not_mem_nil,or_false] at ha hb
 rcases ha with rfl | rfl | rfl | rfl | rfl | rfl | rfl <;> rcases hb with rfl | rfl | rfl | rfl | rfl | rfl <;> kernel_rfl
section
variable {X:Cx}
theorem OpR.imp {f:Value→Value→Sem Value} {r r':R2} (h:OpR X f r) (hi:∀ x y H Q,r' x y H Q→r x y H Q):OpR X f r' :=
 fun pins s σ H x y v u Q I rx ry q=>h pins s σ H x y v u Q I rx ry (hi x y H Q q)
noncomputable def F_ (K:PySem.W.Frag):R2:=fun x y H Q=>∃ l b xs zs,x=.ref l∧y=.ref b∧SqL K H l xs∧SqL K H b zs∧xs.length+zs.length≤sizeLine∧∀ p,H p=none→Q (.ref p) (upd H p (.lst (xs++zs)))
theorem Be:OpR X (binaryOp .Add) (F_ X.K):=by
 intro pins s σ H x y v u Q I rx ry h
 obtain ⟨l,b,xs,zs,rfl,rfl,hH,hB,hz,q⟩:=h
 cases rx
 cases ry
 obtain ⟨its,r,pl,z⟩:=I.list hH
 obtain ⟨its2,r2,pl2,z2⟩:=I.list hB
 have hl:=r.length
 have hl2:=r2.length
 obtain ⟨⟨cls,dd,data,sl⟩,ho,hc,n,hd⟩:=id pl.isList
 obtain ⟨⟨cls2,dd2,data2,sl2⟩,ho2,hc2,n2,hd2⟩:=id pl2.isList
 simp only at hc hd hc2 hd2
 subst hc hd hc2 hd2
 have ea:its.toArray++its2.toArray=(its++its2).toArray:=by simp
 refine concat_meets ⟨_,ho,rfl⟩ ⟨_,ho2,rfl⟩ noFill_list_add seq_list_add PySem.F.slot_list_add PySem.F.entry_list_add (PySem.F.args_list_add_2 _ _) (list_addW l b its.toArray its2.toArray n n2 dd dd2 sl sl2 (by simp only [List.size_toArray]; walk_at "l")) ⟨ho,ho2,?_⟩
 rw [ea]
 exact ⟨.ref _,_,I.lnew (t':=s.toks) (r.append r2) (by rw [List.length_append]; walk_at "l"),rfl,q _ I.fresh⟩
noncomputable def yR (K:PySem.W.Frag):R2:=fun x y H Q=>match x,y with
 | .int i,.int j=>Q (.int (i+j)) H
 | .str i,.str j=>i.length+j.length≤sizeLine∧Q (.str (i++j)) H
 | .ref a,.ref b=>∃ xs zs,SqL K H a xs∧SqL K H b zs∧xs.length+zs.length≤sizeLine∧∀ p,H p=none→Q (.ref p) (upd H p (.lst (xs++zs)))
 | _,_=>False
theorem Af:OpR X (binaryOp .Add) (yR X.K):=by
 refine (op_add.or (op_add_str.or Be)).imp fun x y H Q h=>?_
 unfold yR at h
 split at h
 ·exact .inl ⟨_,_,rfl,rfl,h⟩
 ·exact .inr (.inl ⟨_,_,rfl,rfl,h.1,h.2⟩)
 ·obtain ⟨xs,zs,h1,h2,h3,h4⟩:=h
  exact .inr (.inr ⟨_,_,xs,zs,rfl,rfl,h1,h2,h3,h4⟩)
 ·exact h.elim
noncomputable def Ac:R2:=fun x y H Q=>match x,y with
 | .int i,.int j=>Q (.int (i - j)) H
 | _,_=>False
theorem Bu:OpR X (binaryOp .Sub) Ac:=op_sub.imp fun x y H Q h=>by
 unfold Ac at h
 split at h
 ·exact ⟨_,_,rfl,rfl,h⟩
 ·exact h.elim
noncomputable def zZ:R2:=fun x y H Q=>match x,y with
 | .int i,.int j=>CMul i j∧Q (.int (i * j)) H
 | _,_=>False
theorem BZ:OpR X (binaryOp .Mult) zZ:=op_mul.imp fun x y H Q h=>by
 unfold zZ at h
 split at h
 ·exact ⟨_,_,rfl,rfl,h.1,h.2⟩
 ·exact h.elim
noncomputable def Cr:R2:=fun x y H Q=>match x,y with
 | .int i,.int j=>(0<j∧j<1073741824)∧Q (.int (i / j)) H
 | _,_=>False
theorem Bm:OpR X (binaryOp .FloorDiv) Cr:=op_fdiv.imp fun x y H Q h=>by
 unfold Cr at h
 split at h
 ·exact ⟨_,_,rfl,rfl,h.1,h.2⟩
 ·exact h.elim
noncomputable def zU:R2:=fun x y H Q=>match x,y with
 | .int i,.int j=>0<j∧Q (.int (i % j)) H
 | _,_=>False
theorem Ae:OpR X (binaryOp .Mod) zU:=op_mod.imp fun x y H Q h=>by
 unfold zU at h
 split at h
 ·exact ⟨_,_,rfl,rfl,h.1,h.2⟩
 ·exact h.elim
noncomputable def ltS (x y:Str):Bool:=decide (x.cps.toList<y.cps.toList)
noncomputable def rLtU:R2:=fun x y H Q=>match x,y with
 | .int i,.int j=>Q (.bl (decide (i<j))) H
 | .str i,.str j=>Q (.bl (ltS i j)) H
 | _,_=>False
theorem p8:OpR X (compareOp .Lt) rLtU:=(op_lt.or op_lt_str).imp fun x y H Q h=>by
 unfold rLtU at h
 split at h
 ·exact .inl ⟨_,_,rfl,rfl,h⟩
 ·exact .inr ⟨_,_,rfl,rfl,h⟩
 ·exact h.elim
theorem xP:OpR X (compareOp .LtE) (fun x y H Q=>∃ i j,x=.str i∧y=.str j∧Q (.bl (!ltS j i)) H):=by
 intro pins s σ H x y v u Q I rx ry h
 obtain ⟨i,j,rfl,rfl,q⟩:=h
 obtain ⟨t,rfl⟩:=rx
 obtain ⟨t',rfl⟩:=ry
 exact PySem.P.le_str ⟨.bl _,H,I,rfl,q⟩
noncomputable def rLeU:R2:=fun x y H Q=>match x,y with
 | .int i,.int j=>Q (.bl (decide (i≤j))) H
 | .str i,.str j=>Q (.bl (!ltS j i)) H
 | _,_=>False
theorem lQ:OpR X (compareOp .LtE) rLeU:=(op_le.or xP).imp fun x y H Q h=>by
 unfold rLeU at h
 split at h
 ·exact .inl ⟨_,_,rfl,rfl,h⟩
 ·exact .inr ⟨_,_,rfl,rfl,h⟩
 ·exact h.elim
noncomputable def rGtU:R2:=fun x y H Q=>match x,y with
 | .int i,.int j=>Q (.bl (decide (j<i))) H
 | _,_=>False
theorem Ej:OpR X (compareOp .Gt) rGtU:=op_gt.imp fun x y H Q h=>by
 unfold rGtU at h
 split at h
 ·exact ⟨_,_,rfl,rfl,h⟩
 ·exact h.elim
noncomputable def rLen (K:PySem.W.Frag):List V→Hp→VK→Prop:=fun xs H Q=>match xs with
 | [.str y]=>y.length≤sizeLine∧Q (.int y.length) H
 | [.ref p]=>(∃ ys,SqL K H p ys∧Q (.int ys.length) H)∨(∃ ys,SqT K H p ys∧Q (.int ys.length) H)∨∃ kvs,H p=some (.dK kvs)∧Q (.int kvs.length) H
 | _=>False
theorem vm:CallR X (.builtin "len") (rLen X.K):=by
 intro pins s σ H xs us Q I r h
 unfold rLen at h
 split at h
 ·exact call_len pins s σ H _ us Q I r ⟨_,_,rfl,⟨h.1,rfl⟩,h.2⟩
 ·rcases h with ⟨ys,h1,h2⟩ | ⟨ys,h1,h2⟩ | ⟨kvs,h1,h2⟩
  ·exact call_len pins s σ H _ us Q I r ⟨_,_,rfl,.inl ⟨ys,h1,rfl⟩,h2⟩
  ·exact call_len pins s σ H _ us Q I r ⟨_,_,rfl,.inr ⟨ys,h1,rfl⟩,h2⟩
  ·exact call_lenD pins s σ H _ us Q I r ⟨_,kvs,rfl,h1,h2⟩
 ·exact h.elim
noncomputable def rIxU (K:PySem.W.Frag):R2:=fun x y H Q=>match x,y with
 | .ref p,.int i=>(∃ xs v,SqL K H p xs∧atI xs i=some v∧Q v H)∨∃ xs v,SqT K H p xs∧atI xs i=some v∧Q v H
 | .str z,.int i=>z.length≤sizeLine∧∃ c,atI z.cps.toList i=some c∧Q (.str ⟨#[c]⟩) H
 | _,_=>False
theorem Es:IxR X (rIxU X.K):=by
 intro value slice pins s σ H x y v u Q I rx ry h hs
 refine ix_seq value slice pins s σ H x y v u Q I rx ry ?_ hs
 unfold rIxU at h
 split at h
 ·rcases h with ⟨xs,w,h1,h2,h3⟩ | ⟨xs,w,h1,h2,h3⟩
  ·exact .inl ⟨_,xs,_,w,rfl,rfl,h1,h2,h3⟩
  ·exact .inr (.inl ⟨_,xs,_,w,rfl,rfl,h1,h2,h3⟩)
 ·obtain ⟨h1,c,h2,h3⟩:=h
  exact .inr (.inr ⟨_,_,c,rfl,rfl,h1,h2,h3⟩)
 ·exact h.elim
noncomputable def cutS (z:Str) (lo hi:Option Int):Str:=⟨((z.cps.toList.drop (HT.sIx z.length 0 lo)).take (HT.sIx z.length z.length hi - HT.sIx z.length 0 lo)).toArray⟩
end
end L2
namespace L2
open PySem PySem.Spec PyProof.Rows
theorem xq (l:List Nat) (lo hi:Option Int) (h:((l.drop (HT.sIx l.length 0 lo)).take (HT.sIx l.length l.length hi - HT.sIx l.length 0 lo)).length=l.length) :
  (l.drop (HT.sIx l.length 0 lo)).take (HT.sIx l.length l.length hi - HT.sIx l.length 0 lo)=l:=by
 generalize HT.sIx l.length 0 lo=a at *
 generalize HT.sIx l.length l.length hi=b at *
 by_cases hl:l.length=0
 ·have:l=[]:=List.length_eq_zero_iff.mp hl
  subst this; simp
 ·rw [List.length_take,List.length_drop] at h
  have h1:a=0:=by walk_at "l"
  subst h1
  rw [List.drop_zero]
  exact List.take_of_length_le (by walk_at "l")
theorem vV (lo hi:Option Int) (n:Nat):Builtin.Str.strSliceIndices lo hi 1 n=(List.range (HT.sIx n n hi - HT.sIx n 0 lo)).map (HT.sIx n 0 lo + ·):=by
 unfold Builtin.Str.strSliceIndices
 have e1:(match lo with | none=>(0:Int) | some i=>max 0 (min (if i<0 then i+n else i) n))=((HT.sIx n 0 lo:Nat):Int):=by
  cases lo with
  | none=>simp [HT.sIx]
  | some i =>
   simp only [HT.sIx]
   by_cases h:i<0
   ·simp only [h,if_true] <;> walk_at "l"
   ·simp only [h,if_false] <;> walk_at "l"
 have e2:(match hi with | none=>(n:Int) | some i=>max 0 (min (if i<0 then i+n else i) n))=((HT.sIx n n hi:Nat):Int):=by
  cases hi with
  | none=>simp [HT.sIx]
  | some i =>
   simp only [HT.sIx]
   by_cases h:i<0
   ·simp only [h,if_true] <;> walk_at "l"
   ·simp only [h,if_false] <;> walk_at "l"
 rw [← sliceRange_one,← e1,← e2]
 simp only [show (1:Int)>0 by decide,if_true]
 cases lo <;> cases hi <;> rfl
section
variable {X:Cx}
theorem part_of {v:Value} {o:Option Int} (h:IsPart v o):∃ p:Option (Int × Tok),v=partValue p∧p.map (·.1)=o:=by
 cases h with
 | none=>exact ⟨none,rfl,rfl⟩
 | int i t=>exact ⟨some (i,t),rfl,rfl⟩
noncomputable def rSlS (K:PySem.W.Frag):V→Option Int→Option Int→Hp→VK→Prop:=fun x lo hi H Q=>match x with
 | .str z=>z.length≤sizeLine∧Q (.str (cutS z lo hi)) H
 | .ref a=>∃ xs,SqL K H a xs∧∀ p,H p=none→Q (.ref p) (upd H p (.lst (cutV xs lo hi)))
 | _=>False
theorem CZ:SlR X (fun x lo hi H Q=>∃ z,x=.str z∧z.length≤sizeLine∧Q (.str (cutS z lo hi)) H):=by
 intro pins s σ H x v vl vu lo hi sl Q I rx hs pl pu h
 obtain ⟨z,rfl,hz,q⟩:=h
 obtain ⟨t,rfl⟩:=rx
 obtain ⟨p1,rfl,e1⟩:=part_of pl
 obtain ⟨p2,rfl,e2⟩:=part_of pu
 refine ⟨"str",_,F.slot_str_getitem.lookup,typeIs_str s z t,wpAny_getItem_str_slice (l:=p1) (u:=p2) (st:=none) hs rfl ?_⟩
 have hl:z.cps.toList.length=z.length:=by simp [Str.length]
 have ep:slicePicked z p1 p2 none=(List.range (HT.sIx z.length z.length hi - HT.sIx z.length 0 lo)).map (HT.sIx z.length 0 lo + ·):=by
  unfold slicePicked
  rw [e1,e2]
  exact vV lo hi z.length
 have ef:(slicePicked z p1 p2 none).filterMap (z.cps[·]?)=(z.cps.toList.drop (HT.sIx z.length 0 lo)).take (HT.sIx z.length z.length hi - HT.sIx z.length 0 lo):=by
  rw [ep]; exact pick_run z.cps _ _
 unfold sliceMade
 split
 ·rename_i hc
  have hw:(slicePicked z p1 p2 none).length=z.length:=by simpa using hc
  have:cutS z lo hi=z:=by
   unfold cutS
   have e3:((z.cps.toList.drop (HT.sIx z.cps.toList.length 0 lo)).take (HT.sIx z.cps.toList.length z.cps.toList.length hi - HT.sIx z.cps.toList.length 0 lo)).length=z.cps.toList.length:=by
    rw [hl,List.length_take,List.length_drop,hl]
    rw [ep,List.length_map,List.length_range] at hw
    have h0:HT.sIx z.length 0 lo≤z.length:=by
     cases lo with
     | none=>simp [HT.sIx]
     | some i=>simp only [HT.sIx]; split <;> walk_at "l"
    have h1:HT.sIx z.length z.length hi≤z.length:=by
     cases hi with
     | none=>simp [HT.sIx]
     | some i=>simp only [HT.sIx]; split <;> walk_at "l"
    walk_at "l"
   have:=xq z.cps.toList lo hi e3
   rw [hl] at this
   rw [this]
  rw [this] at q
  exact ⟨.str z,H,I,⟨t,rfl⟩,q⟩
 ·rw [ef]
  exact ⟨by
   show (cutS z lo hi).length≤sizeLine
   unfold cutS Str.length
   simp only [List.size_toArray,List.length_take,List.length_drop,hl]
   have:z.cps.toList.length=z.length:=hl
   walk_at "l",⟨.str (cutS z lo hi),H,I.tok _,⟨_,rfl⟩,q⟩⟩
theorem Et:SlR X (rSlS X.K):=by
 intro pins s σ H x v vl vu lo hi sl Q I rx hs pl pu h
 unfold rSlS at h
 split at h
 ·exact CZ pins s σ H _ v vl vu lo hi sl Q I rx hs pl pu ⟨_,rfl,h.1,h.2⟩
 ·obtain ⟨xs,h1,h2⟩:=h
  exact sl_list pins s σ H _ v vl vu lo hi sl Q I rx hs pl pu ⟨_,xs,rfl,h1,h2⟩
 ·exact h.elim
noncomputable def Its (z:Str):It:=⟨fun i _=>i<z.cps.size,fun i H x H'=>H'=H∧∃ c,z.cps[i]? = some c∧x=.str ⟨#[c]⟩,fun i _=>z.cps.size≤i⟩
theorem sE {P:Program} {w:World} {K:PySem.W.Frag} {tg:Expr} {it:Addr} {z:Str} {t:Tok} {ty:String} (hty:ty = "str_ascii_iterator"∨ty = "str_iterator") :
  Turn P w K tg (Its z) [it] it (fun i h=>h.IsStrIter it ty z t i∧i≤z.cps.size) where
 mem:=by simp
 obj:=fun i h st b hb=>by
  have e:b=it:=by simpa using hb
  subst e
  obtain ⟨⟨o,e,c,d⟩,_⟩:=st
  exact ⟨o,e,fun v z=>by rw [d] at z; cases z⟩
 keep:=fun i h h' st k=>let ⟨⟨o,e,c,d⟩,l⟩:=st; ⟨⟨o,k it (by simp) o e,c,d⟩,l⟩
 item:=by
  intro X hP hw hK hc i pins s σ H E I hf st hg
  subst hP hw hK
  obtain ⟨f0,f1,f2,f3,f4,f5⟩:=hf it (by simp)
  obtain ⟨st,_⟩:=st
  have hg:i<z.cps.size:=hg
  have W:Walks X.prog X.w X.A it [it] [it] z.cps.size (SignAt z) (fun i h=>h.IsStrIter it ty z t i):=by
   rcases hty with rfl | rfl
   ·exact Walks.strAscii (I.ok.hd hc) it z t
   ·exact Walks.strWide (I.ok.hd hc) it z t
  refine W.item i s _ _ hg st fun v h' tk hv st' kk=>?_
  obtain ⟨c,u,ec,rfl⟩:=hv
  have I1:Inv X pins σ H { s with heap:=h',toks:=tk }:=I.turned (fun b o hb e=>kk b o (by simpa using hb) e) f0 f1 f3 f4 f5
  obtain ⟨o,e,c',d⟩:=id st'
  exact ⟨_,rfl,go_of (s:={ s with heap:=h',toks:=tk }) e c' d (by rcases hty with rfl | rfl <;> decide) ⟨.str ⟨#[c]⟩,H,I1,⟨u,rfl⟩,⟨rfl,c,ec,rfl⟩,⟨st',hg⟩,fun b hb=>(hf b hb).1⟩⟩
 done:=by
  intro X hP hw hK hc i pins s σ H E I hf st hg
  subst hP hw hK
  obtain ⟨f0,f1,f2,f3,f4,f5⟩:=hf it (by simp)
  obtain ⟨st,hle⟩:=st
  have hg:z.cps.size≤i:=hg
  have e:i=z.cps.size:=Nat.le_antisymm hle hg
  subst e
  have W:Walks X.prog X.w X.A it [it] [it] z.cps.size (SignAt z) (fun i h=>h.IsStrIter it ty z t i):=by
   rcases hty with rfl | rfl
   ·exact Walks.strAscii (I.ok.hd hc) it z t
   ·exact Walks.strWide (I.ok.hd hc) it z t
  exact W.done s _ _ st fun h' tk kk=>⟨rfl,I.turned (fun b o hb e=>kk b o (by simpa using hb) e) f0 f1 f3 f4 f5⟩
 self:=fun A i s Q E st h=>by
  rcases hty with rfl | rfl
  ·exact wpAny_pyIter_striter_ascii st.1 h
  ·exact wpAny_pyIter_striter_wide st.1 h
theorem Dz {tg l:Expr} {tl:TE} (hl:PE X l tl):PI X tg l (fun σ H R=>tl σ H fun x H1=>∃ z,x=.str z∧R (Its z) H1):=by
 intro pins s σ H R I h
 refine thn (hl pins s σ H _ I h) fun v s1 hx5=>L2.ex2 hx5 fun x H1 I1 r1 q1=>?_
 obtain ⟨z,rfl,q⟩:=q1
 obtain ⟨t,rfl⟩:=r1
 have fp:∀ b∈[s1.heap.objs.size],FpOk X pins H1 b:=fun b hb=>by
  have e:b=s1.heap.objs.size:=by simpa using hb
  subst e
  exact I1.fpOk (Nat.le_refl _) (I1.hok.fresh (Nat.le_refl _))
 cases ha:z.cps.all (· < 128)
 ·exact wpAny_pyIter_wide ha ⟨s1.heap.objs.size,[s1.heap.objs.size],_,_,H1,rfl,I1.kept (t':=s1.toks) fun b o e=>Heap.get?_push_of_some _ e,sE (.inr rfl),⟨⟨_,Heap.get?_push_size _ rfl,rfl,rfl⟩,Nat.zero_le _⟩,fp,q⟩
 ·exact wpAny_pyIter_ascii ha ⟨s1.heap.objs.size,[s1.heap.objs.size],_,_,H1,rfl,I1.kept (t':=s1.toks) fun b o e=>Heap.get?_push_of_some _ e,sE (.inl rfl),⟨⟨_,Heap.get?_push_size _ rfl,rfl,rfl⟩,Nat.zero_le _⟩,fp,q⟩
end
end L2
set_option Elab.async false
set_option linter.all false
set_option maxRecDepth 100000
set_option maxHeartbeats 4000000
namespace L2
open PySem PySem.Spec PyProof.Rows
structure iu (J:It) (its:List V) (cond:Hp→Prop):Prop where
 go:∀ i H,cond H→i<its.length→J.go i H
 yld:∀ i H x H',cond H→i<its.length→J.yld i H x H'→H'=H∧its[i]? = some x
 stop:∀ H,cond H→J.stop its.length H
noncomputable def sgnV (z:Str):List V:=z.cps.toList.map fun c=>.str ⟨#[c]⟩
theorem BL (z:Str):iu (Its z) (sgnV z) (fun _=>True) where
 go:=fun i H _ h=>by simpa [sgnV,Its] using h
 yld:=fun i H x H' _ _ h=>by
  obtain ⟨rfl,c,e,rfl⟩:=h
  refine ⟨rfl,?_⟩
  unfold sgnV
  rw [List.getElem?_map,Array.getElem?_toList,e]
  rfl
 stop:=fun H _=>by simp [sgnV,Its]
theorem yp (K:PySem.W.Frag) (a:Addr) (xs:List V):iu (Itl K a) xs (fun H=>SqL K H a xs) where
 go:=fun i H h hi=>⟨xs,xs[i],h,by simp [hi]⟩
 yld:=fun i H x H' h _ y=>⟨y.1,y.2 xs h⟩
 stop:=fun H h=>⟨xs,h,Nat.le_refl _⟩
theorem Cj (K:PySem.W.Frag) (a:Addr) (xs:List V):iu (Itt K a) xs (fun H=>SqT K H a xs) where
 go:=fun i H h hi=>⟨xs,xs[i],h,by simp [hi]⟩
 yld:=fun i H x H' h _ y=>⟨y.1,y.2 xs h⟩
 stop:=fun H h=>⟨xs,h,Nat.le_refl _⟩
noncomputable def xF (lo:Int) (n:Nat):List V:=(List.range n).map fun i=>.int (lo+(i:Nat))
theorem xK (lo:Int) (n:Nat):iu (Itr lo n) (xF lo n) (fun _=>True) where
 go:=fun i H _ h=>by simpa [xF,Itr] using h
 yld:=fun i H x H' _ hi h=>by
  have hi:i<n:=by simpa [xF] using hi
  obtain ⟨rfl,rfl⟩:=h
  refine ⟨rfl,?_⟩
  simp [xF,hi]
 stop:=fun H _=>by simp [xF,Itr]
noncomputable def ForW (J:It) (g:TG) (tb:TS) (D:Ends) (σ:St) (H:Hp):Prop :=
 ∃ W:Nat→Nat→St→Hp→Prop,(∃ m,W 0 m σ H)∧∀ i m σ H,W i m σ H →
   (J.stop i H∧D.nx σ H)∨(J.go i H∧∃ N:St→Hp→Prop,(∀ σ' H',N σ' H'→∃ m',m'<m∧W (i+1) m' σ' H')∧∀ x H',J.yld i H x H'→g x σ H' fun σ2 H2=>tb { D with nx:=N,ct:=N,bk:=D.nx } σ2 H2)
theorem Ak (wi:TI) (g:TG) (tb:TS) (D:Ends) (σ:St) (H:Hp):tFor wi g tb D σ H=wi σ H fun J H1=>ForW J g tb D σ H1:=rfl
noncomputable def FQ (J:It) (g:TG) (tc:TT) (te:TE) (τ0:St) (H1:Hp) (D:Addr) (Q:VK):Prop :=
 ∃ W:Nat→Nat→St→Hp→Prop,(∃ m,W 0 m τ0 (upd H1 D (.lst [])))∧∀ i m τ H,W i m τ H →
  (J.stop i H∧Q (.ref D) H)∨(J.go i H∧∃ (N1:St→V→Hp→Prop) (N2:St→Hp→Prop),
   (∀ τ2 v H4,N1 τ2 v H4→∃ ys m',H4 D=some (.lst ys)∧ys.length<sizeLine∧m'<m∧W (i+1) m' τ2 (upd H4 D (.lst (ys++[v])))) ∧
   (∀ τ2 H3,N2 τ2 H3→∃ m',m'<m∧W (i+1) m' τ2 H3) ∧
   ∀ x H',J.yld i H x H'→g x τ H' fun τ2 H2=>tc τ2 H2 fun b H3=>if b=true then te τ2 H3 (N1 τ2) else N2 τ2 H3)
theorem yh (wi:TI) (g:TG) (tc:TT) (te:TE) (tn:Nat) (ix:List Nat) (σ:St) (H:Hp) (Q:VK):wG wi g tc te tn ix σ H Q=wi σ H fun J H1=>∀ D,H1 D=none→FQ J g tc te (mZ tn ix σ) H1 D Q:=rfl
mutual
inductive Rep (K:PySem.W.Frag) (H:Hp):PyData→V→Prop
 | none:Rep K H .none .non
 | bool (b:Bool):Rep K H (.bool b) (.bl b)
 | int (i:Int):Rep K H (.int i) (.int i)
 | str (x:Str):Rep K H (.str x) (.str x)
 | list {a:Addr} {vs:List V} {ds:List PyData}:SqL K H a vs→Reps K H ds vs→Rep K H (.list ds) (.ref a)
 | tuple {a:Addr} {vs:List V} {ds:List PyData}:SqT K H a vs→Reps K H ds vs→Rep K H (.tuple ds) (.ref a)
inductive Reps (K:PySem.W.Frag) (H:Hp):List PyData→List V→Prop
 | nil:Reps K H [] []
 | cons {d:PyData} {v:V} {ds:List PyData} {vs:List V}:Rep K H d v→Reps K H ds vs→Reps K H (d :: ds) (v :: vs)
end
section
variable {X:Cx} {pins:List (Addr × Obj)} {σ:St} {H:Hp} {s:Shared}
mutual
theorem Rep.reads (I:Inv X pins σ H s):∀ {d:PyData} {v:V} {u:Value},Rep X.K H d v→RelV v u→∃ as,Reads s.heap u d as
 | _,_,_,.none,r=>by cases (show _=Value.none from r); exact ⟨_,.none⟩
 | _,_,_,.bool b,r=>by cases (show _=Value.bool b from r); exact ⟨_,.bool b⟩
 | _,_,_,.int i,r=>by obtain ⟨t,e⟩:=r; subst e; exact ⟨_,.int i t⟩
 | _,_,_,.str x,r=>by obtain ⟨t,e⟩:=r; subst e; exact ⟨_,.str x t⟩
 | _,_,_,.list h hs,r=>by
  cases r
  obtain ⟨its,rv,pl,_⟩:=I.list h
  obtain ⟨o,e,c,n,d⟩:=pl.isList
  obtain ⟨as,q⟩:=Reps.reads I hs rv
  exact ⟨_,.list e c d q⟩
 | _,_,_,.tuple h hs,r=>by
  cases r
  obtain ⟨its,rv,⟨o,e,c,n,d⟩,_⟩:=I.tuple h
  obtain ⟨as,q⟩:=Reps.reads I hs rv
  exact ⟨_,.tuple e c d q⟩
theorem Reps.reads (I:Inv X pins σ H s):∀ {ds:List PyData} {vs:List V} {us:List Value},Reps X.K H ds vs→Vals vs us→∃ as,ReadsAll s.heap us ds as
 | _,_,_,.nil,.nil=>⟨_,.nil⟩
 | _,_,_,.cons h hs,.cons r rs=>by
  obtain ⟨as,q⟩:=Rep.reads I h r
  obtain ⟨bs,q'⟩:=Reps.reads I hs rs
  exact ⟨_,.cons q q'⟩
end
noncomputable def rEqD (K:PySem.W.Frag):R2:=fun x y H Q=>∃ d e,Rep K H d x∧Rep K H e y∧d.canLay0=true∧e.canLay0=true∧d.depth≤60∧Q (.bl (PyData.eqv d e)) H
noncomputable def rNeD (K:PySem.W.Frag):R2:=fun x y H Q=>∃ d e,Rep K H d x∧Rep K H e y∧d.canLay0=true∧e.canLay0=true∧d.depth≤60∧Q (.bl (!PyData.eqv d e)) H
theorem Er (hu:X.A.units+64<cLine):OpR X (compareOp .Eq) (rEqD X.K):=by
 intro pins s σ H x y v u Q I rx ry h
 obtain ⟨d,e,h1,h2,h3,h4,h5,q⟩:=h
 obtain ⟨as,r1⟩:=h1.reads I rx
 obtain ⟨bs,r2⟩:=h2.reads I ry
 exact PySem.SeqAt.rcAt_reads r1 r2 h3 h4 (by walk_at "l") X.prog X.w X.xe _ ⟨.bl _,H,I,rfl,q⟩
theorem Ep (hu:X.A.units+64<cLine):OpR X (compareOp .NotEq) (rNeD X.K):=by
 intro pins s σ H x y v u Q I rx ry h
 obtain ⟨d,e,h1,h2,h3,h4,h5,q⟩:=h
 obtain ⟨as,r1⟩:=h1.reads I rx
 obtain ⟨bs,r2⟩:=h2.reads I ry
 exact PySem.SeqAt.rcNeAt_reads r1 r2 h3 h4 (by walk_at "l") X.prog X.w X.xe _ ⟨.bl _,H,I,rfl,q⟩
noncomputable def rEqU (K:PySem.W.Frag):R2:=fun x y H Q=>match x,y with
 | .int i,.int j=>Q (.bl (decide (i=j))) H
 | .str i,.str j=>Q (.bl (decide (i=j))) H
 | .bl i,.bl j=>Q (.bl (decide (i=j))) H
 | _,_=>rEqD K x y H Q
theorem El (hu:X.A.units+64<cLine):OpR X (compareOp .Eq) (rEqU X.K):=(op_eq.or (Er hu)).imp fun x y H Q h=>by
 unfold rEqU at h
 split at h
 ·refine .inl ⟨rfl,?_⟩; simpa using h
 ·refine .inl ⟨rfl,?_⟩; simpa using h
 ·refine .inl ⟨rfl,?_⟩; simpa using h
 ·exact .inr h
noncomputable def rNeU (K:PySem.W.Frag):R2:=fun x y H Q=>match x,y with
 | .int i,.int j=>Q (.bl (!decide (i=j))) H
 | .str i,.str j=>Q (.bl (!decide (i=j))) H
 | .bl i,.bl j=>Q (.bl (!decide (i=j))) H
 | _,_=>rNeD K x y H Q
theorem Eu (hu:X.A.units+64<cLine):OpR X (compareOp .NotEq) (rNeU X.K):=(op_ne.or (Ep hu)).imp fun x y H Q h=>by
 unfold rNeU at h
 split at h
 ·refine .inl ⟨rfl,?_⟩; simpa using h
 ·refine .inl ⟨rfl,?_⟩; simpa using h
 ·refine .inl ⟨rfl,?_⟩; simpa using h
 ·exact .inr h
noncomputable def rAll (K:PySem.W.Frag):List V→Hp→VK→Prop:=fun xs H Q=>match xs with
 | [.ref a]=>∃ bs:List Bool,SqL K H a (bs.map V.bl)∧Q (.bl (bs.all id)) H
 | _=>False
theorem v7 (hc:X.calm=true):CallR X (.builtin "all") (rAll X.K):=by
 intro pins s σ H xs us Q I r h
 unfold rAll at h
 split at h
 ·rename_i a
  obtain ⟨bs,e,q⟩:=h
  obtain ⟨u,rfl,ru⟩:=Vals.one r
  cases ru
  obtain ⟨its,rv,pl,hz⟩:=I.list e
  have hl:s.heap.IsList a its.toArray:=pl.isList
  obtain ⟨o,ho,hoc,n,hod⟩:=id hl
  have hlen:=rv.length
  rw [List.length_map] at hlen
  refine call_all_walk (wpAny_pyIter_list hl ?_)
  have hne:a≠s.heap.objs.size:=Nat.ne_of_lt (Heap.lt_size ho)
  have hhd:X.A.in1.handled=none:=I.ok.hd hc
  refine ⟨s.heap.objs.size,_,_,_,_,_,fun i=>bs.getD i true,rfl,Walks.list hhd s.heap.objs.size a hne its.toArray,⟨⟨_,Heap.get?_push_size _ rfl,rfl,rfl⟩,⟨_,Heap.get?_push_of_some _ ho,hoc,n,hod⟩⟩,?_,fun h' tk hk=>?_⟩
  ·intro i v s' Q' E' hv hq
   have hv:its.toArray[i]? = some v:=hv
   have hv':its[i]? = some v:=by simpa using hv
   have hi:i<bs.length:=by
    have:=(List.getElem?_eq_some_iff.mp hv').1
    walk_at "l"
   obtain ⟨w',e1,r1⟩:=rv.get (i:=i) (x:=V.bl bs[i]) (by simp [hi])
   rw [hv'] at e1
   cases e1
   cases (show v=Value.bool bs[i] from r1)
   have e2:bs.getD i true=bs[i]:=by simp [List.getD,hi]
   have hq:Q' (bs.getD i true) s':=hq
   rw [e2] at hq
   exact wpAny_truthy_bool hq
  ·have e3:((List.range its.toArray.size).all fun i=>bs.getD i true)=bs.all id:=by
    rw [List.size_toArray,← hlen]
    apply Bool.eq_iff_iff.mpr
    simp only [List.all_eq_true,List.mem_range,id]
    constructor
    ·intro h b hb
     obtain ⟨i,hi,rfl⟩:=List.mem_iff_getElem.mp hb
     have:=h i hi
     simpa [List.getD,hi] using this
    ·intro h i hi
     have:=h bs[i] (List.getElem_mem hi)
     simpa [List.getD,hi] using this
   rw [e3]
   refine ⟨.bl (bs.all id),H,?_,rfl,q⟩
   exact I.kept (t':=tk) fun b o e=>hk b o (by simp; exact Nat.ne_of_lt (Heap.lt_size e)) (Heap.get?_push_of_some _ e)
 ·exact h.elim
end
end L2
set_option Elab.async false
set_option linter.all false
set_option maxRecDepth 100000
set_option maxHeartbeats 4000000
namespace L2
open PySem PySem.Spec PyProof.Rows
section
variable {X:Cx} {pins:List (Addr × Obj)} {σ:St} {H:Hp} {s:Shared} {h':Heap}
theorem Inv.GC {t':Nat} {fp:List Addr} (I:Inv X pins σ H s) (hf:∀ b∈fp,FpOk X pins H b) (k:∀ b o,b∉fp→s.heap.get? b=some o→h'.get? b=some o):Inv X pins σ H { s with heap:=h',toks:=t' }:=by
 have nit:∀ b u,H b=some u→b∉fp:=fun b u e z=>by rw [(hf b z).1] at e; cases e
 refine I.step (g':=s.gens) (d':=s.drawn) (ch:=fp) (fun b hb=>?_) (fun b o _ _ hc e _=>k b o hc e) (fun b o _ _ hc e _=>⟨o.slots,k b o hc e⟩) (fun _ _ _ _ n=>n)
  (fun b o hc e=>⟨o,k b o hc e⟩) (fun _ _ e=>e) (fun _ _ _ e=>e) (fun b ps e=>⟨#[],by rw [e]; simp⟩) (fun m hm=>?_) (fun b u e=>?_) I.bare
 ·obtain ⟨f0,f1,f2,f3,f4,f5⟩:=hf b hb
  exact ⟨f3,f1,f4,f5⟩
 ·obtain ⟨o,es,ep,ho,r⟩:=hm
  exact ⟨o,es,ep,k _ o (fun z=>(hf _ z).2.1 rfl) ho,r⟩
 ·refine (I.hok b u e).stay (fun c v hc q=>k c v ?_ q) (fun _ q=>q) fun _ _ q=>q
  rcases hc with z | z
  ·rw [z]; exact nit b u e
  ·exact nit c _ z
theorem Inv.turnT {t':Nat} {fp:List Addr} {p:Addr} {xs:List V} (I:Inv X pins σ H s) (hf:∀ b∈fp,FpOk X pins H b) (k:∀ b o,b∉fp→s.heap.get? b=some o→h'.get? b=some o) (hp:s.heap.objs.size≤p)
  (new:ObjOk X.prog X.w (upd H p (.tup xs)) h' p (.tup xs)):Inv X pins σ (upd H p (.tup xs)) { s with heap:=h',toks:=t' }:=by
 have hn:=I.hok.fresh hp
 have nit:∀ b u,H b=some u→b∉fp:=fun b u e z=>by rw [(hf b z).1] at e; cases e
 have lt:∀ b o,s.heap.get? b=some o→b≠p:=fun b o e=>Nat.ne_of_lt (Nat.lt_of_lt_of_le (Heap.lt_size e) hp)
 refine I.step (g':=s.gens) (d':=s.drawn) (ch:=fp) (fun b hb=>?_) (fun b o _ _ hc e _=>k b o hc e) (fun b o _ _ hc e _=>⟨o.slots,k b o hc e⟩) (fun b o _ e n=>by rw [upd_ne (lt b o e)]; exact n)
  (fun b o hc e=>⟨o,k b o hc e⟩) (fun _ _ e=>by rw [upd_ne (ne_of_none e hn)]; exact e) (fun _ _ _ e=>by rw [upd_ne (ne_of_none e hn)]; exact e) (fun b ps e=>⟨#[],by rw [upd_ne (ne_of_none e hn),e]; simp⟩) (fun m hm=>?_) (fun b u e=>?_) I.bare
 ·obtain ⟨f0,f1,f2,f3,f4,f5⟩:=hf b hb
  exact ⟨f3,f1,f4,f5⟩
 ·obtain ⟨o,es,ep,ho,r⟩:=hm
  exact ⟨o,es,ep,k _ o (fun z=>(hf _ z).2.1 rfl) ho,r⟩
 ·by_cases hb:b=p
  ·subst hb; rw [upd_same] at e; cases e; exact new
  ·rw [upd_ne hb] at e
   refine (I.hok b u e).stay (fun c v hc q=>k c v ?_ q) (fun c q=>by rw [upd_ne (ne_of_none q hn)]; exact q) fun c xs q=>by rw [upd_ne (ne_of_none q hn)]; exact q
   rcases hc with z | z
   ·rw [z]; exact nit b u e
   ·exact nit c _ z
end
noncomputable def Ite (K:PySem.W.Frag) (a:Addr):It :=
 ⟨fun i H=>∃ xs x,SqL K H a xs∧xs[i]? = some x,fun i H x H'=>∃ p v,x=.ref p∧H p=none∧H'=upd H p (.tup [.int i,v])∧∀ xs,SqL K H a xs→xs[i]? = some v,fun i H=>∃ xs,SqL K H a xs∧xs.length≤i⟩
theorem zx:(2:Nat)≤sizeLine:=by rw [sizeLine_eq]; decide
theorem xx {P:Program} {w:World} {K:PySem.W.Frag} {elts:List Expr} {k:Nat} {pos:Pos} (a e it:Addr) (hei:e≠it):Turn P w K (.Tuple elts k pos) (Ite K a) [e,it] e (fun i h=>(∃ old,IsEnum h e it i old)∧h.IsListIter it a i) where
 mem:=by simp
 obj:=fun i h ⟨⟨old,he⟩,st⟩ b hb=>by
  rcases List.mem_cons.mp hb with rfl | hb
  ·exact ⟨_,he,fun v z=>nomatch z⟩
  ·have e:b=it:=by simpa using hb
   subst e
   obtain ⟨o,e,c,d⟩:=st
   exact ⟨o,e,fun v z=>by rw [d] at z; cases z⟩
 keep:=fun i h h' ⟨⟨old,he⟩,st⟩ k=>⟨⟨old,k e (by simp) _ he⟩,st.at fun o e=>k it (by simp) o e⟩
 item:=by
  intro X hP hw hK hc i pins s σ H E I hf st hg
  subst hP hw hK
  obtain ⟨xs,x,hq,hx⟩:=hg
  obtain ⟨its,rv,p,hz⟩:=I.list hq
  obtain ⟨u,hu,ru⟩:=rv.get hx
  obtain ⟨⟨old,he⟩,hit⟩:=st
  refine wpAny_pyNext_enum_item he hit p.isList (x:=u) (by simpa using hu) hei fun h1 ho hit1 hT hsz hk=>⟨_,rfl,?_⟩
  refine wpAny_letOwnedTupleGo_enum (s:={ s with heap:=h1,toks:=s.toks+1 }) ho fun h2 he2 hs2=>?_
  have ke:∀ b o,b∉[e,it]→s.heap.get? b=some o→h2.get? b=some o:=fun b o hb q=>(hs2.2 b fun z=>hb (by simp [z])).trans (hk b o (fun z=>hb (by simp [z])) (fun z=>hb (by simp [z])) q)
  have hlt:e<s.heap.objs.size:=Heap.lt_size he
  have hT2:h2.get? s.heap.objs.size=some { cls:=.type "tuple",data:=.seq #[.int i s.toks,u] }:=(hs2.2 _ (Nat.ne_of_gt hlt)).trans hT
  have I1:Inv X pins σ (upd H s.heap.objs.size (.tup [.int i,x])) { s with heap:=h2,toks:=s.toks+1 } :=
   I.turnT hf ke (Nat.le_refl _) ⟨zx,[.int i s.toks,u],.cons ⟨s.toks,rfl⟩ (.cons ru .nil),_,hT2,rfl,_,rfl⟩
  refine ⟨.ref s.heap.objs.size,_,I1,rfl,⟨_,x,rfl,I.fresh,rfl,fun ys hy=>by rw [I.list_inj hy hq]; exact hx⟩,⟨⟨u,by simpa using he2⟩,hit1.at fun o q=>(hs2.2 it hei.symm).trans q⟩,fun b hb=>?_⟩
  rw [upd_ne]
  ·exact (hf b hb).1
  ·rcases List.mem_cons.mp hb with rfl | hb
   ·exact Nat.ne_of_lt hlt
   ·have e:b=it:=by simpa using hb
    subst e
    obtain ⟨o,q,_⟩:=hit
    exact Nat.ne_of_lt (Heap.lt_size q)
 done:=by
  intro X hP hw hK hc i pins s σ H E I hf st hg
  subst hP hw hK
  obtain ⟨xs,hq,hx⟩:=hg
  obtain ⟨its,rv,p,hz⟩:=I.list hq
  obtain ⟨⟨old,he⟩,hit⟩:=st
  have hl:=rv.length
  exact wpAny_pyNext_enum_end (I.ok.hd hc) he hit p.isList (by simp; walk_at "l") fun h' eb=>⟨rfl,I.GC (t':=s.toks) hf fun b o hb q=>eb b o (fun z=>hb (by simp [z])) q⟩
 self:=fun _ _ _ _ _ ⟨⟨old,he⟩,_⟩ h=>wpAny_pyIter_enum he h
theorem En {n b:Nat} (h:b∈[n+1,n]):n≤b:=by simp at h; walk_at "l"
section
variable {X:Cx}
noncomputable def Gz (K:PySem.W.Frag) (ta:TA):TI:=fun σ H R=>ta σ H fun vs H1=>∃ a,vs=[.ref a]∧(∃ xs,SqL K H1 a xs)∧R (Ite K a) H1
theorem Cp {elts:List Expr} {k:Nat} {tp:Pos} {a:Expr} {ta:TA} {p pos:Pos} (hg:Gl X "enumerate") (hm:X.mg "enumerate" = none) (ha:PA X [a] ta) (hs:starEach [a] X.env=[(false,eval a X.env)]:=by rfl) :
  PI X (.Tuple elts k tp) (.Call (.Name "enumerate" p) [a] [] pos) (Gz X.K ta):=by
 intro pins s σ H R I h
 refine Call_ (ld_blt I hg hm boot_enumerate (PyProof.Rows.callWith_type1 (thn (ha pos pins s σ H _ I h) fun us s1 hx5=>L2.ex2 hx5 fun vs H1 I1 r1 q1=>?_) hs rfl))
 obtain ⟨l,e,⟨xs,hq⟩,q⟩:=q1
 subst e
 cases r1 with
 | cons r rr =>
  cases rr
  cases r
  obtain ⟨its,rv,pl,hz⟩:=I1.list hq
  refine call_enumerate_list pl.isList fun h2 he hit hsz hk=>?_
  refine wpAny_pyIter_enum (s:={ s1 with heap:=h2 }) he ?_
  refine ⟨s1.heap.objs.size+1,[s1.heap.objs.size+1,s1.heap.objs.size],_,_,H1,rfl,I1.kept (t':=s1.toks) hk,xx l _ _ (Nat.succ_ne_self _),⟨⟨_,he⟩,hit⟩,fun b hb=>?_,q⟩
  have e:s1.heap.objs.size≤b:=En hb
  exact I1.fpOk e (I1.hok.fresh e)
end
end L2
set_option Elab.async false
set_option linter.all false
set_option maxRecDepth 100000
set_option maxHeartbeats 4000000
namespace L2
open PySem PySem.Spec PyProof.Rows
noncomputable def rlN (sc:Scope) (names:List (Str × NameKind)):List (Str × NameKind):=names.map fun y=>if (y.2 == NameKind.free && sc.kind == .function && sc.names.lookup y.1 == some .cell)=true then (y.1,NameKind.cell) else (y.1,y.2)
noncomputable def vis2 (o:Option NameKind):Bool:=o == some .cell || o == some .free
noncomputable def Ea (sc scope:Scope) (N cn:List Str) (ix:List Nat):Bool :=
 scope.kind == .function && scope.names.all (fun y=>y.2 != .cell) && scope.names.all (fun y=>y.2 != .free || vis2 (sc.names.lookup y.1)) && scope.names.all (fun y=>y.2 != .local || scope.names.lookup y.1 == some .local) &&
 ix.length == cn.length && (List.range ix.length).all (fun k=>match ix[k]?,cn[k]? with
  | some j,some y=>N[j]? == some y && vis2 (sc.names.lookup y) && scope.names.contains (y,NameKind.free) && vis2 ((rlN sc scope.names).lookup y)
  | _,_=>false) &&
 (rlN sc scope.names).all (fun y=>!(y.2 == .cell || y.2 == .free) || scope.names.contains (y.1,NameKind.free))
theorem qZ {o:Option NameKind} (h:vis2 o=true):o=some .cell∨o=some .free:=by
 unfold vis2 at h
 simpa using h
theorem bY.of {X:Cx} {sc scope:Scope} {N tn cn:List Str} {ix:List Nat} (hsc:X.env.scope=sc) (hN:X.N=N) (h:Ea sc scope N cn ix=true):bY X scope tn cn ix:=by
 unfold Ea at h
 simp only [Bool.and_eq_true] at h
 obtain ⟨⟨⟨⟨⟨⟨h1,h2⟩,h3⟩,h4⟩,h5⟩,h6⟩,h7⟩:=h
 rw [List.all_eq_true] at h2 h3 h4 h6 h7
 have erl:(relabel scope X.env).names=rlN sc scope.names:=by
  unfold relabel rlN
  rw [← hsc]
  rfl
 refine ⟨by simpa using h1,fun y hy=>by simpa using h2 y hy,fun y hy hk=>?_,fun y hy hk=>?_,by simpa using h5,fun k j hk=>?_,fun x hx=>?_⟩
 ·have:=h3 y hy
  rw [hk] at this
  rw [hsc]
  exact qZ (by simpa using this)
 ·have:=h4 y hy
  rw [hk] at this
  simpa using this
 ·have hk':k<ix.length:=(List.getElem?_eq_some_iff.mp hk).1
  have:=h6 k (List.mem_range.mpr hk')
  rw [hk] at this
  cases e:cn[k]? with
  | none=>rw [e] at this; cases this
  | some y =>
   rw [e] at this
   simp only [Bool.and_eq_true] at this
   obtain ⟨⟨⟨a1,a2⟩,a3⟩,a4⟩:=this
   refine ⟨y,rfl,by rw [hN]; simpa using a1,by rw [hsc]; exact qZ a2,by simpa using a3,by rw [erl]; exact qZ a4⟩
 ·rw [erl] at hx
  have mem:∃ k,(x,k)∈rlN sc scope.names∧(k=.cell∨k=.free):=by
   rcases hx with hx | hx
   ·exact ⟨_,PySem.mem_of_lookup hx,.inl rfl⟩
   ·exact ⟨_,PySem.mem_of_lookup hx,.inr rfl⟩
  obtain ⟨k,hm,hk⟩:=mem
  have:=h7 _ hm
  rcases hk with rfl | rfl <;> simpa using this
structure Cal (P:Program) (w:World) (K:PySem.W.Frag) (mg:Str→Option Value) (base:Heap) (k:Nat) (x:Str) (ps:List Str) (sp:Sp):Prop where
 ex:∃ (g:Addr) (fd:FuncData),mg x=some (.ref g)∧PySem.W.keepIn K (.ref g)=true∧Binds K fd ps []∧FnOk P w K mg base CX0 k g fd ps sp
section
variable {X:Cx} {k:Nat} {x:Str} {ps:List Str} {sp:Sp} {p pos:Pos} {e:Expr} {es:List Expr} {t:TA}
theorem Ef (C:Cal X.prog X.w X.K X.mg X.base k x ps sp) (hr:Room k X.A) (ha:PA X (e :: es) t) (hg:Gl X x:=by rfl) (hdb:(x == ("__debug__" : Str))=false:=by decide) (he:starEach (e :: es) X.env=(false,eval e X.env) :: starEach es X.env:=by rfl)
  (hpl:(backTo pos (starEach es X.env)).any (·.1)=false:=by rfl):PE X (.Call (.Name x p) (e :: es) [] pos) (tCall sp [] E0 t):=by
 obtain ⟨g,fd,hm,hk,hb,F⟩:=C.ex
 exact pe_call F hr hg hm hk hb .nil pass0 ha hdb he hpl
end
theorem Fun.cal {P:Program} {w:World} {K:PySem.W.Frag} {mg:Str→Option Value} {base:Heap} {k:Nat} {x qual:Str} {st:Stmt} {f:Addr} {fd:FuncData} {ps:List Str} {sp:Sp} (F:Fun K x qual st f fd) (hm:mg x=some (.ref f))
  (G:FnOk P w K mg base CX0 k f fd ps sp)
  (h:∀ (kV doc pm:Value) (an:Option Addr) (cdv ct:Value) (us:List Value),us.length=ps.length→bindArgs (PySem.W.fnOf x qual (defArgs st) (defBody st) (defScope st) .none kV doc pm an cdv ct) ⟨us,[]⟩=pure (ps.zip us)):Cal P w K mg base k x ps sp :=
 ⟨f,fd,hm,F.kp,F.binds h,G⟩
noncomputable def GlS (mg:Str→Option Value) (x:Str) (z:Str):Prop:=∃ t,mg x=some (.str z t)
noncomputable def GlI (mg:Str→Option Value) (x:Str) (i:Int):Prop:=∃ t,mg x=some (.int i t)
theorem Gx {X:Cx} {x z:Str} {pos:Pos} (h:GlS X.mg x z) (hg:Gl X x:=by rfl) (hd:(x == ("__debug__" : Str))=false:=by decide):PE X (.Name x pos) (tC (.str z)):=by
 obtain ⟨t,e⟩:=h
 exact pe_glob hg e ⟨t,rfl⟩ hd
theorem Fy {X:Cx} {x:Str} {i:Int} {pos:Pos} (h:GlI X.mg x i) (hg:Gl X x:=by rfl) (hd:(x == ("__debug__" : Str))=false:=by decide):PE X (.Name x pos) (tC (.int i)):=by
 obtain ⟨t,e⟩:=h
 exact pe_glob hg e ⟨t,rfl⟩ hd
theorem wV:bootBuiltins "str" = some (.type "str"):=by decide +kernel
theorem vh:bootBuiltins "int" = some (.type "int"):=by decide +kernel
theorem oJ:bootBuiltins "bool" = some (.type "bool"):=by decide +kernel
theorem j7:bootBuiltins "list" = some (.type "list"):=by decide +kernel
theorem mF:bootBuiltins "tuple" = some (.type "tuple"):=by decide +kernel
theorem nj:bootBuiltins "isinstance" = some (.builtin "isinstance"):=by decide +kernel
theorem pG:bootBuiltins "all" = some (.builtin "all"):=by decide +kernel
theorem dw:bootBuiltins "len" = some (.builtin "len"):=by decide +kernel
theorem iY {X:Cx} {x:Str} {T:String} {pos:Pos} (hm:X.mg x=none) (hv:bootBuiltins x=some (.type T)) (hg:Gl X x:=by rfl) (hn:x ≠ "__name__" := by decide) (hd:(x == ("__debug__" : Str))=false:=by decide):PE X (.Name x pos) (tC (.ty T)) :=
 pe_bltn hg hm hv rfl hn hd
noncomputable def inS (i j:Str):Bool:=!(Builtin.Str.occurrences j i 0 j.length 1).isEmpty
theorem Ci (c:Nat) (j:Str):inS ⟨#[c]⟩ j=decide (c∈j.cps.toList):=PySem.StrLaws.found_one j c
noncomputable def rInU (K:PySem.W.Frag) (neg:Bool):R2:=fun x y H Q=>match x,y with
 | .str i,.str j=>Q (.bl (if neg then !inS i j else inS i j)) H
 | _,.ref p=>(∃ o,DGet H p x o∧Q (.bl (if neg then !o.isSome else o.isSome)) H)∨rIn K neg x y H Q
 | _,_=>False
theorem Em {X:Cx} (hu:X.A.units+64<cLine):OpR X (compareOp .In) (rInU X.K false):=by
 intro pins s σ H x y v u Q I rx ry h
 unfold rInU at h
 split at h
 ·exact op_in_str pins s σ H _ _ v u Q I rx ry ⟨_,_,rfl,rfl,h⟩
 ·rcases h with ⟨o,g,q⟩ | h
  ·cases ry
   exact d_in (by walk_at "l") I g rx fun s3 I3=>⟨.bl o.isSome,H,I3,rfl,q⟩
  ·exact op_in_seq pins s σ H _ _ v u Q I rx ry h
 ·exact h.elim
theorem v9 {X:Cx} (hu:X.A.units+64<cLine):OpR X (compareOp .NotIn) (rInU X.K true):=by
 intro pins s σ H x y v u Q I rx ry h
 unfold rInU at h
 split at h
 ·exact op_notin_str pins s σ H _ _ v u Q I rx ry ⟨_,_,rfl,rfl,h⟩
 ·rcases h with ⟨o,g,q⟩ | h
  ·cases ry
   exact d_notIn (by walk_at "l") I g rx fun s3 I3=>⟨.bl (!o.isSome),H,I3,rfl,q⟩
  ·exact op_notIn_seq pins s σ H _ _ v u Q I rx ry h
 ·exact h.elim
theorem Same.upd {H H':Hp} {p:Addr} {o:HO} (h:Same H H') (hp:H' p=none):Same H (upd H' p o):=fun b u e=>by
 have e':=h b u e
 rw [upd_ne (ne_of_none e' hp)]
 exact e'
theorem Same.lst {K:PySem.W.Frag} {H H':Hp} {a:Addr} {xs:List V} (e:Same H H') (h:SqL K H a xs):SqL K H' a xs:=e.seq h
theorem Same.tup {K:PySem.W.Frag} {H H':Hp} {a:Addr} {xs:List V} (e:Same H H') (h:SqT K H a xs):SqT K H' a xs:=by
 rcases h with (h | ⟨o,h⟩) | h
 ·exact .inl (.inl (e _ _ h))
 ·exact .inl (.inr ⟨o,e _ _ h⟩)
 ·exact .inr h
mutual
theorem Rep.same {K:PySem.W.Frag} {H H':Hp} (s:Same H H'):∀ {d:PyData} {v:V},Rep K H d v→Rep K H' d v
 | _,_,.none=>.none
 | _,_,.bool b=>.bool b
 | _,_,.int i=>.int i
 | _,_,.str x=>.str x
 | _,_,.list h hs=>.list (s.lst h) (Reps.same s hs)
 | _,_,.tuple h hs=>.tuple (s.tup h) (Reps.same s hs)
theorem Reps.same {K:PySem.W.Frag} {H H':Hp} (s:Same H H'):∀ {ds:List PyData} {vs:List V},Reps K H ds vs→Reps K H' ds vs
 | _,_,.nil=>.nil
 | _,_,.cons h hs=>.cons (Rep.same s h) (Reps.same s hs)
end
section
variable {X:Cx} {K:PySem.W.Frag}
theorem kEq (hu:X.A.units+64<cLine) (hK:X.K=K:=by rfl):OpR X (compareOp .Eq) (rEqU K):=by subst hK; exact El hu
theorem kNe (hu:X.A.units+64<cLine) (hK:X.K=K:=by rfl):OpR X (compareOp .NotEq) (rNeU K):=by subst hK; exact Eu hu
theorem kIn (hu:X.A.units+64<cLine) (hK:X.K=K:=by rfl):OpR X (compareOp .In) (rInU K false):=by subst hK; exact Em hu
theorem zz (hu:X.A.units+64<cLine) (hK:X.K=K:=by rfl):OpR X (compareOp .NotIn) (rInU K true):=by subst hK; exact v9 hu
theorem kAll (hc:X.calm=true:=by rfl) (hK:X.K=K:=by rfl):CallR X (.builtin "all") (rAll K):=by subst hK; exact v7 hc
variable {tg l:Expr} {tl:TE}
end
theorem JZ {α:Type} {a:α} {p:α→Prop}:(∃ v,a=v∧p v)↔p a:=⟨fun ⟨_,e,h⟩=>e ▸ h,fun h=>⟨a,rfl,h⟩⟩
end L2
set_option Elab.async false
set_option linter.all false
set_option maxRecDepth 100000
set_option maxHeartbeats 4000000
namespace L2
open PySem PySem.Spec PyProof.Rows
noncomputable abbrev Ents:=Array DictEntry
noncomputable def RawD (h:Heap) (d:Addr) (es:Ents) (ep:Nat):Prop:=∃ o,h.get? d=some o∧o.ExactDict∧o.data=.dict es ep
theorem RawD.typ {s:Shared} {d:Addr} {es:Ents} {ep:Nat} (x:RawD s.heap d es ep):s.TypeIs (.ref d) "dict" := let ⟨o,e,c,_⟩:=x; ⟨o,e,c.1⟩
section
variable {prog:Program} {w:World} {A:Around} {E:Value→Shared→Prop} {s:Shared} {d it:Addr} {es:Ents} {ep i:Nat}
theorem yr {Q:Value→Shared→Prop} (lo:(d == sysModules)=false) (x:RawD s.heap d es ep)
  (q:Q (.ref s.heap.objs.size) { s with heap:=s.heap.push { cls:=.type "dict_keyiterator",data:=.fields #[.ref d,.int 0 0,.int es.size 0,.int ep 0] } }):wpAny (model prog w) A (pyIter (.ref d)) Q E s:=by
 obtain ⟨o,ho,hc,hdat⟩:=id x
 refine wpAny_pyIter_slot x.typ F.slot_dict_iter (wpAny_call_entry F.slot_dict_iter x.typ F.entry_dict_iter ?_ (F.args_dict_iter_1 _))
 unfold Builtin.«dict.__iter__»
 refine wpAny_bind ?_
 unfold Builtin.Dict.dictSlotNone
 refine wpAny_bind (wpAny_notOrdered_dict x.typ ?_)
 refine (show wpAny _ _ (pure (Value.ref d)) _ _ s from wpAny_pure ?_)
 refine (show wpAny _ _ (Builtin.Dict.showsAll d >>= _) _ _ s from ?_)
 unfold Builtin.Dict.showsAll
 rw [if_neg (by rw [lo]; decide)]
 refine wpAny_bind (wpAny_pure (wpAny_bind (wpAny_dictEntries ho hdat (wpAny_bind (wpAny_dictEpoch ho hdat (wpAny_bind (wpAny_newObj_type (wpAny_pure ⟨_,rfl, "dict_keyiterator",_,⟨_,Heap.get?_push_size _ rfl,rfl⟩,F.slot_dict_keyiterator_next.lookup,?_⟩))))))))
 simpa [rawInt] using q
theorem yl {Q:Option Value→Shared→Prop} (hit:s.heap.IsKeyIter it d i es.size ep) (x:RawD s.heap d es ep) (hx:i<es.size)
  (q:∀ h',h'.IsKeyIter it d (i+1) es.size ep→Heap.SameBut it s.heap h'→Q (some es[i].key) { s with heap:=h' }):wpAny (model prog w) A (pyNext (.ref it)) Q E s:=by
 obtain ⟨o,ho,hc,hd⟩:=id hit
 obtain ⟨od,hod,hcd,hdd⟩:=id x
 have ty:=hit.typeIs
 unfold pyNext
 refine wpAny_bind (wpAny_attempt (wpAny_callSpecial?_slot (name:=Str.ofString "__next__") ty F.slot_dict_keyiterator_next (wpAny_call_entry F.slot_dict_keyiterator_next ty F.entry_dict_keyiterator_next ?_ (F.args_dict_keyiterator_next_1 _))))
 refine wpAny_bind (wpAny_pure (wpAny_bind (wpAny_bind ?_)))
 first | refine wpAny_bind (wpAny_typeNameOfWhole_keyiter ty (wpAny_pure ?_)) | refine wpAny_bind (wpAny_typeNameOf_keyiter ty (wpAny_pure ?_))
 refine wpAny_bind (wpAny_fieldsOf ho hd ?_)
 simp only [show Builtin.Dict_items.ownsTuple "dict_keyiterator" = false by decide,Bool.false_eq_true,if_false]
 refine (show wpAny _ _ (if (Value.ref d == Value.none)=true then _ else _) _ _ s from ?_)
 rw [if_neg (show ¬ ((Value.ref d == Value.none)=true) by intro h; cases h)]
 refine wpAny_bind (wpAny_pure (wpAny_bind (wpAny_dictEntries hod hdd ?_)))
 rw [if_neg (by intro h; simp at h)]
 refine wpAny_bind (wpAny_pure (wpAny_bind (wpAny_dictEpoch hod hdd ?_)))
 rw [if_neg (by intro h; simp at h)]
 refine wpAny_pure ?_
 simp only [show ¬ ((i:Int)<0) by walk_at "l",if_false,Int.toNat_natCast,Array.getElem?_eq_getElem hx]
 refine wpAny_bind ?_
 first | refine wpAny_bind (wpAny_typeNameOfWhole_keyiter ty (wpAny_pure ?_)) | refine wpAny_bind (wpAny_typeNameOf_keyiter ty (wpAny_pure ?_))
 refine wpAny_bind (wpAny_isOneOf_keyiter ty ?_)
 refine (show wpAny _ _ (setField (.ref it) 1 (rawInt ((i:Int)+1)) >>= _) _ _ s from wpAny_bind (wpAny_setField ho hd (by simp) ?_))
 have hit':(s.heap.update it (Obj.mapFields (·.setIfInBounds 1 (rawInt ((i:Int)+1))))).IsKeyIter it d (i+1) es.size ep :=
  ⟨_,Heap.get?_update_self _ ho (Obj.isFreed_of_fields (Obj.data_mapFields hd _)),(Obj.cls_mapFields ..).trans hc,by rw [Obj.data_mapFields hd]; simp [rawInt]⟩
 refine wpAny_bind (wpAny_holding (wpAny_bind (wpAny_isOneOf_keyiter (s:={ s with heap:=s.heap.update it (Obj.mapFields (·.setIfInBounds 1 (rawInt ((i:Int)+1)))) }) hit'.typeIs ?_)))
 refine (show wpAny _ _ (pure es[i].key) _ _ _ from wpAny_pure (wpAny_pure ⟨_,rfl,wpAny_pure (q _ hit' (Heap.SameBut.update ..))⟩))
theorem yG {Q:Option Value→Shared→Prop} (hh:A.handled=none) (hit:s.heap.IsKeyIter it d es.size es.size ep) (x:RawD s.heap d es ep) (q:∀ h',Heap.ExtBut it s.heap h'→Q none { s with heap:=h' }) :
  wpAny (model prog w) A (pyNext (.ref it)) Q E s:=by
 obtain ⟨o,ho,hc,hd⟩:=id hit
 obtain ⟨od,hod,hcd,hdd⟩:=id x
 have ty:=hit.typeIs
 unfold pyNext
 refine wpAny_bind (wpAny_attempt (wpAny_callSpecial?_slot (name:=Str.ofString "__next__") ty F.slot_dict_keyiterator_next (wpAny_call_entry F.slot_dict_keyiterator_next ty F.entry_dict_keyiterator_next ?_ (F.args_dict_keyiterator_next_1 _))))
 refine wpAny_bind (wpAny_pure (wpAny_bind (wpAny_bind ?_)))
 first | refine wpAny_bind (wpAny_typeNameOfWhole_keyiter ty (wpAny_pure ?_)) | refine wpAny_bind (wpAny_typeNameOf_keyiter ty (wpAny_pure ?_))
 refine wpAny_bind (wpAny_fieldsOf ho hd ?_)
 simp only [show Builtin.Dict_items.ownsTuple "dict_keyiterator" = false by decide,Bool.false_eq_true,if_false]
 refine (show wpAny _ _ (if (Value.ref d == Value.none)=true then _ else _) _ _ s from ?_)
 rw [if_neg (show ¬ ((Value.ref d == Value.none)=true) by intro h; cases h)]
 refine wpAny_bind (wpAny_pure (wpAny_bind (wpAny_dictEntries hod hdd ?_)))
 rw [if_neg (by intro h; simp at h)]
 refine wpAny_bind (wpAny_pure (wpAny_bind (wpAny_dictEpoch hod hdd ?_)))
 rw [if_neg (by intro h; simp at h)]
 refine wpAny_pure ?_
 simp only [show ¬ ((es.size:Int)<0) by walk_at "l",if_false,Int.toNat_natCast,Array.getElem?_eq_none (Nat.le_refl es.size)]
 refine wpAny_bind ?_
 first | refine wpAny_bind (wpAny_typeNameOfWhole_keyiter ty (wpAny_pure ?_)) | refine wpAny_bind (wpAny_typeNameOf_keyiter ty (wpAny_pure ?_))
 refine (show wpAny _ _ (setField (.ref it) 0 .none >>= _) _ _ s from wpAny_bind (wpAny_setField ho hd (by simp) ?_))
 refine (show wpAny _ _ (newExc (.type "StopIteration") [] >>= _) _ _ _ from wpAny_bind ?_)
 simp only [newExc,newTuple]
 refine wpAny_bind (wpAny_newObj_type ?_ (by size_fits))
 refine wpAny_bind (m:=firstArgMember _ _) (wpAny_of_eq (a:=Value.none) (by first | rfl | (simp only [firstArgMember]; rfl)) (wpAny_newObj_type ?_ (by size_fits)))
 simp only [raiseNew]
 refine wpAny_bind (wpAny_handled ?_)
 rw [show A.in1.handled=none from hh]
 refine wpAny_bind (wpAny_pure (wpAny_throw ?_))
 refine wpAny_bind (wpAny_isInstance (b:=true) (T := "StopIteration") ⟨_,Heap.get?_push_size _ rfl,rfl⟩ isSubtype_stop ?_)
 exact wpAny_pure (q _ (((Heap.SameBut.update ..).extBut.push _).push _))
theorem RawD.at {h h':Heap} (x:RawD h d es ep) (e:∀ o,h.get? d=some o→h'.get? d=some o):RawD h' d es ep:=let ⟨o,ho,r⟩:=x; ⟨o,e o ho,r⟩
theorem RawD.lt {h:Heap} (x:RawD h d es ep):d<h.objs.size:=let ⟨_,e,_⟩:=x; Heap.lt_size e
theorem wU (hh:A.handled=none) (I:Addr) (hne:d≠I):Walks prog w A I [I,d] [I] es.size (fun i v=>∃ e,es[i]? = some e∧v=e.key) (fun i h=>h.IsKeyIter I d i es.size ep∧RawD h d es ep) where
 sub:=fun b hb=>by simp at hb; simp [hb]
 frame:=fun _ _ _ st hk=>⟨st.1.at fun o e=>hk I (by simp) o e,st.2.at fun o e=>hk d (by simp) o e⟩
 item:=fun i s Q E hi st hQ=>yl st.1 st.2 hi fun h' a b=>hQ _ h' s.toks ⟨es[i],by simp [hi],rfl⟩ ⟨a,st.2.at fun o e=>b.extBut d o hne e⟩ fun c o hb e=>b.extBut c o (fun h=>hb (by simp [h])) e
 done:=fun s Q E st hQ=>yG hh st.1 st.2 fun h' he'=>hQ h' s.toks fun b o hb e=>he' b o (fun h=>hb (by simp [h])) e
 self:=fun _ _ _ _ st hQ=>wpAny_pyIter_keyiter st.1 hQ
theorem z7 (lo:(d == sysModules)=false):PySem.W.KdlSrc prog w "dict" d d es.size (fun i v=>∃ e,es[i]? = some e∧v=e.key) (fun h=>RawD h d es ep) where
 type:=fun _ x=>x.typ
 there:=fun _ x=>⟨x.lt,x.lt⟩
 keep:=fun _ _ x hk=>x.at fun o e=>hk d (.inl rfl) o e
 notList:=by decide
 notTuple:=by decide
 hint:=fun _ _ _ _ x hq=>PySem.W.kdl_hint_dict x.typ hq
 iter:=fun _ _ hh x=>⟨_,_,(fun _ _ hq=>yr lo x hq),wU hh _ (Nat.ne_of_lt x.lt),⟨⟨_,Heap.get?_push_size _ rfl,rfl,rfl⟩,x.at fun o e=>Heap.get?_push_of_some _ e⟩⟩
end
theorem Paired.n0 {α β:Type} {R:α→β→Prop} {bs:List β} (h:Paired R [] bs):bs=[]:=by cases h; rfl
theorem Paired.c {α β:Type} {R:α→β→Prop} {a:α} {as:List α} {bs:List β} (h:Paired R (a :: as) bs):∃ b cs,bs=b :: cs∧R a b∧Paired R as cs:=by
 cases h with
 | cons r t=>exact ⟨_,_,rfl,r,t⟩
noncomputable def dO (H:Hp) (ys:List V) (ks:List (List Key)):Prop:=Paired (fun (v:V) (k:List Key)=>∃ b,v=.ref b∧H b=some (.tup (k.map kV))) ys ks
section
variable {X:Cx}
noncomputable def sI:List V→Hp→VK→Prop:=fun xs H Q=>match xs with
 | [.ref p]=>∃ kvs,H p=some (.dT kvs)∧∀ ys l,dO H ys (kvs.map (·.1))→H l=none→Q (.ref l) (upd H l (.lst ys))
 | _=>False
theorem BP {prog:Program} {w:World} {H:Hp} {kvs:List (List Key × V)} {xs:List (List Key × Addr × Value)}
  (h:Paired (fun (p:List Key × V) (q:List Key × Addr × Value)=>p.1=q.1∧H q.2.1=some (.tup (p.1.map kV))∧RelV p.2 q.2.2) kvs xs) :
  dO H (xs.map fun q=>.ref q.2.1) (kvs.map (·.1))∧Vals (xs.map fun q=>.ref q.2.1) ((xs.map (entryOfKey (tupleKind (mixKind prog w)))).map (·.key)):=by
 induction h with
 | nil=>exact ⟨.nil,.nil⟩
 | cons r t ih=>exact ⟨.cons ⟨_,rfl,r.2.1⟩ ih.1,.cons rfl ih.2⟩
theorem uF (hc:X.calm=true):CallR X (.type "list") sI:=by
 intro pins s σ H xs us Q I r h
 unfold sI at h
 split at h
 ·rename_i p
  obtain ⟨kvs,e,q⟩:=h
  obtain ⟨u,rfl,ru⟩:=Vals.one r
  cases ru
  obtain ⟨z,y,ps,rel,o,es,ep,h1,h2,h3,h4,h5⟩:=(show ObjOk X.prog X.w H s.heap p (.dT kvs) from I.hok p _ e)
  obtain ⟨ta,va⟩:=BP (prog:=X.prog) (w:=X.w) rel
  have hlen:es.size=kvs.length:=by
   have:=congrArg List.length h4
   rw [Array.length_toList,List.length_map] at this
   rw [this]; exact rel.length.symm
  refine PySem.W.kdl_call (z7 (es:=es) (ep:=ep) y) (I.ok.hd hc) ⟨o,h1,h2,h3⟩ (by walk_at "l") fun h' tk acc c kp eo hacc=>?_
  have hv:acc.toList=(ps.map (entryOfKey (tupleKind (mixKind X.prog X.w)))).map (·.key):=by
   apply List.ext_getElem?
   intro i
   by_cases hi:i<es.size
   ·have hi2:i<acc.size:=by rw [hacc.1]; exact hi
    obtain ⟨en,e1,e2⟩:=hacc.2 i acc[i] (by simp [hi2])
    rw [← h4,List.getElem?_map,Array.getElem?_toList,Array.getElem?_toList,e1]
    simp [hi2,e2]
   ·rw [← h4,List.getElem?_map,Array.getElem?_toList,Array.getElem?_toList,Array.getElem?_eq_none (by rw [hacc.1]; exact Nat.le_of_not_lt ‹_›),Array.getElem?_eq_none (by exact Nat.le_of_not_lt ‹_›)]
    rfl
  refine ⟨.ref s.heap.objs.size,_,I.laid (t':=tk) kp (Nat.le_refl _) (show ObjOk X.prog X.w _ h' _ (.lst (ps.map fun q=>.ref q.2.1)) from ⟨?_,acc.toList,c,?_,?_⟩),rfl,q _ _ ta (I.hok.fresh (Nat.le_refl _))⟩
  ·rw [List.length_map,← rel.length]; exact z
  ·rw [hv]; exact va
  ·rw [Array.toArray_toList]; exact eo
 ·exact h.elim
end
end L2
set_option Elab.async false
set_option linter.all false
set_option maxRecDepth 100000
set_option maxHeartbeats 4000000
namespace Tim
open PySem PyProof.Rows
noncomputable def R (r:Value→Int) (xs:Array Keyed) (i:Nat):Int:=match xs[i]? with
 | some p=>r p.1
 | none=>0
theorem j6 {r:Value→Int} {xs ys:Array Keyed} {i j:Nat} (h:xs[i]? = ys[j]?):R r xs i=R r ys j:=by unfold R; rw [h]
noncomputable def Cmp (prog:Program) (w:World) (A:Around) (s:Shared) (κ:SortKind) (r:Value→Int) (P:Value→Prop):Prop :=
 ∀ x y,P x→P y→∀ (Q:Bool→Shared→Prop) (E:Value→Shared→Prop),Q (decide (r x<r y)) s→wpAny (model prog w) A (keyLt' κ x y) Q E s
noncomputable def AllP (P:Value→Prop) (xs:Array Keyed):Prop:=∀ p∈xs.toList,P p.1
theorem AllP.perm {P:Value→Prop} {xs ys:Array Keyed} (h:AllP P xs) (hp:ys.Perm xs):AllP P ys:=fun p hm=>h p ((Array.perm_iff_toList_perm.mp hp).mem_iff.mp hm)
theorem AllP.at {P:Value→Prop} {xs:Array Keyed} (h:AllP P xs) {i:Nat} {p:Keyed} (e:xs[i]? = some p):P p.1:=h p (by
 obtain ⟨hi,rfl⟩:=Array.getElem?_eq_some_iff.mp e
 simp)
structure Win (lo hi:Nat) (st st':SortSt):Prop where
 kind:kindOf st'=kindOf st
 failed:failedOf st'=failedOf st
 pend:pendingOf st'=pendingOf st
 perm:(arrOf st').Perm (arrOf st)
 out:∀ k,k<lo∨hi≤k→(arrOf st')[k]? = (arrOf st)[k]?
theorem Win.refl (lo hi:Nat) (st:SortSt):Win lo hi st st:=⟨rfl,rfl,rfl,Array.Perm.refl _,fun _ _=>rfl⟩
theorem Win.trans {lo hi:Nat} {a b c:SortSt} (h:Win lo hi a b) (g:Win lo hi b c):Win lo hi a c :=
 ⟨g.kind.trans h.kind,g.failed.trans h.failed,g.pend.trans h.pend,g.perm.trans h.perm,fun k hk=>(g.out k hk).trans (h.out k hk)⟩
theorem Win.mono {lo hi lo' hi':Nat} {a b:SortSt} (h:Win lo hi a b) (h1:lo'≤lo) (h2:hi≤hi'):Win lo' hi' a b :=
 ⟨h.kind,h.failed,h.pend,h.perm,fun k hk=>h.out k (by walk_at "l")⟩
theorem Win.size {lo hi:Nat} {a b:SortSt} (h:Win lo hi a b):(arrOf b).size=(arrOf a).size:=h.perm.size_eq
noncomputable def Up (r:Value→Int) (xs:Array Keyed) (lo hi:Nat):Prop:=∀ i j,lo≤i→i≤j→j<hi→R r xs i≤R r xs j
noncomputable def Down (r:Value→Int) (xs:Array Keyed) (lo hi:Nat):Prop:=∀ i j,lo≤i→i≤j→j<hi→R r xs j≤R r xs i
theorem tW {r:Value→Int} {xs:Array Keyed} {src d:Nat} (hs:src<xs.size) (hd:d≤src) (k:Nat) :
  R r (bubble xs src d) k=if k=src - d then R r xs src else if src - d<k∧k≤src then R r xs (k - 1) else R r xs k:=by
 have e:=getElem?_bubble hs d hd k
 by_cases h1:k=src - d
 ·rw [if_pos h1] at e ⊢; exact j6 e
 ·rw [if_neg h1] at e ⊢
  by_cases h2:src - d<k∧k≤src
  ·rw [if_pos h2] at e ⊢; exact j6 e
  ·rw [if_neg h2] at e ⊢; exact j6 e
theorem m7 {r:Value→Int} {xs:Array Keyed} {i j:Nat} (hj:j≤xs.size) (k:Nat) :
  R r (mirror xs i j ((j - i) / 2)) k=if i≤k∧k<j then R r xs (i+j - 1 - k) else R r xs k:=by
 have e:=getElem?_mirror_all (i:=i) hj k
 by_cases h1:i≤k∧k<j
 ·rw [if_pos h1] at e ⊢; exact j6 e
 ·rw [if_neg h1] at e ⊢; exact j6 e
theorem cC {r:Value→Int} {xs:Array Keyed} {i j:Nat} (hj:j≤xs.size) (heq:∀ k,i≤k→k<j→R r xs k=R r xs (j - 1)) (k:Nat) :
  R r (mirror xs i j ((j - i) / 2)) k=R r xs k:=by
 rw [m7 hj]
 split
 ·rw [heq _ (by walk_at "l") (by walk_at "l"),heq k (by walk_at "l") (by walk_at "l")]
 ·rfl
section
variable {prog:Program} {w:World} {A:Around} {E:Value→Shared→Prop} {s:Shared} {κ:SortKind} {r:Value→Int} {P:Value→Prop}
theorem Ec {st:SortSt} {x y:Keyed} {Q:Option Bool→SortSt→Prop} (C:Cmp prog w A s κ r P) (hk:kindOf st=κ) (hx:P x.1) (hy:P y.1) (h:Q (some (decide (r x.1<r y.1))) st) :
  wpS (model prog w) A E s (lt' x y) Q st:=by
 rw [lt'_eq]
 refine wpS_bind (wpS_get ?_)
 rw [hk]
 refine wpS_bind (wpS_lift (wpAny_attempt (C x.1 y.1 hx hy _ _ ⟨rfl,?_⟩)))
 exact wpS_pure h
theorem sH {xs:Array Keyed} {i:Nat} {Q:Keyed→SortSt→Prop} {st:SortSt} (hi:i<xs.size) (h:∀ p,xs[i]? = some p→Q p st):wpS (model prog w) A E s (elem' xs i) Q st:=by
 rw [elem'_eq,getElem?_pos xs i hi]
 exact wpS_pure (h _ (getElem?_pos xs i hi))
theorem jr {st:SortSt} {i j:Nat} {Q:Option Bool→SortSt→Prop} (C:Cmp prog w A s κ r P) (hk:kindOf st=κ) (hP:AllP P (arrOf st)) (hi:i<(arrOf st).size) (hj:j<(arrOf st).size)
  (h:Q (some (decide (R r (arrOf st) i<R r (arrOf st) j))) st):wpS (model prog w) A E s (ltAt' i j) Q st:=by
 rw [ltAt'_eq]
 refine wpS_bind (wpS_get ?_)
 show wpS _ _ _ _ (do let x ← elem' (arrOf st) i; let y ← elem' (arrOf st) j; lt' x y) Q st
 refine wpS_bind (sH hi fun p ep=>wpS_bind (sH hj fun q eq=>Ec C hk (hP.at ep) (hP.at eq) ?_))
 have e1:R r (arrOf st) i=r p.1:=by unfold R; rw [ep]
 have e2:R r (arrOf st) j=r q.1:=by unfold R; rw [eq]
 rw [← e1,← e2]
 exact h
theorem dg {st:SortSt} {i j:Nat} {Q:Unit→SortSt→Prop} (h:Q () (setArr st (mirror (arrOf st) i j ((j - i) / 2)))) :
  wpS (model prog w) A E s (reverseSlice' i j) Q st:=by
 rw [reverseSlice'_eq]; exact wpS_modify h
theorem fM {st:SortSt} {i j:Nat} (hj:j≤(arrOf st).size):Win i j st (setArr st (mirror (arrOf st) i j ((j - i) / 2))) :=
 ⟨rfl,rfl,rfl,mirror_perm _ _ _ _,fun k hk=>by
  have e:=getElem?_mirror_all (i:=i) hj k
  rw [if_neg (by (clear hj e; walk_at "l"))] at e
  exact e⟩
theorem uy {st:SortSt} {lo src d:Nat} (hs:src<(arrOf st).size) (hd:lo+d≤src):Win lo (src+1) st (setArr st (bubble (arrOf st) src d)) :=
 ⟨rfl,rfl,rfl,bubble_perm _ _ _,fun k hk=>by
  have e:=getElem?_bubble hs d (by (clear hs hk; walk_at "s4")) k
  rw [if_neg (by (clear hs e; walk_at "l")),if_neg (by (clear hs e; walk_at "l"))] at e
  exact e⟩
theorem wpS_binarySort {st:SortSt} {lo n ok:Nat} {Q:Bool→SortSt→Prop} (C:Cmp prog w A s κ r P) (hk:kindOf st=κ) (hP:AllP P (arrOf st)) (hn:lo+n≤(arrOf st).size) (hok:ok≤n) (hs:Up r (arrOf st) lo (lo+ok))
  (h:∀ st',Win lo (lo+n) st st'→Up r (arrOf st') lo (lo+n)→Q true st'):wpS (model prog w) A E s (binarySort' lo n ok) Q st:=by
 rw [binarySort'_eq]
 refine wpS_bind (wpS_mono (wpS_forRange (I:=fun k c st'=>c=(none,())∧Win lo (lo+n) st st'∧Up r (arrOf st') lo (lo+min k n))
  (Q:=fun c st'=>c=(none,())∧Win lo (lo+n) st st'∧Up r (arrOf st') lo (lo+n)) ?step ?fin ?init) ?post)
 case post =>
  rintro c st' ⟨rfl,hB',hs'⟩
  exact wpS_pure (h st' hB' hs')
 case init =>
  refine ⟨rfl,.refl _ _ _,fun i j hl hij hj=>?_⟩
  by_cases h1:ok=0
  ·have:i=j:=by (clear hk hn hok; walk_at "l")
   subst this; exact Int.le_refl _
  ·exact hs i j hl hij (by (clear hk hn hl hij; walk_at "l"))
 case fin =>
  rintro c st' ⟨hc,hB',hs'⟩
  refine ⟨hc,hB',?_⟩
  rwa [show min (max (max ok 1) n) n=n by (clear hk hn hok hc; walk_at "l")] at hs'
 case step =>
  rintro k c st' hak hkn ⟨rfl,hB',hs'⟩
  rw [show min k n=k by (clear hk hn hok hak; walk_at "l")] at hs'
  have hsz:=hB'.size
  have hk':kindOf st'=κ:=hB'.kind.trans hk
  have hP':=hP.perm hB'.perm
  refine wpS_bind (wpS_mono (wpS_forRange (I:=fun x c st''=>st''=st'∧∃ l r',c=(none,l,r')∧l≤r'∧r'≤k∧r' - l≤k - x ∧
    (∀ i,lo≤i→i<lo+l→R r (arrOf st') i≤R r (arrOf st') (lo+k))∧(∀ i,lo+r'≤i→i<lo+k→R r (arrOf st') (lo+k)<R r (arrOf st') i))
   (Q:=fun c st''=>st''=st'∧∃ l r',c=(none,l,r')∧l≤k ∧
    (∀ i,lo≤i→i<lo+l→R r (arrOf st') i≤R r (arrOf st') (lo+k))∧(∀ i,lo+l≤i→i<lo+k→R r (arrOf st') (lo+k)<R r (arrOf st') i)) ?istep ?ifin ?iinit) ?ipost)
  case iinit=>exact ⟨rfl,0,k,rfl,by (clear hk hn hok hak hkn hsz hk'; exact Nat.zero_le _),by (clear hk hn hok hak hkn hsz hk'; exact Nat.le_refl _),by (clear hk hn hok hak hkn hsz hk'; exact Nat.sub_le _ _),fun i _ hi=>by (clear hk hn hok hak hkn hsz hk'; walk_at "l"),fun i h1 h2=>by (clear hk hn hok hak hkn hsz hk'; walk_at "l")⟩
  case ifin =>
   rintro c st'' ⟨rfl,l,r',rfl,hlr,hrk,hm,hlo,hhi⟩
   have:l=r':=by (clear hk hn hok hak hkn hsz hk' hrk; walk_at "l")
   subst this
   exact ⟨rfl,l,l,rfl,hrk,hlo,hhi⟩
  case istep =>
   rintro x c st'' _ hxk ⟨rfl,l,r',rfl,hlr,hrk,hm,hlo,hhi⟩
   dsimp only
   by_cases hge:l ≥ r'
   ·rw [if_pos hge]
    have:l=r':=by (clear hk hn hok hak hkn hxk hsz hk' hrk hm; exact Nat.le_antisymm ‹_› ‹_›)
    subst this
    exact wpS_pure ⟨rfl,l,l,rfl,hrk,hlo,hhi⟩
   ·rw [if_neg hge]
    refine wpS_bind (jr C hk' hP' (by (clear hk hok hak hxk hk' hlr hrk hm hge; walk_at "l")) (by (clear hk hok hak hxk hk' hlr hm; walk_at "l")) ?_)
    by_cases hless:R r (arrOf st'') (lo+k)<R r (arrOf st'') (lo+(l+r') / 2)
    ·simp only [hless,decide_true,if_true]
     refine wpS_pure ⟨rfl,l,(l+r') / 2,rfl,by (clear hk hn hok hak hkn hxk hsz hk' hlr hrk hm hless; walk_at "l"),by (clear hk hn hok hak hkn hxk hsz hk' hlr hm hless; walk_at "l"),by (clear hk hn hok hak hkn hsz hk' hlr hrk hless; walk_at "l"),hlo,fun i h1 h2=>?_⟩
     exact Int.lt_of_lt_of_le hless (hs' _ _ (by (clear hk hn hok hak hkn hxk hsz hk' hlr hrk hm hless h1 h2; exact Nat.le_add_right _ _)) h1 h2)
    ·simp only [hless,decide_false,Bool.false_eq_true,if_false]
     refine wpS_pure ⟨rfl,(l+r') / 2+1,r',rfl,by (clear hk hn hok hak hkn hxk hsz hk' hlr hrk hm hless; walk_at "l"),by (clear hk hn hok hak hkn hxk hsz hk' hlr hm hge hless; walk_at "l"),by (clear hk hn hok hak hkn hsz hk' hlr hrk hless; walk_at "l"),fun i h0 h1=>?_,hhi⟩
     exact Int.le_trans (hs' i (lo+(l+r') / 2) h0 (by (clear hk hn hok hak hkn hxk hsz hk' hlr hrk hm hge hless h0; walk_at "l")) (by (clear hk hn hok hak hkn hxk hsz hk' hlr hm hless h0 h1; walk_at "l"))) (Int.not_lt.mp hless)
  case ipost =>
   rintro c st'' ⟨rfl,l,r',rfl,hlk,hlo,hhi⟩
   show wpS _ _ _ _ (do moveDown' (lo+k) (lo+l); pure (ForInStep.yield (none,()))) _ _
   rw [moveDown'_eq]
   have hks:lo+k<(arrOf st'').size:=by (clear hk hok hak hk' hlk; walk_at "l")
   refine wpS_bind (wpS_modify (wpS_pure ⟨rfl,hB'.trans ((uy (lo:=lo) hks (by (clear hk hn hok hak hkn hsz hk' hks; walk_at "l"))).mono (Nat.le_refl _) (by (clear hk hn hok hak hsz hk' hlk hks; walk_at "l"))),?_⟩))
   rw [show min (k+1) n=k+1 by (clear hk hn hok hak hsz hk' hlk hks; exact Nat.min_eq_left ‹_›)]
   intro i j hl hij hj
   show R r (bubble (arrOf st'') (lo+k) (lo+k - (lo+l))) i≤R r (bubble (arrOf st'') (lo+k) (lo+k - (lo+l))) j
   rw [tW hks (by (clear hk hn hok hak hkn hsz hk' hks hl hij hj; exact Nat.sub_le _ _)),tW hks (by (clear hk hn hok hak hkn hsz hk' hks hl hij hj; exact Nat.sub_le _ _)),show lo+k - (lo+k - (lo+l))=lo+l by (clear hk hn hok hak hkn hsz hk' hks hl hij hj; walk_at "l")]
   repeat' split
   all_goals first
    | (exfalso; (clear hk hn hok hak hkn hsz hk' hlk hks hl; walk_at "l"))
    | exact Int.le_refl _
    | exact hlo _ (by (clear hk hn hok hak hkn hsz hk' hlk hks hij hj; walk_at "l")) (by (clear hk hn hok hak hkn hsz hk' hlk hks hl; walk_at "l"))
    | exact Int.le_of_lt (hhi _ (by (clear hk hn hok hak hkn hsz hk' hlk hks hl hij hj; walk_at "l")) (by (clear hk hn hok hak hkn hsz hk' hlk hks hl hij; walk_at "l")))
    | exact hs' _ _ (by (clear hk hn hok hak hkn hsz hk' hlk hks hij hj; walk_at "l")) (by (clear hk hn hok hak hkn hsz hk' hlk hks hl; walk_at "l")) (by (clear hk hn hok hak hkn hsz hk' hks hl hij; walk_at "l"))
end
noncomputable def ascL (lo a nrem:Nat):StateT SortSt Sem AscSt :=
 forIn [a:nrem] ((none,a):AscSt) fun _ __s=>do
  let __x ← ltAt' (lo + __s.snd) (lo + __s.snd - 1)
  match __x with
  | some smaller=>if smaller=true then pure (ForInStep.done (none,__s.snd)) else pure (ForInStep.yield (none,__s.snd+1))
  | _=>pure (ForInStep.done (some none,__s.snd))
noncomputable def pQ (lo n nrem:Nat):StateT SortSt Sem (Option Nat):=do
 reverseSlice' lo (lo+n)
 let __s ← ascL lo n nrem
 match __s.fst with
 | some r=>pure r
 | none=>pure (some __s.snd)
noncomputable def yj (lo n nrem:Nat):StateT SortSt Sem DescSt :=
 forIn [n:nrem] ((none,n,0):DescSt) fun _ __s=>do
  let __x ← ltAt' (lo + __s.snd.fst) (lo + __s.snd.fst - 1)
  match __x with
  | some smaller =>
   if smaller=true then
    if __s.snd.snd>0 then do
     reverseSlice' (lo+__s.snd.fst - (__s.snd.snd+1)) (lo+__s.snd.fst)
     pure (ForInStep.yield (none,__s.snd.fst+1,0))
    else pure (ForInStep.yield (none,__s.snd.fst+1,0))
   else do
    let __x ← ltAt' (lo+__s.snd.fst - 1) (lo+__s.snd.fst)
    match __x with
    | some larger =>
     if larger=true then pure (ForInStep.done (none,__s.snd.fst,__s.snd.snd))
     else pure (ForInStep.yield (none,__s.snd.fst+1,__s.snd.snd+1))
    | _=>pure (ForInStep.done (some none,__s.snd.fst,__s.snd.snd))
  | _=>pure (ForInStep.done (some none,__s.snd.fst,__s.snd.snd))
noncomputable def e_ (lo n nrem:Nat):StateT SortSt Sem (Option Nat):=do
 liftM (rule "list.sort.descending-run")
 let __s ← yj lo (n+1) nrem
 match __s.fst with
 | some r=>pure r
 | none =>
  if __s.snd.snd>0 then do
   reverseSlice' (lo+__s.snd.fst - (__s.snd.snd+1)) (lo+__s.snd.fst)
   pQ lo __s.snd.fst nrem
  else pQ lo __s.snd.fst nrem
theorem oY (lo nrem:Nat):countRun' lo nrem=(do
  let __s ← ascL lo 1 nrem
  match __s.fst with
  | some r=>pure r
  | none =>
   if (__s.snd == nrem)=true then pure (some __s.snd)
   else if __s.snd>1 then do
    let __x ← ltAt' lo (lo+__s.snd - 1)
    match __x with
    | some rose=>if rose=true then pure (some __s.snd) else do
      reverseSlice' lo (lo+__s.snd)
      e_ lo __s.snd nrem
    | _=>pure none
   else e_ lo __s.snd nrem):=by
 rw [countRun'_eq]
 dsimp only
 unfold e_ pQ yj ascL
 congr 1
 funext __s
 obtain ⟨r,n⟩:=__s
 cases r with
 | some r=>rfl
 | none =>
  dsimp only
  split
  ·rfl
  ·split
   ·congr 1
    funext x
    cases x with
    | none=>rfl
    | some rose =>
     dsimp only
     split
     ·rfl
     ·congr 1
      funext _r
      (congr 1; funext _u; congr 1; congr 1; funext s2; obtain ⟨r2,n2,q2⟩:=s2; cases r2 with
       | some r2=>rfl
       | none=>(dsimp only; split; (congr 1; funext _v; (congr 1; funext _w; congr 1; (funext s3; obtain ⟨r3,n3⟩:=s3; cases r3 <;> rfl))); (congr 1; funext _w; congr 1; (funext s3; obtain ⟨r3,n3⟩:=s3; cases r3 <;> rfl))))
   ·(congr 1; funext _u; congr 1; congr 1; funext s2; obtain ⟨r2,n2,q2⟩:=s2; cases r2 with
     | some r2=>rfl
     | none=>(dsimp only; split; (congr 1; funext _v; (congr 1; funext _w; congr 1; (funext s3; obtain ⟨r3,n3⟩:=s3; cases r3 <;> rfl))); (congr 1; funext _w; congr 1; (funext s3; obtain ⟨r3,n3⟩:=s3; cases r3 <;> rfl))))
section
variable {prog:Program} {w:World} {A:Around} {E:Value→Shared→Prop} {s:Shared} {κ:SortKind} {r:Value→Int} {P:Value→Prop}
theorem rT {st:SortSt} {lo a nrem:Nat} {Q:AscSt→SortSt→Prop} (C:Cmp prog w A s κ r P) (hk:kindOf st=κ) (hP:AllP P (arrOf st)) (hn:lo+nrem≤(arrOf st).size) (ha:1≤a) (han:a≤nrem)
  (hs:Up r (arrOf st) lo (lo+a))
  (h:∀ n,a≤n→n≤nrem→Up r (arrOf st) lo (lo+n)→(n=nrem∨R r (arrOf st) (lo+n)<R r (arrOf st) (lo+n - 1))→Q (none,n) st) :
  wpS (model prog w) A E s (ascL lo a nrem) Q st:=by
 unfold ascL
 refine wpS_forRange (I:=fun x c st'=>st'=st∧c=(none,x)∧Up r (arrOf st) lo (lo+x)) ?step ?fin ⟨rfl,rfl,hs⟩
 case fin =>
  rintro c st' ⟨rfl,rfl,hs'⟩
  rw [show max a nrem=nrem by (clear ha hk hn; walk_at "l")] at hs' ⊢
  exact h nrem han (Nat.le_refl _) hs' (.inl rfl)
 case step =>
  rintro x c st' hax hxn ⟨rfl,rfl,hs'⟩
  dsimp only
  refine wpS_bind (jr C hk hP (by (clear ha han hax hk; walk_at "l")) (by (clear han hk; walk_at "l")) ?_)
  by_cases hless:R r (arrOf st') (lo+x)<R r (arrOf st') (lo+x - 1)
  ·simp only [hless,decide_true,if_true]
   exact wpS_pure (h x hax (by (clear ha han hax hk hn hless; exact Nat.le_of_lt ‹_›)) hs' (.inr hless))
  ·simp only [hless,decide_false,Bool.false_eq_true,if_false]
   refine wpS_pure ⟨rfl,rfl,fun i j hl hij hj=>?_⟩
   by_cases hjx:j<lo+x
   ·exact hs' i j hl hij hjx
   ·have hj':j=lo+x:=by (clear ha han hax hxn hk hn hless hl hij; walk_at "l")
    subst hj'
    by_cases hi':i=lo+x
    ·subst hi'; exact Int.le_refl _
    ·exact Int.le_trans (hs' i (lo+x - 1) hl (by (clear han hxn hk hn hless hl hj hjx; walk_at "l")) (by (clear han hxn hk hn hless hl hij hj hjx hi'; walk_at "l"))) (Int.not_lt.mp hless)
theorem lH {st:SortSt} {lo n nrem:Nat} {Q:Option Nat→SortSt→Prop} (C:Cmp prog w A s κ r P) (hk:kindOf st=κ) (hP:AllP P (arrOf st)) (hn:lo+nrem≤(arrOf st).size) (h1:1≤n) (hnn:n≤nrem)
  (hs:Down r (arrOf st) lo (lo+n)) (h:∀ m st',Win lo (lo+nrem) st st'→1≤m→m≤nrem→Up r (arrOf st') lo (lo+m)→Q (some m) st') :
  wpS (model prog w) A E s (pQ lo n nrem) Q st:=by
 unfold pQ
 have hsz:lo+n≤(arrOf st).size:=by (clear hk h1; walk_at "l")
 refine wpS_bind (dg ?_)
 have hB':=fM (i:=lo) hsz
 refine wpS_bind (rT C (hB'.kind.trans hk) (hP.perm hB'.perm) (by rw [hB'.size]; exact hn) h1 hnn ?_ fun m hm1 hm2 hsm _=>wpS_pure (h m _ (hB'.mono (Nat.le_refl _) (by (clear hk hn h1 hsz hm1 hm2; walk_at "l"))) (by (clear hk hn hnn hsz hm2; walk_at "s1")) hm2 hsm))
 intro i j hl hij hj
 show R r (mirror (arrOf st) lo (lo+n) ((lo+n - lo) / 2)) i≤R r (mirror (arrOf st) lo (lo+n) ((lo+n - lo) / 2)) j
 rw [m7 hsz,m7 hsz,if_pos (by (clear hk hn h1 hnn hsz; walk_at "l")),if_pos (by (clear hk hn h1 hnn hsz; walk_at "l"))]
 exact hs _ _ (by (clear hk hn h1 hnn hsz hl hij; walk_at "l")) (by (clear hk hn h1 hnn hsz hl; walk_at "l")) (by (clear hk hn h1 hnn hsz hij; walk_at "l"))
theorem vp {st:SortSt} {lo n nrem:Nat} {Q:DescSt→SortSt→Prop} (C:Cmp prog w A s κ r P) (hk:kindOf st=κ) (hP:AllP P (arrOf st)) (hn:lo+nrem≤(arrOf st).size) (h1:1≤n) (hnn:n≤nrem)
  (hs:Down r (arrOf st) lo (lo+n))
  (h:∀ m neq st',Win lo (lo+nrem) st st'→n≤m→m≤nrem→Down r (arrOf st') lo (lo+m)→neq+1≤m→(∀ i,lo+m - (neq+1)≤i→i<lo+m→R r (arrOf st') i=R r (arrOf st') (lo+m - 1))→Q (none,m,neq) st') :
  wpS (model prog w) A E s (yj lo n nrem) Q st:=by
 unfold yj
 refine wpS_forRange (I:=fun x c st'=>∃ neq,c=(none,x,neq)∧Win lo (lo+nrem) st st'∧Down r (arrOf st') lo (lo+x)∧neq+1≤x ∧
   (∀ i,lo+x - (neq+1)≤i→i<lo+x→R r (arrOf st') i=R r (arrOf st') (lo+x - 1))) ?step ?fin ⟨0,rfl,.refl _ _ _,hs,by (clear hk hn hnn; walk_at "l"),fun i h1 h2=>by congr 1; (clear hk hn hnn; walk_at "l")⟩
 case fin =>
  rintro c st' ⟨neq,rfl,hB',hs',hq,he⟩
  rw [show max n nrem=nrem by (clear hk hn h1 hq; walk_at "l")] at hs' hq he ⊢
  exact h nrem neq st' hB' hnn (Nat.le_refl _) hs' hq he
 case step =>
  rintro x c st' hax hxn ⟨neq,rfl,hB',hs',hq,he⟩
  dsimp only
  have hz:=hB'.size
  have hsz:lo+x≤(arrOf st').size:=by (clear hk h1 hnn hax hq; walk_at "l")
  have hk':=hB'.kind.trans hk
  have hP':=hP.perm hB'.perm
  refine wpS_bind (jr C hk' hP' (by (clear hk h1 hnn hax hq hk'; walk_at "l")) (by (clear hk hn hnn hxn hq hz hk'; walk_at "l")) ?_)
  by_cases hless:R r (arrOf st') (lo+x)<R r (arrOf st') (lo+x - 1)
  ·simp only [hless,decide_true,if_true]
   have step1:∀ xs:Array Keyed,(∀ k,R r xs k=R r (arrOf st') k)→Down r xs lo (lo+(x+1)):=by
    intro xs hkk i j hl hij hj
    rw [hkk,hkk]
    by_cases hjx:j<lo+x
    ·exact hs' i j hl hij hjx
    ·have hj':j=lo+x:=by (clear hk hn h1 hnn hax hxn hq hz hsz hk' hless hl hij; walk_at "l")
     subst hj'
     by_cases hi':i=lo+x
     ·subst hi'; exact Int.le_refl _
     ·exact Int.le_trans (Int.le_of_lt hless) (hs' i (lo+x - 1) hl (by (clear hk hn h1 hnn hax hxn hq hz hsz hk' hless hl hj hjx; walk_at "l")) (by (clear hk hn hnn hxn hq hz hsz hk' hless hl hij hj hjx hi'; walk_at "l")))
   by_cases hneq:neq>0
   ·rw [if_pos hneq]
    refine wpS_bind (dg (wpS_pure ⟨0,rfl,hB'.trans ((fM hsz).mono (by (clear hk hn h1 hnn hax hxn hz hsz hk' hless hneq; walk_at "l")) (by (clear hk hn h1 hnn hax hq hz hsz hk' hless hneq; walk_at "l"))),step1 _ (cC hsz he),by (clear hk hn h1 hnn hax hxn hq hz hsz hk' hless hneq; exact Nat.succ_pos _),fun i h1 h2=>by congr 1; (clear hk hn hnn hxn hq hz hsz hk' hless hneq; walk_at "l")⟩))
   ·rw [if_neg hneq]
    exact wpS_pure ⟨0,rfl,hB',step1 _ (fun _=>rfl),by (clear hk hn h1 hnn hax hxn hq hz hsz hk' hless hneq; exact Nat.succ_pos _),fun i h1 h2=>by congr 1; (clear hk hn hnn hxn hq hz hsz hk' hless hneq; walk_at "l")⟩
  ·simp only [hless,decide_false,Bool.false_eq_true,if_false]
   refine wpS_bind (jr C hk' hP' (by (clear hk hn hnn hxn hq hz hk' hless; walk_at "l")) (by (clear hk h1 hnn hax hq hk' hless; walk_at "l")) ?_)
   by_cases hlarger:R r (arrOf st') (lo+x - 1)<R r (arrOf st') (lo+x)
   ·simp only [hlarger,decide_true,if_true]
    exact wpS_pure (h x neq st' hB' hax (by (clear hk hn h1 hnn hax hq hz hsz hk' hless hlarger; exact Nat.le_of_lt ‹_›)) hs' hq he)
   ·simp only [hlarger,decide_false,Bool.false_eq_true,if_false]
    have heqx:R r (arrOf st') (lo+x)=R r (arrOf st') (lo+x - 1):=by (clear hk hn h1 hnn hax hxn hq hz hsz hk'; walk_at "l")
    refine wpS_pure ⟨neq+1,rfl,hB',fun i j hl hij hj=>?_,by (clear hk hn h1 hnn hax hxn hz hsz hk' hless hlarger heqx; exact Nat.lt_succ_of_le ‹_›),fun i h1 h2=>?_⟩
    ·by_cases hjx:j<lo+x
     ·exact hs' i j hl hij hjx
     ·have hj':j=lo+x:=by (clear hk hn h1 hnn hax hxn hq hz hsz hk' hless hlarger heqx hl hij; walk_at "l")
      subst hj'
      by_cases hi':i=lo+x
      ·subst hi'; exact Int.le_refl _
      ·rw [heqx]; exact hs' i (lo+x - 1) hl (by (clear hk hn h1 hnn hax hxn hq hz hsz hk' hless hlarger heqx hl hj hjx; walk_at "l")) (by (clear hk hn hnn hxn hq hz hsz hk' hless hlarger heqx hl hij hj hjx hi'; walk_at "l"))
    ·rw [show lo+(x+1) - 1=lo+x by (clear hk hn hnn hxn hq hz hsz hk' hless hlarger heqx h1 h2; rfl)]
     by_cases hix:i=lo+x
     ·subst hix; rfl
     ·rw [heqx]; exact he i (by (clear hk hn hnn hax hxn hz hsz hk' hless hlarger heqx; walk_at "l")) (by (clear hk hn hnn hax hxn hq hz hsz hk' hless hlarger heqx h1; walk_at "l"))
theorem gH {st:SortSt} {lo n nrem:Nat} {Q:Option Nat→SortSt→Prop} (C:Cmp prog w A s κ r P) (hk:kindOf st=κ) (hP:AllP P (arrOf st)) (hn:lo+nrem≤(arrOf st).size) (hnn:n+1≤nrem)
  (hs:Down r (arrOf st) lo (lo+(n+1))) (h:∀ m st',Win lo (lo+nrem) st st'→1≤m→m≤nrem→Up r (arrOf st') lo (lo+m)→Q (some m) st') :
  wpS (model prog w) A E s (e_ lo n nrem) Q st:=by
 unfold e_
 refine wpS_bind (wpS_lift (wpAny_rule ⟨rfl,?_⟩))
 refine wpS_bind (vp C hk hP hn (by (clear hk hn hnn; exact Nat.succ_pos _)) hnn hs fun m neq st' hB' hm1 hm2 hs' hq he=>?_)
 dsimp only
 have hz:=hB'.size
 have hsz:lo+m≤(arrOf st').size:=by (clear hk hnn hm1 hq; walk_at "l")
 have hk':=hB'.kind.trans hk
 have hP':=hP.perm hB'.perm
 by_cases hneq:neq>0
 ·rw [if_pos hneq]
  have hW:=fM (i:=lo+m - (neq+1)) hsz
  refine wpS_bind (dg (lH C (hW.kind.trans hk') (hP'.perm hW.perm) (by rw [hW.size,hz]; exact hn) (by (clear hk hn hnn hm1 hm2 hz hsz hk'; walk_at "s2")) hm2 ?_ fun m2 st2 hB2=>h m2 st2 ((hB'.trans (hW.mono (by (clear hk hn hnn hm1 hm2 hz hsz hk' hneq; walk_at "l")) (by (clear hk hn hnn hm1 hq hz hsz hk' hneq; walk_at "l")))).trans hB2)))
  intro i j hl hij hj
  show R r (mirror (arrOf st') _ _ _) j≤R r (mirror (arrOf st') _ _ _) i
  rw [cC hsz he,cC hsz he]
  exact hs' i j hl hij hj
 ·rw [if_neg hneq]
  exact lH C hk' hP' (by rw [hz]; exact hn) (by (clear hk hn hnn hm1 hm2 hz hsz hk'; walk_at "l")) hm2 hs' fun m2 st2 hB2=>h m2 st2 (hB'.trans hB2)
theorem wpS_countRun {st:SortSt} {lo nrem:Nat} {Q:Option Nat→SortSt→Prop} (C:Cmp prog w A s κ r P) (hk:kindOf st=κ) (hP:AllP P (arrOf st)) (hn:lo+nrem≤(arrOf st).size) (h1:1≤nrem)
  (h:∀ m st',Win lo (lo+nrem) st st'→1≤m→m≤nrem→Up r (arrOf st') lo (lo+m)→Q (some m) st') :
  wpS (model prog w) A E s (countRun' lo nrem) Q st:=by
 rw [oY]
 refine wpS_bind (rT C hk hP hn (Nat.le_refl 1) h1 (fun i j hl hij hj=>by
  have:i=j:=by (clear hk hn h1; walk_at "l")
  subst this; exact Int.le_refl _) fun n hn1 hn2 hsn hor=>?_)
 dsimp only
 by_cases hnn:n=nrem
 ·rw [if_pos (by simpa using hnn)]
  exact wpS_pure (h n st (.refl _ _ _) hn1 hn2 hsn)
 ·rw [if_neg (by simpa using hnn)]
  have hlt:R r (arrOf st) (lo+n)<R r (arrOf st) (lo+n - 1):=hor.resolve_left hnn
  by_cases hgt:n>1
  ·rw [if_pos hgt]
   refine wpS_bind (jr C hk hP (by (clear hk hn1 hn2 hor hnn hlt hgt; walk_at "l")) (by (clear hk h1 hn1 hor hnn hlt; walk_at "l")) ?_)
   by_cases hrose:R r (arrOf st) lo<R r (arrOf st) (lo+n - 1)
   ·simp only [hrose,decide_true,if_true]
    exact wpS_pure (h n st (.refl _ _ _) hn1 hn2 hsn)
   ·simp only [hrose,decide_false,Bool.false_eq_true,if_false]
    have hsz:lo+n≤(arrOf st).size:=by (clear hk h1 hn1 hor hnn hlt hgt hrose; walk_at "l")
    have hall:∀ k,lo≤k→k<lo+n→R r (arrOf st) k=R r (arrOf st) (lo+n - 1):=by
     intro k hl hk
     have a1:=hsn lo k (by (clear hn h1 hn1 hn2 hor hnn hlt hgt hrose hsz hl hk; exact Nat.le_refl _)) hl hk
     have a2:=hsn k (lo+n - 1) hl (by (clear hn h1 hn1 hn2 hor hnn hlt hgt hrose hsz hl a1; walk_at "l")) (by (clear hn h1 hn1 hn2 hor hnn hlt hrose hsz hl hk a1; walk_at "l"))
     (clear hn h1 hn1 hn2 hor hnn hlt hgt hsz hl hk; walk_at "l")
    have hW:=fM (i:=lo) hsz
    refine wpS_bind (dg (gH C (hW.kind.trans hk) (hP.perm hW.perm) (by rw [hW.size]; exact hn) (by (clear hk hn h1 hn1 hor hlt hgt hrose hsz; walk_at "l")) ?_ fun m2 st2 hB2=>h m2 st2 ((hW.mono (Nat.le_refl _) (by (clear hk hn h1 hn1 hor hnn hlt hgt hrose hsz; walk_at "l"))).trans hB2)))
    intro i j hl hij hj
    show R r (mirror (arrOf st) _ _ _) j≤R r (mirror (arrOf st) _ _ _) i
    rw [cC hsz hall,cC hsz hall]
    by_cases hjn:j<lo+n
    ·rw [hall i hl (by (clear hk hn h1 hn1 hn2 hor hnn hlt hgt hrose hsz hl hj; walk_at "s1")),hall j (by (clear hk hn h1 hn1 hn2 hor hnn hlt hgt hrose hsz hj hjn; walk_at "s1")) hjn]; exact Int.le_refl _
    ·have hj':j=lo+n:=by (clear hk hn h1 hn1 hn2 hor hnn hlt hgt hrose hsz hl hij; walk_at "l")
     subst hj'
     by_cases hi':i=lo+n
     ·subst hi'; exact Int.le_refl _
     ·rw [hall i hl (by (clear hk hn h1 hn1 hn2 hor hnn hlt hgt hrose hsz hl hj hjn; walk_at "l"))]; exact Int.le_of_lt hlt
  ·rw [if_neg hgt]
   have hn1':n=1:=by (clear hk hn h1 hn2 hor hnn hlt; walk_at "l")
   subst hn1'
   refine gH C hk hP hn (by (clear hk hn hn1 hn2 hor hlt hgt; walk_at "l")) ?_ h
   intro i j hl hij hj
   by_cases hi':i=j
   ·subst hi'; exact Int.le_refl _
   ·have hi0:i=lo:=by (clear hk hn h1 hn1 hn2 hor hnn hlt hgt; walk_at "l")
    have hj1:j=lo+1:=by (clear hk hn h1 hn1 hn2 hor hnn hlt hgt hl; walk_at "l")
    subst hi0; subst hj1
    exact Int.le_of_lt hlt
end
end Tim
set_option Elab.async false
set_option linter.all false
set_option maxRecDepth 100000
set_option maxHeartbeats 4000000
namespace Tim
open PySem PyProof.Rows
section
variable {prog:Program} {w:World} {A:Around} {E:Value→Shared→Prop} {s:Shared} {κ:SortKind} {r:Value→Int} {P:Value→Prop}
theorem R_at {r:Value→Int} {xs:Array Keyed} {i:Nat} {p:Keyed} (e:xs[i]? = some p):R r xs i=r p.1:=by unfold R; rw [e]
theorem DY {r:Value→Int} {xs:Array Keyed} {i:Nat} (h:i<xs.size):R r xs i=r xs[i].1:=R_at (Array.getElem?_eq_getElem h)
structure One (r:Value→Int) (a₀:Array Keyed) (st:SortSt):Prop where
 perm:(arrOf st).Perm a₀
 failed:failedOf st=none
 pend:(pendingOf st).size≤1
 up:Up r (arrOf st) 0 a₀.size
theorem wpS_sortRuns {st:SortSt} {Q:Unit→SortSt→Prop} (C:Cmp prog w A s κ r P) (hk:kindOf st=κ) (hP:AllP P (arrOf st)) (hp:pendingOf st = #[]) (hf:failedOf st=none) (h64:(arrOf st).size<64) (h1:1≤(arrOf st).size)
  (h:∀ st',(arrOf st').Perm (arrOf st)→failedOf st'=none→Up r (arrOf st') 0 (arrOf st).size→Q () st'):wpS (model prog w) A E s sortRuns' Q st:=by
 rw [sortRuns'_eq]
 refine wpS_bind (wpS_get ?_)
 dsimp only
 generalize ha:arrOf st=a₀ at *
 have hmr:minRun' a₀.size a₀.size 0=a₀.size:=by
  obtain ⟨f,hf⟩:∃ f,a₀.size=f+1:=⟨a₀.size - 1,by walk_at "l"⟩
  have:minRun' (f+1) a₀.size 0=a₀.size:=by rw [minRun'_succ,if_pos h64]; rfl
  rwa [← hf] at this
 rw [hmr]
 have push:∀ st':SortSt,Win 0 a₀.size st st'→Up r (arrOf st') 0 a₀.size→One r a₀ (setPending st' ((pendingOf st').push (0,a₀.size,0))):=fun st' hw u =>
  ⟨ha ▸ hw.perm,hw.failed.trans hf,by show ((pendingOf st').push _).size≤1; rw [hw.pend,hp]; simp,u⟩
 refine wpS_bind (wpS_mono (wpS_forRange (I:=fun x c st'=>(x=0∧c=(none,0)∧st'=st)∨(1≤x∧c=(none,a₀.size)∧One r a₀ st'))
  (Q:=fun c st'=>c=(none,a₀.size)∧One r a₀ st') ?step ?fin (.inl ⟨rfl,rfl,rfl⟩)) ?post)
 case fin =>
  rintro c st' (⟨hx,_,_⟩ | ⟨_,hc,hD⟩)
  ·walk_at "l"
  ·exact ⟨hc,hD⟩
 case step =>
  rintro x c st' _ hx (⟨rfl,rfl,rfl⟩ | ⟨hx1,rfl,hD⟩)
  ·dsimp only
   rw [if_neg (by walk_at "l")]
   simp only [Nat.sub_zero,Nat.min_self,Nat.zero_add]
   refine wpS_bind (wpS_countRun C hk (by rw [ha]; exact hP) (by rw [ha]; walk_at "l") h1 fun m st2 hw hm1 hm2 hu=>?_)
   dsimp only
   rw [Nat.zero_add] at hw hu
   have hz:(arrOf st2).size=a₀.size:=by rw [hw.size,ha]
   by_cases z:m<a₀.size
   ·rw [if_pos z]
    refine wpS_bind (wpS_lift (wpAny_rule ⟨rfl,?_⟩))
    refine wpS_bind (wpS_binarySort C (hw.kind.trans hk) (hP.perm (ha ▸ hw.perm)) (by walk_at "l") (by walk_at "l") (by rw [Nat.zero_add]; exact hu) fun st3 hw3 hu3=>?_)
    rw [Nat.zero_add] at hw3 hu3
    simp only [Bool.not_true,Bool.false_eq_true,if_false]
    refine wpS_bind (wpS_get ?_)
    have hb:(pendingOf st3).back? = none:=by rw [hw3.pend,hw.pend,hp]; rfl
    rw [hb]
    dsimp only
    exact wpS_bind (wpS_modify (wpS_pure (.inr ⟨by walk_at "l",rfl,push st3 (hw.trans hw3) hu3⟩)))
   ·rw [if_neg z]
    have hm:m=a₀.size:=by walk_at "l"
    rw [hm] at hu ⊢
    refine wpS_bind (wpS_get ?_)
    have hb:(pendingOf st2).back? = none:=by rw [hw.pend,hp]; rfl
    rw [hb]
    dsimp only
    exact wpS_bind (wpS_modify (wpS_pure (.inr ⟨by walk_at "l",rfl,push st2 hw hu⟩)))
  ·dsimp only
   rw [if_pos (Nat.le_refl _)]
   exact wpS_pure ⟨rfl,hD⟩
 case post =>
  rintro c st' ⟨rfl,hD⟩
  dsimp only
  refine wpS_bind (wpS_mono (wpS_forRange (I:=fun _ c st'=>c=(none,())∧One r a₀ st') (Q:=fun c st'=>c=(none,())∧One r a₀ st') ?step3 (fun _ _ q=>q) ⟨rfl,hD⟩) ?post3)
  case step3 =>
   rintro y c st1 _ hy ⟨rfl,H⟩
   refine wpS_bind (wpS_get ?_)
   rw [if_pos H.pend]
   exact wpS_pure ⟨rfl,H⟩
  case post3 =>
   rintro c st1 ⟨rfl,H⟩
   exact wpS_pure (h st1 H.perm H.failed H.up)
end
end Tim
set_option Elab.async false
set_option linter.all false
set_option maxRecDepth 100000
set_option maxHeartbeats 4000000
namespace Tim
open PySem PyProof.Rows
section
variable {prog:Program} {w:World} {A:Around} {E:Value→Shared→Prop} {s:Shared} {κ:SortKind} {r:Value→Int} {P:Value→Prop}
noncomputable def eE (h:Heap) (a:Addr) (vs:List Value):Heap:=((h.update a (Obj.mapSeq fun _=>#[])).push (seqObj "tuple" vs.toArray 0)).push (seqObj "list" #[] 0)
theorem qT {h:Heap} {a b:Addr} {vs:List Value} (hb:b≠a) (hlt:b<h.objs.size):(eE h a vs).get? b=h.get? b:=by
 unfold eE
 rw [Heap.get?_push_ne _ _ _ (by rw [size_push',Heap.size_update]; exact Nat.ne_of_lt (Nat.lt_succ_of_lt hlt)),
  Heap.get?_push_ne _ _ _ (by rw [Heap.size_update]; exact Nat.ne_of_lt hlt),Heap.get?_update_ne _ _ _ _ hb]
theorem rD {vs:List Value} {xs:Array Keyed} (hp:xs.Perm (pairsOf vs)) (hs:Up r xs 0 vs.length):(xs.map (·.2)).toList.Perm vs∧(xs.map (·.2)).toList.Pairwise fun x y=>r x≤r y:=by
 have hl:xs.toList.Perm (vs.zip vs):=by rw [← pairsOf_toList]; exact Array.perm_iff_toList_perm.mp hp
 have hmem:∀ p,p∈xs.toList→p.1=p.2:=fun p hp'=>(mem_zip_self (hl.mem_iff.mp hp')).1
 have e:(xs.map (·.2)).toList=xs.toList.map (·.1):=by
  rw [Array.toList_map]; exact List.map_congr_left fun p hp'=>(hmem p hp').symm
 have hsz:xs.size=vs.length:=by rw [hp.size_eq,pairsOf_size]
 rw [e]
 refine ⟨?_,?_⟩
 ·have h1:=hl.map (·.1)
  rwa [List.map_fst_zip (Nat.le_refl _)] at h1
 ·rw [List.pairwise_iff_getElem]
  intro i j hi hj hij
  have hi':i<xs.size:=by simpa using hi
  have hj':j<xs.size:=by simpa using hj
  have h1:=hs i j (Nat.zero_le _) (Nat.le_of_lt hij) (by walk_at "l")
  rw [DY hi',DY hj'] at h1
  simpa using h1
theorem pC {a:Addr} {vs:List Value} {n:Nat} {F:PySem.Fin→Shared→Prop} (ho:s.heap.get? a=some (seqObj "list" vs.toArray n)) (h63:vs.length≤63) (hP:∀ v∈vs,P v)
  (hk:2≤vs.length→∀ (Q:SortKind→Shared→Prop),Q κ { s with heap:=eE s.heap a vs }→wpAny (model prog w) A (keyKind' vs.toArray) Q E { s with heap:=eE s.heap a vs })
  (C:2≤vs.length→Cmp prog w A { s with heap:=eE s.heap a vs } κ r P)
  (h:∀ out:Array Value,out.toList.Perm vs→(out.toList.Pairwise fun x y=>r x≤r y)→F (.done (.ret .none)) { s with heap:=sortedHeap s.heap a vs out }) :
  wpAny (model prog w) A (Builtin.«list.sort» ⟨[.ref a],[]⟩) F E s:=by
 have hsz:vs.length≤sizeLine:=Nat.le_trans h63 (by rw [sizeLine_eq]; decide)
 rw [list_sort_plain]
 have ha:a<s.heap.objs.size:=Heap.lt_size ho
 refine wpAny_bind (listItems_at ho rfl ?_)
 refine wpAny_bind (listUpdate_at ho rfl ?_ (by simpa using hsz) (Nat.zero_le _))
 obtain ⟨e1,ho1⟩:∃ e1,(s.heap.update a (Obj.mapSeq fun _=>#[])).get? a=some (seqObj "list" #[] e1):=⟨_,get?_update_seq ho (fun _=>#[])⟩
 refine wpAny_bind (seqEpoch_at ho1 rfl ?_)
 refine wpAny_bind (wpAny_newTuple ?_ (by simpa using hsz))
 refine wpAny_bind (wpAny_newList ?_ (Nat.zero_le _))
 refine wpAny_holding ?_
 have ho6:(eE s.heap a vs).get? a=some (seqObj "list" #[] e1):=by
  unfold eE
  rw [Heap.get?_push_ne _ _ _ (by rw [size_push',Heap.size_update]; exact Nat.ne_of_lt (Nat.lt_succ_of_lt ha)),Heap.get?_push_ne _ _ _ (by rw [Heap.size_update]; exact Nat.ne_of_lt ha)]
  exact ho1
 show wpAny (model prog w) A _ F E { s with heap:=eE s.heap a vs }
 dsimp only
 have hvz:vs.toArray.size=vs.length:=by simp
 have fin:∀ st':SortSt,(arrOf st').Perm (pairsOf vs)→Up r (arrOf st') 0 vs.length→F (.done (.ret .none)) { s with heap:=sortedHeap s.heap a vs ((arrOf st').map (·.2)) }:=by
  intro st' hp hs
  obtain ⟨h1,h2⟩:=rD hp hs
  exact h _ h1 h2
 by_cases h2:vs.toArray.size<2
 ·rw [if_pos h2,if_pos h2]
  refine wpAny_bind (wpAny_pure ?_)
  rw [StateT.run_pure]
  refine wpAny_bind (wpAny_pure ?_)
  dsimp only
  refine wpAny_bind (seqEpoch_at ho6 rfl ?_)
  refine wpAny_bind (listUpdate_at ho6 rfl ?_ (Nat.zero_le _) (by rw [Array.size_map]; show (pairsOf vs).size≤_; rw [pairsOf_size]; walk_at "l"))
  simp only [bne_self_eq_false,Bool.false_eq_true,if_false]
  refine wpAny_pure (fin (SortSt.mk' general' (vs.toArray.zip vs.toArray) #[] 7 none) (Array.Perm.refl _) ?_)
  intro i j _ hij hj
  have:i=j:=by walk_at "l"
  subst this; exact Int.le_refl _
 ·rw [if_neg h2,if_neg h2]
  refine wpAny_bind (hk (by walk_at "l") _ ?_)
  refine wpAny_bind (wpAny_mono (wpS_sortRuns (st:=SortSt.mk' κ (vs.toArray.zip vs.toArray) #[] 7 none)
   (Q:=fun _ st'=>(arrOf st').Perm (pairsOf vs)∧failedOf st'=none∧Up r (arrOf st') 0 vs.length)
   (C (by walk_at "l")) rfl (fun p hp=>?_) rfl rfl (Nat.lt_succ_of_le (Nat.le_trans (Nat.le_of_eq (pairsOf_size vs)) h63)) (Nat.le_trans (by walk_at "l") (Nat.le_of_eq (pairsOf_size vs).symm)) fun st' a1 a2 a3=>⟨a1,a2,?_⟩) ?_ fun _ _ e=>e)
  ·have hp':p∈(pairsOf vs).toList:=hp
   rw [pairsOf_toList] at hp'
   exact hP _ (mem_zip_self hp').2
  ·have e:(arrOf (SortSt.mk' κ (vs.toArray.zip vs.toArray) #[] 7 none)).size=vs.length:=pairsOf_size vs
   rw [e] at a3
   exact a3
  ·rintro ⟨⟨⟩,st'⟩ s' ⟨rfl,hp,hf,hs⟩
   dsimp only
   refine wpAny_bind (seqEpoch_at ho6 rfl ?_)
   refine wpAny_bind (listUpdate_at ho6 rfl ?_ (Nat.zero_le _) (by refine Nat.le_trans (Nat.le_of_eq ((Array.size_map ..).trans (hp.size_eq.trans (pairsOf_size _)))) ?_; walk_at "l"))
   rw [hf]
   simp only [bne_self_eq_false,Bool.false_eq_true,if_false]
   exact wpAny_pure (fin st' hp hs)
end
end Tim
set_option Elab.async false
set_option linter.all false
set_option maxRecDepth 100000
set_option maxHeartbeats 4000000
namespace L2
open PySem PySem.Spec PyProof.Rows
noncomputable def lt1:Key→Key→Bool
 | .inl i,.inl j=>decide (i<j)
 | .inr x,.inr y=>ltS x y
 | _,_=>false
noncomputable def ltK:List Key→List Key→Bool
 | a :: as,b :: bs=>if a=b then ltK as bs else lt1 a b
 | _,_=>false
noncomputable def isI:Key→Bool
 | .inl _=>true
 | .inr _=>false
noncomputable def shOf (k:List Key):List Bool:=k.map isI
theorem Bq (x:Str):ltS x x=false:=by unfold ltS; simp [List.lt_irrefl]
theorem Dq {x y z:Str} (h:ltS x y=true) (g:ltS y z=true):ltS x z=true:=by
 unfold ltS at *
 simp only [decide_eq_true_eq] at *
 exact List.lt_trans h g
theorem vf {x y:Str} (h:x.cps.toList=y.cps.toList):x=y:=by
 cases x; cases y
 simp only at h
 rw [Array.toList_inj.mp h]
theorem Ay {x y:Str} (h:ltS x y=false) (g:ltS y x=false):x=y:=by
 unfold ltS at *
 simp only [decide_eq_false_iff_not] at *
 apply vf
 exact List.le_antisymm (List.not_lt.mp g) (List.not_lt.mp h)
theorem u6 (a:Key):lt1 a a=false:=by cases a with | inl i=>simp [lt1] | inr x=>exact Bq x
theorem Ek {a b c:Key} (h:lt1 a b=true) (g:lt1 b c=true):lt1 a c=true:=by
 cases a <;> cases b <;> cases c <;> simp only [lt1,decide_eq_true_eq] at * <;> first | walk_at "l" | contradiction | exact Dq h g
theorem Cq {a b:Key} (e:isI a=isI b) (h:lt1 a b=false) (g:lt1 b a=false):a=b:=by
 cases a <;> cases b <;> simp only [lt1,isI,decide_eq_false_iff_not] at *
 ·congr 1; walk_at "l"
 ·cases e
 ·cases e
 ·congr 1; exact Ay h g
theorem wz:∀ a:List Key,ltK a a=false
 | []=>rfl
 | a :: as=>by unfold ltK; rw [if_pos rfl]; exact wz as
theorem wu:∀ {a b c:List Key},ltK a b=true→ltK b c=true→ltK a c=true
 | [],_,_,h,_=>by simp [ltK] at h
 | _ :: _,[],_,h,_=>by simp [ltK] at h
 | _ :: _,_ :: _,[],_,g=>by simp [ltK] at g
 | a :: as,b :: bs,c :: cs,h,g=>by
  unfold ltK at h g ⊢
  by_cases e1:a=b
  ·subst e1
   rw [if_pos rfl] at h
   by_cases e2:a=c
   ·subst e2
    rw [if_pos rfl] at g ⊢
    exact wu h g
   ·rw [if_neg e2] at g ⊢
    exact g
  ·rw [if_neg e1] at h
   by_cases e2:b=c
   ·subst e2
    rw [if_neg e1]
    exact h
   ·rw [if_neg e2] at g
    have t:=Ek h g
    have ne:a≠c:=fun e=>by subst e; rw [u6] at t; cases t
    rw [if_neg ne]
    exact t
theorem qx:∀ {a b:List Key},shOf a=shOf b→ltK a b=false→ltK b a=false→a=b
 | [],[],_,_,_=>rfl
 | [],_ :: _,e,_,_=>by simp [shOf] at e
 | _ :: _,[],e,_,_=>by simp [shOf] at e
 | a :: as,b :: bs,e,h,g=>by
  simp only [shOf,List.map_cons,List.cons.injEq] at e
  unfold ltK at h g
  by_cases e1:a=b
  ·subst e1
   rw [if_pos rfl] at h g
   rw [qx (show shOf as=shOf bs from e.2) h g]
  ·rw [if_neg e1] at h
   rw [if_neg (Ne.symm e1)] at g
   exact absurd (Cq e.1 h g) e1
theorem count_le {α:Type} (p q:α→Bool):∀ (l:List α),(∀ x∈l,p x=true→q x=true)→l.countP p≤l.countP q
 | [],_=>Nat.le_refl _
 | x :: l,h=>by
  have ih:=count_le p q l fun y hy=>h y (List.mem_cons_of_mem _ hy)
  have h1:=h x List.mem_cons_self
  rw [List.countP_cons,List.countP_cons]
  cases hp:p x <;> cases hq:q x <;> simp_all <;> exact Nat.le_succ_of_le ‹_›
theorem sS {α:Type} (p q:α→Bool) (a:α) (ha:p a=false) (hb:q a=true):∀ (l:List α),a∈l→(∀ x∈l,p x=true→q x=true)→l.countP p<l.countP q
 | [],m,_=>by cases m
 | x :: l,m,h=>by
  rw [List.countP_cons,List.countP_cons]
  rcases List.mem_cons.mp m with rfl | m
  ·have:=count_le p q l fun y hy=>h y (List.mem_cons_of_mem _ hy)
   rw [ha,hb]; simp; exact Nat.lt_succ_of_le ‹_›
  ·have ih:=sS p q a ha hb l m fun y hy=>h y (List.mem_cons_of_mem _ hy)
   have h1:=h x List.mem_cons_self
   cases hp:p x <;> cases hq:q x <;> simp_all <;> exact Nat.lt_succ_of_lt ‹_›
noncomputable def rkK (L:List (List Key)) (k:List Key):Int:=(L.countP fun j=>ltK j k:Nat)
theorem sU {L:List (List Key)} {a b:List Key} (e:shOf a=shOf b) (ma:a∈L):decide (rkK L a<rkK L b)=ltK a b:=by
 unfold rkK
 cases h:ltK a b with
 | true =>
  have:=sS (fun j=>ltK j a) (fun j=>ltK j b) a (wz a) h L ma fun x _ hx=>wu hx h
  exact decide_eq_true (by walk_at "l")
 | false =>
  apply decide_eq_false
  cases g:ltK b a with
  | false=>rw [qx e h g]; walk_at "l"
  | true =>
   have:=count_le (fun j=>ltK j b) (fun j=>ltK j a) L fun x _ hx=>wu hx g
   walk_at "l"
noncomputable def unV:V→Option Key
 | .int i=>some (.inl i)
 | .str x=>some (.inr x)
 | _=>none
theorem Fz (k:Key):unV (kV k)=some k:=by cases k <;> rfl
theorem zE:∀ k:List Key,(k.map kV).filterMap unV=k
 | []=>rfl
 | a :: as=>by rw [List.map_cons,List.filterMap_cons,Fz,zE as]
noncomputable def qO (H:Hp):Value→List Key
 | .ref b=>match H b with
  | some (.tup xs)=>xs.filterMap unV
  | _=>[]
 | _=>[]
theorem d8 {H:Hp} {b:Addr} {k:List Key} (h:H b=some (.tup (k.map kV))):qO H (.ref b)=k:=by
 simp only [qO,h]; exact zE k
section
variable {prog:Program} {w:World} {A:Around} {E:Value→Shared→Prop} {s:Shared} {Q:Bool→Shared→Prop}
theorem Dc {a b:Key} {u v:Value} (ru:RelV (kV a) u) (rv:RelV (kV b) v) (e:isI a=isI b) (q:Q (lt1 a b) s):wpAny (model prog w) A (oneLt' false u v) Q E s:=by
 refine PySem.W.kat_one u v ?_
 cases a with
 | inl i =>
  cases b with
  | inr x=>cases e
  | inl j =>
   obtain ⟨t,rfl⟩:=ru
   obtain ⟨t',rfl⟩:=rv
   exact lt_int q
 | inr x =>
  cases b with
  | inl j=>cases e
  | inr y =>
   obtain ⟨t,rfl⟩:=ru
   obtain ⟨t',rfl⟩:=rv
   exact PySem.P.lt_str q
theorem C_ {a b:Key} {u v:Value} (ru:RelV (kV a) u) (rv:RelV (kV b) v) (e:isI a=isI b) (q:Q (decide (a=b)) s):wpAny (model prog w) A (eqBool u v) Q E s:=by
 cases a with
 | inl i =>
  cases b with
  | inr x=>cases e
  | inl j =>
   obtain ⟨t,rfl⟩:=ru
   obtain ⟨t',rfl⟩:=rv
   refine wpAny_eqBool_int ?_
   rw [← key_ll]; exact q
 | inr x =>
  cases b with
  | inl j=>cases e
  | inr y =>
   obtain ⟨t,rfl⟩:=ru
   obtain ⟨t',rfl⟩:=rv
   refine wpAny_eqBool_str ?_
   rw [← key_rr]; exact q
theorem yZ {fin:Bool} (k m:List Key) (us vs:List Value) (i:Nat) (ha:Vals (k.map kV) us) (hb:Vals (m.map kV) vs) (e:shOf k=shOf m) (hf:fin=false) (hi:i=0→k.head?.elim True (fun a=>isI a=true)) (q:Q (ltK k m) s) :
  PySem.W.KatLex prog w A true fin Q (us.zip vs) i s:=by
 induction k generalizing m us vs i with
 | nil =>
  cases m with
  | cons b m=>simp [shOf] at e
  | nil =>
   rw [Paired.n0 ha,Paired.n0 hb]
   subst hf
   exact PySem.W.kat_nil q
 | cons a k ih =>
  cases m with
  | nil=>simp [shOf] at e
  | cons b m =>
   obtain ⟨u,us,rfl,ra,rk⟩:=Paired.c ha
   obtain ⟨v,vs,rfl,rb,rm⟩:=Paired.c hb
   simp only [shOf,List.map_cons,List.cons.injEq] at e
   rw [List.zip_cons_cons]
   refine PySem.W.kat_cons (C_ ra rb e.1 (PySem.W.kat_go (fun h=>PySem.W.kat_yes ?_) (fun h=>PySem.W.kat_no ?_)))
   ·have h:=of_decide_eq_true h
    subst h
    unfold ltK at q
    rw [if_pos rfl] at q
    exact ih m _ _ (i+1) rk rm e.2 (fun h=>by walk_at "l") q
   ·have h:=of_decide_eq_false h
    unfold ltK at q
    rw [if_neg h] at q
    by_cases h0:i=0
    ·subst h0
     have ia:isI a=true:=hi rfl
     cases a with
     | inr x=>cases ia
     | inl i =>
      cases b with
      | inr x=>cases e.1
      | inl j =>
       obtain ⟨t,rfl⟩:=ra
       obtain ⟨t',rfl⟩:=rb
       exact oneLt_int q
    ·rw [show (true && i == 0)=false by simp [h0]]
     exact Dc ra rb e.1 q
end
section
variable {X:Cx} {pins:List (Addr × Obj)} {σ:St} {H:Hp} {s:Shared}
theorem Inv.tup {b:Addr} {xs:List V} (I:Inv X pins σ H s) (h:H b=some (.tup xs)):∃ its:List Value,Vals xs its∧IsTup s.heap b its.toArray:=(I.hok b _ h).2
theorem yC (I:Inv X pins σ H s) {s':Shared} (kp:∀ b o,s.heap.get? b=some o→s'.heap.get? b=some o) {A:Around} {L:List (List Key)} {sh:List Bool} :
  Tim.Cmp X.prog X.w A s' (tuples' true) (fun v=>rkK L (qO H v)) (fun v=>∃ b k,v=.ref b∧H b=some (.tup (k.map kV))∧shOf k=true :: sh∧k∈L):=by
 rintro x y ⟨b,k,rfl,hb,hk,mk⟩ ⟨c,m,rfl,hc,hm,mm⟩ Q E q
 obtain ⟨us,ru,o,e1,c1,n1,d1⟩:=I.tup hb
 obtain ⟨vs,rv,o',e2,c2,n2,d2⟩:=I.tup hc
 have sh':shOf k=shOf m:=hk.trans hm.symm
 simp only [d8 hb,d8 hc] at q
 rw [sU sh' mk] at q
 refine PySem.W.kat_lt (kp _ _ e1) d1 (kp _ _ e2) d2 (yZ k m us vs 0 ru rv sh' ?_ (fun _=>?_) q)
 ·have h1:=ru.length
  have h2:=rv.length
  have h3:k.length=m.length:=by
   have:=congrArg List.length sh'
   simpa [shOf] using this
  simp only [List.length_map] at h1 h2
  exact decide_eq_false (by simp only [List.size_toArray]; walk_at "l")
 ·cases k with
  | nil=>simp [shOf] at hk
  | cons a k=>simp only [shOf,List.map_cons,List.cons.injEq] at hk; exact hk.1
theorem kat_tups (I:Inv X pins σ H s) {s':Shared} (kp:∀ b o,s.heap.get? b=some o→s'.heap.get? b=some o) {sh:List Bool} {ys:List V} {ks:List (List Key)} {vs:List Value} (ht:dO H ys ks) (hv:Vals ys vs) (hs:∀ k∈ks,shOf k=true :: sh) :
  ∃ fs:List Value,PySem.W.KatTups s'.heap vs fs∧fs.length=vs.length∧∀ f∈fs,∃ i t,f=Value.int i t:=by
 induction ys generalizing ks vs with
 | nil =>
  rw [Paired.n0 hv]
  exact ⟨[],.nil,rfl,by simp⟩
 | cons y ys ih =>
  obtain ⟨k,ks,rfl,⟨b,rfl,hb⟩,t⟩:=Paired.c ht
  obtain ⟨v,vs,rfl,rfl,rs⟩:=Paired.c hv
  obtain ⟨fs,f1,f2,f3⟩:=ih t rs fun j hj=>hs j (List.mem_cons_of_mem _ hj)
  have hk:=hs k List.mem_cons_self
  obtain ⟨us,ru,o,e1,c1,n1,d1⟩:=I.tup hb
  cases k with
  | nil=>simp [shOf] at hk
  | cons a k =>
   obtain ⟨u,us,rfl,ra,rr⟩:=Paired.c ru
   simp only [shOf,List.map_cons,List.cons.injEq] at hk
   cases a with
   | inr x=>cases hk.1
   | inl i =>
    obtain ⟨tk,rfl⟩:=ra
    exact ⟨_ :: fs,.cons (kp _ _ e1) c1 d1 rfl f1,by simp [f2],fun f hf=>by
     rcases List.mem_cons.mp hf with rfl | hf
     ·exact ⟨_,_,rfl⟩
     ·exact f3 f hf⟩
end
theorem dO.of {H:Hp} {ks:List (List Key)} (vs:List Value) (h:∀ v∈vs,∃ b k,v=Value.ref b∧H b=some (.tup (k.map kV))∧k∈ks):∃ zs,dO H zs (vs.map (qO H))∧Vals zs vs:=by
 induction vs with
 | nil=>exact ⟨[],.nil,.nil⟩
 | cons v vs ih =>
  obtain ⟨zs,a,c⟩:=ih fun u hu=>h u (List.mem_cons_of_mem _ hu)
  obtain ⟨b,k,rfl,e,_⟩:=h v List.mem_cons_self
  exact ⟨.ref b :: zs,.cons ⟨b,rfl,by rw [d8 e]; exact e⟩ a,.cons rfl c⟩
section
variable {X:Cx}
end
end L2
set_option Elab.async false
set_option linter.all false
set_option maxRecDepth 100000
set_option maxHeartbeats 4000000
namespace Tim
open PySem PyProof.Rows
section
variable {prog:Program} {w:World} {A:Around} {E:Value→Shared→Prop} {s:Shared} {κ:SortKind} {r:Value→Int} {P:Value→Prop}
end
end Tim
namespace L2
open PySem PySem.Spec PyProof.Rows
noncomputable def iJ:Value→List Key
 | .int i _=>[.inl i]
 | .str x _=>[.inr x]
 | _=>[]
theorem jX {k:Key} {v:Value} (h:RelV (kV k) v):iJ v=[k]:=by
 cases k with
 | inl i=>obtain ⟨t,rfl⟩:=h; rfl
 | inr x=>obtain ⟨t,rfl⟩:=h; rfl
theorem vN {a b:Key}:ltK [a] [b]=lt1 a b:=by
 unfold ltK
 by_cases e:a=b
 ·subst e; rw [if_pos rfl,u6]; rfl
 ·rw [if_neg e]
theorem yc {prog:Program} {w:World} {A:Around} {s:Shared} {b:Bool} {L:List Key} :
  Tim.Cmp prog w A s oneType' (fun v=>rkK (L.map fun k=>[k]) (iJ v)) (fun v=>∃ k,RelV (kV k) v∧isI k=b∧k∈L):=by
 rintro x y ⟨k,rk,ik,mk⟩ ⟨m,rm,im,mm⟩ Q E q
 simp only [jX rk,jX rm] at q
 rw [sU (by simp [shOf,ik,im]) (List.mem_map.mpr ⟨k,mk,rfl⟩),vN] at q
 rw [keyLt'_oneType]
 cases k with
 | inl i =>
  cases m with
  | inr y=>rw [← im] at ik; cases ik
  | inl j =>
   obtain ⟨t,rfl⟩:=rk
   obtain ⟨u,rfl⟩:=rm
   exact oneLt_int q
 | inr x =>
  cases m with
  | inl y=>rw [← im] at ik; cases ik
  | inr j =>
   obtain ⟨t,rfl⟩:=rk
   obtain ⟨u,rfl⟩:=rm
   exact oneLt_str q
theorem ints_of {ks:List Key} {vs:List Value} (r:Vals (ks.map kV) vs) (h:∀ k∈ks,isI k=true):∃ ns,IntsAre vs ns:=by
 induction ks generalizing vs with
 | nil=>rw [Paired.n0 r]; exact ⟨[],.nil⟩
 | cons k ks ih =>
  obtain ⟨v,vs,rfl,r,rs⟩:=Paired.c r
  obtain ⟨ns,q⟩:=ih rs fun j hj=>h j (List.mem_cons_of_mem _ hj)
  have:=h k List.mem_cons_self
  cases k with
  | inr x=>cases this
  | inl i=>obtain ⟨t,rfl⟩:=r; exact ⟨_,.cons i t q⟩
theorem BV {ks:List Key} {vs:List Value} (r:Vals (ks.map kV) vs) (h:∀ k∈ks,isI k=false):∃ ns,StrsAre vs ns:=by
 induction ks generalizing vs with
 | nil=>rw [Paired.n0 r]; exact ⟨[],.nil⟩
 | cons k ks ih =>
  obtain ⟨v,vs,rfl,r,rs⟩:=Paired.c r
  obtain ⟨ns,q⟩:=ih rs fun j hj=>h j (List.mem_cons_of_mem _ hj)
  have:=h k List.mem_cons_self
  cases k with
  | inl x=>cases this
  | inr i=>obtain ⟨t,rfl⟩:=r; exact ⟨_,.cons i t q⟩
theorem xR {prog:Program} {w:World} {A:Around} {E:Value→Shared→Prop} {s:Shared} {b:Bool} {ks:List Key} {vs:List Value} (r:Vals (ks.map kV) vs) (h:∀ k∈ks,isI k=b) (h2:2≤vs.length) {Q:SortKind→Shared→Prop} (q:Q oneType' s) :
  wpAny (model prog w) A (keyKind' vs.toArray) Q E s:=by
 match vs,h2 with
 | v1 :: v2 :: vs,_ =>
  cases b with
  | true=>obtain ⟨ns,hI⟩:=ints_of r h; rw [keyKind_ints hI]; exact wpAny_pure q
  | false=>obtain ⟨ns,hI⟩:=BV r h; rw [keyKind_strs hI]; exact wpAny_pure q
theorem keys_map {ks:List Key} {vs:List Value} (r:Vals (ks.map kV) vs):vs.map iJ=ks.map fun k=>[k]:=by
 induction ks generalizing vs with
 | nil=>rw [Paired.n0 r]; rfl
 | cons k ks ih =>
  obtain ⟨u,vs,rfl,r,rs⟩:=Paired.c r
  rw [List.map_cons,List.map_cons,jX r,ih rs]
theorem pL {ks:List Key} (vs:List Value) (h:∀ v∈vs,∃ k,RelV (kV k) v∧k∈ks):∃ ms:List Key,Vals (ms.map kV) vs:=by
 induction vs with
 | nil=>exact ⟨[],.nil⟩
 | cons v vs ih =>
  obtain ⟨ms,r⟩:=ih fun u hu=>h u (List.mem_cons_of_mem _ hu)
  obtain ⟨k,rk,_⟩:=h v List.mem_cons_self
  exact ⟨k :: ms,.cons rk r⟩
theorem v8:∀ {ms ks:List Key},(ms.map fun k=>[k]).Perm (ks.map fun k=>[k])→ms.Perm ks:=fun {ms ks} h=>by
 have:=h.map (fun l:List Key=>l.head?)
 simp only [List.map_map] at this
 have e:∀ l:List Key,l.map ((fun l:List Key=>l.head?) ∘ fun k=>[k])=l.map some:=fun l=>List.map_congr_left fun _ _=>rfl
 rw [e,e] at this
 have:=this.filterMap id
 simpa using this
section
variable {X:Cx}
end
end L2
set_option Elab.async false
set_option linter.all false
set_option maxRecDepth 100000
set_option maxHeartbeats 4000000
namespace L2.Q
open PySem PySem.Spec PyProof.Rows
inductive D where
 | non | bl (b:Bool) | int (i:Int) | str (x:Str)
 | list (xs:List D) | tup (xs:List D) | dK (kvs:List (Key × D)) | dT (kvs:List (List Key × D))
mutual
/-- nothing in it can be changed -/
noncomputable def D.flat:D→Bool
 | .list _=>false
 | .dK _=>false
 | .dT _=>false
 | .tup xs=>flats xs
 | _=>true
noncomputable def flats:List D→Bool
 | []=>true
 | x :: xs=>x.flat && flats xs
end
theorem ph:∀ {xs:List D},flats xs=true↔∀ x∈xs,x.flat=true
 | []=>by simp [flats]
 | x :: xs=>by simp [flats,ph (xs:=xs)]
theorem iB {xs ys:List D}:flats (xs++ys)=(flats xs && flats ys):=by
 induction xs with
 | nil=>simp [flats]
 | cons x xs ih=>simp [flats,ih,Bool.and_assoc]
noncomputable def kOk:Key→Bool
 | .inl _=>true
 | .inr x=>decide (x.length≤sizeLine)
noncomputable def KsOk (kvs:List (Key × D)):Prop:=kvs.length≤sizeLine∧∀ p∈kvs,kOk p.1=true
noncomputable def KtOk (kvs:List (List Key × D)):Prop:=kvs.length≤sizeLine∧∀ p∈kvs,p.1.length≤sizeLine∧∀ k∈p.1,kOk k=true
mutual
inductive Rep (K:PySem.W.Frag) (H:Hp):D→V→Prop
 | non:Rep K H .non .non
 | bl (b:Bool):Rep K H (.bl b) (.bl b)
 | int (i:Int):Rep K H (.int i) (.int i)
 | str {x:Str}:x.length≤sizeLine→Rep K H (.str x) (.str x)
 | list {a:Addr} {vs:List V} {ds:List D}:vs.length≤sizeLine→SqL K H a vs→Reps K H ds vs→Rep K H (.list ds) (.ref a)
 | tup {a:Addr} {vs:List V} {ds:List D}:vs.length≤sizeLine→H a=some (.tup vs)→Reps K H ds vs→Rep K H (.tup ds) (.ref a)
 | dK {a:Addr} {vs:List V} {kvs:List (Key × D)}:KsOk kvs→H a=some (.dK ((kvs.map (·.1)).zip vs))→Reps K H (kvs.map (·.2)) vs→Rep K H (.dK kvs) (.ref a)
 | dT {a:Addr} {vs:List V} {kvs:List (List Key × D)}:KtOk kvs→H a=some (.dT ((kvs.map (·.1)).zip vs))→Reps K H (kvs.map (·.2)) vs→Rep K H (.dT kvs) (.ref a)
inductive Reps (K:PySem.W.Frag) (H:Hp):List D→List V→Prop
 | nil:Reps K H [] []
 | cons {d:D} {v:V} {ds:List D} {vs:List V}:Rep K H d v→Reps K H ds vs→Reps K H (d :: ds) (v :: vs)
end
theorem Rep.ind {K:PySem.W.Frag} {H:Hp} {m1:D→V→Prop} {m2:List D→List V→Prop} (h0:m1 .non .non) (hb:∀ b,m1 (.bl b) (.bl b)) (hi:∀ i,m1 (.int i) (.int i)) (hs:∀ x,x.length≤sizeLine→m1 (.str x) (.str x))
  (hl:∀ a vs ds,vs.length≤sizeLine→SqL K H a vs→Reps K H ds vs→m2 ds vs→m1 (.list ds) (.ref a)) (ht:∀ a vs ds,vs.length≤sizeLine→H a=some (.tup vs)→Reps K H ds vs→m2 ds vs→m1 (.tup ds) (.ref a))
  (hk:∀ a vs kvs,KsOk kvs→H a=some (.dK ((kvs.map (·.1)).zip vs))→Reps K H (kvs.map (·.2)) vs→m2 (kvs.map (·.2)) vs→m1 (.dK kvs) (.ref a)) (hT:∀ a vs kvs,KtOk kvs→H a=some (.dT ((kvs.map (·.1)).zip vs))→Reps K H (kvs.map (·.2)) vs→m2 (kvs.map (·.2)) vs→m1 (.dT kvs) (.ref a))
  (hn:m2 [] []) (hc:∀ d v ds vs,Rep K H d v→Reps K H ds vs→m1 d v→m2 ds vs→m2 (d :: ds) (v :: vs)):(∀ {d v},Rep K H d v→m1 d v)∧∀ {ds vs},Reps K H ds vs→m2 ds vs :=
 ⟨fun r=>Rep.rec (motive_1:=fun d v _=>m1 d v) (motive_2:=fun ds vs _=>m2 ds vs) h0 hb hi (fun h=>hs _ h) (fun z s r ih=>hl _ _ _ z s r ih) (fun z s r ih=>ht _ _ _ z s r ih) (fun z s r ih=>hk _ _ _ z s r ih) (fun z s r ih=>hT _ _ _ z s r ih) hn (fun r s a b=>hc _ _ _ _ r s a b) r,
  fun r=>Reps.rec (motive_1:=fun d v _=>m1 d v) (motive_2:=fun ds vs _=>m2 ds vs) h0 hb hi (fun h=>hs _ h) (fun z s r ih=>hl _ _ _ z s r ih) (fun z s r ih=>ht _ _ _ z s r ih) (fun z s r ih=>hk _ _ _ z s r ih) (fun z s r ih=>hT _ _ _ z s r ih) hn (fun r s a b=>hc _ _ _ _ r s a b) r⟩
theorem Rep.Di {K:PySem.W.Frag} {H H':Hp} (s:Same H H'):(∀ {d:D} {v:V},Rep K H d v→Rep K H' d v)∧∀ {ds:List D} {vs:List V},Reps K H ds vs→Reps K H' ds vs :=
 Rep.ind .non .bl .int (fun _ h=>.str h) (fun _ _ _ z h _ ih=>.list z (s.lst h) ih) (fun _ _ _ z h _ ih=>.tup z (s _ _ h) ih) (fun _ _ _ kk h _ ih=>.dK kk (s _ _ h) ih) (fun _ _ _ kk h _ ih=>.dT kk (s _ _ h) ih) .nil fun _ _ _ _ _ _ a b=>.cons a b
theorem Rep.same {K:PySem.W.Frag} {H H':Hp} (s:Same H H') {d:D} {v:V} (r:Rep K H d v):Rep K H' d v:=(Rep.Di s).1 r
theorem Reps.same {K:PySem.W.Frag} {H H':Hp} (s:Same H H') {ds:List D} {vs:List V} (r:Reps K H ds vs):Reps K H' ds vs:=(Rep.Di s).2 r
theorem Reps.ind {K:PySem.W.Frag} {H:Hp} {m:List D→List V→Prop} (hn:m [] []) (hc:∀ d v ds vs,Rep K H d v→Reps K H ds vs→m ds vs→m (d :: ds) (v :: vs)):∀ {ds vs},Reps K H ds vs→m ds vs :=
 fun r=>(Rep.ind (m1:=fun _ _=>True) (m2:=m) trivial (fun _=>trivial) (fun _=>trivial) (fun _ _=>trivial) (fun _ _ _ _ _ _ _=>trivial) (fun _ _ _ _ _ _ _=>trivial) (fun _ _ _ _ _ _ _=>trivial) (fun _ _ _ _ _ _ _=>trivial) hn fun d v ds vs r s _ b=>hc d v ds vs r s b).2 r
theorem Reps.length {K:PySem.W.Frag} {H:Hp} {ds:List D} {vs:List V} (r:Reps K H ds vs):ds.length=vs.length :=
 Reps.ind (m:=fun ds vs=>ds.length=vs.length) rfl (fun _ _ _ _ _ _ ih=>by rw [List.length_cons,List.length_cons,ih]) r
theorem Reps.append {K:PySem.W.Frag} {H:Hp} {ds es:List D} {vs ws:List V} (r:Reps K H ds vs) (t:Reps K H es ws):Reps K H (ds++es) (vs++ws) :=
 Reps.ind (m:=fun ds vs=>Reps K H (ds++es) (vs++ws)) t (fun _ _ _ _ h _ ih=>.cons h ih) r
theorem Reps.get {K:PySem.W.Frag} {H:Hp} {ds:List D} {vs:List V} {i:Nat} {d:D} (r:Reps K H ds vs) (e:ds[i]? = some d):∃ v,vs[i]? = some v∧Rep K H d v :=
 Reps.ind (m:=fun ds vs=>∀ i d,ds[i]? = some d→∃ v,vs[i]? = some v∧Rep K H d v) (fun i d e=>by simp at e) (fun _ _ _ _ h _ ih i d e=>by
  cases i with
  | zero=>simp at e; subst e; exact ⟨_,rfl,h⟩
  | succ i =>
   obtain ⟨v,e1,r⟩:=ih i d (by simpa using e)
   exact ⟨v,by simpa using e1,r⟩) r i d e
theorem Reps.getV {K:PySem.W.Frag} {H:Hp} {ds:List D} {vs:List V} {i:Nat} {v:V} (r:Reps K H ds vs) (e:vs[i]? = some v):∃ d,ds[i]? = some d∧Rep K H d v :=
 Reps.ind (m:=fun ds vs=>∀ i v,vs[i]? = some v→∃ d,ds[i]? = some d∧Rep K H d v) (fun i d e=>by simp at e) (fun _ _ _ _ h _ ih i d e=>by
  cases i with
  | zero=>simp at e; subst e; exact ⟨_,rfl,h⟩
  | succ i =>
   obtain ⟨v,e1,r⟩:=ih i d (by simpa using e)
   exact ⟨v,by simpa using e1,r⟩) r i v e
theorem Reps.drop {K:PySem.W.Frag} {H:Hp} {ds:List D} {vs:List V} (n:Nat) (r:Reps K H ds vs):Reps K H (ds.drop n) (vs.drop n) :=
 Reps.ind (m:=fun ds vs=>∀ n,Reps K H (ds.drop n) (vs.drop n)) (fun n=>by rw [List.drop_nil,List.drop_nil]; exact .nil) (fun _ _ _ _ h hs ih n=>by
  cases n with
  | zero=>exact .cons h hs
  | succ n=>exact ih n) r n
theorem Reps.n0 {K:PySem.W.Frag} {H:Hp} {vs:List V} (h:Reps K H [] vs):vs=[]:=by cases h; rfl
theorem Reps.c {K:PySem.W.Frag} {H:Hp} {d:D} {ds:List D} {vs:List V} (h:Reps K H (d :: ds) vs):∃ u us,vs=u :: us∧Rep K H d u∧Reps K H ds us:=by
 cases h with
 | cons r rs=>exact ⟨_,_,rfl,r,rs⟩
theorem Reps.take {K:PySem.W.Frag} {H:Hp} {ds:List D} {vs:List V} (n:Nat) (r:Reps K H ds vs):Reps K H (ds.take n) (vs.take n) :=
 Reps.ind (m:=fun ds vs=>∀ n,Reps K H (ds.take n) (vs.take n)) (fun n=>by rw [List.take_nil,List.take_nil]; exact .nil) (fun _ _ _ _ h hs ih n=>by
  cases n with
  | zero=>exact .nil
  | succ n=>exact .cons h (ih n)) r n
mutual
/-- what is owned: a tree whose lists and dicts stand at As,nobody else's; its leaves shared (fl: and flat) -/
inductive RepO (K:PySem.W.Frag) (Hs H:Hp) (fl:Bool):D→V→List Addr→Prop
 | sh {d:D} {v:V}:(fl=true→d.flat=true)→Rep K Hs d v→RepO K Hs H fl d v []
 | list {a:Addr} {vs:List V} {ds:List D} {As:List Addr}:vs.length≤sizeLine→H a=some (.lst vs)→aD K Hs H fl ds vs As→RepO K Hs H fl (.list ds) (.ref a) (a :: As)
 | tup {a:Addr} {vs:List V} {ds:List D} {As:List Addr}:vs.length≤sizeLine→Hs a=some (.tup vs)→flats ds=false→aD K Hs H fl ds vs As→RepO K Hs H fl (.tup ds) (.ref a) As
 | dK {a:Addr} {vs:List V} {kvs:List (Key × D)} {As:List Addr}:KsOk kvs→H a=some (.dK ((kvs.map (·.1)).zip vs))→aD K Hs H fl (kvs.map (·.2)) vs As→RepO K Hs H fl (.dK kvs) (.ref a) (a :: As)
 | dT {a:Addr} {vs:List V} {kvs:List (List Key × D)} {As:List Addr}:KtOk kvs→H a=some (.dT ((kvs.map (·.1)).zip vs))→aD K Hs H fl (kvs.map (·.2)) vs As→RepO K Hs H fl (.dT kvs) (.ref a) (a :: As)
inductive aD (K:PySem.W.Frag) (Hs H:Hp) (fl:Bool):List D→List V→List Addr→Prop
 | nil:aD K Hs H fl [] [] []
 | cons {d:D} {v:V} {ds:List D} {vs:List V} {As Bs:List Addr}:RepO K Hs H fl d v As→aD K Hs H fl ds vs Bs→aD K Hs H fl (d :: ds) (v :: vs) (As++Bs)
end
noncomputable def Own (H:Hp) (a:Addr):Prop:=(∃ vs,H a=some (.lst vs))∨(∃ kvs,H a=some (.dK kvs))∨∃ kvs,H a=some (.dT kvs)
section
variable {K:PySem.W.Frag} {Hs Hs' H H':Hp} {fl:Bool}
theorem Own.ne {a:Addr} (h:Own H a):H a≠none:=by
 rcases h with ⟨_,e⟩ | ⟨_,e⟩ | ⟨_,e⟩ <;> rw [e] <;> exact fun z=>nomatch z
theorem Own.zH {a:Addr} {vs:List V} (h:Own H a):H a≠some (.tup vs):=by
 rcases h with ⟨_,e⟩ | ⟨_,e⟩ | ⟨_,e⟩ <;> rw [e] <;> exact fun z=>nomatch z
theorem RepO.ind {m1:D→V→List Addr→Prop} {m2:List D→List V→List Addr→Prop} (hs:∀ d v,(fl=true→d.flat=true)→Rep K Hs d v→m1 d v [])
  (hl:∀ a vs ds As,vs.length≤sizeLine→H a=some (.lst vs)→aD K Hs H fl ds vs As→m2 ds vs As→m1 (.list ds) (.ref a) (a :: As)) (ht:∀ a vs ds As,vs.length≤sizeLine→Hs a=some (.tup vs)→flats ds=false→aD K Hs H fl ds vs As→m2 ds vs As→m1 (.tup ds) (.ref a) As)
  (hk:∀ a vs kvs As,KsOk kvs→H a=some (.dK ((kvs.map (·.1)).zip vs))→aD K Hs H fl (kvs.map (·.2)) vs As→m2 (kvs.map (·.2)) vs As→m1 (.dK kvs) (.ref a) (a :: As)) (hT:∀ a vs kvs As,KtOk kvs→H a=some (.dT ((kvs.map (·.1)).zip vs))→aD K Hs H fl (kvs.map (·.2)) vs As→m2 (kvs.map (·.2)) vs As→m1 (.dT kvs) (.ref a) (a :: As))
  (hn:m2 [] [] []) (hc:∀ d v ds vs As Bs,RepO K Hs H fl d v As→aD K Hs H fl ds vs Bs→m1 d v As→m2 ds vs Bs→m2 (d :: ds) (v :: vs) (As++Bs)):(∀ {d v As},RepO K Hs H fl d v As→m1 d v As)∧∀ {ds vs As},aD K Hs H fl ds vs As→m2 ds vs As :=
 ⟨fun r=>RepO.rec (motive_1:=fun d v As _=>m1 d v As) (motive_2:=fun ds vs As _=>m2 ds vs As) (fun f r=>hs _ _ f r) (fun z s r ih=>hl _ _ _ _ z s r ih) (fun z s n r ih=>ht _ _ _ _ z s n r ih) (fun z s r ih=>hk _ _ _ _ z s r ih) (fun z s r ih=>hT _ _ _ _ z s r ih) hn (fun r s a b=>hc _ _ _ _ _ _ r s a b) r,
  fun r=>aD.rec (motive_1:=fun d v As _=>m1 d v As) (motive_2:=fun ds vs As _=>m2 ds vs As) (fun f r=>hs _ _ f r) (fun z s r ih=>hl _ _ _ _ z s r ih) (fun z s n r ih=>ht _ _ _ _ z s n r ih) (fun z s r ih=>hk _ _ _ _ z s r ih) (fun z s r ih=>hT _ _ _ _ z s r ih) hn (fun r s a b=>hc _ _ _ _ _ _ r s a b) r⟩
theorem mem0 {a:Addr} {p:Prop} (h:a∈([]:List Addr)):p:=absurd h List.not_mem_nil
theorem RepO.own2:(∀ {d:D} {v:V} {As:List Addr},RepO K Hs H fl d v As→∀ a∈As,Own H a)∧∀ {ds:List D} {vs:List V} {As:List Addr},aD K Hs H fl ds vs As→∀ a∈As,Own H a :=
 RepO.ind (m1:=fun _ _ As=>∀ a∈As,Own H a) (m2:=fun _ _ As=>∀ a∈As,Own H a) (fun _ _ _ _ a h=>mem0 h) (fun _ _ _ _ _ e _ ih a h=>(List.mem_cons.mp h).elim (fun z=>z ▸ .inl ⟨_,e⟩) (ih a)) (fun _ _ _ _ _ _ _ _ ih=>ih)
  (fun _ _ _ _ _ e _ ih a h=>(List.mem_cons.mp h).elim (fun z=>z ▸ .inr (.inl ⟨_,e⟩)) (ih a)) (fun _ _ _ _ _ e _ ih a h=>(List.mem_cons.mp h).elim (fun z=>z ▸ .inr (.inr ⟨_,e⟩)) (ih a)) (fun a h=>mem0 h) fun _ _ _ _ _ _ _ _ i1 i2 a h=>(List.mem_append.mp h).elim (i1 a) (i2 a)
theorem RepO.own {d:D} {v:V} {As:List Addr} (r:RepO K Hs H fl d v As):∀ a∈As,Own H a:=RepO.own2.1 r
theorem aD.own {ds:List D} {vs:List V} {As:List Addr} (r:aD K Hs H fl ds vs As):∀ a∈As,Own H a:=RepO.own2.2 r
theorem RepO.Dl (s:Same Hs Hs'):(∀ {d:D} {v:V} {As:List Addr},RepO K Hs H fl d v As→(∀ a∈As,H' a=H a)→RepO K Hs' H' fl d v As)∧∀ {ds:List D} {vs:List V} {As:List Addr},aD K Hs H fl ds vs As→(∀ a∈As,H' a=H a)→aD K Hs' H' fl ds vs As :=
 RepO.ind (m1:=fun d v As=>(∀ a∈As,H' a=H a)→RepO K Hs' H' fl d v As) (m2:=fun ds vs As=>(∀ a∈As,H' a=H a)→aD K Hs' H' fl ds vs As) (fun _ _ f r _=>.sh f (r.same s))
  (fun _ _ _ _ z e _ ih k=>.list z ((k _ List.mem_cons_self).trans e) (ih fun a h=>k a (List.mem_cons_of_mem _ h))) (fun _ _ _ _ z e n _ ih k=>.tup z (s _ _ e) n (ih k)) (fun _ _ _ _ z e _ ih k=>.dK z ((k _ List.mem_cons_self).trans e) (ih fun a h=>k a (List.mem_cons_of_mem _ h)))
  (fun _ _ _ _ z e _ ih k=>.dT z ((k _ List.mem_cons_self).trans e) (ih fun a h=>k a (List.mem_cons_of_mem _ h))) (fun _=>.nil) fun _ _ _ _ _ _ _ _ i1 i2 k=>.cons (i1 fun a h=>k a (List.mem_append_left _ h)) (i2 fun a h=>k a (List.mem_append_right _ h))
theorem RepO.stay (s:Same Hs Hs') {d:D} {v:V} {As:List Addr} (r:RepO K Hs H fl d v As) (k:∀ a∈As,H' a=H a):RepO K Hs' H' fl d v As:=(RepO.Dl s).1 r k
theorem aD.stay (s:Same Hs Hs') {ds:List D} {vs:List V} {As:List Addr} (r:aD K Hs H fl ds vs As) (k:∀ a∈As,H' a=H a):aD K Hs' H' fl ds vs As:=(RepO.Dl s).2 r k
theorem RepO.grow {d:D} {v:V} {As:List Addr} (s:Same Hs Hs') (t:Same H H') (r:RepO K Hs H fl d v As):RepO K Hs' H' fl d v As :=
 r.stay s fun a h=>by
  cases e:H a with
  | none=>exact absurd e (r.own a h).ne
  | some o=>exact t a o e
theorem aD.grow {ds:List D} {vs:List V} {As:List Addr} (s:Same Hs Hs') (t:Same H H') (r:aD K Hs H fl ds vs As):aD K Hs' H' fl ds vs As :=
 r.stay s fun a h=>by
  cases e:H a with
  | none=>exact absurd e (r.own a h).ne
  | some o=>exact t a o e
theorem RepO.rep2 {G:Hp} (s:Same Hs G):(∀ {d:D} {v:V} {As:List Addr},RepO K Hs H fl d v As→(∀ a∈As,G a=H a)→Rep K G d v)∧∀ {ds:List D} {vs:List V} {As:List Addr},aD K Hs H fl ds vs As→(∀ a∈As,G a=H a)→Reps K G ds vs :=
 RepO.ind (m1:=fun d v As=>(∀ a∈As,G a=H a)→Rep K G d v) (m2:=fun ds vs As=>(∀ a∈As,G a=H a)→Reps K G ds vs) (fun _ _ _ r _=>r.same s)
  (fun _ _ _ _ z e _ ih k=>.list z (.inl (.inl ((k _ List.mem_cons_self).trans e))) (ih fun a h=>k a (List.mem_cons_of_mem _ h))) (fun _ _ _ _ z e n _ ih k=>.tup z (s _ _ e) (ih k)) (fun _ _ _ _ z e _ ih k=>.dK z ((k _ List.mem_cons_self).trans e) (ih fun a h=>k a (List.mem_cons_of_mem _ h)))
  (fun _ _ _ _ z e _ ih k=>.dT z ((k _ List.mem_cons_self).trans e) (ih fun a h=>k a (List.mem_cons_of_mem _ h))) (fun _=>.nil) fun _ _ _ _ _ _ _ _ i1 i2 k=>.cons (i1 fun a h=>k a (List.mem_append_left _ h)) (i2 fun a h=>k a (List.mem_append_right _ h))
theorem RepO.rep {G:Hp} (s:Same Hs G) {d:D} {v:V} {As:List Addr} (r:RepO K Hs H fl d v As) (k:∀ a∈As,G a=H a):Rep K G d v:=(RepO.rep2 s).1 r k
theorem aD.reps {G:Hp} (s:Same Hs G) {ds:List D} {vs:List V} {As:List Addr} (r:aD K Hs H fl ds vs As) (k:∀ a∈As,G a=H a):Reps K G ds vs:=(RepO.rep2 s).2 r k
theorem Rep.vM {G:Hp} (t:∀ a vs,H a=some (.tup vs)→G a=some (.tup vs)):(∀ {d:D} {v:V},Rep K H d v→d.flat=true→Rep K G d v)∧∀ {ds:List D} {vs:List V},Reps K H ds vs→flats ds=true→Reps K G ds vs :=
 Rep.ind (m1:=fun d v=>d.flat=true→Rep K G d v) (m2:=fun ds vs=>flats ds=true→Reps K G ds vs) (fun _=>.non) (fun b _=>.bl b) (fun i _=>.int i) (fun _ h _=>.str h) (fun _ _ _ _ _ _ _ f=>by simp [D.flat] at f) (fun _ _ _ z e _ ih f=>.tup z (t _ _ e) (ih (by simpa [D.flat] using f)))
  (fun _ _ _ _ _ _ _ f=>by simp [D.flat] at f) (fun _ _ _ _ _ _ _ f=>by simp [D.flat] at f) (fun _=>.nil) fun _ _ _ _ _ _ i1 i2 f=>by
   simp only [flats,Bool.and_eq_true] at f
   exact .cons (i1 f.1) (i2 f.2)
theorem Rep.j5 {G:Hp} (t:∀ a vs,H a=some (.tup vs)→G a=some (.tup vs)) {d:D} {v:V} (r:Rep K H d v) (f:d.flat=true):Rep K G d v:=(Rep.vM t).1 r f
theorem Reps.j5 {G:Hp} (t:∀ a vs,H a=some (.tup vs)→G a=some (.tup vs)) {ds:List D} {vs:List V} (r:Reps K H ds vs) (f:flats ds=true):Reps K G ds vs:=(Rep.vM t).2 r f
theorem Reps.owned {ds:List D} {vs:List V} (r:Reps K Hs ds vs) (f:flats ds=true):aD K Hs H fl ds vs [] :=
 Reps.ind (m:=fun ds vs=>flats ds=true→aD K Hs H fl ds vs []) (fun _=>.nil) (fun _ _ _ _ h _ ih f=>by
  simp only [flats,Bool.and_eq_true] at f
  exact .cons (As:=[]) (.sh (fun _=>f.1) h) (ih f.2)) r f
theorem Reps.DG {ds:List D} {vs:List V} (r:Reps K Hs ds vs):aD K Hs H false ds vs [] :=
 Reps.ind (m:=fun ds vs=>aD K Hs H false ds vs []) .nil (fun _ _ _ _ h _ ih=>.cons (As:=[]) (.sh (fun z=>Bool.noConfusion z) h) ih) r
theorem RepO.fls2:(∀ {d:D} {v:V} {As:List Addr},RepO K Hs H fl d v As→RepO K Hs H false d v As)∧∀ {ds:List D} {vs:List V} {As:List Addr},aD K Hs H fl ds vs As→aD K Hs H false ds vs As :=
 RepO.ind (fun _ _ _ r=>.sh (fun z=>Bool.noConfusion z) r) (fun _ _ _ _ z e _ ih=>.list z e ih) (fun _ _ _ _ z e n _ ih=>.tup z e n ih) (fun _ _ _ _ z e _ ih=>.dK z e ih) (fun _ _ _ _ z e _ ih=>.dT z e ih) .nil fun _ _ _ _ _ _ _ _ a b=>.cons a b
theorem RepO.fls {d:D} {v:V} {As:List Addr} (r:RepO K Hs H fl d v As):RepO K Hs H false d v As:=RepO.fls2.1 r
theorem aD.fls {ds:List D} {vs:List V} {As:List Addr} (r:aD K Hs H fl ds vs As):aD K Hs H false ds vs As:=RepO.fls2.2 r
theorem RepO.zX {G:Hp} (t:∀ a vs,Hs a=some (.tup vs)→G a=some (.tup vs)):(∀ {d:D} {v:V} {As:List Addr},RepO K Hs H true d v As→RepO K G H true d v As)∧∀ {ds:List D} {vs:List V} {As:List Addr},aD K Hs H true ds vs As→aD K G H true ds vs As :=
 RepO.ind (fun _ _ f r=>.sh f (r.j5 t (f rfl))) (fun _ _ _ _ z e _ ih=>.list z e ih) (fun _ _ _ _ z e n _ ih=>.tup z (t _ _ e) n ih) (fun _ _ _ _ z e _ ih=>.dK z e ih) (fun _ _ _ _ z e _ ih=>.dT z e ih) .nil fun _ _ _ _ _ _ _ _ a b=>.cons a b
theorem RepO.leaves {G:Hp} (t:∀ a vs,Hs a=some (.tup vs)→G a=some (.tup vs)) {d:D} {v:V} {As:List Addr} (r:RepO K Hs H true d v As):RepO K G H true d v As:=(RepO.zX t).1 r
theorem aD.ind {m:List D→List V→List Addr→Prop} (hn:m [] [] []) (hc:∀ d v ds vs As Bs,RepO K Hs H fl d v As→aD K Hs H fl ds vs Bs→m ds vs Bs→m (d :: ds) (v :: vs) (As++Bs)):∀ {ds vs As},aD K Hs H fl ds vs As→m ds vs As :=
 fun r=>(RepO.ind (m1:=fun _ _ _=>True) (m2:=m) (fun _ _ _ _=>trivial) (fun _ _ _ _ _ _ _ _=>trivial) (fun _ _ _ _ _ _ _ _ _=>trivial) (fun _ _ _ _ _ _ _ _=>trivial) (fun _ _ _ _ _ _ _ _=>trivial) hn fun d v ds vs As Bs r s _ b=>hc d v ds vs As Bs r s b).2 r
theorem aD.append {ds es:List D} {vs ws:List V} {As Bs:List Addr} (r:aD K Hs H fl ds vs As) (t:aD K Hs H fl es ws Bs):aD K Hs H fl (ds++es) (vs++ws) (As++Bs) :=
 aD.ind (m:=fun ds vs As=>aD K Hs H fl (ds++es) (vs++ws) (As++Bs)) t (fun _ _ _ _ _ _ h _ ih=>by
  rw [List.append_assoc]
  exact .cons h ih) r
theorem aD.c {d:D} {ds:List D} {vs:List V} {As:List Addr} (h:aD K Hs H fl (d :: ds) vs As):∃ u us A B,vs=u :: us∧As=A++B∧RepO K Hs H fl d u A∧aD K Hs H fl ds us B:=by
 cases h with
 | cons r rs=>exact ⟨_,_,_,_,rfl,rfl,r,rs⟩
theorem aD.length {ds:List D} {vs:List V} {As:List Addr} (r:aD K Hs H fl ds vs As):ds.length=vs.length :=
 aD.ind (m:=fun ds vs _=>ds.length=vs.length) rfl (fun _ _ _ _ _ _ _ _ ih=>by rw [List.length_cons,List.length_cons,ih]) r
end
inductive Sl where
 /-- shared; owned; owned and walked by a loop just now (at a) -/
 | sh (d:D) | ow (fl:Bool) (d:D) | lk (a:Addr) (fl:Bool) (d:D)
 /-- an exception,at a -/
 | xc (a:Addr)
noncomputable abbrev Env:=List (Option Sl)
inductive SR (K:PySem.W.Frag) (Hs H:Hp):Env→St→List Addr→Prop
 | nil:SR K Hs H [] [] []
 | non {ρ:Env} {σ:St} {tot:List Addr} {o:Option V}:SR K Hs H ρ σ tot→SR K Hs H (none :: ρ) (o :: σ) tot
 | sh {ρ:Env} {σ:St} {tot:List Addr} {d:D} {v:V}:Rep K Hs d v→SR K Hs H ρ σ tot→SR K Hs H (some (.sh d) :: ρ) (some v :: σ) tot
 | xc {ρ:Env} {σ:St} {tot:List Addr} {a:Addr}:SR K Hs H ρ σ tot→SR K Hs H (some (.xc a) :: ρ) (some (.ref a) :: σ) tot
 | ow {ρ:Env} {σ:St} {tot As:List Addr} {fl:Bool} {d:D} {v:V}:As≠[]→RepO K Hs H fl d v As→SR K Hs H ρ σ tot→SR K Hs H (some (.ow fl d) :: ρ) (some v :: σ) (As++tot)
 | lk {ρ:Env} {σ:St} {tot As:List Addr} {a:Addr} {fl:Bool} {d:D}:As≠[]→RepO K Hs H fl d (.ref a) As→SR K Hs H ρ σ tot→SR K Hs H (some (.lk a fl d) :: ρ) (some (.ref a) :: σ) (As++tot)
structure Wf (Hs H:Hp):Prop where
 sub:Same Hs H
 tups:∀ a vs,H a=some (.tup vs)→Hs a=some (.tup vs)
structure SRel (K:PySem.W.Frag) (Hs:Hp) (ρ:Env) (σ:St) (H:Hp) (tot:List Addr):Prop where
 sr:SR K Hs H ρ σ tot
 wf:Wf Hs H
 nod:tot.Nodup
 own:∀ a∈tot,Hs a=none
structure Grow (Hs H Hs' H':Hp):Prop where
 all:Same H H'
 sh:Same Hs Hs'
 wf:Wf Hs' H'
 new:∀ a,Hs' a≠none→Hs a≠none∨H a=none
section
variable {K:PySem.W.Frag} {Hs H Hs' H' Hs'' H'':Hp}
theorem Grow.refl (w:Wf Hs H):Grow Hs H Hs H:=⟨Same.refl _,Same.refl _,w,fun _ h=>.inl h⟩
theorem Grow.trans (a:Grow Hs H Hs' H') (b:Grow Hs' H' Hs'' H''):Grow Hs H Hs'' H'' :=
 ⟨a.all.trans b.all,a.sh.trans b.sh,b.wf,fun c h=>by
  rcases b.new c h with h | h
  ·exact a.new c h
  ·exact .inr (a.all.free h)⟩
theorem Grow.hsn (g:Grow Hs H Hs' H') {a:Addr} (h:Hs a=none) (h':H a≠none):Hs' a=none:=by
 cases e:Hs' a with
 | none=>rfl
 | some o =>
  rcases g.new a (by rw [e]; exact fun z=>nomatch z) with z | z
  ·exact absurd h z
  ·exact absurd z h'
theorem SR.own {ρ:Env} {σ:St} {tot:List Addr} (s:SR K Hs H ρ σ tot):∀ a∈tot,Own H a:=by
 induction s with
 | nil=>exact fun a h=>mem0 h
 | non _ ih=>exact ih
 | sh _ _ ih=>exact ih
 | xc _ ih=>exact ih
 | ow _ r _ ih=>exact fun a h=>(List.mem_append.mp h).elim (r.own a) (ih a)
 | lk _ r _ ih=>exact fun a h=>(List.mem_append.mp h).elim (r.own a) (ih a)
theorem SR.stay (s:Same Hs Hs') {ρ:Env} {σ:St} {tot:List Addr} (r:SR K Hs H ρ σ tot):(∀ a∈tot,H' a=H a)→SR K Hs' H' ρ σ tot:=by
 induction r with
 | nil=>exact fun _=>.nil
 | non _ ih=>exact fun k=>.non (ih k)
 | sh h _ ih=>exact fun k=>.sh (h.same s) (ih k)
 | xc _ ih=>exact fun k=>.xc (ih k)
 | ow ne h _ ih=>exact fun k=>.ow ne (h.stay s fun a m=>k a (List.mem_append_left _ m)) (ih fun a m=>k a (List.mem_append_right _ m))
 | lk ne h _ ih=>exact fun k=>.lk ne (h.stay s fun a m=>k a (List.mem_append_left _ m)) (ih fun a m=>k a (List.mem_append_right _ m))
theorem SRel.grow {ρ:Env} {σ:St} {tot:List Addr} (r:SRel K Hs ρ σ H tot) (g:Grow Hs H Hs' H'):SRel K Hs' ρ σ H' tot :=
 ⟨r.sr.stay g.sh fun a h=>by
  cases e:H a with
  | none=>exact absurd e (r.sr.own a h).ne
  | some o=>exact g.all a o e,g.wf,r.nod,fun a h=>g.hsn (r.own a h) (r.sr.own a h).ne⟩
theorem SR.length {ρ:Env} {σ:St} {tot:List Addr} (s:SR K Hs H ρ σ tot):ρ.length=σ.length:=by
 induction s with
 | nil=>rfl
 | non _ ih=>exact congrArg (· + 1) ih
 | sh _ _ ih=>exact congrArg (· + 1) ih
 | xc _ ih=>exact congrArg (· + 1) ih
 | ow _ _ _ ih=>exact congrArg (· + 1) ih
 | lk _ _ _ ih=>exact congrArg (· + 1) ih
noncomputable def ym (K:PySem.W.Frag) (Hs H:Hp) (tot:List Addr) (sl:Sl) (v:V):Prop:=match sl with
 | .sh d=>Rep K Hs d v
 | .ow fl d=>∃ As,As≠[]∧RepO K Hs H fl d v As∧∀ a∈As,a∈tot
 | .lk a fl d=>∃ As,As≠[]∧RepO K Hs H fl d v As∧v=.ref a∧∀ a∈As,a∈tot
 | .xc a=>v=.ref a
theorem ym.mono {tot tot':List Addr} {sl:Sl} {v:V} (h:ym K Hs H tot sl v) (m:∀ a∈tot,a∈tot'):ym K Hs H tot' sl v:=by
 cases sl with
 | sh d=>exact h
 | xc a=>exact h
 | ow fl d =>
  obtain ⟨As,ne,r,q⟩:=h
  exact ⟨As,ne,r,fun a ha=>m a (q a ha)⟩
 | lk a fl d =>
  obtain ⟨As,ne,r,e,q⟩:=h
  exact ⟨As,ne,r,e,fun a ha=>m a (q a ha)⟩
theorem SR.get {ρ:Env} {σ:St} {tot:List Addr} {i:Nat} {sl:Sl} (s:SR K Hs H ρ σ tot) (e:ρ[i]? = some (some sl)):∃ v,σ[i]? = some (some v)∧ym K Hs H tot sl v:=by
 induction s generalizing i with
 | nil=>simp at e
 | non s ih =>
  cases i with
  | zero=>simp at e
  | succ i=>exact ih e
 | sh r s ih =>
  cases i with
  | zero=>simp at e; subst e; exact ⟨_,rfl,r⟩
  | succ i=>exact ih e
 | xc s ih =>
  cases i with
  | zero=>simp at e; subst e; exact ⟨_,rfl,rfl⟩
  | succ i=>exact ih e
 | ow ne r s ih =>
  cases i with
  | zero=>simp at e; subst e; exact ⟨_,rfl,_,ne,r,fun a m=>List.mem_append_left _ m⟩
  | succ i =>
   obtain ⟨v,e1,h⟩:=ih e
   exact ⟨v,e1,h.mono fun a m=>List.mem_append_right _ m⟩
 | lk ne r s ih =>
  cases i with
  | zero=>simp at e; subst e; exact ⟨_,rfl,_,ne,r,rfl,fun a m=>List.mem_append_left _ m⟩
  | succ i =>
   obtain ⟨v,e1,h⟩:=ih e
   exact ⟨v,e1,h.mono fun a m=>List.mem_append_right _ m⟩
end
inductive Md where
 | sh | ow (fl:Bool) | bo
noncomputable def RM (K:PySem.W.Frag) (Hs H:Hp):Md→D→V→List Addr→Prop
 | .sh,d,v,As=>As=[]∧Rep K Hs d v
 | .ow fl,d,v,As=>RepO K Hs H fl d v As∧As≠[]
 | .bo,d,v,As=>As=[]∧Rep K H d v
inductive RMs (K:PySem.W.Frag) (Hs H:Hp):List (Md × D)→List V→List Addr→Prop
 | nil:RMs K Hs H [] [] []
 | cons {m:Md} {d:D} {v:V} {ps:List (Md × D)} {vs:List V} {As Bs:List Addr}:RM K Hs H m d v As→RMs K Hs H ps vs Bs→RMs K Hs H ((m,d) :: ps) (v :: vs) (As++Bs)
section
variable {K:PySem.W.Frag} {Hs H Hs' H':Hp}
theorem RM.own {m:Md} {d:D} {v:V} {As:List Addr} (r:RM K Hs H m d v As):∀ a∈As,Own H a:=by
 cases m with
 | sh=>obtain ⟨rfl,_⟩:=r; exact fun a h=>mem0 h
 | ow fl=>exact RepO.own r.1
 | bo=>obtain ⟨rfl,_⟩:=r; exact fun a h=>mem0 h
theorem RM.grow {m:Md} {d:D} {v:V} {As:List Addr} (r:RM K Hs H m d v As) (g:Grow Hs H Hs' H'):RM K Hs' H' m d v As:=by
 cases m with
 | sh=>exact ⟨r.1,r.2.same g.sh⟩
 | ow fl=>exact ⟨RepO.grow g.sh g.all r.1,r.2⟩
 | bo=>exact ⟨r.1,r.2.same g.all⟩
theorem RM.rep {m:Md} {d:D} {v:V} {As:List Addr} (w:Wf Hs H) (r:RM K Hs H m d v As):Rep K H d v:=by
 cases m with
 | sh=>exact r.2.same w.sub
 | ow fl=>exact RepO.rep w.sub r.1 fun _ _=>rfl
 | bo=>exact r.2
theorem RM.flat {m:Md} {d:D} {v:V} {As:List Addr} (w:Wf Hs H) (r:RM K Hs H m d v As) (f:d.flat=true):Rep K Hs d v:=(r.rep w).j5 w.tups f
theorem RMs.reps (w:Wf Hs H) {ps:List (Md × D)} {vs:List V} {As:List Addr} (r:RMs K Hs H ps vs As):Reps K H (ps.map (·.2)) vs:=by
 induction r with
 | nil=>exact .nil
 | cons r _ ih=>exact .cons (r.rep w) ih
end
noncomputable abbrev WE:=Env→(Md→D→Prop)→Prop
noncomputable abbrev WT:=Env→(Bool→Prop)→Prop
noncomputable abbrev WA:=Env→(List (Md × D)→Prop)→Prop
structure rF where
 nx:Env→Prop
 rt:Md→D→Prop
 bk:Env→Prop:=fun _=>False
 ct:Env→Prop:=fun _=>False
noncomputable abbrev WS:=rF→Env→Prop
noncomputable def cV (Hs' H:Hp) (As:List Addr):Prop:=As.Nodup∧∀ a∈As,Hs' a=none∧H a=none
noncomputable def tpE (K:PySem.W.Frag) (t:WE):TE:=fun σ H Qv=>∃ Hs ρ tot Q,SRel K Hs ρ σ H tot∧t ρ Q ∧
 ∀ v H' Hs' m d As,Grow Hs H Hs' H'→RM K Hs' H' m d v As→cV Hs' H As→Q m d→Qv v H'
noncomputable def tpT (K:PySem.W.Frag) (t:WT):TT:=fun σ H Qv=>∃ Hs ρ tot Q,SRel K Hs ρ σ H tot∧t ρ Q∧∀ b H' Hs',Grow Hs H Hs' H'→Q b→Qv b H'
noncomputable def tpA (K:PySem.W.Frag) (t:WA):TA:=fun σ H Qv=>∃ Hs ρ tot Q,SRel K Hs ρ σ H tot∧t ρ Q ∧
 ∀ vs H' Hs' ps As,Grow Hs H Hs' H'→RMs K Hs' H' ps vs As→cV Hs' H As→Q ps→Qv vs H'
noncomputable def tpS (K:PySem.W.Frag) (L:Str→Hp→Prop) (t:WS):TS:=fun D σ H=>∃ Hs ρ tot E,SRel K Hs ρ σ H tot∧t E ρ ∧
 (∀ σ' H' Hs' ρ' tot',Same Hs Hs'→SRel K Hs' ρ' σ' H' tot'→E.nx ρ'→D.nx σ' H') ∧
 (∀ σ' H' Hs' ρ' tot',Same Hs Hs'→SRel K Hs' ρ' σ' H' tot'→E.bk ρ'→D.bk σ' H') ∧
 (∀ σ' H' Hs' ρ' tot',Same Hs Hs'→SRel K Hs' ρ' σ' H' tot'→E.ct ρ'→D.ct σ' H') ∧
 (∀ v H' Hs' m d As,Same Hs Hs'→Wf Hs' H'→RM K Hs' H' m d v As→As.Nodup→(∀ a∈As,Hs' a=none)→E.rt m d→D.rt v H') ∧
 ∀ n H',Same Hs H'→E.rt (.ow false) (.str n)→L n H'
theorem qz {K:PySem.W.Frag} {L:Str→Hp→Prop} {t:WS} {D:Ends} {σ:St} {H:Hp} {G:Prop} (x:tpS K L t D σ H) (k:∀ Hs ρ tot E,SRel K Hs ρ σ H tot→t E ρ →
 (∀ σ' H' Hs' ρ' tot',Same Hs Hs'→SRel K Hs' ρ' σ' H' tot'→E.nx ρ'→D.nx σ' H') →
 (∀ σ' H' Hs' ρ' tot',Same Hs Hs'→SRel K Hs' ρ' σ' H' tot'→E.bk ρ'→D.bk σ' H') →
 (∀ σ' H' Hs' ρ' tot',Same Hs Hs'→SRel K Hs' ρ' σ' H' tot'→E.ct ρ'→D.ct σ' H') →
 (∀ v H' Hs' m d As,Same Hs Hs'→Wf Hs' H'→RM K Hs' H' m d v As→As.Nodup→(∀ a∈As,Hs' a=none)→E.rt m d→D.rt v H') →
 (∀ n H',Same Hs H'→E.rt (.ow false) (.str n)→L n H')→G):G :=
 by
 obtain ⟨Hs,ρ,tot,E,sr,h,k1,k2,k3,k4,kx⟩:=x
 exact k Hs ρ tot E sr h k1 k2 k3 k4 kx
theorem fV {K:PySem.W.Frag} {L:Str→Hp→Prop} {t:WS} {D:Ends} {σ:St} {H:Hp} {G:Prop} (x:tpS K L t D σ H) (k:∀ Hs ρ tot E,SRel K Hs ρ σ H tot→t E ρ →
 (∀ σ' H' Hs' ρ' tot',Same Hs Hs'→SRel K Hs' ρ' σ' H' tot'→E.nx ρ'→D.nx σ' H') →
 (∀ σ' H' Hs' ρ' tot',Same Hs Hs'→SRel K Hs' ρ' σ' H' tot'→E.bk ρ'→D.bk σ' H') →
 (∀ σ' H' Hs' ρ' tot',Same Hs Hs'→SRel K Hs' ρ' σ' H' tot'→E.ct ρ'→D.ct σ' H') →
 (∀ v H' Hs' m d As,Same Hs Hs'→Wf Hs' H'→RM K Hs' H' m d v As→As.Nodup→(∀ a∈As,Hs' a=none)→E.rt m d→D.rt v H')→G):G :=
 qz x fun Hs ρ tot E sr h k1 k2 k3 k4 _=>k Hs ρ tot E sr h k1 k2 k3 k4
theorem ex4 {α β γ δ:Type _} {A B C:α→β→γ→δ→Prop} {G:Prop} (x:∃ a b c d,A a b c d∧B a b c d∧C a b c d) (k:∀ a b c d,A a b c d→B a b c d→C a b c d→G):G :=
 by
 obtain ⟨a,b,c,d,p,q,r⟩:=x
 exact k a b c d p q r
noncomputable abbrev QE (X:Cx) (K:PySem.W.Frag) (e:Expr) (t:WE):Prop:=PE X e (tpE K t)
noncomputable abbrev QT (X:Cx) (K:PySem.W.Frag) (e:Expr) (t:WT):Prop:=PT X e (tpT K t)
noncomputable abbrev QW (X:Cx) (K:PySem.W.Frag) (e:Expr) (t:WT):Prop:=PW X e (tpT K t)
noncomputable abbrev QA (X:Cx) (K:PySem.W.Frag) (es:List Expr) (t:WA):Prop:=PA X es (tpA K t)
noncomputable abbrev QS (X:Cx) (K:PySem.W.Frag) (L:Str→Hp→Prop) (st:Stmt) (t:WS):Prop:=PS X st (tpS K L t)
noncomputable abbrev QSs (X:Cx) (K:PySem.W.Frag) (L:Str→Hp→Prop) (st:List Stmt) (t:WS):Prop:=PSs X st (tpS K L t)
noncomputable abbrev L0:Str→Hp→Prop:=fun _ _=>True
end L2.Q
set_option Elab.async false
set_option linter.all false
set_option maxRecDepth 100000
set_option maxHeartbeats 4000000
namespace L2.Q
open PySem PySem.Spec PyProof.Rows
structure Kt {α:Type} (f:α→Prop):Type where
noncomputable def onK {α:Type} (a:α) {f:α→Prop} (_:Kt f):Prop:=f a
mutual
noncomputable def D.py:D→PyData
 | .non=>.none
 | .bl b=>.bool b
 | .int i=>.int i
 | .str x=>.str x
 | .list xs=>.list (pys xs)
 | .tup xs=>.tuple (pys xs)
 | .dK _=>.none
 | .dT _=>.none
noncomputable def pys:List D→List PyData
 | []=>[]
 | x :: xs=>x.py :: pys xs
end
noncomputable def okD:Nat→D→Bool
 | _,.non=>true
 | _,.bl _=>true
 | _,.int _=>true
 | _,.str x=>PyData.strOk x
 | n+1,.list xs=>xs.all (okD n)
 | n+1,.tup xs=>xs.all (okD n)
 | _,_=>false
noncomputable def eqD (x y:D):Bool:=PyData.eqv x.py y.py
noncomputable def D.ty:D→String
 | .non => "NoneType"
 | .bl _ => "bool"
 | .int _ => "int"
 | .str _ => "str"
 | .list _ => "list"
 | .tup _ => "tuple"
 | .dK _ => "dict"
 | .dT _ => "dict"
noncomputable def D.key1:D→Option Key
 | .int i=>some (.inl i)
 | .str x=>some (.inr x)
 | _=>none
noncomputable def eN:List D→Option (List Key)
 | []=>some []
 | x :: xs=>match x.key1,eN xs with
  | some k,some ks=>some (k :: ks)
  | _,_=>none
section
variable {κ:Type} [DecidableEq κ] {β:Type}
noncomputable def getG (kvs:List (κ × β)) (k:κ):Option β:=(kvs.find? fun kv=>decide (kv.1=k)).map (·.2)
noncomputable def putG (kvs:List (κ × β)) (k:κ) (v:β):List (κ × β) :=
 if (kvs.any fun kv=>decide (kv.1=k))=true then kvs.map (fun kv=>if kv.1=k then (kv.1,v) else kv) else kvs++[(k,v)]
end
theorem Rep.l22 {K:PySem.W.Frag} {H:Hp}:(∀ {d:D} {v:V},Rep K H d v→∀ n,okD n d=true→L2.Rep K H d.py v)∧∀ {ds:List D} {vs:List V},Reps K H ds vs→∀ n,(∀ d∈ds,okD n d=true)→L2.Reps K H (pys ds) vs :=
 Rep.ind (m1:=fun d v=>∀ n,okD n d=true→L2.Rep K H d.py v) (m2:=fun ds vs=>∀ n,(∀ d∈ds,okD n d=true)→L2.Reps K H (pys ds) vs) (fun _ _=>.none) (fun b _ _=>.bool b) (fun i _ _=>.int i) (fun _ _ _ _=>.str _)
  (fun _ _ _ _ h _ ih n o=>by
   cases n with
   | zero=>simp [okD] at o
   | succ n=>exact .list h (ih n (by simpa [okD] using o)))
  (fun _ _ _ _ h _ ih n o=>by
   cases n with
   | zero=>simp [okD] at o
   | succ n=>exact .tuple (.inl (.inl h)) (ih n (by simpa [okD] using o)))
  (fun _ _ _ _ _ _ _ n o=>by cases n <;> simp [okD] at o) (fun _ _ _ _ _ _ _ n o=>by cases n <;> simp [okD] at o) (fun _ _=>.nil)
  fun _ _ _ _ _ _ i1 i2 n o=>.cons (i1 n (o _ List.mem_cons_self)) (i2 n fun d m=>o d (List.mem_cons_of_mem _ m))
theorem Rep.l2 {K:PySem.W.Frag} {H:Hp} {n:Nat} {d:D} {v:V} (r:Rep K H d v) (o:okD n d=true):L2.Rep K H d.py v:=Rep.l22.1 r n o
theorem xO {n:Nat} (ih:∀ d,okD n d=true→d.py.canLay0=true∧d.py.depth≤n) (xs:List D) (h:∀ x∈xs,okD n x=true):PyData.canLayAll0 (pys xs)=true∧PyData.depthAll (pys xs)≤n:=by
 induction xs with
 | nil=>exact ⟨rfl,Nat.zero_le _⟩
 | cons x xs ih2 =>
  have h1:=ih x (h x List.mem_cons_self)
  have h2:=ih2 fun y hy=>h y (List.mem_cons_of_mem _ hy)
  simp only [pys,PyData.canLayAll0,PyData.depthAll,h1.1,h2.1,Bool.and_self,true_and]
  walk_at "l"
theorem sV (n:Nat):∀ (d:D),okD n d=true→d.py.canLay0=true∧d.py.depth≤n:=by
 have st:∀ (n:Nat) (x:Str),okD n (.str x)=true→(D.str x).py.canLay0=true∧(D.str x).py.depth≤n:=fun n x h=>by
  have h:PyData.strOk x=true:=by cases n <;> simpa [okD] using h
  exact ⟨by simpa [D.py,PyData.canLay0] using h,Nat.zero_le _⟩
 induction n with
 | zero =>
  intro d h
  cases d with
  | str x=>exact st _ x h
  | non=>exact ⟨rfl,Nat.zero_le _⟩
  | bl _=>exact ⟨rfl,Nat.zero_le _⟩
  | int _=>exact ⟨rfl,Nat.zero_le _⟩
  | _=>simp [okD] at h
 | succ n ih =>
  intro d h
  cases d with
  | str x=>exact st _ x h
  | non=>exact ⟨rfl,Nat.zero_le _⟩
  | bl _=>exact ⟨rfl,Nat.zero_le _⟩
  | int _=>exact ⟨rfl,Nat.zero_le _⟩
  | list xs =>
   have h:∀ x∈xs,okD n x=true:=by simpa [okD] using h
   have:=xO ih xs h
   simp only [D.py,PyData.canLay0,PyData.depth]
   exact ⟨this.1,by walk_at "l"⟩
  | tup xs =>
   have h:∀ x∈xs,okD n x=true:=by simpa [okD] using h
   have:=xO ih xs h
   simp only [D.py,PyData.canLay0,PyData.depth]
   exact ⟨this.1,by walk_at "l"⟩
  | dK _=>simp [okD] at h
  | dT _=>simp [okD] at h
mutual
noncomputable def D.nb:D→Bool
 | .bl _=>false
 | .list xs=>nbs xs
 | .tup xs=>nbs xs
 | .dK _=>false
 | .dT _=>false
 | _=>true
noncomputable def nbs:List D→Bool
 | []=>true
 | x :: xs=>x.nb && nbs xs
end
mutual
theorem n_:∀ (x y:D),x.nb=true→y.nb=true→(eqD x y=true↔x=y)
 | .non,y,_,hy=>by cases y <;> simp_all [eqD,D.py,PyData.eqv,D.nb]
 | .bl _,y,hx,_=>by simp [D.nb] at hx
 | .int i,y,_,hy=>by cases y <;> simp_all [eqD,D.py,PyData.eqv,D.nb]
 | .str i,y,_,hy=>by cases y <;> simp_all [eqD,D.py,PyData.eqv,D.nb]
 | .dK _,y,hx,_=>by simp [D.nb] at hx
 | .dT _,y,hx,_=>by simp [D.nb] at hx
 | .list xs,y,hx,hy=>by
  cases y with
  | list ys =>
   have:=oE xs ys (by simpa [D.nb] using hx) (by simpa [D.nb] using hy)
   simp only [eqD,D.py,PyData.eqv,D.list.injEq]
   exact this
  | _=>simp_all [eqD,D.py,PyData.eqv,D.nb]
 | .tup xs,y,hx,hy=>by
  cases y with
  | tup ys =>
   have:=oE xs ys (by simpa [D.nb] using hx) (by simpa [D.nb] using hy)
   simp only [eqD,D.py,PyData.eqv,D.tup.injEq]
   exact this
  | _=>simp_all [eqD,D.py,PyData.eqv,D.nb]
theorem oE:∀ (xs ys:List D),nbs xs=true→nbs ys=true→(PyData.eqvAll (pys xs) (pys ys)=true↔xs=ys)
 | [],[],_,_=>by simp [pys,PyData.eqvAll]
 | [],_ :: _,_,_=>by simp [pys,PyData.eqvAll]
 | _ :: _,[],_,_=>by simp [pys,PyData.eqvAll]
 | x :: xs,y :: ys,hx,hy=>by
  simp only [nbs,Bool.and_eq_true] at hx hy
  have h1:=n_ x y hx.1 hy.1
  have h2:=oE xs ys hx.2 hy.2
  simp only [pys,PyData.eqvAll,Bool.and_eq_true,List.cons.injEq]
  exact and_congr h1 h2
end
section
variable {K:PySem.W.Frag} {H:Hp}
theorem Rep.key {d:D} {v:V} {k:Key} (r:Rep K H d v) (h:d.key1=some k):v=kV k:=by
 cases r <;> simp [D.key1] at h <;> subst h <;> rfl
theorem Reps.keys {ds:List D} {vs:List V} {ks:List Key} (r:Reps K H ds vs) (h:eN ds=some ks):vs=ks.map kV:=by
 induction ds generalizing vs ks with
 | nil=>simp [eN] at h; subst h; exact r.n0
 | cons d ds ih =>
  obtain ⟨u,us,rfl,r,rs⟩:=r.c
  unfold eN at h
  cases e1:d.key1 with
  | none=>rw [e1] at h; simp at h
  | some k =>
   cases e2:eN ds with
   | none=>rw [e1,e2] at h; simp at h
   | some ks' =>
    rw [e1,e2] at h
    simp at h
    subst h
    rw [List.map_cons,r.key e1,ih rs e2]
theorem Rep.keyT {ds:List D} {v:V} {ks:List Key} (r:Rep K H (.tup ds) v) (h:eN ds=some ks):∃ b,v=.ref b∧H b=some (.tup (ks.map kV)):=by
 cases r with
 | tup _ e rs=>exact ⟨_,rfl,by rw [e,rs.keys h]⟩
end
section
variable {κ:Type} [DecidableEq κ] {K:PySem.W.Frag} {H:Hp}
theorem zip_get {k:κ} {kvs:List (κ × D)} {vs:List V} (h:Reps K H (kvs.map (·.2)) vs):match getG kvs k with
  | some d=>∃ v,valV ((kvs.map (·.1)).zip vs) k=some v∧Rep K H d v
  | none=>valV ((kvs.map (·.1)).zip vs) k=none:=by
 induction kvs generalizing vs with
 | nil=>rfl
 | cons p kvs ih =>
  obtain ⟨u,us,rfl,r,rs⟩:=Reps.c (d:=p.2) h
  by_cases e:p.1=k
  ·have e1:getG (p :: kvs) k=some p.2:=by simp [getG,e]
   rw [e1]
   exact ⟨_,by simp only [List.map_cons,List.zip_cons_cons]; exact valV_pos e,r⟩
  ·have e1:getG (p :: kvs) k=getG kvs k:=by simp [getG,e]
   rw [e1]
   have:=ih rs
   simp only [List.map_cons,List.zip_cons_cons,valV_neg (p:=(p.1,_)) e]
   exact this
end
section
variable {K:PySem.W.Frag} {Hs H:Hp}
theorem newL {p:Addr} {o:HO} (w:Wf Hs H) (hp:H p=none) (ho:∀ vs,o≠.tup vs):Grow Hs H Hs (upd H p o) :=
 ⟨(Same.refl H).upd hp,Same.refl _,⟨w.sub.upd hp,fun a vs e=>by
  by_cases h:a=p
  ·subst h; rw [upd_same] at e; exact absurd (Option.some.inj e) (ho vs)
  ·rw [upd_ne h] at e; exact w.tups a vs e⟩,fun _ h=>.inl h⟩
theorem newT {p:Addr} {vs:List V} (w:Wf Hs H) (hp:H p=none):Grow Hs H (upd Hs p (.tup vs)) (upd H p (.tup vs)) :=
 ⟨(Same.refl H).upd hp,(Same.refl Hs).upd (w.sub.free hp),⟨fun a o e=>by
  by_cases h:a=p
  ·subst h; rw [upd_same] at e ⊢; exact e
  ·rw [upd_ne h] at e ⊢; exact w.sub a o e,fun a vs e=>by
  by_cases h:a=p
  ·subst h; rw [upd_same] at e ⊢; exact e
  ·rw [upd_ne h] at e ⊢; exact w.tups a vs e⟩,fun a h=>by
  by_cases e:a=p
  ·subst e; exact .inr hp
  ·rw [upd_ne e] at h; exact .inl h⟩
theorem cV.nil:cV Hs H []:=⟨List.nodup_nil,fun a h=>nomatch h⟩
theorem cV.of {H':Hp} {As:List Addr} (s:Same H H') (f:cV Hs H' As):cV Hs H As:=⟨f.1,fun a h=>⟨(f.2 a h).1,s.free (f.2 a h).2⟩⟩
noncomputable abbrev Fin (K:PySem.W.Frag) (Hs H:Hp) (Qd:Md→D→Prop) (Qv:VK):Prop:=∀ v H' Hs' m d As,Grow Hs H Hs' H'→RM K Hs' H' m d v As→cV Hs' H As→Qd m d→Qv v H'
theorem Fin.after {Hs' H':Hp} {Qd:Md→D→Prop} {Qv:VK} (f:Fin K Hs H Qd Qv) (g:Grow Hs H Hs' H'):Fin K Hs' H' Qd Qv:=fun v H2 Hs2 m d As g2 r fr q=>f v H2 Hs2 m d As (g.trans g2) r (fr.of g.all) q
theorem Fin.sh {Qd:Md→D→Prop} {Qv:VK} {d:D} {v:V} (f:Fin K Hs H Qd Qv) (w:Wf Hs H) (r:Rep K Hs d v) (q:Qd .sh d):Qv v H:=f v H Hs .sh d [] (Grow.refl w) ⟨rfl,r⟩ cV.nil q
theorem Fin.flat {Qd:Md→D→Prop} {Qv:VK} {d:D} {v:V} (f:Fin K Hs H Qd Qv) (w:Wf Hs H) (r:Rep K H d v) (hf:d.flat=true) (q:Qd .sh d):Qv v H:=f.sh w (r.j5 w.tups hf) q
theorem Fin.bo {Qd:Md→D→Prop} {Qv:VK} {d:D} {v:V} (f:Fin K Hs H Qd Qv) (w:Wf Hs H) (r:Rep K H d v) (q:Qd .bo d):Qv v H:=f v H Hs .bo d [] (Grow.refl w) ⟨rfl,r⟩ cV.nil q
noncomputable def itm (m:Md) (d:D):Md:=match m with
 | .sh=>.sh
 | _=>bif d.flat then .sh else .bo
theorem Fin.itm {Qd:Md→D→Prop} {Qv:VK} {m:Md} {d:D} {v:V} (f:Fin K Hs H Qd Qv) (w:Wf Hs H) (r:Rep K H d v) (rs:m=.sh→Rep K Hs d v) (q:Qd (itm m d) d):Qv v H:=by
 cases m with
 | sh=>exact f.sh w (rs rfl) q
 | ow fl =>
  cases hf:d.flat with
  | true=>exact f.flat w r hf (by simpa [Q.itm,hf] using q)
  | false=>exact f.bo w r (by simpa [Q.itm,hf] using q)
 | bo =>
  cases hf:d.flat with
  | true=>exact f.flat w r hf (by simpa [Q.itm,hf] using q)
  | false=>exact f.bo w r (by simpa [Q.itm,hf] using q)
theorem Fin.lst {Qd:Md→D→Prop} {Qv:VK} {ds:List D} {vs:List V} (f:Fin K Hs H Qd Qv) (w:Wf Hs H) (hz:ds.length≤sizeLine) (r:Reps K H ds vs) (hf:flats ds=true) (q:Qd (.ow true) (.list ds)):∀ p,H p=none→Qv (.ref p) (upd H p (.lst vs)):=fun p hp =>
 f _ _ Hs (.ow true) (.list ds) [p] (newL w hp fun _ z=>nomatch z) ⟨.list (by rw [← r.length]; exact hz) upd_same ((r.j5 w.tups hf).owned hf),by simp⟩ ⟨by simp,fun a h=>by
  obtain rfl:a=p:=by simpa using h
  exact ⟨w.sub.free hp,hp⟩⟩ q
theorem Fin.lstS {Qd:Md→D→Prop} {Qv:VK} {ds:List D} {vs:List V} (f:Fin K Hs H Qd Qv) (w:Wf Hs H) (hz:ds.length≤sizeLine) (r:Reps K Hs ds vs) (q:Qd (.ow false) (.list ds)):∀ p,H p=none→Qv (.ref p) (upd H p (.lst vs)):=fun p hp =>
 f _ _ Hs (.ow false) (.list ds) [p] (newL w hp fun _ z=>nomatch z) ⟨.list (by rw [← r.length]; exact hz) upd_same r.DG,by simp⟩ ⟨by simp,fun a h=>by
  obtain rfl:a=p:=by simpa using h
  exact ⟨w.sub.free hp,hp⟩⟩ q
theorem Fin.tup {Qd:Md→D→Prop} {Qv:VK} {ds:List D} {vs:List V} (f:Fin K Hs H Qd Qv) (w:Wf Hs H) (hz:ds.length≤sizeLine) (r:Reps K H ds vs) (hf:flats ds=true) (q:Qd .sh (.tup ds)):∀ p,H p=none→Qv (.ref p) (upd H p (.tup vs)):=fun p hp =>
 f _ _ (upd Hs p (.tup vs)) .sh (.tup ds) [] (newT w hp) ⟨rfl,.tup (by rw [← r.length]; exact hz) upd_same ((r.j5 w.tups hf).same ((Same.refl Hs).upd (w.sub.free hp)))⟩ cV.nil q
end
section
variable {X:Cx} {K:PySem.W.Frag}
theorem PE.imp {e:Expr} {te te':TE} (h:PE X e te) (i:∀ σ H Q,te' σ H Q→te σ H Q):PE X e te':=fun pins s σ H Q I q=>h pins s σ H Q I (i σ H Q q)
theorem PT.imp {e:Expr} {te te':TT} (h:PT X e te) (i:∀ σ H Q,te' σ H Q→te σ H Q):PT X e te':=fun pins s σ H Q I q=>h pins s σ H Q I (i σ H Q q)
theorem PW.imp {e:Expr} {te te':TT} (h:PW X e te) (i:∀ σ H Q,te' σ H Q→te σ H Q):PW X e te':=fun wh pins s σ H Q I q=>h wh pins s σ H Q I (i σ H Q q)
theorem PA.imp {e:List Expr} {te te':TA} (h:PA X e te) (i:∀ σ H Q,te' σ H Q→te σ H Q):PA X e te':=fun p pins s σ H Q I q=>h p pins s σ H Q I (i σ H Q q)
noncomputable def useS:Option (Option Sl)→(Md→D→Prop)→Prop
 | some (some (.sh d)),Q=>Q .sh d
 | some (some (.ow _ d)),Q=>Q .bo d
 | some (some (.lk _ _ d)),Q=>Q .bo d
 | _,_=>False
noncomputable def wVar (i:Nat):WE:=fun ρ Q=>useS ρ[i]? Q
theorem FJ {i:Nat} {e:Expr} (h:PE X e (tVar i)):QE X K e (wVar i):=by
 refine PE.imp h fun σ H Qv hx=>ex4 hx fun Hs ρ tot Q sr h f=>?_
 unfold wVar at h
 cases e:ρ[i]? with
 | none=>rw [e] at h; exact h.elim
 | some o =>
  cases o with
  | none=>rw [e] at h; exact h.elim
  | some sl =>
   obtain ⟨v,e1,r⟩:=sr.sr.get e
   rw [e] at h
   cases sl with
   | sh d=>exact ⟨v,e1,Fin.sh f sr.wf r h⟩
   | xc a=>exact h.elim
   | ow fl d =>
    obtain ⟨As,_,r,_⟩:=r
    exact ⟨v,e1,Fin.bo f sr.wf (r.rep sr.wf.sub fun _ _=>rfl) h⟩
   | lk a fl d =>
    obtain ⟨As,_,r,_⟩:=r
    exact ⟨v,e1,Fin.bo f sr.wf (r.rep sr.wf.sub fun _ _=>rfl) h⟩
theorem qv (i:Nat) {x:Str} {pos:Pos} (hN:X.N[i]? = some x:=by rfl) (hv:Vis X.env.scope x:=by first | exact Or.inl rfl | exact Or.inr (Or.inl rfl) | exact Or.inr (Or.inr rfl)) (hd:(x == ("__debug__" : Str))=false:=by decide)
  (hcd:(x == ("__classdict__" : Str))=false:=by decide):QE X K (.Name x pos) (wVar i):=FJ (pe_var hN hv hd hcd)
noncomputable def wC (d:D):WE:=fun _ Q=>Q .sh d
theorem xG {e:Expr} {v:V} {d:D} (h:PE X e (tC v)) (r:∀ H,Rep K H d v):QE X K e (wC d) :=
 PE.imp h fun σ H Qv hx=>ex4 hx fun Hs ρ tot Q sr h f=>Fin.sh f sr.wf (r _) h
theorem ao {i j pos}:QE X K (.Constant (.int i) j pos) (wC (.int i)):=xG pe_int fun _=>.int i
theorem cW {i j pos} (h:i.length≤sizeLine:=by decide):QE X K (.Constant (.str i) j pos) (wC (.str i)):=xG pe_str fun _=>.str h
theorem q_bl {i j pos}:QE X K (.Constant (.bool i) j pos) (wC (.bl i)):=xG pe_bl fun _=>.bl i
theorem q_gs {x z:Str} {pos:Pos} (h:GlS X.mg x z) (hg:Gl X x:=by rfl) (hd:(x == ("__debug__" : Str))=false:=by decide) (hz:z.length≤sizeLine:=by decide):QE X K (.Name x pos) (wC (.str z)):=xG (Gx h hg hd) fun _=>.str hz
theorem q_gi {x:Str} {i:Int} {pos:Pos} (h:GlI X.mg x i) (hg:Gl X x:=by rfl) (hd:(x == ("__debug__" : Str))=false:=by decide):QE X K (.Name x pos) (wC (.int i)):=xG (Fy h hg hd) fun _=>.int i
noncomputable abbrev W2:=Md→D→Md→D→(Md→D→Prop)→Prop
noncomputable abbrev W1:=Md→D→(Md→D→Prop)→Prop
noncomputable def Br2 (K:PySem.W.Frag) (r:R2) (f:W2):Prop:=∀ Hs H m x v As n y u Bs Qd Qv,Wf Hs H→RM K Hs H m x v As→RM K Hs H n y u Bs→f m x n y Qd→Fin K Hs H Qd Qv→r v u H Qv
noncomputable def Br1 (K:PySem.W.Frag) (r:V→Hp→VK→Prop) (f:W1):Prop:=∀ Hs H m x v As Qd Qv,Wf Hs H→RM K Hs H m x v As→f m x Qd→Fin K Hs H Qd Qv→r v H Qv
noncomputable def wOp (f:W2) (ta tb:WE):WE:=fun ρ Q=>ta ρ fun m x=>tb ρ fun n y=>f m x n y Q
noncomputable def wUn (f:W1) (ta:WE):WE:=fun ρ Q=>ta ρ fun m x=>f m x Q
variable {a b c:Expr} {ta tb tc:WE} {pos:Pos}
theorem iz {r:R2} {f:W2} (br:Br2 K r f) (σ:St) (H:Hp) (Qv:VK) (h:tpE K (wOp f ta tb) σ H Qv):tOp r (tpE K ta) (tpE K tb) σ H Qv:=by
 obtain ⟨Hs,ρ,tot,Q,sr,h,fin⟩:=h
 refine ⟨Hs,ρ,tot,_,sr,h,fun v H1 Hs1 m x As g1 r1 f1 q1=>⟨Hs1,ρ,tot,_,sr.grow g1,q1,fun u H2 Hs2 n y Bs g2 r2 f2 q2=>?_⟩⟩
 exact br Hs2 H2 m x v As n y u Bs Q Qv g2.wf (r1.grow g2) r2 q2 (Fin.after fin (g1.trans g2))
theorem q_op {op:Operator} {r:R2} {f:W2} (ho:OpR X (binaryOp op) r) (br:Br2 K r f) (ha:QE X K a ta) (hb:QE X K b tb):QE X K (.BinOp a op b pos) (wOp f ta tb):=PE.imp (pe_op ho ha hb) (iz br)
theorem q_un {op:UnaryOp} {r:V→Hp→VK→Prop} {f:W1} (ho:UnR X (unaryOp op) r) (br:Br1 K r f) (ha:QE X K a ta):QE X K (.UnaryOp op a pos) (wUn f ta):=by
 refine PE.imp (pe_un ho ha) fun σ H Qv hx=>ex4 hx fun Hs ρ tot Q sr h fin=>?_
 exact ⟨Hs,ρ,tot,_,sr,h,fun v H1 Hs1 m x As g1 r1 f1 q1=>br Hs1 H1 m x v As Q Qv g1.wf r1 q1 (Fin.after fin g1)⟩
theorem mQ {op:CmpOp} {r:R2} {f:W2} (ho:OpR X (compareOp op) r) (br:Br2 K r f) (ha:QE X K a ta) (hb:QE X K b tb) (hm:behindInMarks op b=false):QE X K (.Compare a [op] [b] pos) (wOp f ta tb):=PE.imp (pe_cmpR ho ha hb hm) (iz br)
noncomputable def wB (t:WE):WT:=fun ρ Q=>t ρ fun _ x=>match x with
 | .bl b=>Q b
 | _=>False
theorem yM {t:WE} (σ:St) (H:Hp) (Qv:Bool→Hp→Prop) (h:tpT K (wB t) σ H Qv):tTest (tpE K t) σ H Qv:=by
 obtain ⟨Hs,ρ,tot,Q,sr,h,fin⟩:=h
 refine ⟨Hs,ρ,tot,_,sr,h,fun v H1 Hs1 m x As g1 r1 f1 q1=>?_⟩
 have r:=r1.rep g1.wf
 cases r with
 | bl b=>exact ⟨b,rfl,fin b H1 Hs1 g1 q1⟩
 | _=>exact q1.elim
theorem bz {op:CmpOp} {r:R2} {f:W2} (ho:OpR X (compareOp op) r) (br:Br2 K r f) (ha:QE X K a ta) (hb:QE X K b tb) (hm:behindInMarks op b=false):QT X K (.Compare a [op] [b] pos) (wB (wOp f ta tb)):=by
 refine PT.imp (pt_cmpR ho ha hb hm) fun σ H Qv h=>?_
 obtain ⟨Hs,ρ,tot,Q,sr,h,fin⟩:=h
 refine iz br σ H _ ⟨Hs,ρ,tot,_,sr,h,fun v H1 Hs1 m x As g1 r1 f1 q1=>?_⟩
 have r:=r1.rep g1.wf
 cases r with
 | bl b=>exact ⟨b,rfl,fin b H1 Hs1 g1 q1⟩
 | _=>exact q1.elim
theorem fY {t:WE} (h:QE X K a t) (he:∀ whole,isTrue a X.env whole=(do let v ← whole; standAt a.pos; holding [v] (truthy v)):=by intro _; rfl):QT X K a (wB t):=PT.imp (pt_val h he) yM
noncomputable def gM (f g:W2) (ta tb tc:WE):WE:=fun ρ Q=>ta ρ fun m x=>tb ρ fun n y=>f m x n y fun _ z=>match z with
 | .bl k=>if k=true then tc ρ fun l w=>g n y l w Q else Q .sh (.bl false)
 | _=>False
end
end L2.Q
set_option Elab.async false
set_option linter.all false
set_option maxRecDepth 100000
set_option maxHeartbeats 4000000
namespace L2.Q
open PySem PySem.Spec PyProof.Rows
section
variable {X:Cx} {K:PySem.W.Frag} {a b c:Expr} {ta tb tc:WE} {pos:Pos}
theorem lR {r r':R2} {f g:W2} (br:Br2 K r f) (br':Br2 K r' g) (σ:St) (H:Hp) (Qv:VK) (h:tpE K (gM f g ta tb tc) σ H Qv):tChain r r' (tpE K ta) (tpE K tb) (tpE K tc) σ H Qv:=by
 obtain ⟨Hs,ρ,tot,Q,sr,h,fin⟩:=h
 refine ⟨Hs,ρ,tot,_,sr,h,fun v H1 Hs1 m x As g1 r1 f1 q1=>⟨Hs1,ρ,tot,_,sr.grow g1,q1,fun u H2 Hs2 n y Bs g2 r2 f2 q2=>?_⟩⟩
 refine br Hs2 H2 m x v As n y u Bs _ _ g2.wf (r1.grow g2) r2 q2 fun z H3 Hs3 m3 d3 As3 g3 r3 f3 q3=>?_
 have rr:=r3.rep g3.wf
 cases rr with
 | bl k =>
  refine ⟨k,rfl,?_⟩
  have fin3:Fin K Hs3 H3 Q Qv:=Fin.after fin ((g1.trans g2).trans g3)
  cases k with
  | false=>exact fin3.sh g3.wf (.bl false) q3
  | true =>
   refine ⟨Hs3,ρ,tot,_,((sr.grow g1).grow g2).grow g3,q3,fun w H4 Hs4 l z As4 g4 r4 f4 q4=>?_⟩
   exact br' Hs4 H4 n y u Bs l z w As4 Q Qv g4.wf ((r2.grow g3).grow g4) r4 q4 (Fin.after fin3 g4)
 | _=>exact q3.elim
theorem Bb {op op':CmpOp} {r r':R2} {f g:W2} (ho:OpR X (compareOp op) r) (ho':OpR X (compareOp op') r') (br:Br2 K r f) (br':Br2 K r' g) (ha:QE X K a ta) (hb:QE X K b tb) (hc:QE X K c tc)
  (hm:lastMarks [op,op'] [b,c]=false:=by with_unfolding_all rfl):QE X K (.Compare a [op,op'] [b,c] pos) (gM f g ta tb tc):=PE.imp (pe_chain ho ho' ha hb hc hm) (lR br br')
theorem mV {op op':CmpOp} {r r':R2} {f g:W2} (ho:OpR X (compareOp op) r) (ho':OpR X (compareOp op') r') (br:Br2 K r f) (br':Br2 K r' g) (ha:QE X K a ta) (hb:QE X K b tb) (hc:QE X K c tc)
  (hm:lastMarks [op,op'] [b,c]=false:=by with_unfolding_all rfl):QT X K (.Compare a [op,op'] [b,c] pos) (wB (gM f g ta tb tc)):=by
 refine PT.imp (pt_chain ho ho' ha hb hc hm) fun σ H Qv h=>?_
 obtain ⟨Hs,ρ,tot,Q,sr,h,fin⟩:=h
 refine lR br br' σ H _ ⟨Hs,ρ,tot,_,sr,h,fun v H1 Hs1 m x As g1 r1 f1 q1=>?_⟩
 have r:=r1.rep g1.wf
 cases r with
 | bl b=>exact ⟨b,rfl,fin b H1 Hs1 g1 q1⟩
 | _=>exact q1.elim
noncomputable def wAnd (t u:WT):WT:=fun ρ Q=>t ρ fun c=>if c=true then u ρ Q else Q false
noncomputable def wOr (t u:WT):WT:=fun ρ Q=>t ρ fun c=>if c=true then Q true else u ρ Q
noncomputable def wNot (t:WT):WT:=fun ρ Q=>t ρ fun c=>Q (!c)
variable {tA tB:WT} {rest:List Expr}
theorem mU {t u:WT} {f:Bool→TT} {σ:St} {H:Hp} {Qv:Bool→Hp→Prop} {G:Bool→(Bool→Prop)→Env→Prop}
  (h:tpT K (fun ρ Q=>t ρ fun c=>G c Q ρ) σ H Qv)
  (i:∀ c H1 Hs1 ρ tot Q,SRel K Hs1 ρ σ H1 tot→G c Q ρ→(∀ b H' Hs',Grow Hs1 H1 Hs' H'→Q b→Qv b H')→f c σ H1 Qv):tpT K t σ H fun c H1=>f c σ H1 Qv:=by
 obtain ⟨Hs,ρ,tot,Q,sr,h,fin⟩:=h
 exact ⟨Hs,ρ,tot,_,sr,h,fun c H1 Hs1 g1 q1=>i c H1 Hs1 ρ tot Q (sr.grow g1) q1 fun b H' Hs' g2=>fin b H' Hs' (g1.trans g2)⟩
theorem z6 (ha:QT X K a tA):QW X K (.BoolOp .And [a] pos) tA:=pw_and1 ha
theorem fW (ha:QT X K a tA):QW X K (.BoolOp .Or [a] pos) tA:=pw_or1 ha
theorem Ed (ha:QT X K a tA) (hb:QW X K (.BoolOp .And (b :: rest) pos) tB):QW X K (.BoolOp .And (a :: b :: rest) pos) (wAnd tA tB):=by
 refine PW.imp (pw_and ha hb) fun σ H Qv h=>?_
 refine mU (u:=tB) (f:=fun c σ H1 Q=>if c=true then tpT K tB σ H1 Q else Q false H1) h fun c H1 Hs1 ρ tot Q sr q fin=>?_
 cases c with
 | true=>exact ⟨Hs1,ρ,tot,Q,sr,q,fin⟩
 | false=>exact fin false H1 Hs1 (Grow.refl sr.wf) q
theorem gP (ha:QT X K a tA) (hb:QW X K (.BoolOp .Or (b :: rest) pos) tB):QW X K (.BoolOp .Or (a :: b :: rest) pos) (wOr tA tB):=by
 refine PW.imp (pw_or ha hb) fun σ H Qv h=>?_
 refine mU (u:=tB) (f:=fun c σ H1 Q=>if c=true then Q true H1 else tpT K tB σ H1 Q) h fun c H1 Hs1 ρ tot Q sr q fin=>?_
 cases c with
 | true=>exact fin true H1 Hs1 (Grow.refl sr.wf) q
 | false=>exact ⟨Hs1,ρ,tot,Q,sr,q,fin⟩
theorem qt_w (h:QW X K a tA):QT X K a tA:=h _
theorem eF (ha:QT X K a tA):QT X K (.UnaryOp .Not a pos) (wNot tA):=by
 refine PT.imp (pt_not ha) fun σ H Qv h=>?_
 exact mU (u:=tA) (f:=fun c σ H1 Q=>Q (!c) H1) h fun c H1 Hs1 ρ tot Q sr q fin=>fin _ H1 Hs1 (Grow.refl sr.wf) q
noncomputable def jd (ta tb:WE):WE:=fun ρ Q=>ta ρ fun _ x=>match x with
 | .bl c=>if c=true then tb ρ Q else Q .sh (.bl false)
 | _=>False
noncomputable def wOrV (ta tb:WE):WE:=fun ρ Q=>ta ρ fun _ x=>match x with
 | .bl c=>if c=true then Q .sh (.bl true) else tb ρ Q
 | _=>False
noncomputable def vK (ta:WE):WE:=fun ρ Q=>ta ρ fun _ x=>match x with
 | .bl c=>Q .sh (.bl (!c))
 | _=>False
theorem pF {op} (h:QE X K a ta):QE X K (.BoolOp op [a] pos) ta:=pe_one h
theorem m8 (ha:QE X K a ta) (hb:QE X K (.BoolOp .And (b :: rest) pos) tb):QE X K (.BoolOp .And (a :: b :: rest) pos) (jd ta tb):=by
 refine PE.imp (pe_and ha hb) fun σ H Qv hx=>ex4 hx fun Hs ρ tot Q sr h fin=>?_
 refine ⟨Hs,ρ,tot,_,sr,h,fun v H1 Hs1 m x As g1 r1 f1 q1=>?_⟩
 have r:=r1.rep g1.wf
 cases r with
 | bl c =>
  refine ⟨c,rfl,?_⟩
  cases c with
  | true=>exact ⟨Hs1,ρ,tot,Q,sr.grow g1,q1,Fin.after fin g1⟩
  | false=>exact Fin.sh (Fin.after fin g1) g1.wf (.bl false) q1
 | _=>exact q1.elim
theorem q_or (ha:QE X K a ta) (hb:QE X K (.BoolOp .Or (b :: rest) pos) tb):QE X K (.BoolOp .Or (a :: b :: rest) pos) (wOrV ta tb):=by
 refine PE.imp (pe_or ha hb) fun σ H Qv hx=>ex4 hx fun Hs ρ tot Q sr h fin=>?_
 refine ⟨Hs,ρ,tot,_,sr,h,fun v H1 Hs1 m x As g1 r1 f1 q1=>?_⟩
 have r:=r1.rep g1.wf
 cases r with
 | bl c =>
  refine ⟨c,rfl,?_⟩
  cases c with
  | true=>exact Fin.sh (Fin.after fin g1) g1.wf (.bl true) q1
  | false=>exact ⟨Hs1,ρ,tot,Q,sr.grow g1,q1,Fin.after fin g1⟩
 | _=>exact q1.elim
theorem Eg (ha:QE X K a ta):QE X K (.UnaryOp .Not a pos) (vK ta):=by
 refine PE.imp (pe_not ha) fun σ H Qv hx=>ex4 hx fun Hs ρ tot Q sr h fin=>?_
 refine ⟨Hs,ρ,tot,_,sr,h,fun v H1 Hs1 m x As g1 r1 f1 q1=>?_⟩
 have r:=r1.rep g1.wf
 cases r with
 | bl c=>exact ⟨c,rfl,Fin.sh (Fin.after fin g1) g1.wf (.bl _) q1⟩
 | _=>exact q1.elim
noncomputable def wIf (t:WT) (ta tb:WE):WE:=fun ρ Q=>t ρ fun c=>if c=true then ta ρ Q else tb ρ Q
theorem q_if (hc:QT X K c tA) (ha:QE X K a ta) (hb:QE X K b tb):QE X K (.IfExp c a b pos) (wIf tA ta tb):=by
 refine PE.imp (pe_ifExp hc ha hb) fun σ H Qv hx=>ex4 hx fun Hs ρ tot Q sr h fin=>?_
 refine ⟨Hs,ρ,tot,_,sr,h,fun k H1 Hs1 g1 q1=>?_⟩
 cases k with
 | true=>exact ⟨Hs1,ρ,tot,Q,sr.grow g1,q1,Fin.after fin g1⟩
 | false=>exact ⟨Hs1,ρ,tot,Q,sr.grow g1,q1,Fin.after fin g1⟩
noncomputable def truD:D→Option Bool
 | .non=>some false
 | .bl b=>some b
 | .int i=>some (i != 0)
 | .str x=>some ((x.length:Int) != 0)
 | .list xs=>some !xs.isEmpty
 | .tup xs=>some !xs.isEmpty
 | .dK kvs=>some !kvs.isEmpty
 | .dT kvs=>none
noncomputable def wTru (t:WE):WT:=fun ρ Q=>t ρ fun _ x=>∃ b,truD x=some b∧Q b
end
end L2.Q
set_option Elab.async false
set_option linter.all false
set_option maxRecDepth 100000
set_option maxHeartbeats 4000000
namespace L2.Q
open PySem PySem.Spec PyProof.Rows
noncomputable def fAdd:W2:=fun m x n y Q=>match x,y with
 | .int i,.int j=>Q .sh (.int (i+j))
 | .str i,.str j=>i.length+j.length≤sizeLine∧Q .sh (.str (i++j))
 | .list xs,.list ys=>xs.length+ys.length≤sizeLine∧((flats xs=true∧flats ys=true∧Q (.ow true) (.list (xs++ys)))∨(m=.sh∧n=.sh∧Q (.ow false) (.list (xs++ys))))
 | .tup xs,.tup ys=>xs≠[]∧xs.length+ys.length≤sizeLine∧flats xs=true∧flats ys=true∧Q .sh (.tup (xs++ys))
 | _,_=>False
noncomputable def int2 (P:Int→Int→(Md→D→Prop)→Prop):W2:=fun _ x _ y Q=>match x,y with
 | .int i,.int j=>P i j Q
 | _,_=>False
noncomputable def is2 (P:Int→Int→(Md→D→Prop)→Prop) (S:Str→Str→(Md→D→Prop)→Prop):W2:=fun _ x _ y Q=>match x,y with
 | .int i,.int j=>P i j Q
 | .str i,.str j=>S i j Q
 | _,_=>False
noncomputable def fSub:W2:=int2 fun i j Q=>Q .sh (.int (i - j))
noncomputable def fMul:W2:=int2 fun i j Q=>CMul i j∧Q .sh (.int (i * j))
noncomputable def fDiv:W2:=int2 fun i j Q=>(0<j∧j<1073741824)∧Q .sh (.int (i / j))
noncomputable def fMod:W2:=int2 fun i j Q=>0<j∧Q .sh (.int (i % j))
noncomputable def fLt:W2:=is2 (fun i j Q=>Q .sh (.bl (decide (i<j)))) fun i j Q=>Q .sh (.bl (ltS i j))
noncomputable def fLe:W2:=is2 (fun i j Q=>Q .sh (.bl (decide (i≤j)))) fun i j Q=>Q .sh (.bl (!ltS j i))
noncomputable def fGt:W2:=int2 fun i j Q=>Q .sh (.bl (decide (j<i)))
noncomputable def fEq:W2:=fun _ x _ y Q=>match x,y with
 | .int i,.int j=>Q .sh (.bl (decide (i=j)))
 | .str i,.str j=>Q .sh (.bl (decide (i=j)))
 | .bl i,.bl j=>Q .sh (.bl (decide (i=j)))
 | _,_=>okD 12 x=true∧okD 12 y=true∧Q .sh (.bl (eqD x y))
noncomputable def fNe:W2:=fun _ x _ y Q=>match x,y with
 | .int i,.int j=>Q .sh (.bl (!decide (i=j)))
 | .str i,.str j=>Q .sh (.bl (!decide (i=j)))
 | .bl i,.bl j=>Q .sh (.bl (!decide (i=j)))
 | _,_=>okD 12 x=true∧okD 12 y=true∧Q .sh (.bl (!eqD x y))
noncomputable def eV:D→Bool
 | .non=>true
 | .bl _=>true
 | .int _=>true
 | .str _=>true
 | _=>false
noncomputable def inD (x:D) (ys:List D):Bool:=ys.any fun y=>eqD y x
noncomputable def fIn (neg:Bool):W2:=fun _ x _ y Q=>match y with
 | .str j=>match x with
  | .str i=>Q .sh (.bl (if neg then !inS i j else inS i j))
  | _=>False
 | .list ys=>eV x=true∧ys.all eV=true∧Q .sh (.bl (if neg then !inD x ys else inD x ys))
 | .tup ys=>eV x=true∧ys.all eV=true∧Q .sh (.bl (if neg then !inD x ys else inD x ys))
 | .dK kvs=>∃ k,x.key1=some k∧Q .sh (.bl (if neg then !(getG kvs k).isSome else (getG kvs k).isSome))
 | .dT kvs=>match x with
  | .tup xs=>∃ ks,eN xs=some ks∧Q .sh (.bl (if neg then !(getG kvs ks).isSome else (getG kvs ks).isSome))
  | _=>False
 | _=>False
section
variable {K:PySem.W.Frag}
theorem vJ {Hs H:Hp} {Qd:Md→D→Prop} {Qv:VK} (f:Fin K Hs H Qd Qv) (w:Wf Hs H) {x:Str} (h:x.length≤sizeLine) (q:Qd .sh (.str x)):Qv (.str x) H:=f.sh w (.str h) q
theorem cF (i j:Str):(i++j).length=i.length+j.length:=by
 show ((i++j).cps.size)=_
 show (i.cps++j.cps).size=_
 simp [Str.length]
theorem CT:Br2 K (fun x y H Q=>yR K x y H Q∨rCatT K x y H Q) fAdd:=by
 intro Hs H m x v As n y u Bs Qd Qv w rx ry h f
 have r1:=rx.rep w
 have r2:=ry.rep w
 unfold fAdd at h
 cases r1 with
 | int i=>cases r2 with
  | int j=>exact .inl (f.sh w (.int _) h)
  | _=>exact h.elim
 | str hi=>cases r2 with
  | str hj=>exact .inl ⟨h.1,vJ f w (by rw [cF]; exact h.1) h.2⟩
  | _=>exact h.elim
 | list z1 s1 q1=>cases r2 with
  | list z2 s2 q2 =>
   have l1:=q1.length
   have l2:=q2.length
   have hz:=h.1
   rcases h.2 with ⟨f1,f2,q⟩ | ⟨rfl,rfl,q⟩
   ·refine .inl ⟨_,_,s1,s2,by walk_at "l",?_⟩
    exact f.lst w (by rw [List.length_append]; exact hz) (q1.append q2) (by rw [iB,f1,f2]; rfl) q
   ·obtain ⟨_,rx⟩:=rx
    obtain ⟨_,ry⟩:=ry
    cases rx with
    | list z1' s1' q1'=>cases ry with
     | list z2' s2' q2' =>
      have l1:=q1'.length
      have l2:=q2'.length
      refine .inl ⟨_,_,Same.seq w.sub s1',Same.seq w.sub s2',by walk_at "l",?_⟩
      exact f.lstS w (by rw [List.length_append]; exact hz) (q1'.append q2') q
  | _=>exact h.elim
 | tup t1 s1 q1=>cases r2 with
  | tup t2 s2 q2 =>
   have l1:=q1.length
   have l2:=q2.length
   obtain ⟨hne,hz,f1,f2,q⟩:=h
   refine .inr ⟨_,_,_,_,rfl,rfl,.inl (.inl s1),.inl (.inl s2),?_,by walk_at "l",?_⟩
   ·intro e
    subst e
    exact hne (List.length_eq_zero_iff.mp l1)
   ·refine ⟨fun e=>?_,fun _=>f.tup w (by rw [List.length_append]; exact hz) (q1.append q2) (by rw [iB,f1,f2]; rfl) q⟩
    subst e
    cases q2
    rw [List.append_nil] at q
    exact f.flat w (.tup t1 s1 q1) (by simpa [D.flat] using f1) q
  | _=>exact h.elim
 | _=>exact h.elim
theorem zm {H:Hp} {x y:D} {v u:V} {m n:Md} {P:Int→Int→(Md→D→Prop)→Prop} {S:Str→Str→(Md→D→Prop)→Prop} {Q:Md→D→Prop} {G:Prop} (r1:Rep K H x v) (r2:Rep K H y u) (h:is2 P S m x n y Q) (k:∀ i j,v=.int i→u=.int j→P i j Q→G) (ks:∀ i j,v=.str i→u=.str j→S i j Q→G):G:=by
 cases r1 with
 | int i=>cases r2 with
  | int j=>exact k i j rfl rfl h
  | _=>exact h.elim
 | str hi=>cases r2 with
  | str hj=>exact ks _ _ rfl rfl h
  | _=>exact h.elim
 | _=>exact h.elim
theorem jM {H:Hp} {x y:D} {v u:V} {m n:Md} {P:Int→Int→(Md→D→Prop)→Prop} {Q:Md→D→Prop} {G:Prop} (r1:Rep K H x v) (r2:Rep K H y u) (h:int2 P m x n y Q) (k:∀ i j,v=.int i→u=.int j→P i j Q→G):G:=by
 cases r1 with
 | int i=>cases r2 with
  | int j=>exact k i j rfl rfl h
  | _=>exact h.elim
 | _=>exact h.elim
theorem Dm:Br2 K Ac fSub:=by
 intro Hs H m x v As n y u Bs Qd Qv w rx ry h f
 exact jM (rx.rep w) (ry.rep w) h fun i j e1 e2 q=>by
  subst e1 e2
  exact f.sh w (.int _) q
theorem DR:Br2 K zZ fMul:=by
 intro Hs H m x v As n y u Bs Qd Qv w rx ry h f
 exact jM (rx.rep w) (ry.rep w) h fun i j e1 e2 q=>by
  subst e1 e2
  exact ⟨q.1,f.sh w (.int _) q.2⟩
theorem Dg:Br2 K Cr fDiv:=by
 intro Hs H m x v As n y u Bs Qd Qv w rx ry h f
 exact jM (rx.rep w) (ry.rep w) h fun i j e1 e2 q=>by
  subst e1 e2
  exact ⟨q.1,f.sh w (.int _) q.2⟩
theorem Dw:Br2 K zU fMod:=by
 intro Hs H m x v As n y u Bs Qd Qv w rx ry h f
 exact jM (rx.rep w) (ry.rep w) h fun i j e1 e2 q=>by
  subst e1 e2
  exact ⟨q.1,f.sh w (.int _) q.2⟩
theorem Gb:Br2 K rGtU fGt:=by
 intro Hs H m x v As n y u Bs Qd Qv w rx ry h f
 exact jM (rx.rep w) (ry.rep w) h fun i j e1 e2 q=>by
  subst e1 e2
  exact f.sh w (.bl _) q
theorem vQ:Br2 K rLtU fLt:=by
 intro Hs H m x v As n y u Bs Qd Qv w rx ry h f
 exact zm (rx.rep w) (ry.rep w) h (fun i j e1 e2 q=>by
  subst e1 e2
  exact f.sh w (.bl _) q) fun i j e1 e2 q=>by
  subst e1 e2
  exact f.sh w (.bl _) q
theorem uR:Br2 K rLeU fLe:=by
 intro Hs H m x v As n y u Bs Qd Qv w rx ry h f
 exact zm (rx.rep w) (ry.rep w) h (fun i j e1 e2 q=>by
  subst e1 e2
  exact f.sh w (.bl _) q) fun i j e1 e2 q=>by
  subst e1 e2
  exact f.sh w (.bl _) q
theorem eq_data {Hs H:Hp} {x y:D} {v u:V} {Qd:Md→D→Prop} {Qv:VK} (w:Wf Hs H) (rx:Rep K H x v) (ry:Rep K H y u) (f:Fin K Hs H Qd Qv) (h:okD 12 x=true∧okD 12 y=true∧Qd .sh (.bl (eqD x y))):rEqD K v u H Qv:=by
 obtain ⟨h1,h2,q⟩:=h
 have l1:=sV 12 x h1
 have l2:=sV 12 y h2
 exact ⟨x.py,y.py,rx.l2 h1,ry.l2 h2,l1.1,l2.1,by walk_at "l",f.sh w (.bl _) q⟩
theorem ne_data {Hs H:Hp} {x y:D} {v u:V} {Qd:Md→D→Prop} {Qv:VK} (w:Wf Hs H) (rx:Rep K H x v) (ry:Rep K H y u) (f:Fin K Hs H Qd Qv) (h:okD 12 x=true∧okD 12 y=true∧Qd .sh (.bl (!eqD x y))):rNeD K v u H Qv:=by
 obtain ⟨h1,h2,q⟩:=h
 have l1:=sV 12 x h1
 have l2:=sV 12 y h2
 exact ⟨x.py,y.py,rx.l2 h1,ry.l2 h2,l1.1,l2.1,by walk_at "l",f.sh w (.bl _) q⟩
theorem cL:Br2 K (rEqU K) fEq:=by
 intro Hs H m x v As n y u Bs Qd Qv w rx ry h f
 have r1:=rx.rep w
 have r2:=ry.rep w
 have d:=fun h=>eq_data (Qd:=Qd) (Qv:=Qv) w r1 r2 f h
 cases r1 with
 | int i=>cases r2 with
  | int j=>exact f.sh w (.bl _) h
  | _=>exact d h
 | str i=>cases r2 with
  | str j=>exact f.sh w (.bl _) h
  | _=>exact d h
 | bl i=>cases r2 with
  | bl j=>exact f.sh w (.bl _) h
  | _=>exact d h
 | _=>exact d h
theorem CK:Br2 K (rNeU K) fNe:=by
 intro Hs H m x v As n y u Bs Qd Qv w rx ry h f
 have r1:=rx.rep w
 have r2:=ry.rep w
 have d:=fun h=>ne_data (Qd:=Qd) (Qv:=Qv) w r1 r2 f h
 cases r1 with
 | int i=>cases r2 with
  | int j=>exact f.sh w (.bl _) h
  | _=>exact d h
 | str i=>cases r2 with
  | str j=>exact f.sh w (.bl _) h
  | _=>exact d h
 | bl i=>cases r2 with
  | bl j=>exact f.sh w (.bl _) h
  | _=>exact d h
 | _=>exact d h
theorem jT {H:Hp} {x:D} {v:V} (r:Rep K H x v) (h:eV x=true):flatV v=true:=by
 cases r <;> first | rfl | (simp [eV] at h)
theorem Bp {H:Hp} {x y:D} {v u:V} (r:Rep K H x v) (s:Rep K H y u) (h:eV x=true) (g:eV y=true):eqV v u=eqD x y:=by
 cases r <;> simp [eV] at h <;> cases s <;> simp [eV] at g <;> rfl
theorem Dr {H:Hp} {x:D} {v:V} (r:Rep K H x v) (h:eV x=true) {ys:List D} {us:List V} (rs:Reps K H ys us) (g:ys.all eV=true):us.all flatV=true∧inV v us=inD x ys:=by
 induction ys generalizing us with
 | nil=>rw [rs.n0]; exact ⟨rfl,rfl⟩
 | cons y ys ih =>
  obtain ⟨u,us,rfl,s,ss⟩:=rs.c
  simp only [List.all_cons,Bool.and_eq_true] at g
  obtain ⟨e1,e2⟩:=ih ss g.2
  refine ⟨by simp only [List.all_cons,jT s g.1,e1,Bool.and_self],?_⟩
  unfold inV inD at *
  rw [List.any_cons,List.any_cons,e2,Bp s r g.1 h]
theorem pW {κ:Type} [DecidableEq κ] {H:Hp} {k:κ} {kvs:List (κ × D)} {vs:List V} (r:Reps K H (kvs.map (·.2)) vs):(valV ((kvs.map (·.1)).zip vs) k).isSome=(getG kvs k).isSome:=by
 have:=zip_get (k:=k) r
 split at this
 ·rename_i e
  obtain ⟨v,e1,_⟩:=this
  rw [e1,e]; rfl
 ·rename_i e
  rw [this,e]; rfl
theorem uM {neg:Bool}:Br2 K (rInU K neg) (fIn neg):=by
 intro Hs H m x v As n y u Bs Qd Qv w rx ry h f
 have r1:=rx.rep w
 have r2:=ry.rep w
 cases r2 with
 | str j=>cases r1 with
  | str i=>exact f.sh w (.bl _) h
  | _=>exact h.elim
 | list z s q =>
  obtain ⟨h1,h2,h3⟩:=h
  obtain ⟨e1,e2⟩:=Dr r1 h1 q h2
  have h4:=jT r1 h1
  have g:rIn K neg v (.ref _) H Qv:=⟨_,_,rfl,.inl s,h4,e1,by rw [e2]; exact f.sh w (.bl _) h3⟩
  cases r1 <;> exact .inr g
 | tup _ s q =>
  obtain ⟨h1,h2,h3⟩:=h
  obtain ⟨e1,e2⟩:=Dr r1 h1 q h2
  have h4:=jT r1 h1
  have g:rIn K neg v (.ref _) H Qv:=⟨_,_,rfl,.inr (.inl (.inl s)),h4,e1,by rw [e2]; exact f.sh w (.bl _) h3⟩
  cases r1 <;> exact .inr g
 | dK kk e q =>
  obtain ⟨k,hk,h3⟩:=h
  have ev:=r1.key hk
  subst ev
  have eg:=pW (k:=k) q
  cases k <;> exact .inl ⟨_,DGet.k e,by rw [eg]; exact f.sh w (.bl _) h3⟩
 | dT kk e q =>
  cases r1 with
  | tup t1 e1 q1 =>
   obtain ⟨ks,hk,h3⟩:=h
   obtain ⟨b,eb,e2⟩:=Rep.keyT (.tup t1 e1 q1) hk
   cases eb
   have eg:=pW (k:=ks) q
   exact .inl ⟨_,DGet.t e e2,by rw [eg]; exact f.sh w (.bl _) h3⟩
  | _=>exact h.elim
 | _=>exact h.elim
end
section
variable {X:Cx} {K:PySem.W.Frag} {a b:Expr} {ta tb:WE} {pos:Pos}
theorem Gj (hK:X.K=K:=by rfl):OpR X (binaryOp .Add) (fun x y H Q=>yR K x y H Q∨rCatT K x y H Q):=by subst hK; exact Af.or op_catT
theorem dH (ha:QE X K a ta) (hb:QE X K b tb) (hK:X.K=K:=by rfl):QE X K (.BinOp a .Add b pos) (wOp fAdd ta tb):=q_op (Gj hK) CT ha hb
theorem yJ (ha:QE X K a ta) (hb:QE X K b tb):QE X K (.BinOp a .Sub b pos) (wOp fSub ta tb):=q_op Bu Dm ha hb
theorem lr (ha:QE X K a ta) (hb:QE X K b tb):QE X K (.BinOp a .Mult b pos) (wOp fMul ta tb):=q_op BZ DR ha hb
theorem h_ (ha:QE X K a ta) (hb:QE X K b tb):QE X K (.BinOp a .FloorDiv b pos) (wOp fDiv ta tb):=q_op Bm Dg ha hb
theorem cI (ha:QE X K a ta) (hb:QE X K b tb):QE X K (.BinOp a .Mod b pos) (wOp fMod ta tb):=q_op Ae Dw ha hb
noncomputable def fNeg:W1:=fun _ x Q=>match x with
 | .int i=>Q .sh (.int (-i))
 | _=>False
theorem DW:Br1 K (rU fun i=>.int (-i)) fNeg:=by
 intro Hs H m x v As Qd Qv w rx h f
 have r1:=rx.rep w
 cases r1 with
 | int i=>exact ⟨i,rfl,f.sh w (.int _) h⟩
 | _=>exact h.elim
theorem Ck (ha:QE X K a ta):QE X K (.UnaryOp .USub a pos) (wUn fNeg ta):=q_un un_neg DW ha
end
end L2.Q
set_option Elab.async false
set_option linter.all false
set_option maxRecDepth 100000
set_option maxHeartbeats 4000000
namespace L2.Q
open PySem PySem.Spec PyProof.Rows
noncomputable def wNil:WA:=fun _ Q=>Q []
noncomputable def aq (te:WE) (t:WA):WA:=fun ρ Q=>te ρ fun m x=>t ρ fun ps=>Q ((m,x) :: ps)
noncomputable def okSh:Md × D→Bool
 | (.sh,_)=>true
 | (_,d)=>d.flat
noncomputable def okOw:Md × D→Bool
 | (.bo,d)=>d.flat
 | _=>true
noncomputable def okFl:Md × D→Bool
 | (.ow true,_)=>true
 | (_,d)=>d.flat
noncomputable def uU (ps:List (Md × D)):Md:=bif ps.all okSh then .sh else bif ps.all okOw then .ow (ps.all okFl) else .bo
noncomputable def Bo (ps:List (Md × D)):Md:=bif ps.all okOw then .ow (ps.all okFl) else .bo
noncomputable def wTup (t:WA):WE:=fun ρ Q=>t ρ fun ps=>ps.length≤sizeLine∧Q (uU ps) (.tup (ps.map (·.2)))
noncomputable def wLst (t:WA):WE:=fun ρ Q=>t ρ fun ps=>ps.length≤sizeLine∧Q (Bo ps) (.list (ps.map (·.2)))
section
variable {X:Cx} {K:PySem.W.Frag} {e:Expr} {es:List Expr} {te:WE} {t:WA} {pos:Pos} {Hs H:Hp}
theorem az:QA X K [] wNil:=PA.imp pa_nil fun σ H Qv hx=>ex4 hx fun Hs ρ tot Q sr h f=>f [] H Hs [] [] (Grow.refl sr.wf) .nil cV.nil h
theorem cV.app {Hs1 Hs2 H1:Hp} {As Bs:List Addr} (f1:cV Hs1 H As) (o:∀ a∈As,H1 a≠none) (f2:cV Hs2 H1 Bs) (s:Same H H1) (k:∀ a,Hs1 a=none→H1 a≠none→Hs2 a=none):cV Hs2 H (As++Bs) :=
 ⟨List.nodup_append.mpr ⟨f1.1,f2.1,fun a ha b hb e=>by subst e; exact o a ha (f2.2 a hb).2⟩,fun a h=>by
  rcases List.mem_append.mp h with h | h
  ·exact ⟨k a (f1.2 a h).1 (o a h),(f1.2 a h).2⟩
  ·exact ⟨(f2.2 a h).1,s.free (f2.2 a h).2⟩⟩
theorem aa (ha:QE X K e te) (hr:QA X K es t) (hs:starEach (e :: es) X.env=(false,eval e X.env) :: starEach es X.env:=by rfl):QA X K (e :: es) (aq te t):=by
 refine PA.imp (pa_cons ha hr hs) fun σ H Qv hx=>ex4 hx fun Hs ρ tot Q sr h f=>?_
 refine ⟨Hs,ρ,tot,_,sr,h,fun v H1 Hs1 m x As g1 r1 f1 q1=>⟨Hs1,ρ,tot,_,sr.grow g1,q1,fun vs H2 Hs2 ps Bs g2 r2 f2 q2=>?_⟩⟩
 exact f (v :: vs) H2 Hs2 _ _ (g1.trans g2) (.cons (r1.grow g2) r2) (f1.app (fun a h=>(r1.own a h).ne) f2 g1.all fun a h1 h2=>g2.hsn h1 h2) q2
theorem RMs.sh (w:Wf Hs H) {ps:List (Md × D)} {vs:List V} {As:List Addr} (r:RMs K Hs H ps vs As):ps.all okSh=true→Reps K Hs (ps.map (·.2)) vs:=by
 induction r with
 | nil=>exact fun _=>.nil
 | @cons m d v ps vs As Bs r rs ih =>
  intro h
  simp only [List.all_cons,Bool.and_eq_true] at h
  refine .cons ?_ (ih h.2)
  cases m with
  | sh=>exact r.2
  | ow fl=>exact r.flat w h.1
  | bo=>exact r.flat w h.1
theorem RMs.ow {fl:Bool} (w:Wf Hs H) {ps:List (Md × D)} {vs:List V} {As:List Addr} (r:RMs K Hs H ps vs As):ps.all okOw=true→(fl=true→ps.all okFl=true)→∃ Bs,Bs.Sublist As∧(ps.all okSh=false→Bs≠[])∧aD K Hs H fl (ps.map (·.2)) vs Bs:=by
 induction r with
 | nil=>exact fun _ _=>⟨[],List.nil_sublist _,(fun z=>Bool.noConfusion z),.nil⟩
 | @cons m d v ps vs A1 Cs r rs ih =>
  intro h hf
  simp only [List.all_cons,Bool.and_eq_true] at h hf
  obtain ⟨Bs,sb,ne,q⟩:=ih h.2 fun z=>(hf z).2
  have sk:([]++Bs).Sublist (A1++Cs):=by simpa using sb.trans (List.sublist_append_right _ _)
  have flt:d.flat=true→okSh (m,d)=true→∃ Bs,Bs.Sublist (A1++Cs)∧(((m,d) :: ps).all okSh=false→Bs≠[])∧aD K Hs H fl (((m,d) :: ps).map (·.2)) (v :: vs) Bs:=fun hd ho =>
   ⟨[]++Bs,sk,fun z=>ne (by rw [List.all_cons,ho] at z; simpa using z),.cons (.sh (fun _=>hd) (r.flat w hd)) q⟩
  cases m with
  | sh=>exact ⟨[]++Bs,sk,fun z=>ne (by simpa [okSh] using z),.cons (.sh (fun z=>(hf z).1) r.2) q⟩
  | bo=>exact flt h.1 h.1
  | ow b =>
   cases hd:d.flat with
   | true=>exact flt hd hd
   | false =>
    refine ⟨A1++Bs,sb.append_left _,fun _ z=>r.2 (List.append_eq_nil_iff.mp z).1,.cons ?_ q⟩
    cases fl with
    | false=>exact RepO.fls r.1
    | true =>
     have:=(hf rfl).1
     cases b with
     | true=>exact r.1
     | false=>simp [okFl,hd] at this
theorem nZ:∀ {ps:List (Md × D)},flats (ps.map (·.2))=true→ps.all okSh=true
 | [],_=>rfl
 | (m,d) :: ps,h=>by
  simp only [List.map_cons,flats,Bool.and_eq_true] at h
  simp only [List.all_cons,Bool.and_eq_true]
  exact ⟨by cases m <;> simp [okSh,h.1],nZ h.2⟩
theorem jc {x1} (h:QA X K es t):QE X K (.Tuple es x1 pos) (wTup t):=by
 refine PE.imp (pe_tup h) fun σ H Qv hx=>ex4 hx fun Hs ρ tot Q sr h f=>?_
 refine ⟨Hs,ρ,tot,_,sr,h,fun vs H1 Hs1 ps As g1 r1 f1 q1=>?_⟩
 obtain ⟨hz,q⟩:=q1
 have rl:=(r1.reps g1.wf)
 have hl:=rl.length
 rw [List.length_map] at hl
 refine ⟨by walk_at "l",fun p hp=>?_⟩
 have g2:=newT (vs:=vs) g1.wf hp
 have fin:=Fin.after f g1
 unfold uU at q
 cases h1:ps.all okSh with
 | true =>
  rw [h1] at q
  exact fin _ _ _ .sh _ [] g2 ⟨rfl,.tup (by walk_at "l") upd_same ((r1.sh g1.wf h1).same g2.sh)⟩ cV.nil q
 | false =>
  rw [h1] at q
  cases h2:ps.all okOw with
  | false =>
   rw [h2] at q
   exact fin _ _ _ .bo _ [] g2 ⟨rfl,.tup (by walk_at "l") upd_same (rl.same g2.all)⟩ cV.nil q
  | true =>
   rw [h2] at q
   obtain ⟨Bs,sb,nz,ro⟩:=r1.ow (fl:=ps.all okFl) g1.wf h2 fun z=>z
   have hne:flats (ps.map (·.2))=false:=by
    cases hf:flats (ps.map (·.2)) with
    | false=>rfl
    | true=>rw [nZ hf] at h1; cases h1
   have own:=ro.own
   refine f _ _ _ (.ow _) _ Bs (g1.trans g2) ⟨.tup (by walk_at "l") upd_same hne (ro.grow g2.sh g2.all),nz h1⟩ ⟨sb.nodup f1.1,fun a ha=>⟨?_,(f1.2 a (sb.subset ha)).2⟩⟩ q
   exact g2.hsn (f1.2 a (sb.subset ha)).1 (own a ha).ne
theorem c7 (h:QA X K es t):QE X K (.List es pos) (wLst t):=by
 refine PE.imp (pe_lst h) fun σ H Qv hx=>ex4 hx fun Hs ρ tot Q sr h f=>?_
 refine ⟨Hs,ρ,tot,_,sr,h,fun vs H1 Hs1 ps As g1 r1 f1 q1=>?_⟩
 obtain ⟨hz,q⟩:=q1
 have rl:=(r1.reps g1.wf)
 have hl:=rl.length
 rw [List.length_map] at hl
 refine ⟨by walk_at "l",fun p hp=>?_⟩
 have g2:=newL (o:=.lst vs) g1.wf hp fun _ z=>nomatch z
 have fin:=Fin.after f g1
 unfold Bo at q
 cases h2:ps.all okOw with
 | false =>
  rw [h2] at q
  exact fin _ _ _ .bo _ [] g2 ⟨rfl,.list (by walk_at "l") (.inl (.inl upd_same)) (rl.same g2.all)⟩ cV.nil q
 | true =>
  rw [h2] at q
  obtain ⟨Bs,sb,nz,ro⟩:=r1.ow (fl:=ps.all okFl) g1.wf h2 fun z=>z
  have own:=ro.own
  refine f _ _ _ (.ow _) _ (p :: Bs) (g1.trans g2) ⟨.list (by walk_at "l") upd_same (ro.grow g2.sh g2.all),by simp⟩ ⟨List.nodup_cons.mpr ⟨fun m=>(own p m).ne hp,sb.nodup f1.1⟩,fun a ha=>?_⟩ q
  rcases List.mem_cons.mp ha with rfl | ha
  ·exact ⟨g1.wf.sub.free hp,g1.all.free hp⟩
  ·exact ⟨g2.hsn (f1.2 a (sb.subset ha)).1 (own a ha).ne,(f1.2 a (sb.subset ha)).2⟩
end
theorem Reps.atI {K:PySem.W.Frag} {H:Hp} {ds:List D} {vs:List V} {i:Int} {d:D} (r:Reps K H ds vs) (h:atI ds i=some d):∃ v,L2.atI vs i=some v∧Rep K H d v:=by
 unfold L2.atI at *
 rw [← r.length]
 cases e:ixN ds.length i with
 | none=>rw [e] at h; cases h
 | some j =>
  rw [e] at h
  exact r.get h
noncomputable def fIx:W2:=fun m x _ y Q=>match x with
 | .list xs=>match y with
  | .int i=>∃ d,atI xs i=some d∧onK d (f:=fun d=>Q (itm m d) d) ⟨⟩
  | _=>False
 | .tup xs=>match y with
  | .int i=>∃ d,atI xs i=some d∧onK d (f:=fun d=>Q (itm m d) d) ⟨⟩
  | _=>False
 | .str z=>match y with
  | .int i=>∃ c,atI z.cps.toList i=some c∧Q .sh (.str ⟨#[c]⟩)
  | _=>False
 | .dK kvs=>∃ k d,y.key1=some k∧getG kvs k=some d∧onK d (f:=fun d=>Q (itm m d) d) ⟨⟩
 | .dT kvs=>match y with
  | .tup ys=>∃ ks d,eN ys=some ks∧getG kvs ks=some d∧onK d (f:=fun d=>Q (itm m d) d) ⟨⟩
  | _=>False
 | _=>False
noncomputable def rIxD (K:PySem.W.Frag):R2:=fun x y H Q=>rIxU K x y H Q∨∃ a v,x=.ref a∧DGet H a y (some v)∧Q v H
theorem xg (c:Nat):(⟨#[c]⟩:Str).length≤sizeLine:=by show 1≤sizeLine; decide
theorem RM.here {K:PySem.W.Frag} {Hs H:Hp} {m:Md} {d:D} {v:V} {As:List Addr} (w:Wf Hs H) (r:RM K Hs H m d v As):(m=.sh∧Rep K Hs d v)∨(m≠.sh∧Rep K H d v):=by
 cases m with
 | sh=>exact .inl ⟨rfl,r.2⟩
 | ow fl=>exact .inr ⟨(fun z=>nomatch z),r.rep w⟩
 | bo=>exact .inr ⟨(fun z=>nomatch z),r.2⟩
section
variable {X:Cx} {K:PySem.W.Frag}
theorem FZ:Br2 K (rIxD K) fIx:=by
 intro Hs H m x v As n y u Bs Qd Qv w rx ry h f
 have r2:=ry.rep w
 have core:∀ G:Hp,Same G H→(∀ d v,Rep K G d v→Rep K H d v∧(m=.sh→Rep K Hs d v))→Rep K G x v→rIxD K v u H Qv:=by
  intro G sg up r1
  cases r1 with
  | list z s q =>
   cases r2 with
   | int i =>
    obtain ⟨d,e,h⟩:=h
    obtain ⟨v',e',r'⟩:=q.atI e
    obtain ⟨u1,u2⟩:=up _ _ r'
    exact .inl (.inl ⟨_,v',Same.seq sg s,e',f.itm w u1 u2 h⟩)
   | _=>exact h.elim
  | tup _ s q =>
   cases r2 with
   | int i =>
    obtain ⟨d,e,h⟩:=h
    obtain ⟨v',e',r'⟩:=q.atI e
    obtain ⟨u1,u2⟩:=up _ _ r'
    exact .inl (.inr ⟨_,v',.inl (.inl (sg _ _ s)),e',f.itm w u1 u2 h⟩)
   | _=>exact h.elim
  | str hz =>
   cases r2 with
   | int i =>
    obtain ⟨c,e,h⟩:=h
    exact .inl ⟨hz,c,e,f.sh w (.str (xg c)) h⟩
   | _=>exact h.elim
  | dK kk s q =>
   obtain ⟨k,d,hk,hg,h⟩:=h
   have ev:=r2.key hk
   subst ev
   have z:=zip_get (k:=k) q
   rw [hg] at z
   obtain ⟨v',e',r'⟩:=z
   obtain ⟨u1,u2⟩:=up _ _ r'
   exact .inr ⟨_,v',rfl,by rw [← e']; exact DGet.k (sg _ _ s),f.itm w u1 u2 h⟩
  | dT kk s q =>
   cases r2 with
   | tup t2 e2 q2 =>
    obtain ⟨ks,d,hk,hg,h⟩:=h
    obtain ⟨b,eb,e3⟩:=Rep.keyT (.tup t2 e2 q2) hk
    cases eb
    have z:=zip_get (k:=ks) q
    rw [hg] at z
    obtain ⟨v',e',r'⟩:=z
    obtain ⟨u1,u2⟩:=up _ _ r'
    exact .inr ⟨_,v',rfl,by rw [← e']; exact DGet.t (sg _ _ s) e3,f.itm w u1 u2 h⟩
   | _=>exact h.elim
  | _=>exact h.elim
 rcases rx.here w with ⟨hm,r⟩ | ⟨hm,r⟩
 ·exact core Hs w.sub (fun d v q=>And.intro (q.same w.sub) fun _=>q) r
 ·exact core H (Same.refl H) (fun d v q=>And.intro q fun z=>absurd z hm) r
theorem kIxD (hu:X.A.units+64<cLine) (hK:X.K=K:=by rfl):IxR X (rIxD K):=by
 subst hK
 refine IxR.or Es ?_
 intro value slice pins s σ H x y v u Q I rx ry h hs
 obtain ⟨a,w,rfl,g,q⟩:=h
 cases rx
 exact tail_any (dict_typeIs I g) F.slot_dict_getitem.lookup (d_getItem (by walk_at "l") I g ry fun w' s3 I3 rw'=>⟨w,H,I3,rw',q⟩) hs
variable {a b:Expr} {ta tb:WE} {pos:Pos}
theorem q_ix (hu:X.A.units+64<cLine) (ha:QE X K a ta) (hb:QE X K b tb) (hs:PlainIx b:=by exact fun _ _=>rfl) (hK:X.K=K:=by rfl):QE X K (.Subscript a b pos) (wOp fIx ta tb):=PE.imp (pe_ix (kIxD hu hK) ha hb hs) (iz FZ)
end
noncomputable def cutG {α:Type} (xs:List α) (lo hi:Option Int):List α:=(xs.drop (HT.sIx xs.length 0 lo)).take (HT.sIx xs.length xs.length hi - HT.sIx xs.length 0 lo)
noncomputable abbrev WO:=Env→(Option Int→Prop)→Prop
noncomputable def ig:WO:=fun _ Q=>Q none
noncomputable def ir (t:WE):WO:=fun ρ Q=>t ρ fun _ x=>match x with
 | .int i=>Q (some i)
 | _=>False
noncomputable def fSl (m:Md) (x:D) (lo hi:Option Int) (Q:Md→D→Prop):Prop:=match x with
 | .str z=>Q .sh (.str (cutS z lo hi))
 | .list xs=>(flats xs=true∧Q (.ow true) (.list (cutG xs lo hi)))∨(m=.sh∧Q (.ow false) (.list (cutG xs lo hi)))
 | .tup xs=>flats xs=true∧¬ (HT.sIx xs.length 0 lo=0∧HT.sIx xs.length xs.length hi=xs.length)∧Q .sh (.tup (cutG xs lo hi))
 | _=>False
noncomputable def wSl (te:WE) (tl th:WO):WE:=fun ρ Q=>te ρ fun m x=>tl ρ fun lo=>th ρ fun hi=>fSl m x lo hi Q
noncomputable def tpO (K:PySem.W.Frag) (t:WO):TO:=fun σ H Qv=>∃ Hs ρ tot Q,SRel K Hs ρ σ H tot∧t ρ Q∧∀ o H' Hs',Grow Hs H Hs' H'→Q o→Qv o H'
noncomputable abbrev QO (X:Cx) (K:PySem.W.Frag) (e:Option Expr) (t:WO):Prop:=PO X e (tpO K t)
theorem zj (z:Str) (lo hi:Option Int):(cutS z lo hi).length≤z.length:=by
 unfold cutS Str.length
 simp only [List.size_toArray,List.length_take,List.length_drop,Array.length_toList]
 walk_at "l"
theorem gQ {α:Type} (xs:List α) (lo hi:Option Int):(cutG xs lo hi).length≤xs.length:=by
 unfold cutG
 rw [List.length_take,List.length_drop]
 walk_at "l"
theorem p_ {xs:List D} {lo hi:Option Int} (h:flats xs=true):flats (cutG xs lo hi)=true:=by
 rw [ph] at *
 intro x hx
 exact h x (List.mem_of_mem_drop (List.mem_of_mem_take hx))
section
variable {X:Cx} {K:PySem.W.Frag} {e:Expr} {lo hi:Option Expr} {te:WE} {tl th:WO} {pos p2:Pos}
theorem nY:QO X K none ig:=fun pins s σ H Q I h=>po_none pins s σ H Q I (by
 obtain ⟨Hs,ρ,tot,Qd,sr,h,f⟩:=h
 exact f none H Hs (Grow.refl sr.wf) h)
theorem dN (h:QE X K e te):QO X K (some e) (ir te):=fun pins s σ H Q I hh=>po_some h pins s σ H Q I (by
 obtain ⟨Hs,ρ,tot,Qd,sr,h,f⟩:=hh
 refine ⟨Hs,ρ,tot,_,sr,h,fun v H1 Hs1 m x As g1 r1 f1 q1=>?_⟩
 have r:=r1.rep g1.wf
 cases r with
 | int i=>exact ⟨i,rfl,f _ H1 Hs1 g1 q1⟩
 | _=>exact q1.elim)
theorem jE {H:Hp} {ds:List D} {vs:List V} {lo hi:Option Int} (r:Reps K H ds vs):Reps K H (cutG ds lo hi) (cutV vs lo hi):=by
 unfold cutG cutV
 rw [r.length]
 exact (r.drop _).take _
theorem kSl2 (hK:X.K=K:=by rfl):SlR X (fun x lo hi H Q=>rSlS K x lo hi H Q∨rSlT K x lo hi H Q):=by
 subst hK
 intro pins s σ H x v vl vu lo hi sl Q I rx hs pl pu h
 rcases h with h | h
 ·exact Et pins s σ H x v vl vu lo hi sl Q I rx hs pl pu h
 ·exact sl_tup pins s σ H x v vl vu lo hi sl Q I rx hs pl pu h
theorem gm (he:QE X K e te) (hl:QO X K lo tl) (hh:QO X K hi th) (hK:X.K=K:=by rfl):QE X K (.Subscript e (.Slice lo hi none p2) pos) (wSl te tl th):=by
 refine PE.imp (pe_slice (kSl2 hK) he hl hh) fun σ H Qv hx=>ex4 hx fun Hs ρ tot Q sr h f=>?_
 refine ⟨Hs,ρ,tot,_,sr,h,fun v H1 Hs1 m x As g1 r1 f1 q1=>⟨Hs1,ρ,tot,_,sr.grow g1,q1,fun l H2 Hs2 g2 q2=>⟨Hs2,ρ,tot,_,(sr.grow g1).grow g2,q2,fun u H3 Hs3 g3 q3=>?_⟩⟩⟩
 have r3:=(r1.grow g2).grow g3
 have fin:Fin K Hs3 H3 Q Qv:=Fin.after f ((g1.trans g2).trans g3)
 have rr:=r3.rep g3.wf
 cases rr with
 | str hz=>exact .inl ⟨hz,fin.sh g3.wf (.str (Nat.le_trans (zj _ _ _) hz)) q3⟩
 | list z s q =>
  have hz:=q.length
  rcases q3 with ⟨hf,q3⟩ | ⟨rfl,q3⟩
  ·exact .inl ⟨_,s,fin.lst g3.wf (Nat.le_trans (gQ _ _ _) (by walk_at "l")) (jE q) (p_ hf) q3⟩
  ·obtain ⟨_,r3⟩:=r3
   cases r3 with
   | list z' s' q' =>
    have hz:=q'.length
    exact .inl ⟨_,Same.seq g3.wf.sub s',fin.lstS g3.wf (Nat.le_trans (gQ _ _ _) (by walk_at "l")) (jE q') q3⟩
 | tup z s q =>
  have hz:=q.length
  obtain ⟨hf,hn,q3⟩:=q3
  exact .inr ⟨_,_,rfl,.inl (.inl s),by rw [← hz]; exact hn,fin.tup g3.wf (Nat.le_trans (gQ _ _ _) (by walk_at "l")) (jE q) (p_ hf) q3⟩
 | _=>exact q3.elim
end
noncomputable def fLen:W1:=fun _ x Q=>match x with
 | .str z=>Q .sh (.int z.length)
 | .list xs=>Q .sh (.int xs.length)
 | .tup xs=>Q .sh (.int xs.length)
 | .dK kvs=>Q .sh (.int kvs.length)
 | .dT kvs=>Q .sh (.int kvs.length)
 | _=>False
noncomputable def fIsi (T:String):W1:=fun _ x Q=>Q .sh (.bl (isiT x.ty T))
noncomputable def BrC (K:PySem.W.Frag) (r:List V→Hp→VK→Prop) (f:W1):Prop:=∀ Hs H m x v As Qd Qv,Wf Hs H→RM K Hs H m x v As→f m x Qd→Fin K Hs H Qd Qv→r [v] H Qv
section
variable {X:Cx} {K:PySem.W.Frag} {e e2:Expr} {te:WE} {pos p:Pos} {x:Str} {id T:String}
theorem lK {r:List V→Hp→VK→Prop} {f:W1} (br:BrC K r f) (σ:St) (H:Hp) (Qv:VK) (h:tpE K (wUn f te) σ H Qv):tCB r (tCons (tpE K te) tNil) σ H Qv:=by
 obtain ⟨Hs,ρ,tot,Q,sr,h,fin⟩:=h
 exact ⟨Hs,ρ,tot,_,sr,h,fun v H1 Hs1 m x As g1 r1 f1 q1=>br Hs1 H1 m x v As Q Qv g1.wf r1 q1 (Fin.after fin g1)⟩
theorem bC {r:List V→Hp→VK→Prop} {f:W1} (hc:CallR X (.builtin id) r) (br:BrC K r f) (hg:Gl X x) (hm:X.mg x=none) (hv:bootBuiltins x=some (.builtin id)) (he:QE X K e te)
  (hs:starEach [e] X.env=(false,eval e X.env) :: starEach [] X.env:=by rfl) (hn:x ≠ "__name__" := by decide) (hdb:(x == ("__debug__" : Str))=false:=by decide):QE X K (.Call (.Name x p) [e] [] pos) (wUn f te) :=
 PE.imp (pe_callB hc hg hm hv (pa_cons he pa_nil hs) hn hdb hs) (lK br)
theorem gY {r:List V→Hp→VK→Prop} {f:W1} (hc:CallR X (.type T) r) (br:BrC K r f) (hg:Gl X x) (hm:X.mg x=none) (hv:bootBuiltins x=some (.type T)) (he:QE X K e te)
  (hs:starEach [e] X.env=(false,eval e X.env) :: starEach [] X.env:=by rfl) (hn:x ≠ "__name__" := by decide) (hdb:(x == ("__debug__" : Str))=false:=by decide):QE X K (.Call (.Name x p) [e] [] pos) (wUn f te) :=
 PE.imp (pe_callTy hc hg hm hv (pa_cons he pa_nil hs) hn hdb hs) (lK br)
theorem zV {prog:Program} {w:World} {A:Around} {E:Value→Shared→Prop} {s:Shared} {d:Addr} {es:Ents} {ep:Nat} {Q:Value→Shared→Prop} (hd:(d == sysModules)=false) (x:RawD s.heap d es ep) (hfit:(es.size:Int)<2 ^ 63)
  (h:∀ t t',Q (.int es.size t) { s with toks:=t' }):wpAny (model prog w) A (call (.builtin "len") [.ref d]) Q E s:=by
 refine Calls.call_function_entry kind_len plain_len entry_len (args_len1 _) ?_
 have mt:MeetsIn prog w (Builtin.«dict.__len__» ⟨[.ref d],[]⟩) (fun _ R s=>RawD s.heap d es ep∧R (.ok (.ret (.int es.size s.toks))) { s with toks:=s.toks+1 }):=.of_wp fun A R s hx9=>by
  obtain ⟨hm,h⟩:=hx9
  obtain ⟨o,ho,hc,hdat⟩:=hm
  show wpAny _ _ (dictSize d >>= _) _ _ s
  unfold dictSize
  refine wpAny_bind (wpAny_bind (wpAny_dictEntries ho hdat (wpAny_pure ?_)))
  show wpAny _ _ (Builtin.Dict.pendingCount d >>= _) _ _ s
  refine wpAny_bind (wpAny_pendingCount_other hd ?_)
  refine wpAny_ret_mkInt ?_
  rw [Nat.add_zero]; exact h
 unfold Builtin.«len»
 refine wpAny_bind (m:=oneArg "len" _) (wpAny_pure ?_)
 refine wpAny_bind (m:=callSpecial? (.ref d) (Str.ofString "__len__")) (wpAny_callSpecial?_slot (name:=Str.ofString "__len__") x.typ F.slot_dict_len
  (call_meetsIn F.slot_dict_len x.typ F.entry_dict_len (F.args_dict_len_1 _) mt ⟨x,?_⟩))
 show wpAny _ _ _ _ _ { s with toks:=s.toks+1 }
 refine wpAny_bind (wpAny_holding (wpAny_pure ?_))
 refine wpAny_bind (wpAny_letGo ?_)
 show wpAny _ _ (if ((es.size:Nat):Int)<0 then _ else _) _ _ _
 rw [if_neg (by walk_at "l")]
 show wpAny _ _ (if ((es.size:Nat):Int) ≥ 2 ^ 63 then _ else _) _ _ _
 rw [if_neg (by walk_at "l")]
 exact wpAny_bind (wpAny_mkInt (wpAny_pure ⟨_,rfl,h _ _⟩))
theorem aV (hK:X.K=K:=by rfl):CallR X (.builtin "len") (fun xs H Q=>rLen K xs H Q∨∃ a kvs,xs=[.ref a]∧H a=some (.dT kvs)∧Q (.int kvs.length) H):=by
 subst hK
 intro pins s σ H xs us Q I r h
 rcases h with h | ⟨a,kvs,rfl,ha,q⟩
 ·exact vm pins s σ H xs us Q I r h
 ·obtain ⟨u,rfl,ru⟩:=Vals.one r
  cases ru
  obtain ⟨z,hd,ys,rel,o,es,ep,h1,h2,h3,h4,h5⟩:=(show ObjOk X.prog X.w H s.heap a (.dT kvs) from I.hok a _ ha)
  have hl:es.size=kvs.length:=by
   have:=congrArg List.length h4
   rw [Array.length_toList,List.length_map] at this
   rw [this]; exact rel.length.symm
  exact zV hd ⟨o,h1,h2,h3⟩ (by rw [sizeLine_eq] at z; walk_at "l") fun t t'=>⟨.int kvs.length,H,I.tok _,⟨t,by rw [hl]⟩,q⟩
theorem dh:BrC K (fun xs H Q=>rLen K xs H Q∨∃ a kvs,xs=[.ref a]∧H a=some (.dT kvs)∧Q (.int kvs.length) H) fLen:=by
 intro Hs H m x v As Qd Qv w rx h f
 have r1:=rx.rep w
 cases r1 with
 | str hz=>exact .inl ⟨hz,f.sh w (.int _) h⟩
 | list z s q=>exact .inl (.inl ⟨_,s,by rw [← q.length]; exact f.sh w (.int _) h⟩)
 | tup _ s q=>exact .inl (.inr (.inl ⟨_,.inl (.inl s),by rw [← q.length]; exact f.sh w (.int _) h⟩))
 | dK kk s q=>exact .inl (.inr (.inr ⟨_,s,by
   have:=q.length
   rw [List.length_map] at this
   rw [List.length_zip,List.length_map,← this,Nat.min_self]
   exact f.sh w (.int _) h⟩))
 | dT kk s q=>exact .inr ⟨_,_,rfl,s,by
   have:=q.length
   rw [List.length_map] at this
   rw [List.length_zip,List.length_map,← this,Nat.min_self]
   exact f.sh w (.int _) h⟩
 | _=>exact h.elim
end
end L2.Q
set_option Elab.async false
set_option linter.all false
set_option maxRecDepth 100000
set_option maxHeartbeats 4000000
namespace L2.Q
open PySem PySem.Spec PyProof.Rows
section
variable {X:Cx} {K:PySem.W.Frag} {e e2:Expr} {te:WE} {pos p:Pos} {T:String}
theorem xj (hK:X.K=K:=by rfl):CallR X (.builtin "isinstance") (fun xs H Q=>∃ x d T,xs=[x,.ty T]∧Rep K H d x∧okTy T=true∧Q (.bl (isiT d.ty T)) H):=by
 subst hK
 intro pins s σ H xs us Q I r h
 obtain ⟨x,d,T,rfl,rd,hT,q⟩:=h
 obtain ⟨u,v,rfl,ru,rv⟩:=Vals.two r
 obtain rfl:v=Value.type T:=rv
 have hb:T∈["str", "int", "bool", "list", "tuple", "dict"]:=by simpa [okTy] using hT
 have fin:∀ tk,EP X pins σ Q (.bool (isiT d.ty T)) { s with toks:=tk }:=fun tk=>⟨.bl (isiT d.ty T),H,I.tok tk,rfl,q⟩
 cases rd with
 | non=>exact isinst_ok I ru .non (iK X.K _ T (by simp) hb) fin
 | bl b=>exact isinst_ok I ru (.bl b) (iK X.K _ T (by simp) hb) fin
 | int i=>exact isinst_ok I ru (.int i) (iK X.K _ T (by simp) hb) fin
 | str y=>exact isinst_ok I ru (.str _) (iK X.K _ T (by simp) hb) fin
 | list z s' q' =>
  cases ru
  obtain ⟨its,_,pl,_⟩:=I.list s'
  obtain ⟨o,h1,h2,_⟩:=pl.isList
  exact PySem.W.kia_one PySem.W.kitx_list I.kIn ⟨o,h1,h2⟩ (iK X.K "list" T (by simp) hb) (fun z=>nomatch z) fin
 | tup _ s' q'=>exact isinst_ok I ru (.tup s') (iK X.K _ T (by simp) hb) fin
 | dK _ s' q'=>exact isinst_ok I ru (.dK s') (iK X.K _ T (by simp) hb) fin
 | dT _ s' q'=>exact isinst_ok I ru (.dT s') (iK X.K _ T (by simp) hb) fin
theorem i_ (hm:X.mg "isinstance" = none) (he:QE X K e te) (ht:PE X e2 (tC (.ty T))) (hT:okTy T=true:=by rfl) (hg:Gl X "isinstance" := by rfl) (hK:X.K=K:=by rfl)
  (hs:starEach (e :: [e2]) X.env=(false,eval e X.env) :: starEach [e2] X.env:=by rfl) (hs2:starEach (e2 :: []) X.env=(false,eval e2 X.env) :: starEach [] X.env:=by rfl) (hpl:(backTo pos (starEach [e2] X.env)).any (·.1)=false:=by rfl) :
  QE X K (.Call (.Name "isinstance" p) [e,e2] [] pos) (wUn (fIsi T) te):=by
 refine PE.imp (pe_callB (xj hK) hg hm nj (pa_cons he (pa_cons ht pa_nil hs2) hs) (by decide) (by decide) hs hpl) fun σ H Qv hx=>ex4 hx fun Hs ρ tot Q sr h f=>?_
 refine ⟨Hs,ρ,tot,_,sr,h,fun v H1 Hs1 m x As g1 r1 f1 q1=>⟨v,x,T,rfl,r1.rep g1.wf,hT,Fin.sh (Fin.after f g1) g1.wf (.bl _) q1⟩⟩
theorem Bv {H:Hp} {d:D} {v:V} {b:Bool} (r:Rep K H d v) (h:truD d=some b):TruV K v H b:=by
 cases r with
 | non=>cases h; rfl
 | bl b=>cases h; rfl
 | int i=>cases h; rfl
 | str hz =>
  cases h
  exact ⟨hz,rfl⟩
 | list z s q =>
  cases h
  refine .inl ⟨_,s,?_⟩
  cases q <;> rfl
 | tup _ s q =>
  cases h
  refine .inr (.inl ⟨_,.inl (.inl s),?_⟩)
  cases q <;> rfl
 | @dK _ _ kvs _ s q =>
  cases h
  refine .inr (.inr ⟨_,s,?_⟩)
  cases kvs with
  | nil=>rfl
  | cons p kvs =>
   simp only [List.map_cons] at q ⊢
   cases q
   rfl
 | dT _ s q=>cases h
theorem Aq (ha:QE X K e te) (he:∀ whole,isTrue e X.env whole=(do let v ← whole; standAt e.pos; holding [v] (truthy v)):=by intro _; rfl) (hK:X.K=K:=by rfl):QT X K e (wTru te):=by
 subst hK
 refine PT.imp (pt_truth ha he) fun σ H Qv hx=>ex4 hx fun Hs ρ tot Q sr h f=>?_
 refine ⟨Hs,ρ,tot,_,sr,h,fun v H1 Hs1 m x As g1 r1 f1 q1=>?_⟩
 obtain ⟨b,hb,q⟩:=q1
 exact ⟨b,Bv (r1.rep g1.wf) hb,f b H1 Hs1 g1 q⟩
end
noncomputable def keyD:Key→D
 | .inl i=>.int i
 | .inr x=>.str x
noncomputable def pN:W1:=fun m x Q=>match x with
 | .list xs=>(flats xs=true∧Q (.ow true) (.list xs))∨(m=.sh∧Q (.ow false) (.list xs))
 | .tup xs=>(flats xs=true∧Q (.ow true) (.list xs))∨(m=.sh∧Q (.ow false) (.list xs))
 | .dT kvs=>Q (.ow true) (.list (kvs.map fun kv=>.tup (kv.1.map keyD)))
 | _=>False
section
variable {X:Cx} {K:PySem.W.Frag}
theorem nH {H:Hp}:∀ {ks:List Key},(∀ k∈ks,kOk k=true)→Reps K H (ks.map keyD) (ks.map kV)
 | [],_=>.nil
 | k :: ks,h=>by
  refine .cons ?_ (nH fun j m=>h j (List.mem_cons_of_mem _ m))
  have:=h k List.mem_cons_self
  cases k with
  | inl i=>exact .int i
  | inr x=>exact .str (by simpa [kOk] using this)
theorem jR:∀ (ks:List Key),flats (ks.map keyD)=true
 | []=>rfl
 | k :: ks=>by simp only [List.map_cons,flats,jR ks,Bool.and_true]; cases k <;> rfl
theorem uh {H:Hp} {ks:List (List Key)} {ys:List V} (t:dO H ys ks) (h:∀ l∈ks,l.length≤sizeLine∧∀ k∈l,kOk k=true):Reps K H (ks.map fun l=>.tup (l.map keyD)) ys:=by
 induction ys generalizing ks with
 | nil=>rw [show ks=[] from Paired.n0 t]; exact .nil
 | cons y ys ih =>
  obtain ⟨k,ks,rfl,⟨b,rfl,e⟩,t2⟩:=Paired.c t
  exact .cons (.tup (by rw [List.length_map]; exact (h _ List.mem_cons_self).1) e (nH (h _ List.mem_cons_self).2)) (ih t2 fun l m=>h l (List.mem_cons_of_mem _ m))
theorem jO:∀ (ks:List (List Key)),flats (ks.map fun l=>.tup (l.map keyD))=true
 | []=>rfl
 | l :: ks=>by simp only [List.map_cons,flats,jO ks,Bool.and_true,D.flat,jR]
theorem fL (hc:X.calm=true:=by rfl) (hK:X.K=K:=by rfl):CallR X (.type "list") (fun xs H Q=>(∃ p ys,xs=[.ref p]∧(SqL K H p ys∨SqT K H p ys)∧∀ l,H l=none→Q (.ref l) (upd H l (.lst ys)))∨sI xs H Q):=by
 subst hK; exact call_list_of.or (uF hc)
theorem nT:BrC K (fun xs H Q=>(∃ p ys,xs=[.ref p]∧(SqL K H p ys∨SqT K H p ys)∧∀ l,H l=none→Q (.ref l) (upd H l (.lst ys)))∨sI xs H Q) pN:=by
 intro Hs H m x v As Qd Qv w rx h f
 have r1:=rx.rep w
 cases r1 with
 | list z s q =>
  have hl:=q.length
  rcases h with ⟨hf,h⟩ | ⟨rfl,h⟩
  ·exact .inl ⟨_,_,rfl,.inl s,f.lst w (by walk_at "l") q hf h⟩
  ·obtain ⟨_,rx⟩:=rx
   cases rx with
   | list z' s' q' =>
    have hl:=q'.length
    exact .inl ⟨_,_,rfl,.inl (Same.seq w.sub s'),f.lstS w (by walk_at "l") q' h⟩
 | tup z s q =>
  have hl:=q.length
  rcases h with ⟨hf,h⟩ | ⟨rfl,h⟩
  ·exact .inl ⟨_,_,rfl,.inr (.inl (.inl s)),f.lst w (by walk_at "l") q hf h⟩
  ·obtain ⟨_,rx⟩:=rx
   cases rx with
   | tup z' s' q' =>
    have hl:=q'.length
    exact .inl ⟨_,_,rfl,.inr (.inl (.inl (w.sub _ _ s'))),f.lstS w (by walk_at "l") q' h⟩
 | @dT _ vs kvs kk s q =>
  refine .inr ⟨_,s,fun ys l ht hl=>?_⟩
  have hlen:=q.length
  rw [List.length_map] at hlen
  have e:((kvs.map (·.1)).zip vs).map (·.1)=kvs.map (·.1):=List.map_fst_zip (by rw [List.length_map]; exact Nat.le_of_eq hlen)
  rw [e] at ht
  have rr:=uh (K:=K) ht (fun l m=>by
   obtain ⟨p,hp,rfl⟩:=List.mem_map.mp m
   exact kk.2 p hp)
  have ff:=jO (kvs.map (·.1))
  rw [List.map_map] at rr ff
  exact f.lst w (by rw [List.length_map]; exact kk.1) rr ff h l hl
 | _=>exact h.elim
end
end L2.Q
set_option Elab.async false
set_option linter.all false
set_option maxRecDepth 100000
set_option maxHeartbeats 4000000
namespace L2.Q
open PySem PySem.Spec PyProof.Rows
section
variable {K:PySem.W.Frag} {Hs H:Hp}
theorem SR.zp {d:D} {v:V} (r:Rep K Hs d v) {ρ:Env} {σ:St} {tot:List Addr} (i:Nat) (s:SR K Hs H ρ σ tot):∃ tot',tot'.Sublist tot∧SR K Hs H (ρ.set i (some (.sh d))) (σ.set i (some v)) tot':=by
 induction s generalizing i with
 | nil=>exact ⟨[],List.nil_sublist _,.nil⟩
 | non s ih =>
  cases i with
  | zero=>exact ⟨_,List.Sublist.refl _,.sh r s⟩
  | succ i=>obtain ⟨t,a,b⟩:=ih i; exact ⟨t,a,.non b⟩
 | sh q s ih =>
  cases i with
  | zero=>exact ⟨_,List.Sublist.refl _,.sh r s⟩
  | succ i=>obtain ⟨t,a,b⟩:=ih i; exact ⟨t,a,.sh q b⟩
 | xc s ih =>
  cases i with
  | zero=>exact ⟨_,List.Sublist.refl _,.sh r s⟩
  | succ i=>obtain ⟨t,a,b⟩:=ih i; exact ⟨t,a,.xc b⟩
 | ow ne q s ih =>
  cases i with
  | zero=>exact ⟨_,List.sublist_append_right _ _,.sh r s⟩
  | succ i=>obtain ⟨t,a,b⟩:=ih i; exact ⟨_,a.append_left _,.ow ne q b⟩
 | lk ne q s ih =>
  cases i with
  | zero=>exact ⟨_,List.sublist_append_right _ _,.sh r s⟩
  | succ i=>obtain ⟨t,a,b⟩:=ih i; exact ⟨_,a.append_left _,.lk ne q b⟩
theorem pR {As tot:List Addr} (nd:As.Nodup) (n:tot.Nodup) (dj:∀ a∈As,a∉tot):(As++tot).Nodup:=List.nodup_append.mpr ⟨nd,n,fun a ha b hb e=>dj a ha (e ▸ hb)⟩
theorem fO {As tot B t:List Addr} (n:(B++tot).Nodup) (dj:∀ a∈As,a∉B++tot) (a:t.Nodup) (b:∀ x∈t,x∈tot∨x∈As):(B++t).Nodup∧∀ x∈B++t,x∈B++tot∨x∈As:=by
 obtain ⟨n1,n2,n3⟩:=List.nodup_append.mp n
 refine ⟨List.nodup_append.mpr ⟨n1,a,fun x hx y hy e=>?_⟩,fun x hx=>?_⟩
 ·subst e
  rcases b x hy with z | z
  ·exact n3 x hx x z rfl
  ·exact dj x z (List.mem_append_left _ hx)
 ·rcases List.mem_append.mp hx with z | z
  ·exact .inl (List.mem_append_left _ z)
  ·exact (b x z).imp (fun z=>List.mem_append_right _ z) fun z=>z
theorem SR.DN {d:D} {v:V} {fl:Bool} {As:List Addr} (ne:As≠[]) (r:RepO K Hs H fl d v As) (nd:As.Nodup) {ρ:Env} {σ:St} {tot:List Addr} (i:Nat) (s:SR K Hs H ρ σ tot):tot.Nodup→(∀ a∈As,a∉tot) →
  ∃ tot',tot'.Nodup∧(∀ a∈tot',a∈tot∨a∈As)∧SR K Hs H (ρ.set i (some (.ow fl d))) (σ.set i (some v)) tot':=by
 induction s generalizing i with
 | nil=>exact fun n _=>⟨[],List.nodup_nil,(fun a h=>mem0 h),.nil⟩
 | non s ih =>
  intro n dj
  cases i with
  | zero=>exact ⟨_,pR nd n dj,fun a h=>(List.mem_append.mp h).symm,.ow ne r s⟩
  | succ i=>obtain ⟨t,a,b,c⟩:=ih i n dj; exact ⟨t,a,b,.non c⟩
 | sh q s ih =>
  intro n dj
  cases i with
  | zero=>exact ⟨_,pR nd n dj,fun a h=>(List.mem_append.mp h).symm,.ow ne r s⟩
  | succ i=>obtain ⟨t,a,b,c⟩:=ih i n dj; exact ⟨t,a,b,.sh q c⟩
 | xc s ih =>
  intro n dj
  cases i with
  | zero=>exact ⟨_,pR nd n dj,fun a h=>(List.mem_append.mp h).symm,.ow ne r s⟩
  | succ i=>obtain ⟨t,a,b,c⟩:=ih i n dj; exact ⟨t,a,b,.xc c⟩
 | ow ne' q s ih =>
  intro n dj
  obtain ⟨n1,n2,n3⟩:=List.nodup_append.mp n
  have dj':=fun a ha m=>dj a ha (List.mem_append_right _ m)
  cases i with
  | zero=>exact ⟨_,pR nd n2 dj',fun a h=>(List.mem_append.mp h).symm.imp (fun z=>List.mem_append_right _ z) fun z=>z,.ow ne r s⟩
  | succ i=>obtain ⟨t,a,b,c⟩:=ih i n2 dj'; exact ⟨_,(fO n dj a b).1,(fO n dj a b).2,.ow ne' q c⟩
 | lk ne' q s ih =>
  intro n dj
  obtain ⟨n1,n2,n3⟩:=List.nodup_append.mp n
  have dj':=fun a ha m=>dj a ha (List.mem_append_right _ m)
  cases i with
  | zero=>exact ⟨_,pR nd n2 dj',fun a h=>(List.mem_append.mp h).symm.imp (fun z=>List.mem_append_right _ z) fun z=>z,.ow ne r s⟩
  | succ i=>obtain ⟨t,a,b,c⟩:=ih i n2 dj'; exact ⟨_,(fO n dj a b).1,(fO n dj a b).2,.lk ne' q c⟩
noncomputable def asg:Md→D→Option Sl
 | .sh,d=>some (.sh d)
 | .ow fl,d=>some (.ow fl d)
 | .bo,d=>bif d.flat then some (.sh d) else none
theorem SRel.set {ρ:Env} {σ:St} {tot As:List Addr} {m:Md} {d:D} {v:V} {sl:Sl} (i:Nat) (s:SRel K Hs ρ σ H tot) (r:RM K Hs H m d v As) (nd:As.Nodup) (dj:∀ a∈As,Hs a=none∧a∉tot) (e:asg m d=some sl) :
  ∃ tot',SRel K Hs (ρ.set i (some sl)) (σ.set i (some v)) H tot':=by
 have shc:Rep K Hs d v→∃ tot',SRel K Hs (ρ.set i (some (.sh d))) (σ.set i (some v)) H tot':=fun r=>by
  obtain ⟨t,a,b⟩:=s.sr.zp r i
  exact ⟨t,b,s.wf,a.nodup s.nod,fun x hx=>s.own x (a.subset hx)⟩
 cases m with
 | sh=>cases e; exact shc r.2
 | ow fl =>
  cases e
  obtain ⟨t,a,b,c⟩:=SR.DN r.2 r.1 nd i s.sr s.nod fun a ha=>(dj a ha).2
  exact ⟨t,c,s.wf,a,fun x hx=>(b x hx).elim (s.own x) fun z=>(dj x z).1⟩
 | bo =>
  cases hf:d.flat with
  | true =>
   simp only [asg,hf,cond_true,Option.some.injEq] at e
   subst e
   exact shc (r.flat s.wf hf)
  | false=>simp [asg,hf] at e
end
section
variable {X:Cx} {K:PySem.W.Frag} {e c:Expr} {te:WE} {tc:WT} {pos:Pos} {st:Stmt} {a b rest:List Stmt} {t u:WS}
theorem PS.imp {te te':TS} (h:PS X st te) (i:∀ D σ H,te' D σ H→te D σ H):PS X st te':=fun pins s σ H D I q=>h pins s σ H D I (i D σ H q)
theorem PSs.imp {te te':TS} (h:PSs X a te) (i:∀ D σ H,te' D σ H→te D σ H):PSs X a te':=fun pins s σ H D I q=>h pins s σ H D I (i D σ H q)
noncomputable def cT:WS:=fun E ρ=>E.nx ρ
noncomputable def wSeq (t u:WS):WS:=fun E ρ=>t { E with nx:=u E } ρ
noncomputable def wRet (te:WE):WS:=fun E ρ=>te ρ E.rt
noncomputable def uJ (te:WE):WS:=fun E ρ=>te ρ fun _ _=>E.nx ρ
noncomputable def wSet (i:Nat) (te:WE):WS:=fun E ρ=>te ρ fun m d=>match asg m d with
 | some sl=>E.nx (ρ.set i (some sl))
 | none=>False
noncomputable def wIfS (c:WT) (t u:WS):WS:=fun E ρ=>c ρ fun b=>if b=true then t E ρ else u E ρ
noncomputable def sy:WS:=fun _ _=>False
theorem aW:QSs X K L [] cT:=PSs.imp pss_nil fun D σ H hx=>fV hx fun Hs ρ tot E sr h k1 _ _ _=>k1 σ H Hs ρ tot (Same.refl _) sr h
theorem yV {D:Ends} {σ:St} {H:Hp} (h:tpS K L (wSeq t u) D σ H):tSeq (tpS K L t) (tpS K L u) D σ H:=by
 obtain ⟨Hs,ρ,tot,E,sr,h,k1,k2,k3,k4,kx⟩:=h
 refine ⟨Hs,ρ,tot,{ E with nx:=u E },sr,h,fun σ' H' Hs' ρ' tot' s sr' q=>?_,k2,k3,k4,kx⟩
 exact ⟨Hs',ρ',tot',E,sr',q,fun σ2 H2 Hs2 ρ2 tot2 s2=>k1 σ2 H2 Hs2 ρ2 tot2 (s.trans s2),fun σ2 H2 Hs2 ρ2 tot2 s2=>k2 σ2 H2 Hs2 ρ2 tot2 (s.trans s2),fun σ2 H2 Hs2 ρ2 tot2 s2=>k3 σ2 H2 Hs2 ρ2 tot2 (s.trans s2),
  fun v H2 Hs2 m d As s2=>k4 v H2 Hs2 m d As (s.trans s2),fun n H2 s2=>kx n H2 (s.trans s2)⟩
theorem aj (h1:QS X K L st t) (h2:QSs X K L rest u):QSs X K L (st :: rest) (wSeq t u):=PSs.imp (pss_cons h1 h2) fun D σ H h=>yV h
theorem au (h1:QS X K L st t):QSs X K L [st] t:=pss_one h1
theorem qg:QSs X K L a sy:=PSs.imp pss_never fun D σ H hx=>fV hx fun Hs ρ tot E sr h _ _ _ _=>h
theorem aU (he:QE X K e te):QS X K L (.Return (some e) pos) (wRet te):=PS.imp (ps_ret he) fun D σ H hx=>fV hx fun Hs ρ tot E sr h k1 k2 k3 k4 =>
 ⟨Hs,ρ,tot,_,sr,h,fun v H1 Hs1 m d As g1 r1 f1 q1=>k4 v H1 Hs1 m d As g1.sh g1.wf r1 f1.1 (fun a ha=>(f1.2 a ha).1) q1⟩
noncomputable def pK (i:Nat):WS:=fun E ρ=>match ρ[i]? with
 | some (some (.sh d))=>E.rt .sh d
 | some (some (.ow fl d))=>E.rt (.ow fl) d
 | _=>False
theorem SR.at {ρ:Env} {σ:St} {tot:List Addr} {i:Nat} {fl:Bool} {d:D} {Hs H:Hp} (s:SR K Hs H ρ σ tot) (e:ρ[i]? = some (some (.ow fl d))):∃ v As,σ[i]? = some (some v)∧As≠[]∧RepO K Hs H fl d v As∧As.Sublist tot:=by
 induction s generalizing i with
 | nil=>simp at e
 | non s ih =>
  cases i with
  | zero=>simp at e
  | succ i=>exact ih e
 | sh r s ih =>
  cases i with
  | zero=>simp at e
  | succ i=>exact ih e
 | xc s ih =>
  cases i with
  | zero=>simp at e
  | succ i=>exact ih e
 | ow ne r s ih =>
  cases i with
  | zero=>simp at e; obtain ⟨rfl,rfl⟩:=e; exact ⟨_,_,rfl,ne,r,List.sublist_append_left _ _⟩
  | succ i =>
   obtain ⟨v,As,a,b,c,d⟩:=ih e
   exact ⟨v,As,a,b,c,d.trans (List.sublist_append_right _ _)⟩
 | lk ne r s ih =>
  cases i with
  | zero=>simp at e
  | succ i =>
   obtain ⟨v,As,a,b,c,d⟩:=ih e
   exact ⟨v,As,a,b,c,d.trans (List.sublist_append_right _ _)⟩
theorem jV {i:Nat} (he:PE X e (tVar i)):QS X K L (.Return (some e) pos) (pK i):=PS.imp (ps_ret he) fun D σ H hx=>fV hx fun Hs ρ tot E sr h k1 k2 k3 k4=>by
 unfold pK at h
 split at h
 ·rename_i d e1
  obtain ⟨v,e2,r⟩:=sr.sr.get e1
  exact ⟨v,e2,k4 v H Hs .sh d [] (Same.refl _) sr.wf ⟨rfl,r⟩ List.nodup_nil (fun a ha=>nomatch ha) h⟩
 ·rename_i fl d e1
  obtain ⟨v,As,e2,ne,r,sb⟩:=sr.sr.at e1
  exact ⟨v,e2,k4 v H Hs (.ow fl) d As (Same.refl _) sr.wf ⟨r,ne⟩ (sb.nodup sr.nod) (fun a ha=>sr.own a (sb.subset ha)) h⟩
 ·exact h.elim
theorem mK (he:QE X K e te) (hs:swapsWith e none pos.line X.env=pure false:=by rfl):QS X K L (.Expr e pos) (uJ te):=PS.imp (ps_expr he hs) fun D σ H hx=>fV hx fun Hs ρ tot E sr h k1 k2 k3 k4 =>
 ⟨Hs,ρ,tot,_,sr,h,fun v H1 Hs1 m d As g1 r1 f1 q1=>k1 σ H1 Hs1 ρ tot g1.sh (sr.grow g1) q1⟩
theorem aF {i:Nat} {x:Str} {pos':Pos} (hN:X.N.Nodup) (hi:X.N[i]? = some x) (hx:Loc X.env.scope x) (he:QE X K e te) (hs:swapsWith e (some (.Name x pos')) pos.line X.env=pure false:=by rfl)
  (hf:X.fn x=true∨X.env.scope.names.lookup x=some .local:=by first | exact .inl rfl | exact .inr rfl | assumption):QS X K L (.Assign [.Name x pos'] e pos) (wSet i te):=PS.imp (ps_set hN hi hx he hs hf) fun D σ H hx=>fV hx fun Hs ρ tot E sr h k1 k2 k3 k4=>by
 refine ⟨Hs,ρ,tot,_,sr,h,fun v H1 Hs1 m d As g1 r1 f1 q1=>?_⟩
 have q1:match asg m d with
  | some sl=>E.nx (ρ.set i (some sl))
  | none=>False:=q1
 cases e:asg m d with
 | none=>rw [e] at q1; exact q1.elim
 | some sl =>
  rw [e] at q1
  obtain ⟨tot',s'⟩:=(sr.grow g1).set i r1 f1.1 (fun a ha=>⟨(f1.2 a ha).1,fun m=>(sr.sr.own a m).ne (f1.2 a ha).2⟩) e
  exact k1 _ H1 Hs1 _ tot' g1.sh s' q1
theorem cX (hc:QT X K c tc) (ha:QSs X K L a t) (hb:QSs X K L b u):QS X K L (.If c a b pos) (wIfS tc t u):=PS.imp (ps_if hc ha hb) fun D σ H hx=>qz hx fun Hs ρ tot E sr h k1 k2 k3 k4 kx=>by
 refine ⟨Hs,ρ,tot,_,sr,h,fun k H1 Hs1 g1 q1=>?_⟩
 have k1':∀ σ' H' Hs' ρ' tot',Same Hs1 Hs'→SRel K Hs' ρ' σ' H' tot'→E.nx ρ'→D.nx σ' H':=fun σ2 H2 Hs2 ρ2 tot2 s2=>k1 σ2 H2 Hs2 ρ2 tot2 (g1.sh.trans s2)
 have k2':∀ σ' H' Hs' ρ' tot',Same Hs1 Hs'→SRel K Hs' ρ' σ' H' tot'→E.bk ρ'→D.bk σ' H':=fun σ2 H2 Hs2 ρ2 tot2 s2=>k2 σ2 H2 Hs2 ρ2 tot2 (g1.sh.trans s2)
 have k3':∀ σ' H' Hs' ρ' tot',Same Hs1 Hs'→SRel K Hs' ρ' σ' H' tot'→E.ct ρ'→D.ct σ' H':=fun σ2 H2 Hs2 ρ2 tot2 s2=>k3 σ2 H2 Hs2 ρ2 tot2 (g1.sh.trans s2)
 cases k with
 | true=>exact ⟨Hs1,ρ,tot,E,sr.grow g1,q1,k1',k2',k3',(fun v H2 Hs2 m d As s2=>k4 v H2 Hs2 m d As (g1.sh.trans s2)),fun n H2 s2=>kx n H2 (g1.sh.trans s2)⟩
 | false=>exact ⟨Hs1,ρ,tot,E,sr.grow g1,q1,k1',k2',k3',(fun v H2 Hs2 m d As s2=>k4 v H2 Hs2 m d As (g1.sh.trans s2)),fun n H2 s2=>kx n H2 (g1.sh.trans s2)⟩
noncomputable def frzH (Hs H:Hp) (As:List Addr):Hp:=fun a=>if a∈As then H a else Hs a
theorem jl {Hs H:Hp} {As:List Addr} (n:∀ a∈As,Hs a=none):Same Hs (frzH Hs H As):=fun a o e=>by
 unfold frzH
 rw [if_neg fun m=>by rw [n a m] at e; cases e]
 exact e
theorem zQ {Hs H:Hp} {As:List Addr} (w:Wf Hs H) (o:∀ a∈As,Own H a):Wf (frzH Hs H As) H:=⟨fun a u e=>by
  unfold frzH at e
  by_cases m:a∈As
  ·rw [if_pos m] at e; exact e
  ·rw [if_neg m] at e; exact w.sub a u e,fun a vs e=>by
  unfold frzH
  rw [if_neg fun m=>(o a m).zH e]
  exact w.tups a vs e⟩
noncomputable def shS:Sl→Sl
 | .sh d=>.sh d
 | .ow _ d=>.sh d
 | .lk a fl d=>.lk a fl d
 | .xc a=>.xc a
noncomputable def shC:Sl→Sl
 | .sh d=>.sh d
 | .ow _ d=>.sh d
 | .lk _ _ d=>.sh d
 | .xc a=>.xc a
noncomputable def frzE (i:Nat) (ρ:Env):Env:=match ρ[i]? with
 | some (some sl)=>ρ.set i (some (shS sl))
 | _=>ρ
theorem nO {As tot B t:List Addr} (n:(B++tot).Nodup) (a:As.Sublist tot) (c:∀ x∈As,x∉t):∀ x∈As,x∉B++t:=fun x hx m=>by
 obtain ⟨n1,n2,n3⟩:=List.nodup_append.mp n
 rcases List.mem_append.mp m with z | z
 ·exact n3 x z x (a.subset hx) rfl
 ·exact c x hx z
theorem SR.frz {Hs H:Hp} {ρ:Env} {σ:St} {tot:List Addr} (i:Nat) {fl:Bool} {d:D} (s:SR K Hs H ρ σ tot):ρ[i]? = some (some (.ow fl d))→tot.Nodup →
  ∃ (As tot':List Addr),As.Sublist tot∧tot'.Sublist tot∧(∀ a∈As,a∉tot')∧∀ Hs',Same Hs Hs'→(∀ a∈As,Hs' a=H a)→SR K Hs' H (ρ.set i (some (.sh d))) σ tot':=by
 induction s generalizing i with
 | nil=>intro e; simp at e
 | non q ih =>
  intro e n
  cases i with
  | zero=>simp at e
  | succ i =>
   obtain ⟨As,t,a,b,c,d⟩:=ih i e n
   exact ⟨As,t,a,b,c,fun Hs' s k=>.non (d Hs' s k)⟩
 | sh r q ih =>
  intro e n
  cases i with
  | zero=>simp at e
  | succ i =>
   obtain ⟨As,t,a,b,c,d⟩:=ih i e n
   exact ⟨As,t,a,b,c,fun Hs' s k=>.sh (r.same s) (d Hs' s k)⟩
 | xc q ih =>
  intro e n
  cases i with
  | zero=>simp at e
  | succ i =>
   obtain ⟨As,t,a,b,c,d⟩:=ih i e n
   exact ⟨As,t,a,b,c,fun Hs' s k=>.xc (d Hs' s k)⟩
 | ow ne r q ih =>
  intro e n
  obtain ⟨n1,n2,n3⟩:=List.nodup_append.mp n
  cases i with
  | zero =>
   simp at e
   obtain ⟨rfl,rfl⟩:=e
   exact ⟨_,_,List.sublist_append_left _ _,List.sublist_append_right _ _,fun a h m=>n3 a h a m rfl,fun Hs' s k=>.sh (r.rep s k) (q.stay s fun _ _=>rfl)⟩
  | succ i =>
   obtain ⟨As,t,a,b,c,d⟩:=ih i e n2
   exact ⟨As,_,a.trans (List.sublist_append_right _ _),b.append_left _,nO n a c,fun Hs' s k=>.ow ne (r.stay s fun _ _=>rfl) (d Hs' s k)⟩
 | lk ne r q ih =>
  intro e n
  obtain ⟨n1,n2,n3⟩:=List.nodup_append.mp n
  cases i with
  | zero=>simp at e
  | succ i =>
   obtain ⟨As,t,a,b,c,d⟩:=ih i e n2
   exact ⟨As,_,a.trans (List.sublist_append_right _ _),b.append_left _,nO n a c,fun Hs' s k=>.lk ne (r.stay s fun _ _=>rfl) (d Hs' s k)⟩
theorem SRel.frz {ρ:Env} {σ:St} {tot:List Addr} {Hs H:Hp} (i:Nat) (s:SRel K Hs ρ σ H tot):∃ Hs' tot',Same Hs Hs'∧SRel K Hs' (frzE i ρ) σ H tot':=by
 unfold frzE
 split
 ·rename_i sl e
  have keep:shS sl=sl→∃ Hs' tot',Same Hs Hs'∧SRel K Hs' (ρ.set i (some (shS sl))) σ H tot':=fun hs=>by
   have e2:ρ.set i (some (shS sl))=ρ:=by
    apply List.ext_getElem?
    intro j
    rw [List.getElem?_set]
    by_cases h:i=j
    ·subst h
     rw [if_pos rfl,e]
     have:i<ρ.length:=(List.getElem?_eq_some_iff.mp e).1
     simp [this,hs]
    ·rw [if_neg h]
   rw [e2]
   exact ⟨Hs,tot,Same.refl _,s⟩
  cases sl with
  | sh d=>exact keep rfl
  | xc a=>exact keep rfl
  | lk a fl d=>exact keep rfl
  | ow fl d =>
   obtain ⟨As,t,a,b,c,g⟩:=SR.frz i s.sr e s.nod
   have hn:∀ a∈As,Hs a=none:=fun x hx=>s.own x (a.subset hx)
   have ho:∀ a∈As,Own H a:=fun x hx=>s.sr.own x (a.subset hx)
   refine ⟨frzH Hs H As,t,jl hn,g _ (jl hn) fun x hx=>by unfold frzH; rw [if_pos hx],zQ s.wf ho,b.nodup s.nod,fun x hx=>?_⟩
   unfold frzH
   rw [if_neg fun m=>c x m hx]
   exact s.own x (b.subset hx)
 ·exact ⟨Hs,tot,Same.refl _,s⟩
noncomputable def wFrz (i:Nat) (t:WS):WS:=fun E ρ=>t E (frzE i ρ)
theorem yL {i:Nat} {D:Ends} {σ:St} {H:Hp} (h:tpS K L (wFrz i t) D σ H):tpS K L t D σ H:=by
 obtain ⟨Hs,ρ,tot,E,sr,h,k1,k2,k3,k4,kx⟩:=h
 obtain ⟨Hs',tot',s,sr'⟩:=sr.frz i
 exact ⟨Hs',_,tot',E,sr',h,fun σ2 H2 Hs2 ρ2 tot2 s2=>k1 σ2 H2 Hs2 ρ2 tot2 (s.trans s2),fun σ2 H2 Hs2 ρ2 tot2 s2=>k2 σ2 H2 Hs2 ρ2 tot2 (s.trans s2),fun σ2 H2 Hs2 ρ2 tot2 s2=>k3 σ2 H2 Hs2 ρ2 tot2 (s.trans s2),
  fun v H2 Hs2 m d As s2=>k4 v H2 Hs2 m d As (s.trans s2),fun n H2 s2=>kx n H2 (s.trans s2)⟩
theorem dq (i:Nat) (h:QS X K L st t):QS X K L st (wFrz i t):=PS.imp h fun D σ H h=>yL h
noncomputable def kj (Hs1 H1 Hs' H':Hp):Hp:=fun a=>match H' a with
 | some (.tup vs)=>some (.tup vs)
 | _=>match H1 a with
  | none=>Hs' a
  | some _=>Hs1 a
theorem jq {Hs1 H1 Hs' H':Hp} (w:Wf Hs1 H1) (s:Same H1 Hs') (w':Wf Hs' H'):Grow Hs1 H1 (kj Hs1 H1 Hs' H') H':=by
 have sa:Same H1 H':=s.trans w'.sub
 have tp:∀ a vs,H' a=some (.tup vs)→kj Hs1 H1 Hs' H' a=some (.tup vs):=fun a vs e=>by unfold kj; rw [e]
 have nt:∀ a,(∀ vs,H' a≠some (.tup vs))→kj Hs1 H1 Hs' H' a=match H1 a with
  | none=>Hs' a
  | some _=>Hs1 a:=fun a h=>by
  unfold kj
  split
  ·rename_i vs e; exact absurd e (h vs)
  ·rfl
 refine ⟨sa,fun a o e=>?_,⟨fun a o e=>?_,tp⟩,fun a h=>?_⟩
 ·have e1:=w.sub a o e
  have e2:=sa a o e1
  by_cases ht:∃ vs,o=.tup vs
  ·obtain ⟨vs,rfl⟩:=ht
   exact tp a vs e2
  ·rw [nt a fun vs z=>ht ⟨vs,by rw [e2] at z; exact Option.some.inj z⟩,e1]
   exact e
 ·by_cases ht:∃ vs,H' a=some (.tup vs)
  ·obtain ⟨vs,z⟩:=ht
   rw [tp a vs z] at e
   rw [z]; exact e
  ·rw [nt a fun vs z=>ht ⟨vs,z⟩] at e
   cases q:H1 a with
   | none=>rw [q] at e; exact w'.sub a o e
   | some u =>
    rw [q] at e
    have:=w.sub a o e
    exact sa a o this
 ·cases q:H1 a with
  | none=>exact .inr rfl
  | some u =>
   refine .inl ?_
   by_cases ht:∃ vs,H' a=some (.tup vs)
   ·obtain ⟨vs,z⟩:=ht
    have:=sa a u q
    rw [z] at this
    cases this
    rw [w.tups a vs q]
    exact fun z=>nomatch z
   ·rw [nt a fun vs z=>ht ⟨vs,z⟩,q] at h
    exact h
theorem vO {Hs1 H1 Hs' H':Hp} {a:Addr} (s:Same H1 Hs') (h:Hs' a=none) (o:Own H' a):kj Hs1 H1 Hs' H' a=none∧H1 a=none:=by
 have h1:=s.free h
 refine ⟨?_,h1⟩
 unfold kj
 split
 ·rename_i vs e; exact absurd e o.zH
 ·rw [h1]; exact h
noncomputable def retM:Md→D→Md
 | .ow true,_=>.ow true
 | _,d=>bif d.flat then .sh else .bo
theorem wQ {Hs1 H1 Hs' H':Hp} {m:Md} {d:D} {v:V} {As:List Addr} (w:Wf Hs1 H1) (s:Same H1 Hs') (w':Wf Hs' H') (r:RM K Hs' H' m d v As) (nd:As.Nodup) (own:∀ a∈As,Hs' a=none) :
  ∃ As',RM K (kj Hs1 H1 Hs' H') H' (retM m d) d v As'∧cV (kj Hs1 H1 Hs' H') H1 As':=by
 have g:=jq w s w'
 have other:∃ As',RM K (kj Hs1 H1 Hs' H') H' (bif d.flat then .sh else .bo) d v As'∧cV (kj Hs1 H1 Hs' H') H1 As':=by
  cases hf:d.flat with
  | true=>exact ⟨[],⟨rfl,(r.rep w').j5 g.wf.tups hf⟩,cV.nil⟩
  | false=>exact ⟨[],⟨rfl,r.rep w'⟩,cV.nil⟩
 cases m with
 | sh=>exact other
 | bo=>exact other
 | ow fl =>
  cases fl with
  | false=>exact other
  | true=>exact ⟨As,⟨RepO.leaves (fun a vs e=>g.wf.tups a vs (w'.sub _ _ e)) r.1,r.2⟩,nd,fun a h=>vO s (own a h) (r.own a h)⟩
noncomputable abbrev SpD:=List D→(Md→D→Prop)→Prop
noncomputable def ak (K:PySem.W.Frag) (sp:SpD):Sp:=fun vs H Qv _=>∃ ds Qd,Reps K H ds vs∧sp ds Qd ∧
 ∀ v H' Hs' m d As,Same H Hs'→Wf Hs' H'→RM K Hs' H' m d v As→As.Nodup→(∀ a∈As,Hs' a=none)→Qd m d→Qv v H'
noncomputable def bA (n:Nat) (ds:List D):Env:=ds.map (fun d=>some (.sh d))++List.replicate (n - ds.length) none
theorem SR.start {H:Hp} {ds:List D} {vs:List V} {n:Nat} (r:Reps K H ds vs):SR K H H (ds.map (fun d=>some (.sh d))++List.replicate n none) (vs.map some++List.replicate n none) []:=by
 induction ds generalizing vs with
 | nil =>
  rw [r.n0]
  induction n with
  | zero=>exact .nil
  | succ n ih=>exact .non ih
 | cons d ds ih =>
  obtain ⟨u,us,rfl,r,rs⟩:=r.c
  exact .sh r (ih rs)
theorem vX {sp:SpD} {N:List Str} {vs:List V} {H:Hp} {Qv:VK} {E:XK} (h:ak K sp vs H Qv E) (hp:∀ ds Q,sp ds Q→t { nx:=fun _=>Q .sh .non,rt:=Q } (bA N.length ds)) :
  tpS K L0 t { nx:=fun _ H'=>Qv .non H',rt:=Qv } (start N vs) H:=by
 obtain ⟨ds,Qd,rs,hs,fin⟩:=h
 have hl:=rs.length
 refine ⟨H,bA N.length ds,[],{ nx:=fun _=>Qd .sh .non,rt:=Qd },⟨?_,⟨Same.refl _,fun _ _ e=>e⟩,List.nodup_nil,fun a h=>nomatch h⟩,hp ds Qd hs,?_,?_,?_,?_,fun _ _ _ _=>trivial⟩
 ·unfold bA start
  rw [hl]
  exact SR.start rs
 ·exact fun σ' H' Hs' ρ' tot' s sr q=>fin .non H' Hs' .sh .non [] s sr.wf ⟨rfl,.non⟩ List.nodup_nil (fun a h=>nomatch h) q
 ·exact fun σ' H' Hs' ρ' tot' s sr q=>q.elim
 ·exact fun σ' H' Hs' ρ' tot' s sr q=>q.elim
 ·exact fun v H' Hs' m d As s w r nd own q=>fin v H' Hs' m d As s w r nd own q
theorem FunQ.ok {P:Program} {w:World} {mg:Str→Option Value} {base:Heap} {x qual:Str} {st:Stmt} {f:Addr} {fd:FuncData} {N ps:List Str} {k:Nat} {sp:SpD} {t:WS} (F:Fun K x qual st f fd) (S:FnScope N ps (defScope st)) (len:∀ ds Q,sp ds Q→ds.length=ps.length)
  (hbody:∀ (cdv:Value) (A:Around) (outer:List PySem.Env) (s:Shared) (H:Hp) (E:XK),Room k (A.deeper (envOfC qual (defScope st) s.heap.objs.size f cdv))→QSs (cxOf CX0 P w K mg base N qual (defScope st) f cdv A outer s H E).nox K L0 (defBody st) t)
  (hp:∀ ds Q,sp ds Q→t { nx:=fun _=>Q .sh .non,rt:=Q } (bA N.length ds)):FnOk P w K mg base CX0 (k+1) f fd ps (ak K sp) :=
 F.ok S (fun vs H Q E ⟨ds,Qd,rs,hs,_⟩=>by rw [← rs.length]; exact len ds Qd hs) fun cdv A outer s H vs Q E hr hs=>⟨_,hbody cdv A outer s H E hr,vX hs hp⟩
noncomputable def bJ (sp:SpD) (t:WA):WE:=fun ρ Q=>t ρ fun ps=>sp (ps.map (·.2)) fun m d=>onK (m,d) (f:=fun p=>Q (retM p.1 p.2) p.2) ⟨⟩
theorem xU {sp:SpD} {t:WA} {σ:St} {H:Hp} {Qv:VK} {E:XK} (h:tpE K (bJ sp t) σ H Qv):tCall (ak K sp) [] E (tpA K t) σ H Qv:=by
 obtain ⟨Hs,ρ,tot,Q,sr,h,f⟩:=h
 refine ⟨Hs,ρ,tot,_,sr,h,fun vs H1 Hs1 ps As g1 r1 f1 q1=>?_⟩
 refine ⟨_,_,by rw [List.append_nil]; exact r1.reps g1.wf,q1,fun v H' Hs' m d As s w r nd own q=>?_⟩
 obtain ⟨As',r',fr⟩:=wQ g1.wf s w r nd own
 exact Fin.after f g1 v H' _ (retM m d) d As' (jq g1.wf s w) r' fr q
theorem bR {k:Nat} {x:Str} {ps:List Str} {sp:SpD} {p:Pos} {es:List Expr} {t:WA} (C:Cal X.prog X.w X.K X.mg X.base k x ps (ak K sp)) (hr:Room k X.A) (ha:QA X K (e :: es) t) (hg:Gl X x:=by rfl) (hdb:(x == ("__debug__" : Str))=false:=by decide) (he:starEach (e :: es) X.env=(false,eval e X.env) :: starEach es X.env:=by rfl)
  (hpl:(backTo pos (starEach es X.env)).any (·.1)=false:=by rfl):QE X K (.Call (.Name x p) (e :: es) [] pos) (bJ sp t):=PE.imp (Ef C hr ha hg hdb he hpl) fun σ H Qv h=>xU h
end
end L2.Q
set_option Elab.async false
set_option linter.all false
set_option maxRecDepth 100000
set_option maxHeartbeats 4000000
namespace L2.Q
open PySem PySem.Spec PyProof.Rows
noncomputable abbrev WG:=D→Env→(Env→Prop)→Prop
noncomputable def tpG (K:PySem.W.Frag) (g:WG):TG:=fun v σ H Qv=>∃ Hs ρ tot d Q,SRel K Hs ρ σ H tot∧Rep K Hs d v∧g d ρ Q∧∀ σ' ρ' tot',SRel K Hs ρ' σ' H tot'→(∀ a∈tot',a∈tot)→Q ρ'→Qv σ' H
noncomputable abbrev QG (X:Cx) (K:PySem.W.Frag) (e:Expr) (g:WG):Prop:=PG X e (tpG K g)
noncomputable def gN (i:Nat):WG:=fun d ρ Q=>Q (ρ.set i (some (.sh d)))
noncomputable abbrev WGs:=List D→Env→(Env→Prop)→Prop
noncomputable def tpGs (K:PySem.W.Frag) (g:WGs):TGs:=fun vs σ H Qv=>∃ Hs ρ tot ds Q,SRel K Hs ρ σ H tot∧Reps K Hs ds vs∧g ds ρ Q∧∀ σ' ρ' tot',SRel K Hs ρ' σ' H tot'→(∀ a∈tot',a∈tot)→Q ρ'→Qv σ' H
noncomputable abbrev QGs (X:Cx) (K:PySem.W.Frag) (es:List Expr) (g:WGs):Prop:=PGs X es (tpGs K g)
noncomputable def qt:WGs:=fun ds ρ Q=>ds=[]∧Q ρ
noncomputable def eG (g:WG) (gs:WGs):WGs:=fun ds ρ Q=>match ds with
 | d :: ds=>g d ρ fun ρ'=>gs ds ρ' Q
 | []=>False
noncomputable def gT (n:Nat) (gs:WGs):WG:=fun d ρ Q=>match d with
 | .tup ds=>ds.length=n∧gs ds ρ Q
 | _=>False
section
variable {X:Cx} {K:PySem.W.Frag} {e:Expr} {es:List Expr} {g:WG} {gs:WGs} {pos:Pos}
theorem PG.imp {t t':TG} (h:PG X e t) (i:∀ v σ H Q,t' v σ H Q→t v σ H Q):PG X e t':=fun pins s σ H v u Q I r q=>h pins s σ H v u Q I r (i v σ H Q q)
theorem PGs.imp {t t':TGs} (h:PGs X es t) (i:∀ v σ H Q,t' v σ H Q→t v σ H Q):PGs X es t':=fun pins s σ H v u Q I r q=>h pins s σ H v u Q I r (i v σ H Q q)
theorem SRel.GQ {ρ:Env} {σ:St} {tot:List Addr} {Hs H:Hp} {d:D} {v:V} (i:Nat) (s:SRel K Hs ρ σ H tot) (r:Rep K Hs d v):∃ tot',(∀ a∈tot',a∈tot)∧SRel K Hs (ρ.set i (some (.sh d))) (σ.set i (some v)) H tot':=by
 obtain ⟨t,a,b⟩:=s.sr.zp r i
 exact ⟨t,fun x hx=>a.subset hx,b,s.wf,a.nodup s.nod,fun x hx=>s.own x (a.subset hx)⟩
theorem aH {i:Nat} {x:Str} (hN:X.N.Nodup) (hi:X.N[i]? = some x) (hx:Loc X.env.scope x) (hf:X.fn x=true∨X.env.scope.names.lookup x=some .local:=by first | exact .inl rfl | exact .inr rfl | assumption):QG X K (.Name x pos) (gN i) :=
 PG.imp (pg_name hN hi hx hf) fun v σ H Qv hx9=>by
  obtain ⟨Hs,ρ,tot,d,Q,sr,r,h,k⟩:=hx9
  obtain ⟨t,m,s⟩:=sr.GQ i r
  exact k _ _ t s m h
theorem nq:QGs X K [] qt:=PGs.imp pgs_nil fun v σ H Qv hx9=>by
 obtain ⟨Hs,ρ,tot,ds,Q,sr,r,h,k⟩:=hx9
 obtain ⟨rfl,h⟩:=h
 cases r
 exact ⟨rfl,k σ ρ tot sr (fun _ z=>z) h⟩
theorem cQ (h1:QG X K e g) (h2:QGs X K es gs) (hs:(assignEach (e :: es) X.env).map (·.2)=assign e X.env :: (assignEach es X.env).map (·.2):=by rfl):QGs X K (e :: es) (eG g gs) :=
 PGs.imp (pgs_cons h1 h2 hs) fun v σ H Qv hx9=>by
  obtain ⟨Hs,ρ,tot,ds,Q,sr,r,h,k⟩:=hx9
  cases r with
  | nil=>exact h.elim
  | cons r rs=>exact ⟨_,_,rfl,Hs,ρ,tot,_,_,sr,r,h,fun σ2 ρ2 tot2 sr2 m2 q2=>⟨Hs,ρ2,tot2,_,Q,sr2,rs,q2,fun σ3 ρ3 tot3 sr3 m3=>k σ3 ρ3 tot3 sr3 fun a h=>m2 a (m3 a h)⟩⟩
theorem sX {k n:Nat} (hc:X.calm=true) (h:QGs X K es gs) (hn:(assignEach es X.env).length=n:=by rfl) (hst:(assignEach es X.env).findIdx? (·.1)=none:=by rfl):QG X K (.Tuple es k pos) (gT n gs) :=
 PG.imp (pg_tup hc h hn hst) fun v σ H Qv hx9=>by
  obtain ⟨Hs,ρ,tot,d,Q,sr,r,h,k⟩:=hx9
  cases r with
  | tup z e rs=>exact ⟨_,_,rfl,.inl (.inl (sr.wf.sub _ _ e)),by rw [← rs.length]; exact h.1,Hs,ρ,tot,_,Q,sr,rs,h.2,k⟩
  | _=>exact h.elim
end
noncomputable abbrev WI:=Env→(List D→Prop)→Prop
structure oH (K:PySem.W.Frag) (J:It) (ds:List D) (C:Hp→Hp→Prop):Prop where
 go:∀ i Hs H,C Hs H→Wf Hs H→i<ds.length→J.go i H
 yld:∀ i Hs H x H' d,C Hs H→Wf Hs H→ds[i]? = some d→J.yld i H x H'→∃ Hs',Grow Hs H Hs' H'∧Rep K Hs' d x
 stop:∀ Hs H,C Hs H→Wf Hs H→J.stop ds.length H
noncomputable abbrev xM (K:PySem.W.Frag) (Hs:Hp) (J:It) (ds:List D):Prop:=oH K J ds fun G _=>Same Hs G
noncomputable def jf (xs:List D):List D:=xs.mapIdx fun i x=>.tup [.int i,x]
section
variable {K:PySem.W.Frag} {Hs:Hp} {J:It} {ds es:List D} {C C':Hp→Hp→Prop} {a b:Addr}
theorem oH.imp (S:oH K J ds C) (h:∀ Hs H,C' Hs H→C Hs H):oH K J ds C':=⟨fun i Hs H c=>S.go i Hs H (h _ _ c),fun i Hs H x H' d c=>S.yld i Hs H x H' d (h _ _ c),fun Hs H c=>S.stop Hs H (h _ _ c)⟩
theorem oH.seq {vs:List V} (rs:Reps K Hs ds vs) (S:iu J vs fun H=>Same Hs H):xM K Hs J ds where
 go:=fun i G H s w h=>S.go i H (s.trans w.sub) (by rw [← rs.length]; exact h)
 yld:=fun i G H x H' d s w h y=>by
  have hi:i<ds.length:=by
   rcases Nat.lt_or_ge i ds.length with q | q
   ·exact q
   ·rw [List.getElem?_eq_none q] at h; cases h
  obtain ⟨e,z⟩:=S.yld i H x H' (s.trans w.sub) (by rw [← rs.length]; exact hi) y
  subst e
  obtain ⟨d',ed,rd⟩:=rs.getV z
  rw [h] at ed; cases ed
  exact ⟨G,Grow.refl w,rd.same s⟩
 stop:=fun G H s w=>by rw [rs.length]; exact S.stop H (s.trans w.sub)
noncomputable abbrev vq (K:PySem.W.Frag) (a:Addr) (ds:List D) (C:Hp→Hp→Prop):Prop:=∀ Hs H,C Hs H→Wf Hs H→∃ vs,SqL K H a vs∧Reps K Hs ds vs
theorem oH.list (h:vq K a ds C):oH K (Itl K a) ds C where
 go:=fun i G H c w hi=>by
  obtain ⟨vs,q,rs⟩:=h G H c w
  exact ⟨vs,vs[i]'(by rw [← rs.length]; exact hi),q,by simp⟩
 yld:=fun i G H x H' d c w hd y=>by
  obtain ⟨vs,q,rs⟩:=h G H c w
  obtain ⟨rfl,y⟩:=y
  obtain ⟨d',ed,rd⟩:=rs.getV (y vs q)
  rw [hd] at ed; cases ed
  exact ⟨G,Grow.refl w,rd⟩
 stop:=fun G H c w=>by
  obtain ⟨vs,q,rs⟩:=h G H c w
  exact ⟨vs,q,by rw [rs.length]; exact Nat.le_refl _⟩
theorem oH.enum (h:vq K a ds C):oH K (Ite K a) (jf ds) C where
 go:=fun i G H c w hi=>by
  obtain ⟨vs,q,rs⟩:=h G H c w
  have hi:i<ds.length:=by simpa [jf] using hi
  exact ⟨vs,vs[i]'(by rw [← rs.length]; exact hi),q,by simp⟩
 yld:=fun i G H x H' d c w hd y=>by
  obtain ⟨vs,q,rs⟩:=h G H c w
  obtain ⟨p,v,rfl,hp,rfl,y⟩:=y
  obtain ⟨d',ed,rd⟩:=rs.getV (y vs q)
  have:d=.tup [.int i,d']:=by
   simp only [jf,List.getElem?_mapIdx,ed,Option.map_some] at hd
   cases hd; rfl
  subst this
  have g:=newT (vs:=[.int i,v]) w hp
  exact ⟨_,g,.tup (vs:=[.int i,v]) zx upd_same (.cons (.int _) (.cons (rd.same g.sh) .nil))⟩
 stop:=fun G H c w=>by
  obtain ⟨vs,q,rs⟩:=h G H c w
  exact ⟨vs,q,by rw [jf,List.length_mapIdx,rs.length]; exact Nat.le_refl _⟩
theorem oK {vs:List V} (s:SqL K Hs a vs) (rs:Reps K Hs ds vs):vq K a ds fun G _=>Same Hs G:=fun G H c w=>⟨vs,Same.seq (c.trans w.sub) s,rs.same c⟩
end
noncomputable def tpI (K:PySem.W.Frag) (wi:WI):TI:=fun σ H R=>∃ Hs ρ tot Q,SRel K Hs ρ σ H tot∧wi ρ Q∧∀ J H' Hs' ds,Grow Hs H Hs' H'→xM K Hs' J ds→ds.length≤sizeLine→Q ds→R J H'
noncomputable abbrev QI (X:Cx) (K:PySem.W.Frag) (tg iter:Expr) (wi:WI):Prop:=PI X tg iter (tpI K wi)
noncomputable def uL:Md→Prop
 | .bo=>False
 | _=>True
noncomputable def jD (te:WE):WI:=fun ρ Q=>te ρ fun m d=>uL m∧match d with
 | .list xs=>Q xs
 | _=>False
noncomputable def sgnD (z:Str):List D:=z.cps.toList.map fun c=>.str ⟨#[c]⟩
noncomputable def yQ (te:WE):WI:=fun ρ Q=>te ρ fun _ d=>match d with
 | .str z=>Q (sgnD z)
 | _=>False
noncomputable def gq (lo:Int) (n:Nat):List D:=(List.range n).map fun i=>.int (lo+(i:Nat))
noncomputable def fu (te:WE):WI:=fun ρ Q=>te ρ fun _ d=>match d with
 | .int j=>j≤16777216∧-(2 ^ 62)≤j∧Q (gq 0 j.toNat)
 | _=>False
noncomputable def uf (ta tb:WE):WI:=fun ρ Q=>ta ρ fun _ x=>tb ρ fun _ y=>match x,y with
 | .int i,.int j=>j - i≤16777216∧(-(2 ^ 62)≤i∧i<2 ^ 62∧-(2 ^ 62)≤j∧j<2 ^ 62)∧Q (gq i (j - i).toNat)
 | _,_=>False
section
variable {X:Cx} {K:PySem.W.Frag} {e e2 tg:Expr} {te te2:WE} {pos p:Pos}
theorem PI.imp {iter:Expr} {t t':TI} (h:PI X tg iter t) (i:∀ σ H R,t' σ H R→t σ H R):PI X tg iter t':=fun pins s σ H R I q=>h pins s σ H R I (i σ H R q)
theorem iu.imp {J:It} {vs:List V} {c c':Hp→Prop} (s:iu J vs c) (h:∀ H,c' H→c H):iu J vs c':=⟨fun i H q=>s.go i H (h H q),fun i H x H' q=>s.yld i H x H' (h H q),fun H q=>s.stop H (h H q)⟩
theorem RM.BR {Hs H Hs1 H1:Hp} {m:Md} {d:D} {v:V} {As:List Addr} (g:Grow Hs H Hs1 H1) (r:RM K Hs1 H1 m d v As) (f:cV Hs1 H As) (h:uL m):∃ Hs2,Grow Hs H Hs2 H1∧Rep K Hs2 d v:=by
 cases m with
 | sh=>exact ⟨Hs1,g,r.2⟩
 | bo=>exact h.elim
 | ow fl =>
  have n:∀ a∈As,Hs1 a=none:=fun a ha=>(f.2 a ha).1
  have o:=r.own
  refine ⟨frzH Hs1 H1 As,⟨g.all,g.sh.trans (jl n),zQ g.wf o,fun a h=>?_⟩,RepO.rep (jl n) r.1 fun a ha=>by unfold frzH; rw [if_pos ha]⟩
  unfold frzH at h
  by_cases m:a∈As
  ·exact .inr (f.2 a m).2
  ·rw [if_neg m] at h; exact g.new a h
theorem nR (he:QE X K e te) (hK:X.K=K:=by rfl):QI X K tg e (jD te):=by
 subst hK
 refine PI.imp (pi_list he) fun σ H R hx=>ex4 hx fun Hs ρ tot Q sr h k=>⟨Hs,ρ,tot,_,sr,h,fun v H1 Hs1 m d As g1 r1 f1 q1=>?_⟩
 obtain ⟨nb,q1⟩:=q1
 obtain ⟨Hs2,g2,r2⟩:=r1.BR g1 f1 nb
 cases r2 with
 | list z s rs=>exact ⟨_,rfl,⟨_,Same.seq g2.wf.sub s⟩,k _ H1 Hs2 _ g2 (.seq rs (iu.imp (yp X.K _ _) fun H' s'=>Same.seq s' s)) (by rw [rs.length]; exact z) q1⟩
 | _=>exact q1.elim
theorem rO {H:Hp}:∀ (l:List Nat),Reps K H (l.map fun c=>.str ⟨#[c]⟩) (l.map fun c=>V.str ⟨#[c]⟩)
 | []=>.nil
 | c :: l=>.cons (.str (xg c)) (rO l)
theorem CN (he:QE X K e te):QI X K tg e (yQ te):=by
 refine PI.imp (Dz he) fun σ H R hx=>ex4 hx fun Hs ρ tot Q sr h k=>⟨Hs,ρ,tot,_,sr,h,fun v H1 Hs1 m d As g1 r1 f1 q1=>?_⟩
 have r:=r1.rep g1.wf
 cases r with
 | str hz=>exact ⟨_,rfl,k _ H1 Hs1 _ g1 (.seq (rO _) (iu.imp (BL _) fun _ _=>trivial)) (by rw [List.length_map,Array.length_toList]; exact hz) q1⟩
 | _=>exact q1.elim
theorem jJ {H:Hp} (lo:Int):∀ (l:List Nat),Reps K H (l.map fun i=>.int (lo+(i:Nat))) (l.map fun i=>V.int (lo+(i:Nat)))
 | []=>.nil
 | c :: l=>.cons (.int _) (jJ lo l)
theorem eX (hm:X.mg "range" = none) (he:QE X K e te) (hg:Gl X "range" := by rfl) (hs:starEach [e] X.env=(false,eval e X.env) :: starEach [] X.env:=by rfl) (hs':starEach [e] X.env=[(false,eval e X.env)]:=by rfl):QI X K tg (.Call (.Name "range" p) [e] [] pos) (fu te):=by
 refine PI.imp (pi_range1 hg hm (pa_cons he pa_nil hs) hs') fun σ H R hx=>ex4 hx fun Hs ρ tot Q sr h k=>⟨Hs,ρ,tot,_,sr,h,fun v H1 Hs1 m d As g1 r1 f1 q1=>?_⟩
 have r:=r1.rep g1.wf
 cases r with
 | int j =>
  obtain ⟨h1,h2,q1⟩:=q1
  exact ⟨j,rfl,h2,by walk_at "l",k _ H1 Hs1 _ g1 (.seq (jJ 0 _) (iu.imp (xK _ _) fun _ _=>trivial)) (by rw [List.length_map,List.length_range,sizeLine_eq]; walk_at "l") q1⟩
 | _=>exact q1.elim
theorem Cm (hm:X.mg "range" = none) (he:QE X K e te) (he2:QE X K e2 te2) (hg:Gl X "range" := by rfl) (hs:starEach (e :: [e2]) X.env=(false,eval e X.env) :: starEach [e2] X.env:=by rfl) (hs2:starEach (e2 :: []) X.env=(false,eval e2 X.env) :: starEach [] X.env:=by rfl)
  (hs':starEach [e,e2] X.env=[(false,eval e X.env),(false,eval e2 X.env)]:=by rfl) (hs'':starEach [e2] X.env=[(false,eval e2 X.env)]:=by rfl):QI X K tg (.Call (.Name "range" p) [e,e2] [] pos) (uf te te2):=by
 refine PI.imp (pi_range2 hg hm (pa_cons he (pa_cons he2 pa_nil hs2) hs) hs' hs'') fun σ H R hx=>ex4 hx fun Hs ρ tot Q sr h k=>⟨Hs,ρ,tot,_,sr,h,fun v H1 Hs1 m d As g1 r1 f1 q1=>⟨Hs1,ρ,tot,_,sr.grow g1,q1,fun u H2 Hs2 n y Bs g2 r2 f2 q2=>?_⟩⟩
 have r:=(r1.grow g2).rep g2.wf
 have r':=r2.rep g2.wf
 cases r with
 | int i=>cases r' with
  | int j =>
   obtain ⟨h1,h2,q2⟩:=q2
   exact ⟨i,j,rfl,h2,k _ H2 Hs2 _ (g1.trans g2) (.seq (jJ i _) (iu.imp (xK _ _) fun _ _=>trivial)) (by rw [List.length_map,List.length_range,sizeLine_eq]; walk_at "l") q2⟩
  | _=>exact q2.elim
 | _=>cases r' <;> exact q2.elim
section
variable {X:Cx} {K:PySem.W.Frag} {e e2 tg:Expr} {te te2:WE} {pos p:Pos}
noncomputable def tpIb (K:PySem.W.Frag) (wi:WI):TI:=fun σ H R=>∃ Hs ρ tot Q,SRel K Hs ρ σ H tot∧wi ρ Q∧∀ J H' Hs' ds,Grow Hs H Hs' H'→xM K H' J ds→ds.length≤sizeLine→Q ds→R J H'
noncomputable abbrev QIb (X:Cx) (K:PySem.W.Frag) (tg iter:Expr) (wi:WI):Prop:=PI X tg iter (tpIb K wi)
theorem uo {iter:Expr} {wi:WI} (h:QI X K tg iter wi):QIb X K tg iter wi:=PI.imp h fun σ H R hx=>ex4 hx fun Hs ρ tot Q sr h k=>⟨Hs,ρ,tot,Q,sr,h,fun J H' Hs' ds g w z q=>k J H' Hs' ds g (w.imp fun G H s=>g.wf.sub.trans s) z q⟩
noncomputable def gW (te:WE):WI:=fun ρ Q=>te ρ fun _ d=>match d with
 | .list xs=>Q xs
 | _=>False
noncomputable def uG (te:WE):WI:=fun ρ Q=>te ρ fun _ d=>match d with
 | .tup xs=>Q xs
 | _=>False
noncomputable def qi (te:WE):WI:=fun ρ Q=>te ρ fun _ d=>match d with
 | .list xs=>Q (jf xs)
 | _=>False
theorem il (he:QE X K e te) (hK:X.K=K:=by rfl):QIb X K tg e (gW te):=by
 subst hK
 refine PI.imp (pi_list he) fun σ H R hx=>ex4 hx fun Hs ρ tot Q sr h k=>⟨Hs,ρ,tot,_,sr,h,fun v H1 Hs1 m d As g1 r1 f1 q1=>?_⟩
 have r:=r1.rep g1.wf
 cases r with
 | list z s rs=>exact ⟨_,rfl,⟨_,s⟩,k _ H1 Hs1 _ g1 (.list (oK s rs)) (by rw [rs.length]; exact z) q1⟩
 | _=>exact q1.elim
theorem v_ (he:QE X K e te) (hK:X.K=K:=by rfl):QIb X K tg e (uG te):=by
 subst hK
 refine PI.imp (pi_tup he) fun σ H R hx=>ex4 hx fun Hs ρ tot Q sr h k=>⟨Hs,ρ,tot,_,sr,h,fun v H1 Hs1 m d As g1 r1 f1 q1=>?_⟩
 have r:=r1.rep g1.wf
 cases r with
 | tup z s rs=>exact ⟨_,rfl,⟨_,.inl (.inl s)⟩,k _ H1 Hs1 _ g1 (.seq rs (iu.imp (Cj X.K _ _) fun H' s'=>.inl (.inl (s' _ _ s)))) (by rw [rs.length]; exact z) q1⟩
 | _=>exact q1.elim
theorem wj {elts:List Expr} {kk:Nat} {tp:Pos} (hm:X.mg "enumerate" = none) (he:QE X K e te) (hK:X.K=K:=by rfl) (hg:Gl X "enumerate" := by rfl) (hs:starEach [e] X.env=(false,eval e X.env) :: starEach [] X.env:=by rfl) (hs':starEach [e] X.env=[(false,eval e X.env)]:=by rfl) :
  QIb X K (.Tuple elts kk tp) (.Call (.Name "enumerate" p) [e] [] pos) (qi te):=by
 subst hK
 refine PI.imp (Cp hg hm (pa_cons he pa_nil hs) hs') fun σ H R hx=>ex4 hx fun Hs ρ tot Q sr h k=>⟨Hs,ρ,tot,_,sr,h,fun v H1 Hs1 m d As g1 r1 f1 q1=>?_⟩
 have r:=r1.rep g1.wf
 cases r with
 | list z s rs=>exact ⟨_,rfl,⟨_,s⟩,k _ H1 Hs1 _ g1 (.enum (oK s rs)) (by rw [jf,List.length_mapIdx,rs.length]; exact z) q1⟩
 | _=>exact q1.elim
end
section
variable {X:Cx} {K:PySem.W.Frag} {e e2 tg:Expr} {te te2:WE} {pos p:Pos}
end
noncomputable def oW (g:WG) (b:WS) (E:rF):List D→Env→Prop
 | [],ρ=>E.nx ρ
 | x :: xs,ρ=>g x ρ fun ρ1=>b { E with nx:=oW g b E xs,ct:=oW g b E xs,bk:=E.nx } ρ1
noncomputable def wFor (wi:WI) (g:WG) (b:WS):WS:=fun E ρ=>wi ρ fun ds=>oW g b E ds ρ
variable {wi:WI} {g:WG} {b:WS} {body:List Stmt}
theorem fX {iter:Expr} (hp:PassesOwn (model X.prog X.w) X.A X.env X.xe) (hc:X.calm=true) (hi:QI X K tg iter wi) (hg:QG X K tg g) (hb:QSs X K L body b) (hs:∀ x,foldedSetIterable iter X.env x=pure x:=by intro _; rfl) :
  QS X K L (.For tg iter body [] pos) (wFor wi g b):=by
 refine PS.imp (ps_for hp hc hi hg hb hs) fun D σ H hx=>qz hx fun Hs ρ tot E sr h k1 k2 k3 k4 kx=>?_
 rw [Ak]
 refine ⟨Hs,ρ,tot,_,sr,h,fun J H1 Hs1 ds g1 S hz q1=>?_⟩
 refine ⟨fun i m σ H=>m=ds.length - i∧i≤ds.length∧∃ Hs' ρ' tot',Same Hs1 Hs'∧SRel K Hs' ρ' σ H tot'∧oW g b E (ds.drop i) ρ',⟨ds.length,by simp,Nat.zero_le _,Hs1,ρ,tot,Same.refl _,sr.grow g1,by simpa using q1⟩,?_⟩
 rintro i m σ2 H2 ⟨rfl,hi,Hs2,ρ2,tot2,s2,sr2,q2⟩
 by_cases hlt:i<ds.length
 ·refine .inr ⟨S.go i Hs2 H2 s2 sr2.wf hlt,fun σ3 H3=>∃ Hs' ρ' tot',Same Hs1 Hs'∧SRel K Hs' ρ' σ3 H3 tot'∧oW g b E (ds.drop (i+1)) ρ',fun σ3 H3 h3=>⟨ds.length - (i+1),by walk_at "l",rfl,hlt,h3⟩,fun x H3 y=>?_⟩
  obtain ⟨Hs3,g3,rd⟩:=S.yld i Hs2 H2 x H3 ds[i] s2 sr2.wf (by simp [hlt]) y
  rw [List.drop_eq_getElem_cons hlt] at q2
  have s3:=s2.trans g3.sh
  refine ⟨Hs3,ρ2,tot2,ds[i],_,sr2.grow g3,rd,q2,fun σ4 ρ4 tot4 sr4 _ q4=>?_⟩
  refine ⟨Hs3,ρ4,tot4,_,sr4,q4,?_,?_,?_,?_,fun n H5 s5=>kx n H5 ((g1.sh.trans s3).trans s5)⟩
  ·exact fun σ5 H5 Hs5 ρ5 tot5 s5 sr5 q5=>⟨Hs5,ρ5,tot5,s3.trans s5,sr5,q5⟩
  ·exact fun σ5 H5 Hs5 ρ5 tot5 s5 sr5 q5=>k1 σ5 H5 Hs5 ρ5 tot5 ((g1.sh.trans s3).trans s5) sr5 q5
  ·exact fun σ5 H5 Hs5 ρ5 tot5 s5 sr5 q5=>⟨Hs5,ρ5,tot5,s3.trans s5,sr5,q5⟩
  ·exact fun v H5 Hs5 m d As s5=>k4 v H5 Hs5 m d As ((g1.sh.trans s3).trans s5)
 ·have e:i=ds.length:=by walk_at "l"
  subst e
  refine .inl ⟨S.stop Hs2 H2 s2 sr2.wf,?_⟩
  rw [List.drop_length] at q2
  exact k1 σ2 H2 Hs2 ρ2 tot2 (g1.sh.trans s2) sr2 q2
theorem dJ {g:WG} {b:WS} {E:rF} (xs:List D) (Pv:Nat→Env→Prop) {ρ:Env} (h0:Pv 0 ρ)
  (hs:∀ i x ρ,xs[i]? = some x→Pv i ρ→∀ N:Env→Prop,(∀ ρ',Pv (i+1) ρ'→N ρ')→g x ρ fun ρ1=>b { E with nx:=N,ct:=N,bk:=E.nx } ρ1)
  (hd:∀ ρ,Pv xs.length ρ→E.nx ρ):oW g b E xs ρ:=by
 have go:∀ (k i:Nat) (ρ:Env),i+k=xs.length→Pv i ρ→oW g b E (xs.drop i) ρ:=by
  intro k
  induction k with
  | zero =>
   intro i ρ e p
   have:i=xs.length:=by walk_at "l"
   subst this
   rw [List.drop_length]
   exact hd ρ p
  | succ k ih =>
   intro i ρ e p
   have hi:i<xs.length:=by walk_at "l"
   rw [List.drop_eq_getElem_cons hi]
   exact hs i xs[i] ρ (by simp [hi]) p _ fun ρ2 h2=>ih (i+1) ρ2 (by walk_at "l") h2
 have:=go xs.length 0 ρ (by exact Nat.add_comm ..) h0
 simpa using this
end
end L2.Q
set_option Elab.async false
set_option linter.all false
set_option maxRecDepth 100000
set_option maxHeartbeats 4000000
namespace L2.Q
open PySem PySem.Spec PyProof.Rows
noncomputable def wYes:WT:=fun _ Q=>Q true
noncomputable def okEl (m:Md) (d:D):Prop:=d.flat=true∨m=.ow true
noncomputable def gw (g:WG) (tc:WT) (te:WE):List D→Env→(List D→Prop)→Prop
 | [],_,k=>k []
 | x :: xs,ρ,k=>g x ρ fun ρ1=>tc ρ1 fun b=>if b=true then te ρ1 fun m d=>okEl m d∧gw g tc te xs ρ1 (fun out=>k (d :: out)) else gw g tc te xs ρ1 k
noncomputable def Ab (tn:Nat) (ix:List Nat) (ρ:Env):Env:=List.replicate tn none++ix.map fun j=>(ρ[j]?).join.map shC
noncomputable def d_ (wi:WI) (g:WG) (tc:WT) (te:WE) (tn:Nat) (ix:List Nat):WE:=fun ρ Q=>wi ρ fun ds=>gw g tc te ds (Ab tn ix ρ) fun out=>Q (.ow true) (.list out)
section
variable {X:Cx} {K:PySem.W.Frag}
theorem lJ {Hs H G:Hp} {ρ:Env} {σ:St} {tot:List Addr} (sr:SRel K Hs ρ σ H tot) (G':Hp):∀ (ix:List Nat),SR K H G' (ix.map fun j=>(ρ[j]?).join.map shC) (ix.map fun j=>(σ[j]?).join) []
 | []=>.nil
 | j :: ix=>by
  have ih:=lJ sr G' ix (G:=G)
  simp only [List.map_cons]
  cases e:ρ[j]? with
  | none=>exact .non ih
  | some o =>
   cases o with
   | none=>exact .non ih
   | some sl =>
    obtain ⟨v,e1,r⟩:=sr.sr.get e
    rw [e1]
    cases sl with
    | sh d=>exact .sh (Rep.same sr.wf.sub r) ih
    | xc a=>subst r; exact .xc ih
    | ow fl d =>
     obtain ⟨As,_,r,_⟩:=r
     exact .sh (r.rep sr.wf.sub fun _ _=>rfl) ih
    | lk a fl d =>
     obtain ⟨As,_,r,_⟩:=r
     exact .sh (r.rep sr.wf.sub fun _ _=>rfl) ih
theorem pI {H G:Hp} {ρ:Env} {σ:St} (s:SR K H G ρ σ []):∀ (n:Nat),SR K H G (List.replicate n none++ρ) (List.replicate n none++σ) []
 | 0=>s
 | n+1=>.non (pI s n)
theorem SR.heap {Hs H H':Hp} {ρ:Env} {σ:St} (s:SR K Hs H ρ σ []):SR K Hs H' ρ σ []:=s.stay (Same.refl _) fun a h=>nomatch h
theorem xu {Hs H:Hp} {p:Addr} {o:HO} (w:Wf Hs H) (n:Hs p=none) (ho:∀ vs,o≠.tup vs):Wf Hs (upd H p o):=⟨fun b u q=>by
  rw [upd_ne (fun z=>by subst z; rw [n] at q; cases q)]; exact w.sub b u q,fun b us q=>by
  by_cases hb:b=p
  ·subst hb; rw [upd_same] at q; exact absurd (Option.some.inj q) (ho us)
  ·rw [upd_ne hb] at q; exact w.tups b us q⟩
structure CompI (K:PySem.W.Frag) (H1:Hp) (b:Addr) (acc:List D) (ys:List V) (As:List Addr) (Hs:Hp) (ρ:Env) (τ:St) (H:Hp):Prop where
 sm:Same H1 Hs
 sr:SRel K Hs ρ τ H []
 eD:H b=some (.lst ys)
 nD:Hs b=none
 ra:aD K Hs H true acc ys As
 nd:(b :: As).Nodup
 own:∀ a∈As,Hs a=none
theorem CompI.grow {H1:Hp} {b:Addr} {acc:List D} {ys:List V} {As:List Addr} {Hs H Hs' H':Hp} {ρ:Env} {τ:St} (c:CompI K H1 b acc ys As Hs ρ τ H) (g:Grow Hs H Hs' H'):CompI K H1 b acc ys As Hs' ρ τ H' :=
 ⟨c.sm.trans g.sh,c.sr.grow g,g.all _ _ c.eD,g.hsn c.nD (by rw [c.eD]; exact fun z=>nomatch z),c.ra.grow g.sh g.all,c.nd,fun a ha=>g.hsn (c.own a ha) (c.ra.own a ha).ne⟩
theorem CompI.push {H1:Hp} {b:Addr} {acc:List D} {ys:List V} {As Bs:List Addr} {Hs H:Hp} {ρ:Env} {τ:St} {m:Md} {d:D} {v:V} (c:CompI K H1 b acc ys As Hs ρ τ H) (r:RM K Hs H m d v Bs) (ok:okEl m d) (nb:Bs.Nodup) (fb:∀ a∈Bs,Hs a=none∧a∉b :: As):∃ As',CompI K H1 b (acc++[d]) (ys++[v]) As' Hs ρ τ (upd H b (.lst (ys++[v]))):=by
 obtain ⟨B,sb,rb⟩:∃ B,B.Sublist Bs∧RepO K Hs H true d v B:=by
  rcases ok with hf | rfl
  ·exact ⟨[],List.nil_sublist _,.sh (fun _=>hf) (r.flat c.sr.wf hf)⟩
  ·exact ⟨Bs,List.Sublist.refl _,r.1⟩
 obtain ⟨na,nA⟩:=List.nodup_cons.mp c.nd
 have fb':=fun a ha=>fb a (sb.subset ha)
 refine ⟨As++(B++[]),c.sm,⟨c.sr.sr.heap,xu c.sr.wf c.nD (fun _ z=>nomatch z),List.nodup_nil,fun a h=>nomatch h⟩,upd_same,c.nD,(c.ra.stay (H':=upd H b (.lst (ys++[v]))) (Same.refl _) fun a ha=>upd_ne fun z=>na (by subst z; exact ha)).append (.cons (rb.stay (Same.refl _) fun a ha=>upd_ne fun z=>(fb' a ha).2 (by subst z; exact List.mem_cons_self)) .nil),?_,?_⟩
 ·rw [List.append_nil]
  refine List.nodup_cons.mpr ⟨fun m=>(List.mem_append.mp m).elim na fun m=>(fb' b m).2 List.mem_cons_self,List.nodup_append.mpr ⟨nA,sb.nodup nb,fun x hx y hy e=>(fb' y hy).2 (e ▸ List.mem_cons_of_mem _ hx)⟩⟩
 ·rw [List.append_nil]
  exact fun a ha=>(List.mem_append.mp ha).elim (c.own a) fun m=>(fb' a m).1
theorem pA {wi:WI} {g:WG} {tc:WT} {te:WE} {tn:Nat} {ix:List Nat} {σ:St} {H:Hp} {Qv:VK} (h:tpE K (d_ wi g tc te tn ix) σ H Qv):wG (tpIb K wi) (tpG K g) (tpT K tc) (tpE K te) tn ix σ H Qv:=by
 obtain ⟨Hs,ρ,tot,Q,sr,h,f⟩:=h
 rw [yh]
 refine ⟨Hs,ρ,tot,_,sr,h,fun J H1 Hs1 ds g1 S hz q1 b hb=>?_⟩
 have st:CompI K H1 b [] [] [] H1 (Ab tn ix ρ) (mZ tn ix σ) (upd H1 b (.lst [])):=by
  refine ⟨Same.refl _,⟨pI (lJ (G:=H1) (sr.grow g1) _ ix) tn,⟨(Same.refl H1).upd hb,fun a xs e=>?_⟩,List.nodup_nil,fun a h=>nomatch h⟩,upd_same,hb,.nil,by simp,fun a h=>nomatch h⟩
  by_cases ha:a=b
  ·subst ha; rw [upd_same] at e; cases e
  ·rw [upd_ne ha] at e; exact e
 refine ⟨fun i m τ H2=>m=ds.length - i∧i≤ds.length∧∃ Hs2 ρ2 acc ys As,CompI K H1 b acc ys As Hs2 ρ2 τ H2∧acc.length≤i∧gw g tc te (ds.drop i) ρ2 (fun out=>Q (.ow true) (.list (acc++out))),
  ⟨ds.length,by simp,Nat.zero_le _,H1,_,[],[],[],st,Nat.le_refl _,by simpa using q1⟩,?_⟩
 rintro i m τ H2 ⟨rfl,hi,Hs2,ρ2,acc,ys,As,c,la,q2⟩
 by_cases hlt:i<ds.length
 ·refine .inr ⟨S.go i Hs2 H2 c.sm c.sr.wf hlt,
   fun τ3 v H4=>∃ Hs4 ρ4 d,CompI K H1 b acc ys As Hs4 ρ4 τ3 H4∧(∃ As',CompI K H1 b (acc++[d]) (ys++[v]) As' Hs4 ρ4 τ3 (upd H4 b (.lst (ys++[v]))))∧gw g tc te (ds.drop (i+1)) ρ4 (fun out=>Q (.ow true) (.list (acc++d :: out))),
   fun τ3 H3=>∃ Hs3 ρ3,CompI K H1 b acc ys As Hs3 ρ3 τ3 H3∧gw g tc te (ds.drop (i+1)) ρ3 (fun out=>Q (.ow true) (.list (acc++out))),?_,?_,?_⟩
  ·rintro τ3 v H4 ⟨Hs4,ρ4,d,c4,⟨As',c5⟩,q4⟩
   have lya:=c4.ra.length
   exact ⟨ys,ds.length - (i+1),c4.eD,by walk_at "l",by walk_at "l",rfl,hlt,Hs4,ρ4,acc++[d],ys++[v],As',c5,by rw [List.length_append]; simpa using la,by simpa using q4⟩
  ·rintro τ3 H3 ⟨Hs3,ρ3,c3,q3⟩
   exact ⟨ds.length - (i+1),by walk_at "l",rfl,hlt,Hs3,ρ3,acc,ys,As,c3,by walk_at "l",q3⟩
  ·intro x H3 y
   obtain ⟨Hs3,g3,rd⟩:=S.yld i Hs2 H2 x H3 ds[i] c.sm c.sr.wf (by simp [hlt]) y
   rw [List.drop_eq_getElem_cons hlt] at q2
   have c3:=c.grow g3
   refine ⟨Hs3,ρ2,[],ds[i],_,c3.sr,rd,q2,fun τ4 ρ4 tot4 sr4 m4 q4=>?_⟩
   have t4:tot4=[]:=List.eq_nil_iff_forall_not_mem.mpr fun a ha=>nomatch m4 a ha
   subst t4
   have c4:CompI K H1 b acc ys As Hs3 ρ4 τ4 H3:=⟨c3.sm,sr4,c3.eD,c3.nD,c3.ra,c3.nd,c3.own⟩
   refine ⟨Hs3,ρ4,[],_,sr4,q4,fun k H5 Hs5 g5 q5=>?_⟩
   have c5:=c4.grow g5
   cases k with
   | false=>exact ⟨Hs5,ρ4,c5,q5⟩
   | true =>
    refine ⟨Hs5,ρ4,[],_,c5.sr,q5,fun v H6 Hs6 m6 d6 As6 g6 r6 f6 q6=>?_⟩
    have c6:=c5.grow g6
    refine ⟨Hs6,ρ4,d6,c6,c6.push r6 q6.1 f6.1 fun a ha=>⟨(f6.2 a ha).1,fun m=>?_⟩,q6.2⟩
    rcases List.mem_cons.mp m with rfl | m
    ·have:=(f6.2 _ ha).2
     rw [c5.eD] at this; cases this
    ·exact (c5.ra.own a m).ne (f6.2 a ha).2
 ·have e:i=ds.length:=by walk_at "l"
  subst e
  refine .inl ⟨S.stop Hs2 H2 c.sm c.sr.wf,?_⟩
  rw [List.drop_length] at q2
  have q2:Q (.ow true) (.list (acc++[])):=q2
  rw [List.append_nil] at q2
  have lya:=c.ra.length
  have rm:RM K Hs2 H2 (.ow true) (.list acc) (.ref b) (b :: As):=⟨.list (by walk_at "l") c.eD c.ra,by simp⟩
  obtain ⟨As',r',fr⟩:=wQ g1.wf c.sm c.sr.wf rm c.nd fun a ha=>(List.mem_cons.mp ha).elim (fun z=>z ▸ c.nD) (c.own a)
  exact Fin.after f g1 (.ref b) H2 _ (.ow true) (.list acc) As' (jq g1.wf c.sm c.sr.wf) r' fr q2
theorem PTs.imp {ifs:List Expr} {t t':TT} (h:PTs X ifs t) (i:∀ σ H Q,t' σ H Q→t σ H Q):PTs X ifs t':=fun pins s σ H Q I q=>h pins s σ H Q I (i σ H Q q)
noncomputable abbrev QTs (X:Cx) (K:PySem.W.Frag) (ifs:List Expr) (t:WT):Prop:=PTs X ifs (tpT K t)
theorem cU:QTs X K [] wYes:=PTs.imp Ag fun σ H Qv hx=>ex4 hx fun Hs ρ tot Q sr h k=>k true H Hs (Grow.refl sr.wf) h
theorem qJ {c:Expr} {t:WT} (h:QT X K c t):QTs X K [c] t:=BX h
theorem dR {tg iter elt:Expr} {ifs:List Expr} {scope:Scope} {pos:Pos} {wi:WI} {g:WG} {tc:WT} {te:WE} {tn cn:List Str} {ix:List Nat} (hc:X.calm=true) (hi:QIb X K tg iter wi) (O:bY X scope tn cn ix)
  (hg:∀ C fp s₃ H₃,QG (bH X scope C (tn++cn) fp s₃ H₃) K tg g) (hcs:∀ C fp s₃ H₃,QTs (bH X scope C (tn++cn) fp s₃ H₃) K ifs tc) (he:∀ C fp s₃ H₃,QE (bH X scope C (tn++cn) fp s₃ H₃) K elt te)
  (hs:∀ x,foldedSetIterable iter X.env x=pure x:=by intro _; rfl):QE X K (.ListComp elt [⟨tg,iter,ifs,0⟩] scope pos) (d_ wi g tc te tn.length ix) :=
 PE.imp (Bx hc hi O hg hcs he hs) fun σ H Qv h=>pA h
end
theorem bK {g:WG} {tc:WT} {te:WE} (p:D→Bool) (f:D→D) (Iv:Env→Prop):∀ (xs:List D) (ρ:Env) (k:List D→Prop),Iv ρ →
  (∀ x∈xs,∀ ρ,Iv ρ→∀ N1:Env→Prop,∀ N2:Env→D→Prop,(∀ ρ',Iv ρ'→p x=false→N1 ρ')→(∀ ρ',Iv ρ'→p x=true→N2 ρ' (f x))→g x ρ fun ρ1=>tc ρ1 fun b=>if b=true then te ρ1 fun m d=>okEl m d∧N2 ρ1 d else N1 ρ1) →
  k ((xs.filter p).map f)→gw g tc te xs ρ k
 | [],_,k,_,_,h=>h
 | x :: xs,ρ,k,iv,hs,h=>by
  refine hs x List.mem_cons_self ρ iv _ _ (fun ρ' iv' hp=>?_) (fun ρ' iv' hp=>?_)
  ·exact bK p f Iv xs ρ' k iv' (fun y hy=>hs y (List.mem_cons_of_mem _ hy)) (by simpa [hp] using h)
  ·exact bK p f Iv xs ρ' _ iv' (fun y hy=>hs y (List.mem_cons_of_mem _ hy)) (by simpa [hp] using h)
end L2.Q
set_option Elab.async false
set_option linter.all false
set_option maxRecDepth 100000
set_option maxHeartbeats 4000000
namespace L2.Q
open PySem PySem.Spec PyProof.Rows
noncomputable def Upd (K:PySem.W.Frag) (Hs H:Hp) (σ:St) (fl:Bool) (v:V) (up:Bool→D→Env) (As':List Addr):Prop:=∀ Hs2 H2 fl2 d2 As2,Same Hs Hs2→Wf Hs2 H2→(∀ a,Hs a=none→H a≠none→Hs2 a=none)→(fl2=true→fl=true) →
  RepO K Hs2 H2 fl2 d2 v As2→As2≠[]→As2.Nodup→(∀ a∈As2,Hs2 a=none∧(a∈As'∨H a=none))→(∀ a,H a≠none→a∉As'→H2 a=H a)→∃ tot2,SRel K Hs2 (up fl2 d2) σ H2 tot2
structure Place (K:PySem.W.Frag) (Hs H:Hp) (σ:St) (fl:Bool) (d:D) (v:V) (up:Bool→D→Env):Prop where
 ex:∃ As',RepO K Hs H fl d v As'∧As'≠[]∧As'.Nodup∧(∀ a∈As',Hs a=none)∧Upd K Hs H σ fl v up As'
theorem Upd.node {K:PySem.W.Frag} {Hs H Hs2 H2:Hp} {σ:St} {fl fl2:Bool} {up:Bool→D→Env} {a:Addr} {A C:List Addr} {o:HO} {d2:D} (k:Upd K Hs H σ fl (.ref a) up (a :: A)) (g:Grow Hs H Hs2 H2) (own:∀ x∈a :: A,Hs x=none∧H x≠none) (ho:∀ vs,o≠.tup vs) (hf:fl2=true→fl=true)
  (r:RepO K Hs2 (upd H2 a o) fl2 d2 (.ref a) (a :: C)) (nC:C.Nodup) (naC:a∉C) (hC:∀ x∈C,x∈A∨(Hs2 x=none∧H x=none)):∃ tot2,SRel K Hs2 (up fl2 d2) σ (upd H2 a o) tot2:=by
 have hn:∀ x∈a :: A,Hs2 x=none:=fun x hx=>g.hsn (own x hx).1 (own x hx).2
 refine k Hs2 _ fl2 d2 (a :: C) g.sh (xu g.wf (hn a List.mem_cons_self) ho) (fun b h1 h2=>g.hsn h1 h2) hf r (List.cons_ne_nil _ _) (List.nodup_cons.mpr ⟨naC,nC⟩) (fun b hb=>?_) fun b h1 h2=>?_
 ·rcases List.mem_cons.mp hb with rfl | hb
  ·exact ⟨hn _ List.mem_cons_self,.inl List.mem_cons_self⟩
  ·exact (hC b hb).elim (fun q=>⟨hn b (List.mem_cons_of_mem _ q),.inl (List.mem_cons_of_mem _ q)⟩) fun q=>⟨q.1,.inr q.2⟩
 ·rw [upd_ne fun z=>h2 (by subst z; exact List.mem_cons_self)]
  cases q:H b with
  | none=>exact absurd q h1
  | some o=>exact g.all b o q
noncomputable abbrev WP:=Env→(Bool→D→(Bool→D→Env)→Prop)→Prop
noncomputable def tpP (K:PySem.W.Frag) (t:WP):TE:=fun σ H Qv=>∃ Hs ρ tot Q,SRel K Hs ρ σ H tot∧t ρ Q∧∀ v H' Hs' fl d up,Grow Hs H Hs' H'→Place K Hs' H' σ fl d v up→Q fl d up→Qv v H'
noncomputable abbrev QP (X:Cx) (K:PySem.W.Frag) (e:Expr) (t:WP):Prop:=PE X e (tpP K t)
section
variable {K:PySem.W.Frag} {Hs H Hs' H':Hp} {σ:St} {fl:Bool} {d:D} {v:V} {up:Bool→D→Env}
theorem RepO.ne2:(∀ {d:D} {v:V} {As:List Addr},RepO K Hs H true d v As→d.flat=false→As≠[])∧∀ {ds:List D} {vs:List V} {As:List Addr},aD K Hs H true ds vs As→flats ds=false→As≠[] :=
 RepO.ind (m1:=fun d _ As=>d.flat=false→As≠[]) (m2:=fun ds _ As=>flats ds=false→As≠[]) (fun _ _ f _ h=>by rw [f rfl] at h; cases h) (fun _ _ _ _ _ _ _ _ _=>List.cons_ne_nil _ _) (fun _ _ _ _ _ _ n _ ih _=>ih n) (fun _ _ _ _ _ _ _ _ _=>List.cons_ne_nil _ _) (fun _ _ _ _ _ _ _ _ _=>List.cons_ne_nil _ _)
  (fun h=>by simp [flats] at h) fun d _ _ _ _ _ _ _ i1 i2 h=>by
   cases e:d.flat with
   | false=>exact fun z=>i1 e (List.append_eq_nil_iff.mp z).1
   | true =>
    simp only [flats,e,Bool.true_and] at h
    exact fun z=>i2 h (List.append_eq_nil_iff.mp z).2
theorem RepO.ne {d:D} {v:V} {As:List Addr} (r:RepO K Hs H true d v As) (h:d.flat=false):As≠[]:=RepO.ne2.1 r h
theorem aD.ne {ds:List D} {vs:List V} {As:List Addr} (r:aD K Hs H true ds vs As) (h:flats ds=false):As≠[]:=RepO.ne2.2 r h
noncomputable def wpN (i:Nat):WP:=fun ρ Q=>match ρ[i]? with
 | some (some (.ow fl d))=>Q fl d fun fl2 d2=>ρ.set i (some (.ow fl2 d2))
 | _=>False
theorem SR.put {Hs H:Hp} {fl:Bool} {d:D} {ρ:Env} {σ:St} {tot:List Addr} (i:Nat) (s:SR K Hs H ρ σ tot):ρ[i]? = some (some (.ow fl d))→tot.Nodup →
  ∃ (v:V) (As tot':List Addr),σ[i]? = some (some v)∧As≠[]∧RepO K Hs H fl d v As∧As.Sublist tot∧∀ Hs2 H2 fl2 d2 As2,Same Hs Hs2→RepO K Hs2 H2 fl2 d2 v As2→As2≠[]→As2.Nodup→(∀ a∈As2,a∈tot→a∈As)→(∀ a∈tot,a∉As→H2 a=H a) →
   ∃ tot2,tot2.Nodup∧(∀ a∈tot2,a∈tot∨a∈As2)∧SR K Hs2 H2 (ρ.set i (some (.ow fl2 d2))) σ tot2:=by
 induction s generalizing i with
 | nil=>intro e; simp at e
 | @non ρ σ tot o q ih =>
  intro e n
  cases i with
  | zero=>simp at e
  | succ i =>
   obtain ⟨v,As,t,a,b,c,d,g⟩:=ih i (by simpa using e) n
   refine ⟨v,As,t,by simpa using a,b,c,d,fun Hs2 H2 fl2 d2 As2 s2 r2 ne2 nd2 dj st=>?_⟩
   obtain ⟨t2,x,y,z⟩:=g Hs2 H2 fl2 d2 As2 s2 r2 ne2 nd2 dj st
   exact ⟨t2,x,y,.non z⟩
 | sh r q ih =>
  intro e n
  cases i with
  | zero=>simp at e
  | succ i =>
   obtain ⟨v,As,t,a,b,c,d,g⟩:=ih i (by simpa using e) n
   refine ⟨v,As,t,by simpa using a,b,c,d,fun Hs2 H2 fl2 d2 As2 s2 r2 ne2 nd2 dj st=>?_⟩
   obtain ⟨t2,x,y,z⟩:=g Hs2 H2 fl2 d2 As2 s2 r2 ne2 nd2 dj st
   exact ⟨t2,x,y,.sh (r.same s2) z⟩
 | xc q ih =>
  intro e n
  cases i with
  | zero=>simp at e
  | succ i =>
   obtain ⟨v,As,t,a,b,c,d,g⟩:=ih i (by simpa using e) n
   refine ⟨v,As,t,by simpa using a,b,c,d,fun Hs2 H2 fl2 d2 As2 s2 r2 ne2 nd2 dj st=>?_⟩
   obtain ⟨t2,x,y,z⟩:=g Hs2 H2 fl2 d2 As2 s2 r2 ne2 nd2 dj st
   exact ⟨t2,x,y,.xc z⟩
 | @ow ρ σ t2 B fl0 d0 v ne r q ih =>
  intro e n
  obtain ⟨n1,n2,n3⟩:=List.nodup_append.mp n
  cases i with
  | zero =>
   simp at e
   obtain ⟨rfl,rfl⟩:=e
   refine ⟨v,B,t2,rfl,ne,r,List.sublist_append_left _ _,fun Hs2 H2 fl2 d2 As2 s2 r2 ne2 nd2 dj st=>⟨As2++t2,List.nodup_append.mpr ⟨nd2,n2,fun a ha b hb e=>?_⟩,fun a h=>?_,.ow ne2 r2 (q.stay s2 fun a h=>st a (List.mem_append_right _ h) fun z=>n3 a z a h rfl)⟩⟩
   ·subst e
    exact n3 a (dj a ha (List.mem_append_right _ hb)) a hb rfl
   ·exact (List.mem_append.mp h).symm.imp (fun z=>List.mem_append_right _ z) id
  | succ i =>
   obtain ⟨v,As,t,a,b,c,d,g⟩:=ih i (by simpa using e) n2
   have hB:∀ x∈B,x∉As:=fun x hx m=>n3 x hx x (d.subset m) rfl
   refine ⟨v,As,B++t,by simpa using a,b,c,d.trans (List.sublist_append_right _ _),fun Hs2 H2 fl2 d2 As2 s2 r2 ne2 nd2 dj st=>?_⟩
   obtain ⟨t2,x,y,z⟩:=g Hs2 H2 fl2 d2 As2 s2 r2 ne2 nd2 (fun a ha m=>dj a ha (List.mem_append_right _ m)) fun a ha m=>st a (List.mem_append_right _ ha) m
   refine ⟨B++t2,List.nodup_append.mpr ⟨n1,x,fun a ha b hb e=>?_⟩,fun a h=>?_,.ow ne (r.stay s2 fun a h=>st a (List.mem_append_left _ h) (hB a h)) z⟩
   ·subst e
    rcases y a hb with w | w
    ·exact n3 a ha a w rfl
    ·exact hB a ha (dj a w (List.mem_append_left _ ha))
   ·rcases List.mem_append.mp h with w | w
    ·exact .inl (List.mem_append_left _ w)
    ·exact (y a w).imp (fun w=>List.mem_append_right _ w) id
 | @lk ρ σ t2 B a0 fl0 d0 ne r q ih =>
  intro e n
  obtain ⟨n1,n2,n3⟩:=List.nodup_append.mp n
  cases i with
  | zero=>simp at e
  | succ i =>
   obtain ⟨v,As,t,a,b,c,d,g⟩:=ih i (by simpa using e) n2
   have hB:∀ x∈B,x∉As:=fun x hx m=>n3 x hx x (d.subset m) rfl
   refine ⟨v,As,B++t,by simpa using a,b,c,d.trans (List.sublist_append_right _ _),fun Hs2 H2 fl2 d2 As2 s2 r2 ne2 nd2 dj st=>?_⟩
   obtain ⟨t2,x,y,z⟩:=g Hs2 H2 fl2 d2 As2 s2 r2 ne2 nd2 (fun a ha m=>dj a ha (List.mem_append_right _ m)) fun a ha m=>st a (List.mem_append_right _ ha) m
   refine ⟨B++t2,List.nodup_append.mpr ⟨n1,x,fun a ha b hb e=>?_⟩,fun a h=>?_,.lk ne (r.stay s2 fun a h=>st a (List.mem_append_left _ h) (hB a h)) z⟩
   ·subst e
    rcases y a hb with w | w
    ·exact n3 a ha a w rfl
    ·exact hB a ha (dj a w (List.mem_append_left _ ha))
   ·rcases List.mem_append.mp h with w | w
    ·exact .inl (List.mem_append_left _ w)
    ·exact (y a w).imp (fun w=>List.mem_append_right _ w) id
theorem fD {X:Cx} {i:Nat} {e:Expr} (h:PE X e (tVar i)):QP X K e (wpN i):=PE.imp h fun σ H Qv hx=>ex4 hx fun Hs ρ tot Q sr h f=>by
 unfold wpN at h
 split at h
 ·rename_i fl d e1
  obtain ⟨v,As,t,e2,ne,r,sb,g⟩:=SR.put i sr.sr e1 sr.nod
  refine ⟨v,e2,f v H Hs fl d _ (Grow.refl sr.wf) ⟨As,r,ne,sb.nodup sr.nod,fun a h=>sr.own a (sb.subset h),fun Hs2 H2 fl2 d2 As2 s2 w2 n2 _ r2 ne2 nd2 o2 st=>?_⟩ h⟩
  obtain ⟨t2,x,y,z⟩:=g Hs2 H2 fl2 d2 As2 s2 r2 ne2 nd2 (fun a ha m=>(o2 a ha).2.elim id fun q=>absurd q (sr.sr.own a m).ne) fun a ha m=>st a (sr.sr.own a ha).ne m
  exact ⟨t2,z,w2,x,fun a h=>(y a h).elim (fun q=>n2 a (sr.own a q) (sr.sr.own a q).ne) fun q=>(o2 a q).1⟩
 ·exact h.elim
theorem RepO.wk {fl fl2:Bool} {d:D} {v:V} {As:List Addr} (h:fl2=true→fl=true) (r:RepO K Hs H fl d v As):RepO K Hs H fl2 d v As:=by
 cases fl2 with
 | false=>exact r.fls
 | true=>rw [h rfl] at r; exact r
theorem aD.wk {fl fl2:Bool} {d:List D} {v:List V} {As:List Addr} (h:fl2=true→fl=true) (r:aD K Hs H fl d v As):aD K Hs H fl2 d v As:=by
 cases fl2 with
 | false=>exact r.fls
 | true=>rw [h rfl] at r; exact r
theorem aD.at {fl:Bool} {ds:List D} {vs:List V} {As:List Addr} {j:Nat} {d:D} (r:aD K Hs H fl ds vs As) (e:ds[j]? = some d) (n:As.Nodup) :
  ∃ (v:V) (B:List Addr),vs[j]? = some v∧RepO K Hs H fl d v B∧B.Sublist As∧∀ Hs2 H2 fl2 d2 B2,Same Hs Hs2→(fl2=true→fl=true)→RepO K Hs2 H2 fl2 d2 v B2→B2.Nodup→(∀ a∈B2,a∈As→a∈B)→(∀ a∈As,a∉B→H2 a=H a) →
   ∃ As2,As2.Nodup∧(∀ a∈As2,(a∈As∧a∉B)∨a∈B2)∧(B2≠[]→As2≠[])∧aD K Hs2 H2 fl2 (ds.set j d2) vs As2:=by
 induction ds generalizing vs As j with
 | nil=>simp at e
 | cons x ds ih =>
  obtain ⟨v,us,A,B,rfl,rfl,r,rs⟩:=r.c
  obtain ⟨n1,n2,n3⟩:=List.nodup_append.mp n
  cases j with
  | zero =>
   simp at e
   subst e
   refine ⟨v,A,rfl,r,List.sublist_append_left _ _,fun Hs2 H2 fl2 d2 B2 s2 hf r2 nd2 dj st=>⟨B2++B,List.nodup_append.mpr ⟨nd2,n2,fun a ha b hb e=>?_⟩,fun a h=>?_,fun ne z=>ne (List.append_eq_nil_iff.mp z).1,.cons r2 ((rs.wk hf).stay s2 fun a h=>st a (List.mem_append_right _ h) fun z=>n3 a z a h rfl)⟩⟩
   ·subst e
    exact n3 a (dj a ha (List.mem_append_right _ hb)) a hb rfl
   ·rcases List.mem_append.mp h with w | w
    ·exact .inr w
    ·exact .inl ⟨List.mem_append_right _ w,fun z=>n3 a z a w rfl⟩
  | succ j =>
   obtain ⟨v,C,a,b,c,g⟩:=ih (j:=j) rs (by simpa using e) n2
   have hA:∀ x∈A,x∉C:=fun x hx m=>n3 x hx x (c.subset m) rfl
   refine ⟨v,C,by simpa using a,b,c.trans (List.sublist_append_right _ _),fun Hs2 H2 fl2 d2 B2 s2 hf r2 nd2 dj st=>?_⟩
   obtain ⟨As2,x,y,w,z⟩:=g Hs2 H2 fl2 d2 B2 s2 hf r2 nd2 (fun a ha m=>dj a ha (List.mem_append_right _ m)) fun a ha m=>st a (List.mem_append_right _ ha) m
   refine ⟨A++As2,List.nodup_append.mpr ⟨n1,x,fun a ha b hb e=>?_⟩,fun a h=>?_,fun ne q=>w ne (List.append_eq_nil_iff.mp q).2,.cons ((r.wk hf).stay s2 fun a h=>st a (List.mem_append_left _ h) (hA a h)) z⟩
   ·subst e
    rcases y a hb with q | q
    ·exact n3 a ha a q.1 rfl
    ·exact hA a ha (dj a q (List.mem_append_left _ ha))
   ·rcases List.mem_append.mp h with q | q
    ·exact .inl ⟨List.mem_append_left _ q,hA a q⟩
    ·exact (y a q).imp (fun q=>⟨List.mem_append_right _ q.1,q.2⟩) id
end
section
variable {X:Cx} {K:PySem.W.Frag} {e:Expr} {p:WP} {te:WE} {apos cpos pos:Pos}
noncomputable def lU (fl:Bool) (m:Md) (d:D):Option Bool:=match m with
 | .sh=>some (fl && d.flat)
 | .ow b=>some (fl && b)
 | .bo=>bif d.flat then some fl else none
noncomputable def wApp (p:WP) (te:WE):WS:=fun E ρ=>p ρ fun fl d up=>match d with
 | .list xs=>te ρ fun m x=>xs.length<sizeLine∧match lU fl m x with
  | some fl2=>E.nx (up fl2 (.list (xs++[x])))
  | none=>False
 | _=>False
theorem yt {Hs H:Hp} {fl fl2:Bool} {m:Md} {d:D} {v:V} {As:List Addr} (w:Wf Hs H) (r:RM K Hs H m d v As) (h:lU fl m d=some fl2):(fl2=true→fl=true)∧∃ B,B.Sublist As∧RepO K Hs H fl2 d v B:=by
 cases m with
 | sh =>
  cases h
  exact ⟨fun z=>by cases fl <;> simp_all,[],List.nil_sublist _,.sh (fun z=>by cases fl <;> simp_all) r.2⟩
 | ow b =>
  cases h
  refine ⟨fun z=>by cases fl <;> simp_all,As,List.Sublist.refl _,r.1.wk fun z=>by cases fl <;> simp_all⟩
 | bo =>
  cases hf:d.flat with
  | true =>
   simp only [lU,hf,cond_true,Option.some.injEq] at h
   subst h
   exact ⟨id,[],List.nil_sublist _,.sh (fun _=>hf) (r.flat w hf)⟩
  | false=>simp [lU,hf] at h
theorem Place.put {Hs1 H1 Hs2 H2:Hp} {σ:St} {fl:Bool} {xs:List D} {v:V} {up:Bool→D→Env} (pl:Place K Hs1 H1 σ fl (.list xs) v up) (g:Grow Hs1 H1 Hs2 H2) :
  ∃ a vs A,v=.ref a∧H2 a=some (.lst vs)∧H1 a=some (.lst vs)∧aD K Hs2 H2 fl xs vs A∧(a :: A).Nodup∧(∀ x∈a :: A,Hs2 x=none∧H1 x≠none) ∧
   ∀ fl2 ys ws C,(fl2=true→fl=true)→aD K Hs2 H2 fl2 ys ws C→ws.length≤sizeLine→C.Nodup→a∉C→(∀ x∈C,x∈A∨(Hs2 x=none∧H1 x=none))→∃ tot2,SRel K Hs2 (up fl2 (.list ys)) σ (upd H2 a (.lst ws)) tot2:=by
 obtain ⟨As',r,ne,nd,own,k⟩:=pl.ex
 cases r with
 | sh hf _=>exact absurd rfl ne
 | @list a vs _ A hz e rs =>
  have e2:=g.all _ _ e
  have rs2:=rs.grow g.sh g.all
  have hw:∀ x∈a :: A,Hs1 x=none∧H1 x≠none:=fun x hx=>⟨own x hx,by
   rcases List.mem_cons.mp hx with rfl | hx
   ·rw [e]; exact fun z=>nomatch z
   ·exact (rs.own x hx).ne⟩
  exact ⟨a,vs,A,rfl,e2,e,rs2,nd,fun x hx=>⟨g.hsn (hw x hx).1 (hw x hx).2,(hw x hx).2⟩,fun fl2 ys ws C hf rw' hz ndC naC hC=>k.node g hw (fun _ z=>by cases z) hf (.list hz upd_same (rw'.stay (Same.refl _) fun b hb=>upd_ne fun z=>naC (by subst z; exact hb))) ndC naC hC⟩
theorem Place.isL {Hs1 H1:Hp} {σ:St} {fl:Bool} {xs:List D} {v:V} {up:Bool→D→Env} (w:Wf Hs1 H1) (pl:Place K Hs1 H1 σ fl (.list xs) v up):∃ a vs,v=.ref a∧SqL K H1 a vs:=by
 obtain ⟨As',r,ne,nd,own,k⟩:=pl.ex
 cases r with
 | sh hf _=>exact absurd rfl ne
 | list hz e rs=>exact ⟨_,_,rfl,.inl (.inl e)⟩
theorem iC (ho:QP X K e p) {e2:Expr} (he:QE X K e2 te) (hK:X.K=K:=by rfl) (hs:swapsWith (.Call (.Attribute e "append" apos) [e2] [] cpos) none pos.line X.env=pure false:=by rfl)
  (hbase:attributeBase e "append" X.env (eval e X.env)=eval e X.env:=by rfl)
  (hfew:((backTo cpos (starEach [e2] X.env)).all (fun x=>!x.1) && (backToKw cpos (keywordEach [] X.env)).all (fun x=>x.1.isSome)
   && decide ([e2].length+([]:List Keyword).length+(if ([]:List Keyword).isEmpty then 0 else 1)<30))=true:=by rfl)
  (hline:(apos.endLine == cpos.line)=true:=by rfl) (hss:starEach (e2 :: []) X.env=(false,eval e2 X.env) :: starEach [] X.env:=by rfl) (hplain:(backTo cpos (starEach [] X.env)).any (·.1)=false:=by rfl) :
  QS X K L (.Expr (.Call (.Attribute e "append" apos) [e2] [] cpos) pos) (wApp p te):=by
 subst hK
 refine PS.imp (ps_expr (pe_bm PySem.F.plainAttrs_list PySem.F.slot_list_append PySem.F.type_list_append mt_append ho (pa_cons he pa_nil hss) hbase hfew hline hss hplain) hs) fun D σ H hx=>fV hx fun Hs ρ tot E sr h k1 k2 k3 k4=>?_
 refine ⟨Hs,ρ,tot,_,sr,h,fun v H1 Hs1 fl d up g1 p1 q1=>?_⟩
 cases d with
 | list xs =>
  obtain ⟨a1,vs1,e1,s1⟩:=p1.isL g1.wf
  subst e1
  refine ⟨.inl ⟨rfl,_,s1⟩,Hs1,ρ,tot,_,sr.grow g1,q1,fun y H2 Hs2 m x As g2 r2 f2 q2=>?_⟩
  obtain ⟨hz,q2⟩:=q2
  obtain ⟨a,vs,A,ea,e2,_,rs,nd,hn,k⟩:=p1.put g2
  cases ea
  have hl:=rs.length
  refine ⟨a1,vs,y,rfl,rfl,e2,by walk_at "l",?_⟩
  cases hp:lU fl m x with
  | none=>rw [hp] at q2; exact q2.elim
  | some fl2 =>
   rw [hp] at q2
   obtain ⟨hf,B,sb,rb⟩:=yt g2.wf r2 hp
   obtain ⟨na,nA⟩:=List.nodup_cons.mp nd
   have fB:∀ x∈B,Hs2 x=none∧H1 x=none:=fun x hx=>f2.2 x (sb.subset hx)
   have c1:(A++(B++[])).Nodup:=by
    rw [List.append_nil]
    exact List.nodup_append.mpr ⟨nA,sb.nodup f2.1,fun x hx z hz e=>by subst e; exact (hn x (List.mem_cons_of_mem _ hx)).2 (fB x hz).2⟩
   have c2:a1∉A++(B++[]):=by
    rw [List.append_nil]
    intro m
    rcases List.mem_append.mp m with m | m
    ·exact na m
    ·exact (hn _ List.mem_cons_self).2 (fB _ m).2
   have c3:∀ x∈A++(B++[]),x∈A∨(Hs2 x=none∧H1 x=none):=by
    rw [List.append_nil]
    intro x hx
    exact (List.mem_append.mp hx).imp id fun z=>fB x z
   obtain ⟨tot2,sr2⟩:=k fl2 (xs++[x]) (vs++[y]) (A++(B++[])) hf ((rs.wk hf).append (.cons rb .nil)) (by rw [List.length_append]; simp; walk_at "l") c1 c2 c3
   exact k1 σ _ Hs2 _ tot2 (g1.sh.trans g2.sh) sr2 q2
 | _=>exact q1.elim
noncomputable def xX:WE:=fun _ Q=>Q (.ow true) (.dT [])
theorem Bg:QE X K (.Dict [] [] pos) xX:=PE.imp pe_dnewT fun σ H Qv hx=>ex4 hx fun Hs ρ tot Q sr h f=>fun a ha =>
 f _ _ Hs (.ow true) (.dT []) [a] (newL sr.wf ha fun _ z=>nomatch z) ⟨.dT (vs:=[]) ⟨Nat.zero_le _,fun p hp=>nomatch hp⟩ upd_same .nil,by simp⟩ ⟨by simp,fun b hb=>by
  obtain rfl:b=a:=by simpa using hb
  exact ⟨sr.wf.sub.free ha,ha⟩⟩ h
section
variable {κ:Type} [DecidableEq κ]
theorem zc {β:Type} {kvs:List (κ × β)} {k:κ} {v:β} {p:κ × β} (h:p∈putG kvs k v):p.1=k∨p.1∈kvs.map (·.1):=by
 unfold putG at h
 split at h
 ·obtain ⟨q,hq,e⟩:=List.mem_map.mp h
  by_cases hk:q.1=k
  ·rw [if_pos hk] at e; subst e; exact .inl hk
  ·rw [if_neg hk] at e; subst e; exact .inr (List.mem_map.mpr ⟨q,hq,rfl⟩)
 ·rcases List.mem_append.mp h with h | h
  ·exact .inr (List.mem_map.mpr ⟨p,h,rfl⟩)
  ·have:p=(k,v):=by simpa using h
   subst this; exact .inl rfl
end
theorem Al {H:Hp} {d:D} {v:V} {k:Key} (r:Rep K H d v) (h:d.key1=some k):kOk k=true:=by
 cases r <;> simp [D.key1] at h <;> subst h
 ·rfl
 ·rename_i hz; simp [kOk,hz]
theorem yU {H:Hp} {ds:List D} {vs:List V} {ks:List Key} (r:Reps K H ds vs) (h:eN ds=some ks):ks.length=ds.length∧∀ k∈ks,kOk k=true:=by
 induction ds generalizing vs ks with
 | nil=>simp [eN] at h; subst h; exact ⟨rfl,fun k hk=>nomatch hk⟩
 | cons d ds ih =>
  obtain ⟨u,us,rfl,r,rs⟩:=r.c
  unfold eN at h
  cases e1:d.key1 with
  | none=>rw [e1] at h; simp at h
  | some k =>
   cases e2:eN ds with
   | none=>rw [e1,e2] at h; simp at h
   | some ks' =>
    rw [e1,e2] at h
    simp at h
    subst h
    obtain ⟨a,b⟩:=ih rs e2
    refine ⟨by simp [a],fun j hj=>?_⟩
    rcases List.mem_cons.mp hj with rfl | hj
    ·exact Al r e1
    ·exact b j hj
end
end L2.Q
set_option Elab.async false
set_option linter.all false
set_option maxRecDepth 100000
set_option maxHeartbeats 4000000
namespace L2.Q
open PySem PySem.Spec PyProof.Rows
noncomputable abbrev WJ:=Env→Str→(Str→Prop)→Prop
section
variable {X:Cx} {K:PySem.W.Frag} {e v₁ v₂:Expr} {es rest:List Expr} {te:WE} {j:WJ} {pos:Pos}
noncomputable def jt:List D→Option (List Str)
 | []=>some []
 | .str x :: xs=>(jt xs).map (x :: ·)
 | _ :: _=>none
noncomputable def tM (to te:WE):WE:=fun ρ Q=>to ρ fun _ x=>match x with
 | .str z=>te ρ fun _ y=>match y with
  | .list ys=>∃ zs,jt ys=some zs∧(zs.map (·.length)).sum+zs.length * z.length≤16777216∧Q .sh (.str (Str.join z zs))
  | _=>False
 | _=>False
theorem yF {H:Hp} {ds:List D} {vs:List V} {us:List Value} {zs:List Str} (r:Reps K H ds vs) (q:Vals vs us) (h:jt ds=some zs):StrsAre us zs:=by
 induction ds generalizing vs us zs with
 | nil =>
  simp [jt] at h
  subst h
  have:=r.n0
  subst this
  rw [Paired.n0 q]; exact .nil
 | cons d ds ih =>
  obtain ⟨v,vs,rfl,r1,rs⟩:=r.c
  obtain ⟨u,us,rfl,q1,qs⟩:=Paired.c q
  cases r1 with
  | str hz =>
   simp only [jt] at h
   cases e:jt ds with
   | none=>rw [e] at h; cases h
   | some ys =>
    rw [e] at h
    cases h
    obtain ⟨t,rfl⟩:=q1
    exact .cons _ t (ih rs qs e)
  | _=>simp [jt] at h
theorem Bk (hK:X.K=K:=by rfl):MtR X "str.join" (fun x xs H Q=>∃ z a ds vs zs,x=.str z∧xs=[.ref a]∧SqL K H a vs∧Reps K H ds vs∧jt ds=some zs∧(zs.map (·.length)).sum+zs.length * z.length≤16777216∧Q (.str (Str.join z zs)) H):=by
 subst hK
 intro pins s σ H x xs v us Q I rx rs h
 obtain ⟨z,a,ds,vs,zs,rfl,rfl,hs,rr,e,hz,q⟩:=h
 obtain ⟨t,rfl⟩:=rx
 obtain ⟨u,rfl,ru⟩:=Vals.one rs
 cases ru
 obtain ⟨its,rv,pl,_⟩:=I.list hs
 exact join_list pl.isList (by simpa using yF rr rv e) hz fun t' k=>⟨.str _,H,I.tok _,⟨t',rfl⟩,by rw [show Txt.join z zs=Str.join z zs from StrLaws.glued_eq_join z zs]; exact q⟩
theorem tV {z:Str}:∀ {zs:List Str},(Str.join z zs).length≤(zs.map (·.length)).sum+zs.length * z.length
 | []=>by show Str.empty.length≤_; exact Nat.le_trans (show Str.empty.length≤0 by decide) (Nat.zero_le _)
 | [x]=>by simp [Str.join]
 | x :: y :: r=>by
  have ih:=tV (z:=z) (zs:=y :: r)
  show (x++z++Str.join z (y :: r)).length≤_
  rw [cF,cF]
  simp only [List.map_cons,List.sum_cons,List.length_cons,Nat.add_mul,Nat.one_mul] at ih ⊢
  walk_at "l"
theorem Df {o:Expr} {to:WE} {apos cpos:Pos} (ho:QE X K o to) (he:QE X K e te) (hK:X.K=K:=by rfl)
  (hbase:attributeBase o "join" X.env (eval o X.env)=eval o X.env:=by rfl)
  (hfew:((backTo cpos (starEach [e] X.env)).all (fun x=>!x.1) && (backToKw cpos (keywordEach [] X.env)).all (fun x=>x.1.isSome)
   && decide ([e].length+([]:List Keyword).length+(if ([]:List Keyword).isEmpty then 0 else 1)<30))=true:=by rfl)
  (hline:(apos.endLine == cpos.line)=true:=by rfl) (hss:starEach (e :: []) X.env=(false,eval e X.env) :: starEach [] X.env:=by rfl) (hplain:(backTo cpos (starEach [] X.env)).any (·.1)=false:=by rfl) :
  QE X K (.Call (.Attribute o "join" apos) [e] [] cpos) (tM to te):=by
 subst hK
 refine PE.imp (pe_bm PySem.F.plainAttrs_str PySem.F.slot_str_join PySem.F.type_str_join Bk ho (pa_cons he pa_nil hss) hbase hfew hline hss hplain) fun σ H Qv hx=>ex4 hx fun Hs ρ tot Q sr h f=>?_
 refine ⟨Hs,ρ,tot,_,sr,h,fun v H1 Hs1 m x As g1 r1 f1 q1=>?_⟩
 have r:=r1.rep g1.wf
 cases r with
 | str hz =>
  refine ⟨rfl,Hs1,ρ,tot,_,sr.grow g1,q1,fun y H2 Hs2 m2 x2 As2 g2 r2 f2 q2=>?_⟩
  have rr:=r2.rep g2.wf
  cases rr with
  | list z s rs =>
   obtain ⟨zs,e,hz,q⟩:=q2
   exact ⟨_,_,_,_,zs,rfl,rfl,s,rs,e,hz,Fin.sh (Fin.after f (g1.trans g2)) g2.wf (.str (Nat.le_trans tV (by rw [sizeLine_eq]; exact hz))) q⟩
  | _=>exact q2.elim
 | _=>exact q1.elim
noncomputable def keyT (k:List Key):D:=.tup (k.map keyD)
noncomputable def Hg:W1:=fun _ x Q=>match x with
 | .list xs=>∃ ks sh,xs=ks.map keyT∧ks.length≤63∧(∀ k∈ks,shOf k=true :: sh)∧∀ ms:List (List Key),ms.Perm ks→(ms.Pairwise fun a b=>ltK b a=false)→Q (.ow true) (.list (ms.map keyT))
 | _=>False
theorem w6 {H:Hp} {ks:List Key} {vs:List V} (r:Reps K H (ks.map keyD) vs):vs=ks.map kV∧∀ k∈ks,kOk k=true:=by
 induction ks generalizing vs with
 | nil=>exact ⟨r.n0,fun k h=>nomatch h⟩
 | cons k ks ih =>
  obtain ⟨u,us,rfl,r1,rs⟩:=Reps.c (d:=keyD k) r
  obtain ⟨e,o⟩:=ih rs
  subst e
  cases k with
  | inl i=>cases r1; exact ⟨rfl,fun j hj=>by rcases List.mem_cons.mp hj with rfl | hj; rfl; exact o j hj⟩
  | inr x =>
   cases r1 with
   | str hz=>exact ⟨rfl,fun j hj=>by rcases List.mem_cons.mp hj with rfl | hj; simp [kOk,hz]; exact o j hj⟩
theorem Av {H:Hp} {ks:List (List Key)} {vs:List V} (r:Reps K H (ks.map keyT) vs):dO H vs ks∧∀ k∈ks,k.length≤sizeLine∧∀ j∈k,kOk j=true:=by
 induction ks generalizing vs with
 | nil=>rw [r.n0]; exact ⟨.nil,fun k h=>nomatch h⟩
 | cons k ks ih =>
  obtain ⟨u,us,rfl,r1,rs⟩:=Reps.c (d:=keyT k) r
  obtain ⟨t,o⟩:=ih rs
  cases r1 with
  | tup hz e q =>
   obtain ⟨e2,o2⟩:=w6 q
   subst e2
   exact ⟨.cons ⟨_,rfl,e⟩ t,fun j hj=>by
    rcases List.mem_cons.mp hj with rfl | hj
    ·exact ⟨by simpa using hz,o2⟩
    ·exact o j hj⟩
theorem pJ:bootBuiltins "sorted" = some (.builtin "sorted"):=by decide +kernel
end
end L2.Q
set_option Elab.async false
set_option linter.all false
set_option maxRecDepth 100000
set_option maxHeartbeats 4000000
namespace L2.Q
open PySem PySem.Spec PyProof.Rows
noncomputable def shF (A:List Addr) (F:Nat→List Addr):Nat→List Addr
 | 0=>A
 | i+1=>F i
noncomputable def Adr (K:PySem.W.Frag) (Hs H:Hp) (ρ:Env) (σ:St) (tot:List Addr) (F:Nat→List Addr):Prop:=(∀ i fl d,ρ[i]? = some (some (.ow fl d))→∃ v,σ[i]? = some (some v)∧F i≠[]∧RepO K Hs H fl d v (F i)) ∧
  (∀ i,(F i).Sublist tot)∧∀ i j,i≠j→∀ a∈F i,a∉F j
theorem Adr.skip {K:PySem.W.Frag} {Hs H:Hp} {ρ:Env} {σ:St} {tot:List Addr} {F:Nat→List Addr} {o:Option Sl} {u:Option V} (h:Adr K Hs H ρ σ tot F) (no:∀ fl d,o≠some (.ow fl d)):Adr K Hs H (o :: ρ) (u :: σ) tot (shF [] F):=by
 obtain ⟨a,b,c⟩:=h
 refine ⟨fun i fl d e=>?_,fun i=>?_,fun i j ne x hx=>?_⟩
 ·cases i with
  | zero=>simp at e; exact absurd e (no fl d)
  | succ i=>exact a i fl d (by simpa using e)
 ·cases i with
  | zero=>exact List.nil_sublist _
  | succ i=>exact b i
 ·cases i with
  | zero=>exact mem0 hx
  | succ i =>
   cases j with
   | zero=>exact fun z=>mem0 z
   | succ j=>exact c i j (fun z=>ne (by rw [z])) x hx
theorem Adr.own {K:PySem.W.Frag} {Hs H:Hp} {ρ:Env} {σ:St} {tot B:List Addr} {F:Nat→List Addr} {sl:Sl} {v:V} (h:Adr K Hs H ρ σ tot F) (n:(B++tot).Nodup) (hs:∀ fl d,sl=.ow fl d→B≠[]∧RepO K Hs H fl d v B):Adr K Hs H (some sl :: ρ) (some v :: σ) (B++tot) (shF B F):=by
 obtain ⟨a,b,c⟩:=h
 obtain ⟨n1,n2,n3⟩:=List.nodup_append.mp n
 refine ⟨fun i fl d e=>?_,fun i=>?_,fun i j ne x hx=>?_⟩
 ·cases i with
  | zero=>simp at e; exact ⟨v,rfl,hs fl d e⟩
  | succ i=>exact a i fl d (by simpa using e)
 ·cases i with
  | zero=>exact List.sublist_append_left _ _
  | succ i=>exact (b i).trans (List.sublist_append_right _ _)
 ·cases i with
  | zero =>
   cases j with
   | zero=>exact absurd rfl ne
   | succ j=>exact fun z=>n3 x hx x ((b j).subset z) rfl
  | succ i =>
   cases j with
   | zero=>exact fun z=>n3 x z x ((b i).subset hx) rfl
   | succ j=>exact c i j (fun z=>ne (by rw [z])) x hx
theorem SR.addrs {K:PySem.W.Frag} {Hs H:Hp} {ρ:Env} {σ:St} {tot:List Addr} (s:SR K Hs H ρ σ tot):tot.Nodup→∃ F:Nat→List Addr,Adr K Hs H ρ σ tot F:=by
 induction s with
 | nil=>exact fun _=>⟨fun _=>[],fun i fl d e=>by simp at e,fun i=>List.nil_sublist _,fun i j _ a h=>mem0 h⟩
 | non s ih =>
  intro n
  obtain ⟨F,h⟩:=ih n
  exact ⟨_,h.skip fun fl d z=>by cases z⟩
 | sh r s ih =>
  intro n
  obtain ⟨F,h⟩:=ih n
  exact ⟨_,h.skip fun fl d z=>by cases z⟩
 | xc s ih =>
  intro n
  obtain ⟨F,h⟩:=ih n
  exact ⟨_,h.skip fun fl d z=>by cases z⟩
 | ow ne r s ih =>
  intro n
  obtain ⟨F,h⟩:=ih (List.nodup_append.mp n).2.1
  exact ⟨_,h.own n fun fl d e=>by cases e; exact ⟨ne,r⟩⟩
 | lk ne r s ih =>
  intro n
  obtain ⟨F,h⟩:=ih (List.nodup_append.mp n).2.1
  exact ⟨_,h.own n fun fl d e=>by cases e⟩
noncomputable abbrev Plan:=List (WE ⊕ Nat)
noncomputable def mvs:Plan→List Nat
 | []=>[]
 | .inl _ :: r=>mvs r
 | .inr i :: r=>i :: mvs r
noncomputable def movS:Option (Option Sl)→Option (Md × D)
 | some (some (.sh d))=>some (.sh,d)
 | some (some (.ow fl d))=>some (.ow fl,d)
 | _=>none
noncomputable def j9:Plan→Env→(List (Md × D)→Prop)→Prop
 | [],_,Q=>Q []
 | .inl t :: r,ρ,Q=>t ρ fun m x=>j9 r ρ fun ps=>Q ((m,x) :: ps)
 | .inr i :: r,ρ,Q=>match movS ρ[i]? with
  | some p=>j9 r ρ fun ps=>Q (p :: ps)
  | none=>False
noncomputable def tpM (K:PySem.W.Frag) (pl:Plan):TA:=fun σ H Qv=>∃ (Hs:Hp) (ρ:Env) (tot:List Addr) (F:Nat→List Addr) (Q:List (Md × D)→Prop),SRel K Hs ρ σ H tot∧(∀ i fl d,ρ[i]? = some (some (.ow fl d))→∃ v,σ[i]? = some (some v)∧F i≠[]∧RepO K Hs H fl d v (F i))∧(∀ i,(F i).Sublist tot)∧(∀ i j,i≠j→∀ a∈F i,a∉F j) ∧
 j9 pl ρ Q∧∀ vs H' Hs' ps As,Grow Hs H Hs' H'→RMs K Hs' H' ps vs As→As.Nodup→(∀ a∈As,Hs' a=none∧(H a=none∨∃ i∈mvs pl,a∈F i))→Q ps→Qv vs H'
noncomputable abbrev QM (X:Cx) (K:PySem.W.Frag) (es:List Expr) (pl:Plan):Prop:=PA X es (tpM K pl)
section
variable {X:Cx} {K:PySem.W.Frag} {e:Expr} {es:List Expr} {te:WE} {pl:Plan} {pos:Pos}
theorem wL:QM X K [] []:=PA.imp pa_nil fun σ H Qv hx=>by
 obtain ⟨Hs,ρ,tot,F,Q,sr,h1,h2,h3,h,f⟩:=hx
 exact f [] H Hs [] [] (Grow.refl sr.wf) .nil List.nodup_nil (fun a h=>mem0 h) h
theorem qm_e (ha:QE X K e te) (hr:QM X K es pl) (hs:starEach (e :: es) X.env=(false,eval e X.env) :: starEach es X.env:=by rfl):QM X K (e :: es) (.inl te :: pl):=by
 refine PA.imp (pa_cons ha hr hs) fun σ H Qv hx9=>?_
 obtain ⟨Hs,ρ,tot,F,Q,sr,h1,h2,h3,h,f⟩:=hx9
 refine ⟨Hs,ρ,tot,_,sr,h,fun v H1 Hs1 m x As g1 r1 f1 q1=>⟨Hs1,ρ,tot,F,_,sr.grow g1,(fun i fl d e=>?_),h2,h3,q1,fun vs H2 Hs2 ps Bs g2 r2 nd2 o2 q2=>?_⟩⟩
 ·obtain ⟨v,a,b,c⟩:=h1 i fl d e
  exact ⟨v,a,b,c.grow g1.sh g1.all⟩
 ·refine f (v :: vs) H2 Hs2 _ _ (g1.trans g2) (.cons (r1.grow g2) r2) (List.nodup_append.mpr ⟨f1.1,nd2,fun a ha b hb e=>?_⟩) (fun a ha=>?_) q2
  ·subst e
   rcases (o2 a hb).2 with z | ⟨i,_,z⟩
   ·exact (r1.own a ha).ne z
   ·exact (sr.sr.own a ((h2 i).subset z)).ne (f1.2 a ha).2
  ·rcases List.mem_append.mp ha with z | z
   ·exact ⟨g2.hsn (f1.2 a z).1 (r1.own a z).ne,.inl (f1.2 a z).2⟩
   ·exact ⟨(o2 a z).1,(o2 a z).2.imp g1.all.free id⟩
theorem qm_v {i:Nat} (ha:PE X e (tVar i)) (hr:QM X K es pl) (hi:i∉mvs pl:=by decide) (hs:starEach (e :: es) X.env=(false,eval e X.env) :: starEach es X.env:=by rfl):QM X K (e :: es) (.inr i :: pl):=by
 refine PA.imp (pa_cons ha hr hs) fun σ H Qv hx9=>?_
 obtain ⟨Hs,ρ,tot,F,Q,sr,h1,h2,h3,h,f⟩:=hx9
 unfold j9 at h
 cases hm:movS ρ[i]? with
 | none=>rw [hm] at h; exact h.elim
 | some p =>
  rw [hm] at h
  have key:∃ v A,σ[i]? = some (some v)∧RM K Hs H p.1 p.2 v A∧A.Nodup∧∀ a∈A,a∈F i:=by
   cases e1:ρ[i]? with
   | none=>rw [e1] at hm; cases hm
   | some o =>
    cases o with
    | none=>rw [e1] at hm; cases hm
    | some sl =>
     cases sl with
     | sh d =>
      rw [e1] at hm; cases hm
      obtain ⟨v,a,b⟩:=sr.sr.get e1
      exact ⟨v,[],a,⟨rfl,b⟩,List.nodup_nil,fun a h=>nomatch h⟩
     | lk a fl d=>rw [e1] at hm; cases hm
     | xc a=>rw [e1] at hm; cases hm
     | ow fl d =>
      rw [e1] at hm; cases hm
      obtain ⟨v,a,b,c⟩:=h1 i fl d e1
      exact ⟨v,F i,a,⟨c,b⟩,(h2 i).nodup sr.nod,fun a h=>h⟩
  obtain ⟨v,A,ev,rm,ndA,hA⟩:=key
  refine ⟨v,ev,Hs,ρ,tot,F,_,sr,h1,h2,h3,h,fun vs H2 Hs2 ps Bs g2 r2 nd2 o2 q2=>?_⟩
  refine f (v :: vs) H2 Hs2 _ _ g2 (.cons (rm.grow g2) r2) (List.nodup_append.mpr ⟨ndA,nd2,fun a ha b hb e=>?_⟩) (fun a ha=>?_) q2
  ·subst e
   rcases (o2 a hb).2 with z | ⟨j,hj,z⟩
   ·exact (rm.own a ha).ne z
   ·exact h3 i j (fun z=>hi (by rw [z]; exact hj)) a (hA a ha) z
  ·rcases List.mem_append.mp ha with z | z
   ·have:a∈tot:=(h2 i).subset (hA a z)
    exact ⟨g2.hsn (sr.own a this) (sr.sr.own a this).ne,.inr ⟨i,List.mem_cons_self,hA a z⟩⟩
   ·exact ⟨(o2 a z).1,(o2 a z).2.imp id fun ⟨j,hj,q⟩=>⟨j,List.mem_cons_of_mem _ hj,q⟩⟩
noncomputable def vR (pl:Plan):WS:=fun E ρ=>j9 pl ρ fun ps=>ps.length≤sizeLine∧E.rt (uU ps) (.tup (ps.map (·.2)))
theorem rC {x1} {tpos:Pos} (h:QM X K es pl):QS X K L (.Return (some (.Tuple es x1 tpos)) pos) (vR pl):=by
 refine PS.imp (ps_ret (pe_tup h)) fun D σ H hx=>fV hx fun Hs ρ tot E sr h k1 k2 k3 k4=>?_
 obtain ⟨F,h1,h2,h3⟩:=sr.sr.addrs sr.nod
 refine ⟨Hs,ρ,tot,F,_,sr,h1,h2,h3,h,fun vs H1 Hs1 ps As g1 r1 nd1 o1 q1=>?_⟩
 obtain ⟨hz,q⟩:=q1
 have rl:=r1.reps g1.wf
 have hl:=rl.length
 rw [List.length_map] at hl
 refine ⟨by walk_at "l",fun p hp=>?_⟩
 have g2:=newT (vs:=vs) g1.wf hp
 have sm:Same Hs (upd Hs1 p (.tup vs)):=g1.sh.trans g2.sh
 unfold uU at q
 cases e1:ps.all okSh with
 | true =>
  rw [e1] at q
  exact k4 _ _ _ .sh _ [] sm g2.wf ⟨rfl,.tup (by walk_at "l") upd_same ((r1.sh g1.wf e1).same g2.sh)⟩ List.nodup_nil (fun a h=>nomatch h) q
 | false =>
  rw [e1] at q
  cases e2:ps.all okOw with
  | false =>
   rw [e2] at q
   exact k4 _ _ _ .bo _ [] sm g2.wf ⟨rfl,.tup (by walk_at "l") upd_same (rl.same g2.all)⟩ List.nodup_nil (fun a h=>nomatch h) q
  | true =>
   rw [e2] at q
   obtain ⟨Bs,sb,nz,ro⟩:=r1.ow (fl:=ps.all okFl) g1.wf e2 fun z=>z
   have hne:flats (ps.map (·.2))=false:=by
    cases hf:flats (ps.map (·.2)) with
    | false=>rfl
    | true=>rw [nZ hf] at e1; cases e1
   exact k4 _ _ _ (.ow _) _ Bs sm g2.wf ⟨.tup (by walk_at "l") upd_same hne (ro.grow g2.sh g2.all),nz e1⟩ (sb.nodup nd1) (fun a ha=>g2.hsn (o1 a (sb.subset ha)).1 (ro.own a ha).ne) q
end
end L2.Q
set_option Elab.async false
set_option linter.all false
set_option maxRecDepth 100000
set_option maxHeartbeats 4000000
namespace L2.Q
open PySem PySem.Spec PyProof.Rows
noncomputable def spLaw:SpD:=fun ds Q=>∃ ns:List Int,ds=[.list (ns.map .int)]∧ns.length≤63∧∀ m,Q m (.bl true)
theorem ints_rep {K:PySem.W.Frag} {H:Hp}:∀ (ns:List Int),Reps K H (ns.map .int) (ns.map V.int)
 | []=>.nil
 | n :: ns=>.cons (.int n) (ints_rep ns)
theorem xZ {K:PySem.W.Frag} {H:Hp} {a:Addr} {ns:List Int} {E:XK} (hl:ns.length≤63) (hS:SqL K H a (ns.map V.int)):ak K spLaw [.ref a] H (fun v _=>v=.bl true) E:=by
 refine ⟨[.list (ns.map .int)],fun _ d=>d=.bl true,.cons (.list (by rw [List.length_map]; exact Nat.le_trans hl (by decide)) hS (ints_rep ns)) .nil,⟨ns,rfl,hl,fun _=>rfl⟩,?_⟩
 intro v H' Hs' m d As s w r nd own q
 subst q
 have:=r.rep w
 cases this
 rfl
noncomputable abbrev sg (x:Str):List Nat:=x.cps.toList
theorem rQ (x y:Str):sg (x++y)=sg x++sg y:=by
 show (x.cps++y.cps).toList=_
 simp [sg]
theorem empty_app (x:Str):Str.empty++x=x:=vf (by rw [← sg,rQ]; rfl)
noncomputable def okS (x:Str):Prop:=∀ c∈sg x,c<0x110000
theorem Ar (x:Str):PyData.strOk x=true↔okS x:=by
 unfold PyData.strOk okS sg
 rw [Array.all_eq_true']
 simp
end L2.Q
namespace L2.Q
open PySem PySem.Spec PyProof.Rows
theorem atI0 {α:Type} (x:α) (l:List α):atI (x :: l) 0=some x:=by simp [L2.atI,ixN]
theorem atI1 {α:Type} (x y:α) (l:List α):atI (x :: y :: l) 1=some y:=by
 have:=atI_nat (xs:=x :: y :: l) (j:=1) (v:=y) rfl
 exact this
theorem atI2 {α:Type} (x y z:α) (l:List α):atI (x :: y :: z :: l) 2=some z:=by
 have:=atI_nat (xs:=x :: y :: z :: l) (j:=2) (v:=z) rfl
 exact this
theorem CP:Str.empty.length=0:=by decide
end L2.Q
set_option Elab.async false
set_option linter.all false
set_option maxRecDepth 100000
set_option maxHeartbeats 4000000
namespace L2.Q.R
open PySem PySem.Spec PyProof.Rows L2.Q
section
variable {f:D→Prop} {k:Kt f}
theorem HS:onK .non k=f .non:=rfl
theorem J4 {b:Bool}:onK (.bl b) k=f (.bl b):=rfl
theorem HN {i:Int}:onK (.int i) k=f (.int i):=rfl
theorem Hz {x:Str}:onK (.str x) k=f (.str x):=rfl
theorem Gg {xs:List D}:onK (.list xs) k=f (.list xs):=rfl
theorem HW {xs:List D}:onK (.tup xs) k=f (.tup xs):=rfl
theorem Jg {xs:List (Key × D)}:onK (.dK xs) k=f (.dK xs):=rfl
theorem Jh {xs:List (List Key × D)}:onK (.dT xs) k=f (.dT xs):=rfl
end
theorem Gk {f:Bool→Prop} {k:Kt f}:onK true k=f true:=rfl
theorem Ex {f:Bool→Prop} {k:Kt f}:onK false k=f false:=rfl
theorem Hv {d:D} {f:Md × D→Prop} {k:Kt f}:onK (Md.sh,d) k=f (.sh,d):=rfl
theorem Im {b:Bool} {d:D} {f:Md × D→Prop} {k:Kt f}:onK (Md.ow b,d) k=f (.ow b,d):=rfl
theorem Ip {d:D} {f:Md × D→Prop} {k:Kt f}:onK (Md.bo,d) k=f (.bo,d):=rfl
theorem HX {d:D} {f:Option Sl→Prop} {k:Kt f}:onK (some (.sh d)) k=f (some (.sh d)):=rfl
theorem Hd {b:Bool} {d:D} {f:Option Sl→Prop} {k:Kt f}:onK (some (.ow b d)) k=f (some (.ow b d)):=rfl
theorem Ik {p:Md × D} {f:Option (Md × D)→Prop} {k:Kt f}:onK (some p) k=f (some p):=rfl
theorem Jw {p:Bool} {f:Option Bool→Prop} {k:Kt f}:onK (some p) k=f (some p):=rfl
theorem HY {d:D} {f:Option (Option Sl)→Prop} {k:Kt f}:onK (some (some (.sh d))) k=f (some (some (.sh d))):=rfl
theorem Iz {b:Bool} {d:D} {f:Option (Option Sl)→Prop} {k:Kt f}:onK (some (some (.ow b d))) k=f (some (some (.ow b d))):=rfl
section
variable {E:rF} {ρ:Env} {Q:Md→D→Prop} {B:Bool→Prop} {t u:WS} {te ta tb tc to':WE} {tt tu:WT} {tar:WA} {i j n:Nat} {m m':Md} {d d':D} {sp:SpD} {p:WP} {R:List (Md × D)→Prop}
theorem HJ:cT E ρ=E.nx ρ:=rfl
theorem JX:wSeq t u E ρ=t { E with nx:=u E } ρ:=rfl
theorem Je:wRet te E ρ=te ρ E.rt:=rfl
theorem Hl:uJ te E ρ=te ρ fun _ _=>E.nx ρ:=rfl
noncomputable def put (sl:Option Sl) (k:Sl→Prop):Prop:=match sl with
 | some s=>k s
 | none=>False
theorem Iu {k:Sl→Prop}:put (some (.sh d)) k=k (.sh d):=rfl
theorem Ib {b:Bool} {k:Sl→Prop}:put (some (.ow b d)) k=k (.ow b d):=rfl
theorem JL:wSet i te E ρ=te ρ fun m d=>onK (asg m d) (f:=fun o=>put o fun sl=>E.nx (ρ.set i (some sl))) ⟨⟩:=rfl
theorem JB:wIfS tt t u E ρ=tt ρ fun b=>onK b (f:=fun b=>if b=true then t E ρ else u E ρ) ⟨⟩:=rfl
theorem Gw:sy E ρ=False:=rfl
theorem Hi:pK i E ρ=onK ρ[i]? (f:=fun o=>match o with
 | some (some (.sh d))=>E.rt .sh d
 | some (some (.ow fl d))=>E.rt (.ow fl) d
 | _=>False) ⟨⟩:=rfl
theorem H_ {pl:Plan}:vR pl E ρ=j9 pl ρ fun ps=>ps.length≤sizeLine∧E.rt (uU ps) (.tup (ps.map (·.2))):=rfl
theorem CV:j9 [] ρ R=R []:=rfl
theorem Gd {r:Plan}:j9 (.inl te :: r) ρ R=te ρ fun m x=>j9 r ρ fun ps=>R ((m,x) :: ps):=rfl
noncomputable def mov (o:Option (Md × D)) (k:Md × D→Prop):Prop:=match o with
 | some p=>k p
 | none=>False
theorem Fp {p:Md × D} {k:Md × D→Prop}:mov (some p) k=k p:=rfl
theorem FN {r:Plan}:j9 (.inr i :: r) ρ R=onK (movS ρ[i]?) (f:=fun o=>mov o fun p=>j9 r ρ fun ps=>R (p :: ps)) ⟨⟩:=rfl
theorem JH:wFrz i t E ρ=t E (frzE i ρ):=rfl
-- tests
noncomputable def bol (d:D) (B:Bool→Prop):Prop:=match d with
 | .bl b=>B b
 | _=>False
theorem HQ {b:Bool}:bol (.bl b) B=B b:=rfl
theorem wB_:wB te ρ B=te ρ fun _ x=>onK x (f:=fun x=>bol x B) ⟨⟩:=rfl
theorem JC:wTru te ρ B=te ρ fun _ x=>onK x (f:=fun x=>∃ b,truD x=some b∧B b) ⟨⟩:=rfl
theorem Jt:wNot tt ρ B=tt ρ fun c=>B (!c):=rfl
theorem JT:wAnd tt tu ρ B=tt ρ fun c=>onK c (f:=fun c=>if c=true then tu ρ B else B false) ⟨⟩:=rfl
theorem wOr_:wOr tt tu ρ B=tt ρ fun c=>onK c (f:=fun c=>if c=true then B true else tu ρ B) ⟨⟩:=rfl
theorem JV:wYes ρ B=B true:=rfl
-- expressions
theorem JK:wVar i ρ Q=onK ρ[i]? (f:=fun o=>useS o Q) ⟨⟩:=rfl
theorem G6:useS (some (some (.sh d))) Q=Q .sh d:=rfl
theorem FW {b:Bool}:useS (some (some (.ow b d))) Q=Q .bo d:=rfl
theorem wC_:wC d ρ Q=Q .sh d:=rfl
theorem wOp_ {f:W2}:wOp f ta tb ρ Q=ta ρ fun m x=>tb ρ fun n y=>f m x n y Q:=rfl
theorem wUn_ {f:W1}:wUn f ta ρ Q=ta ρ fun m x=>f m x Q:=rfl
theorem G_ {f g:W2}:gM f g ta tb tc ρ Q=ta ρ fun m x=>tb ρ fun n y=>f m x n y fun _ z=>onK z (f:=fun z=>bol z fun k=>onK k (f:=fun k=>if k=true then tc ρ fun l w=>g n y l w Q else Q .sh (.bl false)) ⟨⟩) ⟨⟩:=by
 unfold gM onK bol
 rfl
theorem Ja:jd ta tb ρ Q=ta ρ fun _ x=>onK x (f:=fun x=>bol x fun c=>onK c (f:=fun c=>if c=true then tb ρ Q else Q .sh (.bl false)) ⟨⟩) ⟨⟩:=by unfold jd onK bol; rfl
theorem Jm:wOrV ta tb ρ Q=ta ρ fun _ x=>onK x (f:=fun x=>bol x fun c=>onK c (f:=fun c=>if c=true then Q .sh (.bl true) else tb ρ Q) ⟨⟩) ⟨⟩:=by unfold wOrV onK bol; rfl
theorem Ht:vK ta ρ Q=ta ρ fun _ x=>onK x (f:=fun x=>bol x fun c=>Q .sh (.bl (!c))) ⟨⟩:=by unfold vK onK bol; rfl
theorem wIf_:wIf tt ta tb ρ Q=tt ρ fun c=>onK c (f:=fun c=>if c=true then ta ρ Q else tb ρ Q) ⟨⟩:=rfl
theorem Iw:aq te tar ρ R=te ρ fun m x=>tar ρ fun ps=>R ((m,x) :: ps):=rfl
theorem JF:wNil ρ R=R []:=rfl
theorem Jj:wTup tar ρ Q=tar ρ fun ps=>ps.length≤sizeLine∧Q (uU ps) (.tup (ps.map (·.2))):=rfl
theorem Ke:wLst tar ρ Q=tar ρ fun ps=>ps.length≤sizeLine∧Q (Bo ps) (.list (ps.map (·.2))):=rfl
theorem Jd:bJ sp tar ρ Q=tar ρ fun ps=>sp (ps.map (·.2)) fun m d=>onK (m,d) (f:=fun p=>Q (retM p.1 p.2) p.2) ⟨⟩:=rfl
-- operators
section
variable {x y:Str} {a b:Int} {xs ys:List D} {kvs:List (Key × D)} {kts:List (List Key × D)}
theorem Gp:fAdd m (.int a) m' (.int b) Q=Q .sh (.int (a+b)):=rfl
theorem GR:fAdd m (.str x) m' (.str y) Q=(x.length+y.length≤sizeLine∧Q .sh (.str (x++y))):=rfl
theorem G3:fAdd m (.list xs) m' (.list ys) Q=(xs.length+ys.length≤sizeLine∧((flats xs=true∧flats ys=true∧Q (.ow true) (.list (xs++ys)))∨(m=.sh∧m'=.sh∧Q (.ow false) (.list (xs++ys))))):=rfl
theorem Ha:fAdd m (.tup xs) m' (.tup ys) Q=(xs≠[]∧xs.length+ys.length≤sizeLine∧flats xs=true∧flats ys=true∧Q .sh (.tup (xs++ys))):=rfl
theorem G8:fSub m (.int a) m' (.int b) Q=Q .sh (.int (a - b)):=rfl
theorem Gm:fMul m (.int a) m' (.int b) Q=(CMul a b∧Q .sh (.int (a * b))):=rfl
theorem G4:fDiv m (.int a) m' (.int b) Q=((0<b∧b<1073741824)∧Q .sh (.int (a / b))):=rfl
theorem GJ:fMod m (.int a) m' (.int b) Q=(0<b∧Q .sh (.int (a % b))):=rfl
theorem Hw:fLt m (.int a) m' (.int b) Q=Q .sh (.bl (decide (a<b))):=rfl
theorem HD:fLt m (.str x) m' (.str y) Q=Q .sh (.bl (ltS x y)):=rfl
theorem HF:fLe m (.int a) m' (.int b) Q=Q .sh (.bl (decide (a≤b))):=rfl
theorem Ih:fLe m (.str x) m' (.str y) Q=Q .sh (.bl (!ltS y x)):=rfl
theorem I_:fGt m (.int a) m' (.int b) Q=Q .sh (.bl (decide (b<a))):=rfl
theorem Io:fEq m (.int a) m' (.int b) Q=Q .sh (.bl (decide (a=b))):=rfl
theorem Hh:fEq m (.str x) m' (.str y) Q=Q .sh (.bl (decide (x=y))):=rfl
theorem HH {k l:Bool}:fEq m (.bl k) m' (.bl l) Q=Q .sh (.bl (decide (k=l))):=rfl
theorem Jv:fEq m (.list xs) m' d Q=(okD 12 (.list xs)=true∧okD 12 d=true∧Q .sh (.bl (eqD (.list xs) d))):=by cases d <;> rfl
theorem Jq:fEq m (.tup xs) m' d Q=(okD 12 (.tup xs)=true∧okD 12 d=true∧Q .sh (.bl (eqD (.tup xs) d))):=by cases d <;> rfl
theorem Jl:fEq m .non m' d Q=(okD 12 .non=true∧okD 12 d=true∧Q .sh (.bl (eqD .non d))):=by cases d <;> rfl
theorem Hm:fNe m (.int a) m' (.int b) Q=Q .sh (.bl (!decide (a=b))):=rfl
theorem Hk:fNe m (.str x) m' (.str y) Q=Q .sh (.bl (!decide (x=y))):=rfl
theorem Jk:fNe m (.list xs) m' d Q=(okD 12 (.list xs)=true∧okD 12 d=true∧Q .sh (.bl (!eqD (.list xs) d))):=by cases d <;> rfl
theorem J1:fNe m (.tup xs) m' d Q=(okD 12 (.tup xs)=true∧okD 12 d=true∧Q .sh (.bl (!eqD (.tup xs) d))):=by cases d <;> rfl
theorem J0:fNe m .non m' d Q=(okD 12 .non=true∧okD 12 d=true∧Q .sh (.bl (!eqD .non d))):=by cases d <;> rfl
theorem J3 {neg:Bool}:fIn neg m (.str x) m' (.str y) Q=Q .sh (.bl (if neg then !inS x y else inS x y)):=rfl
theorem J_ {neg:Bool}:fIn neg m d m' (.list ys) Q=(eV d=true∧ys.all eV=true∧Q .sh (.bl (if neg then !inD d ys else inD d ys))):=rfl
theorem Jx {neg:Bool}:fIn neg m d m' (.tup ys) Q=(eV d=true∧ys.all eV=true∧Q .sh (.bl (if neg then !inD d ys else inD d ys))):=rfl
theorem Kc {neg:Bool}:fIn neg m d m' (.dK kvs) Q = ∃ k,d.key1=some k∧Q .sh (.bl (if neg then !(getG kvs k).isSome else (getG kvs k).isSome)):=rfl
theorem JN {neg:Bool}:fIn neg m (.tup xs) m' (.dT kts) Q = ∃ ks,eN xs=some ks∧Q .sh (.bl (if neg then !(getG kts ks).isSome else (getG kts ks).isSome)):=rfl
theorem Ka:fNeg m (.int a) Q=Q .sh (.int (-a)):=rfl
theorem Jp:fIx m (.list xs) m' (.int a) Q = ∃ d,atI xs a=some d∧onK d (f:=fun d=>Q (itm m d) d) ⟨⟩:=rfl
theorem J2:fIx m (.tup xs) m' (.int a) Q = ∃ d,atI xs a=some d∧onK d (f:=fun d=>Q (itm m d) d) ⟨⟩:=rfl
theorem Kd:fIx m (.str x) m' (.int a) Q = ∃ c,atI x.cps.toList a=some c∧Q .sh (.str ⟨#[c]⟩):=rfl
theorem JW:fIx m (.dK kvs) m' d Q = ∃ k d',d.key1=some k∧getG kvs k=some d'∧onK d' (f:=fun d'=>Q (itm m d') d') ⟨⟩:=rfl
theorem JM:fIx m (.dT kts) m' (.tup ys) Q = ∃ ks d',eN ys=some ks∧getG kts ks=some d'∧onK d' (f:=fun d'=>Q (itm m d') d') ⟨⟩:=rfl
theorem Hx:fLen m (.str x) Q=Q .sh (.int x.length):=rfl
theorem Hn:fLen m (.list xs) Q=Q .sh (.int xs.length):=rfl
theorem Ho:fLen m (.tup xs) Q=Q .sh (.int xs.length):=rfl
theorem IW:fLen m (.dK kvs) Q=Q .sh (.int kvs.length):=rfl
theorem Ii:fLen m (.dT kts) Q=Q .sh (.int kts.length):=rfl
theorem J5 {T:String}:fIsi T m d Q=Q .sh (.bl (isiT d.ty T)):=rfl
theorem Gh:pN m (.list xs) Q=((flats xs=true∧Q (.ow true) (.list xs))∨(m=.sh∧Q (.ow false) (.list xs))):=rfl
theorem Ft:pN m (.tup xs) Q=((flats xs=true∧Q (.ow true) (.list xs))∨(m=.sh∧Q (.ow false) (.list xs))):=rfl
theorem Gu:pN m (.dT kts) Q=Q (.ow true) (.list (kts.map fun kv=>.tup (kv.1.map keyD))):=rfl
theorem wSl_ {tl th:WO}:wSl te tl th ρ Q=te ρ fun m x=>tl ρ fun lo=>th ρ fun hi=>fSl m x lo hi Q:=rfl
theorem Fq {O:Option Int→Prop}:ig ρ O=O none:=rfl
noncomputable def int' (d:D) (k:Int→Prop):Prop:=match d with
 | .int i=>k i
 | _=>False
theorem IK {k:Int→Prop}:int' (.int a) k=k a:=rfl
theorem HR {O:Option Int→Prop}:ir te ρ O=te ρ fun _ x=>onK x (f:=fun x=>int' x fun i=>O (some i)) ⟨⟩:=by unfold ir onK int'; rfl
theorem Ji {lo hi:Option Int}:fSl m (.str x) lo hi Q=Q .sh (.str (cutS x lo hi)):=rfl
theorem JQ {lo hi:Option Int}:fSl m (.list xs) lo hi Q=((flats xs=true∧Q (.ow true) (.list (cutG xs lo hi)))∨(m=.sh∧Q (.ow false) (.list (cutG xs lo hi)))):=rfl
theorem Jf {lo hi:Option Int}:fSl m (.tup xs) lo hi Q=(flats xs=true∧¬ (HT.sIx xs.length 0 lo=0∧HT.sIx xs.length xs.length hi=xs.length)∧Q .sh (.tup (cutG xs lo hi))):=rfl
end
-- texts
noncomputable def str' (d:D) (k:Str→Prop):Prop:=match d with
 | .str x=>k x
 | _=>False
theorem Hy {x:Str} {k:Str→Prop}:str' (.str x) k=k x:=rfl
noncomputable def list' (d:D) (k:List D→Prop):Prop:=match d with
 | .list x=>k x
 | _=>False
theorem GD {x:List D} {k:List D→Prop}:list' (.list x) k=k x:=rfl
theorem GK:tM to' te ρ Q=to' ρ fun _ x=>onK x (f:=fun x=>str' x fun z=>te ρ fun _ y=>onK y (f:=fun y=>list' y fun ys=>∃ zs,jt ys=some zs∧(zs.map (·.length)).sum+zs.length * z.length≤16777216∧Q .sh (.str (Str.join z zs))) ⟨⟩) ⟨⟩:=by unfold tM onK str' list'; rfl
-- places
theorem wpN_ {P:Bool→D→(Bool→D→Env)→Prop}:wpN i ρ P=onK ρ[i]? (f:=fun o=>match o with
 | some (some (.ow fl d))=>P fl d fun fl2 d2=>ρ.set i (some (.ow fl2 d2))
 | _=>False) ⟨⟩:=rfl
noncomputable def fl' (o:Option Bool) (k:Bool→Prop):Prop:=match o with
 | some b=>k b
 | none=>False
theorem Fd {b:Bool} {k:Bool→Prop}:fl' (some b) k=k b:=rfl
theorem JS:wApp p te E ρ=p ρ fun fl d up=>onK d (f:=fun d=>list' d fun xs=>te ρ fun m x=>xs.length<sizeLine∧onK (lU fl m x) (f:=fun o=>fl' o fun fl2=>E.nx (up fl2 (.list (xs++[x])))) ⟨⟩) ⟨⟩:=by unfold wApp onK list' fl'; rfl
theorem G9:xX ρ Q=Q (.ow true) (.dT []):=rfl
noncomputable def dct (d y:D) (k1:List (Key × D)→Prop) (k2:List (List Key × D)→List D→Prop):Prop:=match d with
 | .dK kvs=>k1 kvs
 | .dT kvs=>match y with
  | .tup ys=>k2 kvs ys
  | _=>False
 | _=>False
theorem JP {y:D} {kvs:List (Key × D)} {k1:List (Key × D)→Prop} {k2:List (List Key × D)→List D→Prop}:dct (.dK kvs) y k1 k2=k1 kvs:=rfl
theorem Jr {ys:List D} {kvs:List (List Key × D)} {k1:List (Key × D)→Prop} {k2:List (List Key × D)→List D→Prop}:dct (.dT kvs) (.tup ys) k1 k2=k2 kvs ys:=rfl
-- loops
variable {LQ:List D→Prop}
theorem Jo {wi:WI} {g:WG} {b:WS}:wFor wi g b E ρ=wi ρ fun ds=>oW g b E ds ρ:=rfl
theorem Fw:jD te ρ LQ=te ρ fun m d=>uL m∧onK d (f:=fun d=>list' d LQ) ⟨⟩:=by unfold jD onK list'; rfl
noncomputable def tup' (d:D) (k:List D→Prop):Prop:=match d with
 | .tup x=>k x
 | _=>False
theorem Ie {x:List D} {k:List D→Prop}:tup' (.tup x) k=k x:=rfl
theorem Il:yQ te ρ LQ=te ρ fun _ d=>onK d (f:=fun d=>str' d fun z=>LQ (sgnD z)) ⟨⟩:=by unfold yQ onK str'; rfl
theorem GX:fu te ρ LQ=te ρ fun _ d=>onK d (f:=fun d=>int' d fun j=>j≤16777216∧-(2 ^ 62)≤j∧LQ (gq 0 j.toNat)) ⟨⟩:=by unfold fu onK int'; rfl
theorem Gr:uf ta tb ρ LQ=ta ρ fun _ x=>tb ρ fun _ y=>onK x (f:=fun x=>int' x fun i=>onK y (f:=fun y=>int' y fun j=>j - i≤16777216∧(-(2 ^ 62)≤i∧i<2 ^ 62∧-(2 ^ 62)≤j∧j<2 ^ 62)∧LQ (gq i (j - i).toNat)) ⟨⟩) ⟨⟩:=by
 unfold uf onK int'
 congr 1
 funext _ x
 congr 1
 funext _ y
 cases x <;> cases y <;> rfl
theorem E_:uL .sh=True:=rfl
theorem Fb {b:Bool}:uL (.ow b)=True:=rfl
theorem Fj:uL .bo=False:=rfl
theorem gN_ {N:Env→Prop}:gN i d ρ N=N (ρ.set i (some (.sh d))):=rfl
theorem gT_ {gs:WGs} {N:Env→Prop}:gT n gs d ρ N=onK d (f:=fun d=>tup' d fun ds=>ds.length=n∧gs ds ρ N) ⟨⟩:=by unfold gT onK tup'; rfl
theorem Hj {g:WG} {gs:WGs} {ds:List D} {N:Env→Prop}:eG g gs (d :: ds) ρ N=g d ρ fun ρ'=>gs ds ρ' N:=rfl
theorem JR {N:Env→Prop}:qt [] ρ N=N ρ:=by simp [qt]
theorem Hu {wi:WI} {g:WG} {tn:Nat} {ix:List Nat}:d_ wi g tt te tn ix ρ Q=wi ρ fun ds=>gw g tt te ds (Ab tn ix ρ) fun out=>Q (.ow true) (.list out):=rfl
end
theorem B {c:Bool} {f:Bool→Prop} {k:Kt f} (h1:c=true→f true) (h2:c=false→f false):onK c k:=by
 cases c with
 | true=>exact h1 rfl
 | false=>exact h2 rfl
theorem D {p:Prop} [Decidable p] {f:Bool→Prop} {k:Kt f} (h1:p→f true) (h2:¬ p→f false):onK (decide p) k :=
 B (fun h=>h1 (of_decide_eq_true h)) fun h=>h2 (of_decide_eq_false h)
theorem T {c:Bool} {f:Bool→Prop} {k:Kt f} (h:c=true) (h1:f true):onK c k:=by subst h; exact h1
theorem F {c:Bool} {f:Bool→Prop} {k:Kt f} (h:c=false) (h1:f false):onK c k:=by subst h; exact h1
end L2.Q.R
set_option Elab.async false
set_option linter.all false
set_option maxRecDepth 100000
set_option maxHeartbeats 4000000
namespace L2
open PySem PySem.Spec PyProof.Rows
section
variable {X:Cx}
end
end L2
namespace L2.Q
open PySem PySem.Spec PyProof.Rows
section
variable {X:Cx} {K:PySem.W.Frag} {e e2 tg:Expr} {te te2:WE} {pos p p2 pos2 cpos apos:Pos}
noncomputable def Jb:W1:=fun _ x Q=>match x with
 | .list xs=>∃ ks b,xs=ks.map keyD∧ks.length≤63∧(∀ k∈ks,isI k=b)∧∀ ms:List Key,ms.Perm ks→(ms.Pairwise fun a b=>lt1 b a=false)→Q (.ow true) (.list (ms.map keyD))
 | .dK kvs=>∃ b,kvs.length≤63∧(∀ p∈kvs,isI p.1=b)∧∀ ms:List Key,ms.Perm (kvs.map (·.1))→(ms.Pairwise fun a b=>lt1 b a=false)→Q (.ow true) (.list (ms.map keyD))
 | _=>False
section
variable {Hs H:Hp} {fl:Bool}
end
end
section
variable {K:PySem.W.Frag} {Hs H:Hp} {fl:Bool} {d:D} {a:Addr}
end
noncomputable abbrev WIL:=Env→(List D→Prop)→Prop
section
variable {X:Cx} {K:PySem.W.Frag} {e tg:Expr} {i:Nat} {pos p:Pos} {wi:WIL} {g:WG} {b:WS} {body:List Stmt}
end
section
variable {X:Cx} {K:PySem.W.Frag}
theorem lZ {i:Nat} {x:Str} {tg iter elt:Expr} {ifs:List Expr} {scope:Scope} {pos pos' spos:Pos} {wi:WI} {g:WG} {tc:WT} {te:WE} {tn cn:List Str} {ix:List Nat} (hN:X.N.Nodup) (hi0:X.N[i]? = some x) (hx:Loc X.env.scope x) (hc:X.calm=true)
  (hi:QIb X K tg iter wi) (O:bY X scope tn cn ix)
  (hg:∀ C fp s₃ H₃,QG (bH X scope C (tn++cn) fp s₃ H₃) K tg g) (hcs:∀ C fp s₃ H₃,QTs (bH X scope C (tn++cn) fp s₃ H₃) K ifs tc) (he:∀ C fp s₃ H₃,QE (bH X scope C (tn++cn) fp s₃ H₃) K elt te)
  (hsw:swapsWith (.ListComp elt [⟨tg,iter,ifs,0⟩] scope pos) (some (.Name x pos')) spos.line X.env=pure true:=by rfl)
  (hs:∀ x,foldedSetIterable iter X.env x=pure x:=by intro _; rfl) (hf:X.fn x=true∨X.env.scope.names.lookup x=some .local:=by first | exact .inl rfl | exact .inr rfl | assumption) :
  QS X K L (.Assign [.Name x pos'] (.ListComp elt [⟨tg,iter,ifs,0⟩] scope pos) spos) (wSet i (d_ wi g tc te tn.length ix)) :=
 PS.imp (uD hN hi0 hx hc hi O hg hcs he hsw hs hf) fun D σ H hx=>fV hx fun Hs ρ tot E sr h k1 k2 k3 k4=>by
  refine pA ⟨Hs,ρ,tot,_,sr,h,fun v H1 Hs1 m d As g1 r1 f1 q1=>?_⟩
  have q1:match asg m d with
   | some sl=>E.nx (ρ.set i (some sl))
   | none=>False:=q1
  cases e:asg m d with
  | none=>rw [e] at q1; exact q1.elim
  | some sl =>
   rw [e] at q1
   obtain ⟨tot',s'⟩:=(sr.grow g1).set i r1 f1.1 (fun a ha=>⟨(f1.2 a ha).1,fun m=>(sr.sr.own a m).ne (f1.2 a ha).2⟩) e
   exact k1 _ H1 Hs1 _ tot' g1.sh s' q1
end
end L2.Q
set_option Elab.async false
set_option linter.all false
set_option maxRecDepth 100000
set_option maxHeartbeats 4000000
namespace L2.Q.R
open PySem PySem.Spec PyProof.Rows L2.Q
section
variable {E:rF} {ρ:Env} {Q:Md→L2.Q.D→Prop} {te te2 tk:WE} {i:Nat} {d:L2.Q.D} {p:WP} {a:Addr} {b:Bool} {LQ:List L2.Q.D→Prop}
theorem Jc {f:Option Sl→Prop} {k:Kt f}:onK (some (.lk a b d)) k=f (some (.lk a b d)):=rfl
theorem IV {f:Option (Option Sl)→Prop} {k:Kt f}:onK (some (some (.lk a b d))) k=f (some (some (.lk a b d))):=rfl
theorem G5:useS (some (some (.lk a b d))) Q=Q .bo d:=rfl
noncomputable def own' (o:Option (Option Sl)) (k:Bool→L2.Q.D→Prop):Prop:=match o with
 | some (some (.ow fl d))=>k fl d
 | _=>False
theorem GF {k:Bool→L2.Q.D→Prop}:own' (some (some (.ow b d))) k=k b d:=rfl
theorem Gn:qi te ρ LQ=te ρ fun _ d=>onK d (f:=fun d=>list' d fun xs=>LQ (jf xs)) ⟨⟩:=by unfold qi onK list'; rfl
theorem Ga:gW te ρ LQ=te ρ fun _ d=>onK d (f:=fun d=>list' d LQ) ⟨⟩:=by unfold gW onK list'; rfl
theorem Ia:uG te ρ LQ=te ρ fun _ d=>onK d (f:=fun d=>tup' d LQ) ⟨⟩:=by unfold uG onK tup'; rfl
section
variable {P:Bool→L2.Q.D→(Bool→L2.Q.D→Env)→Prop} {up:Bool→L2.Q.D→Env} {ds:List L2.Q.D} {j:Int}
end
end
end L2.Q.R
set_option Elab.async false
set_option linter.all false
set_option maxRecDepth 100000
set_option maxHeartbeats 4000000
namespace L2
open PySem PySem.Spec PyProof.Rows Builtin Builtin.Str Builtin.Int
section
variable {prog:Program} {w:World} {A:Around} {E:Value→Shared→Prop} {s:Shared} {x:Str} {n:Int} {t u:Tok}
theorem qI {Q:Value→Shared→Prop} (hok:MulOk x n) (h:∀ t' k,Q (.str (Txt.mul x n) t') { s with toks:=k }):wpAny (model prog w) A (binaryOp .Mult (.int n u) (.str x t)) Q E s:=by
 refine lm_binaryOp_repeat_right (T := "str") (U := "int") (by decide) (fun s'=>typeIs_int s' n u) (typeIs_str s x t) F.fills_int_mul noFill_str_mul F.slot_int_mul lm_noRepeat_int repeat_str F.slot_int_index.lookup
  (call_gives F.slot_int_mul (typeIs_int s n u) F.entry_int_mul (F.args_int_mul_2 _ _) (AutoIntG3.int___mul___int_str_0 n u x t)
   ⟨rfl,typeIs_str _ x t,call_gives F.slot_str_mul (typeIs_str _ x t) F.entry_str_mul (F.args_str_mul_2 _ _) (gives_str_mul x n t u hok.1 hok.2.1 hok.2.2) ?_⟩)
 unfold Txt.mul at h
 by_cases h1:n<1
 ·rw [if_pos h1]; have h':=h s.toks (s.toks+1); rw [if_pos h1] at h'; exact ⟨by decide,h'⟩
 ·rw [if_neg h1]; refine post_val_or_made (fun hc=>fits_reps (hok.2.2 h1 (by simpa using hc))) fun t' k=>?_
  have h':=h t' k; rw [if_neg h1] at h'; exact h'
end
noncomputable def repS (n:Int) (z:Str):Str:=⟨(List.replicate n.toNat z.cps.toList).flatten.toArray⟩
theorem mj (xs:Array Nat):∀ (k:Nat) (acc:Array Nat),(List.replicate k xs).foldl (· ++ ·) acc=acc++(List.replicate k xs.toList).flatten.toArray
 | 0,acc=>by simp
 | k+1,acc=>by
  rw [List.replicate_succ,List.foldl_cons,mj xs k,List.replicate_succ,List.flatten_cons]
  apply Array.ext'
  simp
theorem By {n:Int} {z:Str} (h:1≤n):Txt.mul z n=repS n z:=by
 unfold Txt.mul repS
 rw [if_neg (by walk_at "l")]
 by_cases h1:n=1
 ·subst h1
  simp
 ·by_cases h0:z.length=0
  ·have hz:z.cps = #[]:=Array.eq_empty_of_size_eq_zero h0
   rw [if_pos (by simp [h0])]
   obtain ⟨c⟩:=z
   cases hz
   simp
  ·rw [if_neg (by simp [h1,h0]),mj]
   simp
noncomputable def Ce:R2:=fun x y H Q=>match x,y with
 | .int n,.str z=>(1≤n∧n≤100∧z.length≤100)∧Q (.str (repS n z)) H
 | _,_=>False
section
variable {X:Cx}
theorem Bd:OpR X (binaryOp .Mult) Ce:=by
 intro pins s σ H x y v u Q I rx ry h
 unfold Ce at h
 split at h
 ·rename_i n z
  obtain ⟨⟨h1,h2,h3⟩,q⟩:=h
  obtain ⟨t,rfl⟩:=rx
  obtain ⟨t',rfl⟩:=ry
  refine qI ⟨?_,fun _ _=>?_,fun _ _=>?_⟩ fun t' k=>⟨.str (repS n z),H,I.tok _,⟨_,by rw [By h1]⟩,q⟩
  ·have a1:¬ n < -(2 ^ 63:Int):=by walk_at "l"
   have a2:¬ n ≥ 2 ^ 63:=by walk_at "l"
   rw [decide_eq_false a1,decide_eq_false a2]; rfl
  ·have:(2 ^ 63 - 1:Int) / 100≤(2 ^ 63 - 1) / n:=by
    apply Int.le_ediv_of_mul_le (by walk_at "l")
    have:(2 ^ 63 - 1:Int) / 100 * n≤(2 ^ 63 - 1:Int) / 100 * 100:=Int.mul_le_mul_of_nonneg_left h2 (by decide)
    walk_at "l"
   have e:(2 ^ 63 - 1:Int) / 100=92233720368547758:=by decide
   walk_at "l"
  ·have:z.length * n.toNat≤100 * 100:=Nat.mul_le_mul h3 (by walk_at "l")
   have hs:=sizeLine_eq
   simp only [tooLong,decide_eq_false_iff_not]
   generalize z.length * n.toNat=m at this ⊢
   walk_at "l"
 ·exact h.elim
noncomputable def mxP (ns:List Int):Nat→Int
 | 0=>0
 | 1=>ns.getD 0 0
 | j+2=>if ns.getD (j+1) 0>mxP ns (j+1) then ns.getD (j+1) 0 else mxP ns (j+1)
end
section
variable {prog:Program} {w:World} {A:Around} {R:Result→Shared→Prop} {E:Value→Shared→Prop} {I:Addr} {fp wr:List Addr} {P:Nat→Value→Prop} {St:Nat→Heap→Prop}
theorem u9 {ns:List Int} (W:Walks prog w A.in1 I fp wr ns.length P St) (hval:∀ i v,P i v→∃ t,v=.int (ns.getD i 0) t) (S:Addr) (hSf:S∉fp) (d:Value) :
  ∀ (k j:Nat) (s:Shared) (c:Nat) (items:Array Value),ns.length - j=k→j≤ns.length→St j s.heap→((j=0∧items = #[])∨(0<j∧∃ t,items = #[.int (mxP ns j) t,.int (mxP ns j) t])) →
  s.heap.get? S=some { cls:=.type "list",dict:=none,data:=.seq items c,slots:=#[] } →
  (∀ v h' tk,(ns=[]∧v=d∨ns≠[]∧∃ t,v=.int (mxP ns ns.length) t)→(∀ b o,b∉wr→b≠S→s.heap.get? b=some o→h'.get? b=some o)→R (.ok (.ret v)) { s with heap:=h',toks:=tk }) →
  codeAny (model prog w) A (.builtin "max.loop" ⟨[.ref I,.none,.ref S],[("default",d)]⟩) R s:=by
 have hSw:S∉wr:=fun h=>hSf (W.sub _ h)
 have hname:(toString "max" ++ toString ".loop" : String) = "max.loop" := by decide
 intro k
 induction k with
 | zero =>
  intro j s c items hk hj hst hit hS hR
  have hin:j=ns.length:=by walk_at "l"
  refine codeAny_builtin F.entry_max_loop ?_
  rw [Around.under_plainId F.plain_max_loop _]
  show wpAny _ A.in1 (seqItems? (.ref S) >>= _) _ _ s
  refine wpAny_bind (wpAny_seqItems hS rfl ?_)
  show wpAny _ A.in1 (tryCatch (pyNext (.ref I)) _ >>= _) _ _ s
  refine wpAny_bind (wpAny_tryCatch (W.done s _ _ (hin ▸ hst) fun h' tk hk'=>?_))
  have hS':=hk' S _ hSw hS
  rcases hit with ⟨h0,rfl⟩ | ⟨h0,t,rfl⟩
  ·refine wpAny_bind (wpAny_rule (wpAny_pure ?_))
   exact hR d _ tk (.inl ⟨List.length_eq_zero_iff.mp (by walk_at "l"),rfl⟩) fun b o hbw hbS e=>hk' b o hbw e
  ·show wpAny _ A.in1 (updateSeq S (fun _=>#[]) >>= _) _ _ _
   refine wpAny_bind ?_
   refine wpAny_updateSeq hS' rfl (wpAny_bind (wpAny_letGo (wpAny_pure ?_)))
   refine hR _ _ tk (.inr ⟨fun z=>by rw [z] at hin; simp at hin; walk_at "l",t,by rw [hin]⟩) fun b o hbw hbS e=>(Heap.get?_update_other _ _ (Ne.symm hbS)).trans (hk' b o hbw e)
 | succ k ih =>
  intro j s c items hk hj hst hit hS hR
  have hlt:j<ns.length:=by walk_at "l"
  refine codeAny_builtin F.entry_max_loop ?_
  rw [Around.under_plainId F.plain_max_loop _]
  show wpAny _ A.in1 (seqItems? (.ref S) >>= _) _ _ s
  refine wpAny_bind (wpAny_seqItems hS rfl ?_)
  show wpAny _ A.in1 (tryCatch (pyNext (.ref I)) _ >>= _) _ _ s
  refine wpAny_bind (wpAny_tryCatch (W.item j s _ _ hlt hst fun v h' tk hP hst' hk'=>?_))
  have hS':=hk' S _ hSw hS
  obtain ⟨t1,rfl⟩:=hval j v hP
  rcases hit with ⟨h0,rfl⟩ | ⟨h0,t,rfl⟩
  ·subst h0
   show wpAny _ A.in1 (updateSeq S (fun _=>#[_,_]) >>= _) _ _ _
   refine wpAny_bind ?_
   refine wpAny_updateSeq hS' rfl ?_
   rw [hname]
   refine wpAny_pure ⟨plainId_quiet F.plain_max_loop _,ih 1 _ _ _ (by walk_at "l") hlt (W.frame _ _ _ hst' fun b hbf o e=>?_) (.inr ⟨by walk_at "l",t1,rfl⟩) (Heap.get?_update_self _ hS' rfl) fun v' h'' tk'' hP' hk''=>?_⟩
   ·exact (Heap.get?_update_other _ _ (fun h:S=b=>hSf (by rw [h]; exact hbf))).trans e
   ·exact hR v' h'' tk'' hP' fun b o hbw hbS e=>hk'' b o hbw hbS ((Heap.get?_update_other _ _ (Ne.symm hbS)).trans (hk' b o hbw e))
  ·obtain ⟨j,rfl⟩:∃ i,j=i+1:=⟨j - 1,by walk_at "l"⟩
   show wpAny _ A.in1 (tryCatch (holding [_,_] (richCompare .Gt _ _ >>= _)) _ >>= _) _ _ _
   refine wpAny_bind (wpAny_tryCatch (wpAny_holding (wpAny_bind (CmpOf.ints_gt (P:=fun i v=>(i=0∧v=.int (ns.getD (j+1) 0) t1)∨(i=1∧v=.int (mxP ns (j+1)) t)) (fun i=>if i=0 then ns.getD (j+1) 0 else mxP ns (j+1)) (fun i v h=>?_) 0 1 _ _ _ _ _ (.inl ⟨rfl,rfl⟩) (.inr ⟨rfl,rfl⟩) ?_))))
   ·rcases h with ⟨rfl,rfl⟩ | ⟨rfl,rfl⟩ <;> exact ⟨_,rfl⟩
   refine wpAny_bind (wpAny_holding (wpAny_truthy_bool ?_))
   refine wpAny_bind (wpAny_letGo (wpAny_pure ?_))
   simp only [if_true,show ¬ (1:Nat)=0 by decide,if_false]
   have e2:mxP ns (j+1+1)=if ns.getD (j+1) 0>mxP ns (j+1) then ns.getD (j+1) 0 else mxP ns (j+1):=rfl
   by_cases hb:ns.getD (j+1) 0>mxP ns (j+1)
   ·rw [if_pos hb] at e2
    simp only [hb,decide_true,if_true]
    refine wpAny_bind ?_
    refine wpAny_updateSeq hS' rfl (wpAny_bind (wpAny_letGo ?_))
    rw [hname]
    refine wpAny_pure ⟨plainId_quiet F.plain_max_loop _,ih (j+2) _ _ _ (by walk_at "l") hlt (W.frame _ _ _ hst' fun b hbf o e=>?_) (.inr ⟨by walk_at "l",t1,by rw [e2]⟩) (Heap.get?_update_self _ hS' rfl) fun v' h'' tk'' hP' hk''=>?_⟩
    ·exact (Heap.get?_update_other _ _ (fun h:S=b=>hSf (by rw [h]; exact hbf))).trans e
    ·exact hR v' h'' tk'' hP' fun b o hbw hbS e=>hk'' b o hbw hbS ((Heap.get?_update_other _ _ (Ne.symm hbS)).trans (hk' b o hbw e))
   ·rw [if_neg hb] at e2
    simp only [hb,decide_false,Bool.false_eq_true,if_false]
    refine wpAny_bind (wpAny_letGo ?_)
    rw [hname]
    refine wpAny_pure ⟨plainId_quiet F.plain_max_loop _,ih (j+2) _ c _ (by walk_at "l") hlt hst' (.inr ⟨by walk_at "l",t,by rw [e2]⟩) hS' fun v' h'' tk'' hP' hk''=>?_⟩
    exact hR v' h'' tk'' hP' fun b o hbw hbS e=>hk'' b o hbw hbS (hk' b o hbw e)
end
end L2
namespace L2
open PySem PySem.Spec PyProof.Rows
section
variable {X:Cx} {K:PySem.W.Frag} {e e2:Expr} {te td:TE} {p pos kpos:Pos}
theorem vG (a v:Value):argsOk "max" ⟨[a],[(Str.ofString "default",v)]⟩:=by unfold argsOk; kernel_rfl
noncomputable def wZ (K:PySem.W.Frag):R2:=fun x y H Q=>match x,y with
 | .ref a,.int d=>∃ ns:List Int,SqL K H a (ns.map V.int)∧Q (.int (if ns=[] then d else mxP ns ns.length)) H
 | _,_=>False
theorem wJ {x y:V} {H:Hp} {Q:VK} (h:wZ K x y H Q):∃ a d ns,x=.ref a∧y=.int d∧SqL K H a (ns.map V.int)∧Q (.int (if ns=[] then d else mxP ns ns.length)) H:=by
 unfold wZ at h
 split at h
 ·obtain ⟨ns,h1,h2⟩:=h
  exact ⟨_,_,ns,rfl,rfl,h1,h2⟩
 ·exact h.elim
theorem Bw (hc:X.calm=true) (hg:Gl X "max") (hm:X.mg "max" = none) (hv:bootBuiltins "max" = some (.builtin "max")) (he:PE X e te) (hd:PE X e2 td)
  (hs:starEach [e] X.env=(false,eval e X.env) :: starEach [] X.env:=by rfl) :
  PE X (.Call (.Name "max" p) [e] [⟨some "default",e2,kpos⟩] pos) (tOp (wZ X.K) te td):=by
 intro pins s σ H Q I h
 refine wpAny_Call_Name_kw (ld_blt I hg hm hv ?_ (by decide) (by decide))
 refine PyProof.Rows.callWith_kw ?_ (by rw [hs]; rfl) (by rw [hs]; rfl) rfl rfl
 rw [hs]
 refine Calls.spliced_cons (thn (he pins s σ H _ I h) fun u s1 hx5=>L2.ex2 hx5 fun x H1 I1 r1 q1=>Calls.spliced_nil ?_)
 refine kws_cons (thn (hd pins s1 σ H1 _ I1 q1) fun v2 s2 hx5=>L2.ex2 hx5 fun y H2 I2 r2 q2=>kws_nil ?_)
 show wpAny _ _ (call (.builtin "max") [u] [(Str.ofString "default",v2)]) _ _ s2
 obtain ⟨a,d,ns,rfl,rfl,hsq,q⟩:=wJ (show wZ X.K x y H2 Q from q2)
 ·have _:=hc
  cases r1
  obtain ⟨td,rfl⟩:=r2
  obtain ⟨its,rv,pl,hz⟩:=I2.list hsq
  have hl:s2.heap.IsList a its.toArray:=pl.isList
  obtain ⟨o,ho,hoc,n,hod⟩:=id hl
  have hlen:=rv.length
  rw [List.length_map] at hlen
  have hne:a≠s2.heap.objs.size:=Nat.ne_of_lt (Heap.lt_size ho)
  have hhd:X.A.in1.handled=none:=I2.ok.hd hc
  have hname:(toString "max" ++ toString ".loop" : String) = "max.loop" := by decide
  refine kmb_tree F.kind_max F.plain_max F.entry_max (vG _ _) ?_
  show wpAny _ X.A.in1 (Builtin.Builtins.bindParams "max" ["key", "default"] 0 ⟨[],[(Str.ofString "default",.int d td)]⟩ >>= _) _ _ s2
  refine wpAny_bind (wpAny_of_eq (show Builtin.Builtins.bindParams "max" ["key", "default"] 0 ⟨[],[(Str.ofString "default",.int d td)]⟩=pure [none,some (.int d td)] from rfl) ?_)
  refine wpAny_bind (wpAny_pure ?_)
  refine wpAny_bind (wpAny_pyIter_list hl ?_)
  refine wpAny_bind (wpAny_newObj_type ?_)
  rw [hname]
  have hw:Walks X.prog X.w X.A.in1 s2.heap.objs.size [s2.heap.objs.size,a] [s2.heap.objs.size] ns.length (fun i v=>its.toArray[i]? = some v) (fun i h=>h.IsListIter s2.heap.objs.size a i∧h.IsList a its.toArray):=by
   have:=Walks.list (prog:=X.prog) (w:=X.w) (A:=X.A.in1) hhd s2.heap.objs.size a hne its.toArray
   rwa [show its.toArray.size=ns.length by rw [hlen]; exact List.size_toArray ..] at this
  have hS:(s2.heap.push { cls:=.type "list_iterator",data:=.fields #[.ref a,.int 0 0] }).objs.size=s2.heap.objs.size+1:=size_push' ..
  have hal:=Heap.lt_size ho
  refine wpAny_pure ⟨plainId_quiet F.plain_max_loop _,u9 (ns:=ns) hw (fun i v hv=>?_) (s2.heap.push { cls:=.type "list_iterator",data:=.fields #[.ref a,.int 0 0] }).objs.size (fun hm=>by
    rcases List.mem_cons.mp hm with e | hm
    ·rw [hS] at e; exact absurd e (Nat.succ_ne_self _)
    ·have e:=List.mem_singleton.mp hm
     rw [hS] at e
     exact absurd hal (by rw [← e]; exact Nat.not_lt.mpr (Nat.le_succ _))) (.int d td) _ 0 _ _ #[] rfl (Nat.zero_le _) ⟨⟨_,Heap.get?_push_of_some _ (Heap.get?_push_size _ rfl),rfl,rfl⟩,⟨_,Heap.get?_push_of_some _ (Heap.get?_push_of_some _ ho),hoc,n,hod⟩⟩ (.inl ⟨rfl,rfl⟩)
   (Heap.get?_push_size _ rfl) fun v h' tk hP hk=>?_⟩
  ·have hv':its[i]? = some v:=by simpa using hv
   have hi:i<ns.length:=by
    have:=(List.getElem?_eq_some_iff.mp hv').1
    walk_at "l"
   obtain ⟨w',e1,r1⟩:=rv.get (i:=i) (x:=V.int ns[i]) (by simp [hi])
   rw [hv'] at e1
   cases e1
   obtain ⟨t,rfl⟩:=r1
   exact ⟨t,by simp [List.getD,hi]⟩
  ·have I3:Inv X pins σ H2 { s2 with heap:=h',toks:=tk }:=I2.kept (t':=tk) fun b o e=>by
    have hlt:=Heap.lt_size e
    exact hk b o (fun hm=>by rw [List.mem_singleton.mp hm] at hlt; exact Nat.lt_irrefl _ hlt) (by rw [hS]; exact Nat.ne_of_lt (Nat.lt_succ_of_lt hlt)) (Heap.get?_push_of_some _ (Heap.get?_push_of_some _ e))
   refine ⟨_,H2,I3,?_,q⟩
   rcases hP with ⟨h0,rfl⟩ | ⟨h0,t,rfl⟩
   ·rw [if_pos h0]; exact ⟨_,rfl⟩
   ·rw [if_neg h0]; exact ⟨_,rfl⟩
end
end L2
namespace L2.Q
open PySem PySem.Spec PyProof.Rows
section
variable {X:Cx} {K:PySem.W.Frag} {e e2 a b:Expr} {te ta tb td:WE} {p pos kpos:Pos} {x:Str} {id:String}
noncomputable def fAll:W1:=fun _ x Q=>match x with
 | .list xs=>∃ bs:List Bool,xs=bs.map D.bl∧Q .sh (.bl (bs.all (fun b=>b)))
 | _=>False
theorem zF {H:Hp} {bs:List Bool} {vs:List V} (r:Reps K H (bs.map D.bl) vs):vs=bs.map V.bl:=by
 induction bs generalizing vs with
 | nil=>exact r.n0
 | cons b bs ih =>
  obtain ⟨u,us,rfl,r1,rs⟩:=Reps.c (d:=D.bl b) r
  cases r1
  rw [ih rs]; rfl
theorem oO:BrC K (rAll K) fAll:=by
 intro Hs H m x v As Qd Qv w rx h f
 have r1:=rx.rep w
 cases r1 with
 | list z s q =>
  obtain ⟨bs,rfl,h⟩:=h
  cases zF q
  exact ⟨bs,s,f.sh w (.bl _) h⟩
 | _=>exact h.elim
noncomputable def xf:W1:=fun _ x Q=>match x with
 | .list xs=>flats xs=true∧Q .sh (.tup xs)
 | _=>False
theorem ye:BrC K (fun xs H Q=>∃ p ys,xs=[.ref p]∧((SqL K H p ys∧∀ l,H l=none→Q (.ref l) (upd H l (.tup ys)))∨(SqT K H p ys∧Q (.ref p) H))) xf:=by
 intro Hs H m x v As Qd Qv w rx h f
 have r1:=rx.rep w
 cases r1 with
 | list z s q =>
  have hl:=q.length
  exact ⟨_,_,rfl,.inl ⟨s,f.tup w (by walk_at "l") q h.1 h.2⟩⟩
 | _=>exact h.elim
theorem Eh (hK:X.K=K:=by rfl):CallR X (.type "tuple") (fun xs H Q=>∃ p ys,xs=[.ref p]∧((SqL K H p ys∧∀ l,H l=none→Q (.ref l) (upd H l (.tup ys)))∨(SqT K H p ys∧Q (.ref p) H))):=by subst hK; exact call_tuple_of
theorem uc (n:Int) (z:Str):(repS n z).length=n.toNat * z.length:=by
 unfold repS Str.length
 rw [List.size_toArray,len_rep,Array.length_toList]
noncomputable def yX:W2:=fun _ x _ y Q=>match x,y with
 | .int n,.str z=>(1≤n∧n≤100∧z.length≤100)∧Q .sh (.str (repS n z))
 | _,_=>False
theorem Aa:Br2 K Ce yX:=by
 intro Hs H m x v As n y u Bs Qd Qv w rx ry h f
 have r1:=rx.rep w
 have r2:=ry.rep w
 cases r1 with
 | int i=>cases r2 with
  | str hz =>
   refine ⟨h.1,vJ f w ?_ h.2⟩
   obtain ⟨⟨h1,h2,h3⟩,_⟩:=h
   rw [uc,sizeLine_eq]
   have:=Nat.mul_le_mul (show i.toNat≤100 by walk_at "l") h3
   walk_at "l"
  | _=>exact h.elim
 | _=>cases r2 <;> exact h.elim
theorem Dv (ha:QE X K a ta) (hb:QE X K b tb):QE X K (.BinOp a .Mult b pos) (wOp yX ta tb):=q_op Bd Aa ha hb
noncomputable def za:W2:=fun _ x _ y Q=>match x,y with
 | .list xs,.int d=>∃ ns:List Int,xs=ns.map D.int∧Q .sh (.int (if ns=[] then d else mxP ns ns.length))
 | _,_=>False
theorem yx {H:Hp} {bs:List Int} {vs:List V} (r:Reps K H (bs.map D.int) vs):vs=bs.map V.int:=by
 induction bs generalizing vs with
 | nil=>exact r.n0
 | cons b bs ih =>
  obtain ⟨u,us,rfl,r1,rs⟩:=Reps.c (d:=D.int b) r
  cases r1
  rw [ih rs]; rfl
theorem zT:Br2 K (wZ K) za:=by
 intro Hs H m x v As n y u Bs Qd Qv w rx ry h f
 have r1:=rx.rep w
 have r2:=ry.rep w
 cases r1 with
 | list z s q=>cases r2 with
  | int d =>
   obtain ⟨ns,rfl,h⟩:=h
   cases yx q
   exact ⟨ns,s,f.sh w (.int _) h⟩
  | _=>exact h.elim
 | _=>cases r2 <;> exact h.elim
theorem Eo:bootBuiltins "max" = some (.builtin "max"):=by decide +kernel
theorem zq:bootBuiltins "min" = some (.builtin "min"):=by decide +kernel
theorem Ds (hg:Gl X "max") (hm:X.mg "max" = none) (he:QE X K e ta) (hd:QE X K e2 tb) (hc:X.calm=true:=by rfl) (hK:X.K=K:=by rfl)
  (hs:starEach [e] X.env=(false,eval e X.env) :: starEach [] X.env:=by rfl):QE X K (.Call (.Name "max" p) [e] [⟨some "default",e2,kpos⟩] pos) (wOp za ta tb):=by
 subst hK
 exact PE.imp (Bw hc hg hm Eo he hd hs) (iz zT)
noncomputable def Ax:R2:=fun x y H Q=>match x,y with
 | .int i,.int j=>Q (.int (if j<i then j else i)) H
 | _,_=>False
noncomputable def zf:W2:=fun _ x _ y Q=>match x,y with
 | .int i,.int j=>Q .sh (.int (if j<i then j else i))
 | _,_=>False
theorem wF:Br2 K Ax zf:=by
 intro Hs H m x v As n y u Bs Qd Qv w rx ry h f
 have r1:=rx.rep w
 have r2:=ry.rep w
 cases r1 with
 | int i=>cases r2 with
  | int j=>exact f.sh w (.int _) h
  | _=>exact h.elim
 | _=>cases r2 <;> exact h.elim
theorem vB {r:R2} {f:W2} (hc:CallR X (.builtin id) fun xs H Q=>∃ x y,xs=[x,y]∧r x y H Q) (br:Br2 K r f) (hg:Gl X x) (hm:X.mg x=none) (hv:bootBuiltins x=some (.builtin id)) (ha:QE X K a ta) (hb:QE X K b tb)
  (hs:starEach [a,b] X.env=(false,eval a X.env) :: starEach [b] X.env:=by rfl) (hs2:starEach [b] X.env=(false,eval b X.env) :: starEach [] X.env:=by rfl) (hn:x ≠ "__name__" := by decide) (hdb:(x == ("__debug__" : Str))=false:=by decide)
  (hpl:(backTo pos (starEach [b] X.env)).any (·.1)=false:=by rfl):QE X K (.Call (.Name x p) [a,b] [] pos) (wOp f ta tb):=by
 refine PE.imp (pe_callB hc hg hm hv (pa_cons ha (pa_cons hb pa_nil hs2) hs) hn hdb hs hpl) fun σ H Qv h=>?_
 obtain ⟨Hs,ρ,tot,Q,sr,h,fin⟩:=iz br σ H Qv h
 exact ⟨Hs,ρ,tot,Q,sr,h,fun v H1 Hs1 m x As g1 r1 f1 q1=>by
  obtain ⟨Hs2,ρ2,tot2,Q2,sr2,h2,fin2⟩:=fin v H1 Hs1 m x As g1 r1 f1 q1
  exact ⟨Hs2,ρ2,tot2,Q2,sr2,h2,fun u H2 Hs3 n y Bs g2 r2 f2 q2=>⟨v,u,rfl,fin2 u H2 Hs3 n y Bs g2 r2 f2 q2⟩⟩⟩
theorem zG (hc:X.calm=true:=by rfl):CallR X (.builtin "min") fun xs H Q=>∃ x y,xs=[x,y]∧Ax x y H Q:=fun pins s σ H xs us Q I r hx9=>by
 obtain ⟨x,y,e,q⟩:=hx9
 subst e
 unfold Ax at q
 split at q
 ·exact call_min2 hc pins s σ H _ us Q I r ⟨_,_,rfl,q⟩
 ·exact q.elim
end
end L2.Q
namespace L2.Q.R
open PySem PySem.Spec PyProof.Rows L2.Q
section
variable {Q:Md→L2.Q.D→Prop} {m m':Md} {xs:List L2.Q.D} {a b:Int} {x:Str}
theorem Js:fAll m (.list xs) Q = ∃ bs:List Bool,xs=bs.map L2.Q.D.bl∧Q .sh (.bl (bs.all (fun b=>b))):=rfl
theorem G7:xf m (.list xs) Q=(flats xs=true∧Q .sh (.tup xs)):=rfl
theorem Ir:yX m (.int a) m' (.str x) Q=((1≤a∧a≤100∧x.length≤100)∧Q .sh (.str (repS a x))):=rfl
theorem Ig:za m (.list xs) m' (.int a) Q = ∃ ns:List Int,xs=ns.map L2.Q.D.int∧Q .sh (.int (if ns=[] then a else mxP ns ns.length)):=rfl
theorem HB:zf m (.int a) m' (.int b) Q=Q .sh (.int (if b<a then b else a)):=rfl
end
end L2.Q.R
namespace L2.Q
open PySem PySem.Spec PyProof.Rows
theorem jQ {g:WG} {tc:WT} {te:WE} (O:Nat→List D→Prop) (Iv:Env→Prop):∀ (xs:List D) (i:Nat) (pre:List D) (ρ:Env) (k:List D→Prop),Iv ρ→O i pre →
  (∀ j x,xs[j]? = some x→∀ ρ,Iv ρ→∀ out,O (i+j) out→∀ N1:Env→Prop,∀ N2:Env→D→Prop,(∀ ρ' d,Iv ρ'→O (i+j+1) (out++[d])→N2 ρ' d)→g x ρ fun ρ1=>tc ρ1 fun b=>if b=true then te ρ1 fun m d=>okEl m d∧N2 ρ1 d else N1 ρ1) →
  (∀ out,O (i+xs.length) (pre++out)→k out)→gw g tc te xs ρ k
 | [],i,pre,_,k,_,h0,_,h=>h [] (by simpa using h0)
 | x :: xs,i,pre,ρ,k,iv,h0,hs,h=>by
  refine hs 0 x rfl ρ iv pre h0 _ _ (fun ρ' d iv' o'=>?_)
  refine jQ O Iv xs (i+1) (pre++[d]) ρ' _ iv' o' (fun j y hy ρ iv out ho=>?_) fun out ho=>?_
  ·have:=hs (j+1) y (by simpa using hy) ρ iv out (by rwa [show i+(j+1)=i+1+j by walk_at "l"])
   rwa [show i+(j+1)+1=i+1+j+1 by walk_at "l"] at this
  ·refine h (d :: out) ?_
   rw [List.append_assoc] at ho
   rwa [List.length_cons,show i+(xs.length+1)=i+1+xs.length by walk_at "l"]
end L2.Q
set_option Elab.async false
set_option linter.all false
set_option maxRecDepth 100000
set_option maxHeartbeats 4000000
namespace TS
open PySem PySem.SetTable
noncomputable def fk:Nat→Nat→Nat
 | 0,s=>s
 | k+1,s=>5 * fk k s+1
theorem Eb (a b s:Nat):fk (a+b) s=fk b (fk a s):=by
 induction b with
 | zero=>rfl
 | succ b ih=>show 5 * fk (a+b) s+1=5 * fk b (fk a s)+1; rw [ih]
theorem vC (n s:Nat):4 * fk n s+1=5 ^ n * (4 * s+1):=by
 induction n with
 | zero=>simp [fk]
 | succ n ih =>
  show 4 * (5 * fk n s+1)+1=5 ^ (n+1) * (4 * s+1)
  rw [Nat.pow_succ,Nat.mul_comm (5 ^ n) 5,Nat.mul_assoc,← ih]; walk_at "l"
theorem yd (m:Nat):∃ q,5 ^ 2 ^ m=1+2 ^ (m+2) * q∧q % 2=1:=by
 induction m with
 | zero=>exact ⟨1,by decide,by decide⟩
 | succ m ih =>
  obtain ⟨q,e,o⟩:=ih
  refine ⟨q+2 ^ (m+1) * (q * q),?_,?_⟩
  ·have hp:5 ^ 2 ^ (m+1)=(5 ^ 2 ^ m) ^ 2:=by rw [Nat.pow_succ 2 m,Nat.pow_mul]
   rw [hp,e]
   clear e hp
   have e1:2 ^ (m+1+2)=2 * 2 ^ (m+2):=by rw [show m+1+2=(m+2)+1 by exact Nat.add_assoc ..,Nat.pow_succ]; walk_at "l"
   have e2:2 ^ (m+2)=2 * 2 ^ (m+1):=by rw [show m+2=(m+1)+1 by rfl,Nat.pow_succ]; walk_at "l"
   rw [e1,e2]
   generalize 2 ^ (m+1)=y
   rw [Nat.pow_two]
   simp only [Nat.mul_add,Nat.add_mul,Nat.one_mul,Nat.mul_one]
   have a1:2 * y * q * (2 * y * q)=2 * (2 * y) * (y * (q * q)):=by
    simp only [Nat.mul_assoc,Nat.mul_left_comm,Nat.mul_comm]
   have a2:2 * (2 * y) * q=2 * y * q+2 * y * q:=by
    rw [Nat.mul_assoc 2 (2 * y) q]; walk_at "l"
   rw [a1,a2]; walk_at "l"
  ·have:2 ^ (m+1) * (q * q) % 2=0:=by
    rw [Nat.pow_succ,Nat.mul_comm (2 ^ m) 2,Nat.mul_assoc,Nat.mul_mod_right]
   walk_at "l"
theorem z_ (m x:Nat):∃ r,fk (2 ^ m) x=x+2 ^ m * r∧r % 2=1:=by
 obtain ⟨q,e,o⟩:=yd m
 have c:=vC (2 ^ m) x
 rw [e] at c
 refine ⟨q * (4 * x+1),?_,?_⟩
 ·have e2:2 ^ (m+2)=4 * 2 ^ m:=by rw [Nat.pow_add]; walk_at "l"
  rw [e2,Nat.add_mul,Nat.one_mul,Nat.mul_assoc,Nat.mul_assoc] at c
  walk_at "l"
 ·rw [Nat.mul_mod,o,Nat.one_mul]; walk_at "l"
theorem Ei (m s e:Nat):∃ k,k+1≤2 ^ m∧fk k s % 2 ^ m=e % 2 ^ m:=by
 induction m with
 | zero=>exact ⟨0,by decide,by simp [Nat.mod_one]⟩
 | succ m ih =>
  obtain ⟨k,hk,h⟩:=ih
  have hp:2 ^ (m+1)=2 ^ m * 2:=Nat.pow_succ ..
  have hpos:0<2 ^ m:=Nat.pow_pos (by decide)
  have key:∀ a:Nat,a % (2 ^ m * 2)=a % 2 ^ m+2 ^ m * (a / 2 ^ m % 2):=fun a=>Nat.mod_mul
  by_cases c:fk k s / 2 ^ m % 2=e / 2 ^ m % 2
  ·exact ⟨k,by walk_at "s4",by rw [hp,key,key,h,c]⟩
  ·refine ⟨k+2 ^ m,by walk_at "l",?_⟩
   obtain ⟨r,er,ro⟩:=z_ m (fk k s)
   rw [Eb,er,hp,key,key,Nat.add_mul_mod_self_left,h,Nat.add_mul_div_left _ _ hpos]
   have:(fk k s / 2 ^ m+r) % 2=e / 2 ^ m % 2:=by walk_at "l"
   rw [this]
noncomputable def adv (M:Nat) (p:Probe):Probe :=
 if p.more>0 then { p with j:=p.j+1,more:=p.more - 1 } else
 { p with j:=(leap M p.i p.perturb).1,more:=runEnd M (leap M p.i p.perturb).1 - (leap M p.i p.perturb).1,i:=(leap M p.i p.perturb).1,perturb:=(leap M p.i p.perturb).2 }
noncomputable def ps (M:Nat) (h:Int):Nat→Probe
 | 0=>{ j:=bits h % (M+1),more:=runEnd M (bits h % (M+1)) - bits h % (M+1),i:=bits h % (M+1),perturb:=bits h,dummy:=none }
 | n+1=>adv M (ps M h n)
noncomputable def J (M:Nat) (h:Int) (n:Nat):Nat:=(ps M h n).j
theorem tG {M i:Nat} (h:i≤M):i≤runEnd M i∧runEnd M i≤M∧runEnd M i≤i+9:=by
 unfold runEnd; split <;> walk_at "l"
theorem Ah (M:Nat) (h:Int):∀ n,(ps M h n).i≤M∧(ps M h n).j+(ps M h n).more≤M∧(ps M h n).dummy=none∧(ps M h n).more≤9
 | 0=>by
  have h0:bits h % (M+1)≤M:=Nat.le_of_lt_succ (Nat.mod_lt _ (Nat.succ_pos _))
  have:=tG h0
  exact ⟨h0,by show bits h % (M+1)+(runEnd M (bits h % (M+1)) - bits h % (M+1))≤M; walk_at "l",rfl,by show runEnd M (bits h % (M+1)) - bits h % (M+1)≤9; walk_at "l"⟩
 | n+1=>by
  obtain ⟨a,b,c,d⟩:=Ah M h n
  show (adv M (ps M h n)).i≤M∧_∧(adv M (ps M h n)).dummy=none∧_
  unfold adv
  by_cases hm:(ps M h n).more>0
  ·simp only [hm,if_true]
   show _∧(adv M (ps M h n)).j+(adv M (ps M h n)).more≤M∧_∧(adv M (ps M h n)).more≤9
   simp only [adv,hm,if_true]
   exact ⟨a,by walk_at "l",c,by walk_at "s4"⟩
  ·simp only [hm,if_false]
   show _∧(adv M (ps M h n)).j+(adv M (ps M h n)).more≤M∧_∧(adv M (ps M h n)).more≤9
   simp only [adv,hm,if_false]
   have h0:(leap M (ps M h n).i (ps M h n).perturb).1≤M:=Nat.le_of_lt_succ (Nat.mod_lt _ (Nat.succ_pos _))
   have:=tG h0
   exact ⟨h0,by walk_at "l",c,by walk_at "l"⟩
theorem J_le (M:Nat) (h:Int) (n:Nat):J M h n≤M:=by
 have:=Ah M h n
 unfold J; walk_at "l"
theorem xT (M:Nat) (h:Int) (n:Nat):∀ r,r≤(ps M h n).more→ps M h (n+r)={ ps M h n with j:=(ps M h n).j+r,more:=(ps M h n).more - r }
 | 0,_=>rfl
 | r+1,hr=>by
  show adv M (ps M h (n+r))=_
  rw [xT M h n r (by exact Nat.le_of_lt ‹_›)]
  unfold adv
  rw [if_pos (show (ps M h n).more - r>0 by walk_at "l")]
  simp only [Probe.mk.injEq,true_and,and_true]
  walk_at "s1"
noncomputable def lp (M:Nat) (h:Int):Nat→Nat × Nat
 | 0=>(bits h % (M+1),bits h)
 | k+1=>leap M (lp M h k).1 (lp M h k).2
noncomputable def blk (M:Nat) (h:Int):Nat→Nat
 | 0=>0
 | k+1=>blk M h k+(runEnd M (lp M h k).1 - (lp M h k).1)+1
theorem Bf (M:Nat) (h:Int):∀ k,(lp M h k).1≤M
 | 0=>Nat.le_of_lt_succ (Nat.mod_lt _ (Nat.succ_pos _))
 | k+1=>Nat.le_of_lt_succ (Nat.mod_lt _ (Nat.succ_pos _))
theorem vY (M:Nat) (h:Int):∀ k,blk M h k≤10 * k
 | 0=>Nat.le_refl _
 | k+1=>by
  have:=vY M h k
  have:=tG (Bf M h k)
  show blk M h k+_+1≤_; walk_at "l"
theorem su (M:Nat) (h:Int):∀ k,ps M h (blk M h k)={ j:=(lp M h k).1,more:=runEnd M (lp M h k).1 - (lp M h k).1,i:=(lp M h k).1,perturb:=(lp M h k).2,dummy:=none }
 | 0=>rfl
 | k+1=>by
  have ih:=su M h k
  have e:=xT M h (blk M h k) (runEnd M (lp M h k).1 - (lp M h k).1) (by rw [ih]; exact Nat.le_refl _)
  show adv M (ps M h (blk M h k+(runEnd M (lp M h k).1 - (lp M h k).1)))=_
  rw [e,ih]
  unfold adv
  rw [if_neg (by simp)]
  rfl
theorem zy (M:Nat) (h:Int):∀ k,(lp M h k).2=bits h / 32 ^ k
 | 0=>by simp [lp]
 | k+1=>by
  show (lp M h k).2 / 32=_
  rw [zy M h k,Nat.div_div_eq_div_mul,Nat.pow_succ]
theorem z9 (h:Int):bits h<2 ^ 64:=by
 unfold bits
 have h1:=Int.emod_nonneg h (show (2 ^ 64:Int)≠0 by decide)
 have h2:=Int.emod_lt_of_pos h (show (0:Int)<2 ^ 64 by decide)
 walk_at "l"
theorem vL (M:Nat) (h:Int):∀ k,(lp M h (13+k)).1 % (M+1)=fk k (lp M h 13).1 % (M+1)
 | 0=>rfl
 | k+1=>by
  have e:(lp M h (13+k)).2=0:=by
   rw [zy]
   refine Nat.div_eq_of_lt (Nat.lt_of_lt_of_le (z9 h) ?_)
   exact Nat.le_trans (by decide:2 ^ 64≤32 ^ 13) (Nat.pow_le_pow_right (by decide) (by exact Nat.le_add_right _ _))
  show (leap M (lp M h (13+k)).1 (lp M h (13+k)).2).1 % (M+1)=_
  unfold leap
  rw [e]
  show ((lp M h (13+k)).1 * 5+1+0 / 32) % (M+1) % (M+1)=(5 * fk k (lp M h 13).1+1) % (M+1)
  rw [Nat.mod_mod,Nat.zero_div,Nat.add_zero,Nat.add_mod,Nat.mul_mod,vL M h k,← Nat.mul_mod,← Nat.add_mod,Nat.mul_comm]
theorem cover {M m:Nat} (hM:M+1=2 ^ m) (h:Int) {e:Nat} (he:e≤M):∃ k,k≤M+13∧(lp M h k).1=e:=by
 obtain ⟨k,hk,q⟩:=Ei m (lp M h 13).1 e
 rw [← hM] at hk q
 refine ⟨13+k,by walk_at "l",?_⟩
 have:=vL M h k
 rw [q] at this
 rwa [Nat.mod_eq_of_lt (Nat.lt_succ_of_le (Bf M h _)),Nat.mod_eq_of_lt (Nat.lt_succ_of_le he)] at this
theorem D_ (M:Nat) (h:Int) (k:Nat):J M h (blk M h k)=(lp M h k).1:=by unfold J; rw [su]
theorem lW {M m:Nat} (hM:M+1=2 ^ m) (h:Int) (occ:Nat→Bool) {e:Nat} (he:e≤M) (hf:occ e=false):∃ n,n≤10 * (M+13)∧occ (J M h n)=false∧∀ k<n,occ (J M h k)=true:=by
 obtain ⟨k,hk,q⟩:=cover hM h he
 have hb:=vY M h k
 have hB:occ (J M h (blk M h k))=false:=by rw [D_,q]; exact hf
 generalize blk M h k=b at hb hB
 have go:∀ b,occ (J M h b)=false→∃ n,n≤b∧occ (J M h n)=false∧∀ k<n,occ (J M h k)=true:=by
  intro b
  induction b using Nat.strongRecOn with
  | ind b ih =>
   intro hB
   by_cases c:∃ k,k<b∧occ (J M h k)=false
   ·obtain ⟨k,h1,h2⟩:=c
    obtain ⟨n,a1,a2,a3⟩:=ih k h1 h2
    exact ⟨n,by walk_at "s2",a2,a3⟩
   ·refine ⟨b,Nat.le_refl _,hB,fun k hk=>?_⟩
    cases z:occ (J M h k) with
    | true=>rfl
    | false=>exact absurd ⟨k,hk,z⟩ c
 obtain ⟨n,a1,a2,a3⟩:=go b hB
 exact ⟨n,by walk_at "l",a2,a3⟩
end TS
set_option Elab.async false
set_option linter.all false
set_option maxRecDepth 100000
set_option maxHeartbeats 4000000
namespace TS
open PySem PySem.SetTable
noncomputable def Up (xs:Array Nat):Prop:=∀ i j:Nat,i<j→j<xs.size→xs.getD i 0<xs.getD j 0
theorem tL {xs:Array Nat} {i d d':Nat} (h:i<xs.size):xs.getD i d=xs.getD i d':=by simp [Array.getD,h]
theorem nW {xs:Array Nat} (U:Up xs) (j:Nat):∀ (fuel lo hi:Nat),hi - lo≤fuel→lo≤hi→hi≤xs.size→(∀ i<lo,xs.getD i 0<j)→(∀ i,hi≤i→i<xs.size→j≤xs.getD i 0) →
  below.go xs j fuel lo hi≤xs.size∧(∀ i<below.go xs j fuel lo hi,xs.getD i 0<j)∧(∀ i,below.go xs j fuel lo hi≤i→i<xs.size→j≤xs.getD i 0)
 | 0,lo,hi,hf,h1,h2,h3,h4=>by
  obtain rfl:lo=hi:=by walk_at "l"
  exact ⟨h2,h3,h4⟩
 | fuel+1,lo,hi,hf,h1,h2,h3,h4=>by
  unfold below.go
  by_cases c:lo<hi
  ·rw [if_pos c]
   dsimp only
   have hm:(lo+hi) / 2<xs.size:=by walk_at "l"
   by_cases d:xs.getD ((lo+hi) / 2) j<j
   ·rw [if_pos d]
    rw [tL (d':=0) hm] at d
    refine nW U j fuel _ _ (by walk_at "l") (by walk_at "l") h2 (fun i hi'=>?_) h4
    by_cases e:i=(lo+hi) / 2
    ·rw [e]; exact d
    ·exact Nat.lt_trans (U i _ (by walk_at "l") hm) d
   ·rw [if_neg d]
    rw [tL (d':=0) hm] at d
    refine nW U j fuel _ _ (by walk_at "l") (by walk_at "l") (by exact Nat.le_of_lt ‹_›) h3 fun i hi' hs=>?_
    by_cases e:i=(lo+hi) / 2
    ·rw [e]; exact Nat.le_of_not_lt ‹_›
    ·have:=U ((lo+hi) / 2) i (by walk_at "l") hs; walk_at "l"
  ·rw [if_neg c]
   obtain rfl:lo=hi:=by walk_at "l"
   exact ⟨h2,h3,h4⟩
theorem aZ {xs:Array Nat} (U:Up xs) (j:Nat):below xs j≤xs.size∧(∀ i<below xs j,xs.getD i 0<j)∧(∀ i,below xs j≤i→i<xs.size→j≤xs.getD i 0) :=
 nW U j xs.size 0 xs.size (by exact Nat.sub_le _ _) (by exact Nat.zero_le _) (Nat.le_refl _) (fun i h=>absurd h (Nat.not_lt_zero i)) fun i h1 h2=>by walk_at "l"
theorem below_at {xs:Array Nat} (U:Up xs) {i:Nat} (h:i<xs.size):below xs (xs.getD i 0)=i:=by
 obtain ⟨a,b,c⟩:=aZ U (xs.getD i 0)
 by_cases h1:below xs (xs.getD i 0)<i
 ·have:=c _ (Nat.le_refl _) (by walk_at "s2")
  have:=U _ i h1 h
  walk_at "l"
 ·by_cases h2:i<below xs (xs.getD i 0)
  ·have:=b i h2; exact absurd ‹_› (Nat.lt_irrefl _)
  ·walk_at "l"
theorem uv {xs:Array Nat} (U:Up xs) {i:Nat} (h:i<xs.size):below xs (xs.getD i 0+1)=i+1:=by
 obtain ⟨a,b,c⟩:=aZ U (xs.getD i 0+1)
 by_cases h1:below xs (xs.getD i 0+1)<i+1
 ·have:=c i (by walk_at "l") h; exact absurd ‹_› (Nat.lt_irrefl _)
 ·by_cases h2:i+1<below xs (xs.getD i 0+1)
  ·have:=b (i+1) h2
   have:=U i (i+1) (by exact Nat.le_refl _) (by walk_at "s1"); walk_at "l"
  ·walk_at "l"
noncomputable def taken (xs:Array Nat) (j:Nat):Bool:=xs[below xs j]? == some j
theorem xQ {xs:Array Nat} {i j:Nat} (h:xs[i]? = some j):i<xs.size∧xs.getD i 0=j:=by
 obtain ⟨h1,h2⟩:=Array.getElem?_eq_some_iff.mp h
 exact ⟨h1,by simp [Array.getD,h1,h2]⟩
theorem wX {xs:Array Nat} {i:Nat} (h:i<xs.size):xs[i]? = some (xs.getD i 0):=by simp [Array.getD,h]
theorem eQ {xs:Array Nat} (U:Up xs) {j:Nat}:taken xs j=true↔∃ i,i<xs.size∧xs.getD i 0=j:=by
 unfold taken
 rw [beq_iff_eq]
 constructor
 ·intro h; exact ⟨_,xQ h⟩
 ·rintro ⟨i,h,rfl⟩
  rw [below_at U h]
  exact wX h
theorem jo {xs:Array Nat} (U:Up xs) {j:Nat} (h:taken xs j=true):below xs j<xs.size∧xs.getD (below xs j) 0=j:=by
 unfold taken at h
 rw [beq_iff_eq] at h
 exact xQ h
theorem cg {α:Type} (xs:Array α) {p:Nat} (x:α) (h:p≤xs.size):(insertAt xs p x).size=xs.size+1:=by
 unfold insertAt
 simp
 walk_at "l"
theorem ins_get {α:Type} (xs:Array α) {p:Nat} (x:α) (h:p≤xs.size) (i:Nat):(insertAt xs p x)[i]? = if i<p then xs[i]? else if i=p then some x else xs[i - 1]? := by
 unfold insertAt
 have hs:((xs.extract 0 p).push x).size=p+1:=by simp; exact Nat.min_eq_left ‹_›
 by_cases h1:i<p
 ·rw [if_pos h1,Array.getElem?_append_left (by walk_at "l"),Array.getElem?_push,if_neg (by simp; walk_at "l"),Array.getElem?_extract]
  rw [if_pos (by walk_at "l")]; simp
 ·rw [if_neg h1]
  by_cases h2:i=p
  ·rw [if_pos h2,Array.getElem?_append_left (by walk_at "l"),Array.getElem?_push,if_pos (by simp; walk_at "l")]
  ·rw [if_neg h2,Array.getElem?_append_right (by walk_at "l"),hs,Array.getElem?_extract]
   by_cases h3:i - (p+1)<min xs.size xs.size - p
   ·rw [if_pos h3]
    congr 1; walk_at "l"
   ·rw [if_neg h3,Array.getElem?_eq_none (by walk_at "l")]
theorem du {xs:Array Nat} {p x:Nat} (h:p≤xs.size) (i:Nat):(insertAt xs p x).getD i 0=if i<p then xs.getD i 0 else if i=p then x else xs.getD (i - 1) 0:=by
 have e:∀ (ys:Array Nat) (k:Nat),ys.getD k 0=ys[k]?.getD 0:=fun ys k=>by
  simp [Array.getD_eq_getD_getElem?]
 rw [e,ins_get xs x h]
 split
 ·rw [e]
 ·split
  ·rfl
  ·rw [e]
theorem zM {xs:Array Nat} (U:Up xs) {j:Nat} (hj:taken xs j=false):Up (insertAt xs (below xs j) j):=by
 obtain ⟨a,b,c⟩:=aZ U j
 have ne:∀ i,i<xs.size→xs.getD i 0≠j:=fun i hi e=>by
  have:=(eQ U (j:=j)).mpr ⟨i,hi,e⟩
  rw [hj] at this; cases this
 intro i k hik hk
 rw [cg xs j a] at hk
 rw [du a,du a]
 by_cases h1:k<below xs j
 ·rw [if_pos (by walk_at "s2"),if_pos h1]; exact U i k hik (by walk_at "s1")
 ·rw [if_neg h1]
  by_cases h2:k=below xs j
  ·rw [if_pos h2,if_pos (by walk_at "l")]; exact b i (by walk_at "l")
  ·rw [if_neg h2]
   by_cases h3:i<below xs j
   ·rw [if_pos h3]; exact U i (k - 1) (by walk_at "l") (by walk_at "l")
   ·rw [if_neg h3]
    by_cases h4:i=below xs j
    ·rw [if_pos h4]
     have:=c (k - 1) (by walk_at "l") (by walk_at "l")
     have:=ne (k - 1) (by walk_at "l")
     walk_at "l"
    ·rw [if_neg h4]; exact U (i - 1) (k - 1) (by walk_at "l") (by walk_at "l")
theorem xn {xs:Array Nat} (U:Up xs) {j k:Nat} (hj:taken xs j=false):taken (insertAt xs (below xs j) j) k=(decide (k=j) || taken xs k):=by
 have a:=(aZ U j).1
 have U':=zM U hj
 apply Bool.eq_iff_iff.mpr
 rw [eQ U',Bool.or_eq_true,decide_eq_true_eq,eQ U]
 rw [cg xs j a]
 constructor
 ·rintro ⟨i,hi,e⟩
  rw [du a] at e
  by_cases h1:i<below xs j
  ·rw [if_pos h1] at e; exact .inr ⟨i,by walk_at "l",e⟩
  ·rw [if_neg h1] at e
   by_cases h2:i=below xs j
   ·rw [if_pos h2] at e; exact .inl e.symm
   ·rw [if_neg h2] at e; exact .inr ⟨i - 1,by walk_at "l",e⟩
 ·rintro (rfl | ⟨i,hi,e⟩)
  ·exact ⟨below xs k,by exact Nat.lt_succ_of_le ‹_›,by rw [du a,if_neg (by walk_at "l"),if_pos rfl]⟩
  ·by_cases h1:i<below xs j
   ·exact ⟨i,by exact Nat.lt_succ_of_lt ‹_›,by rw [du a,if_pos h1]; exact e⟩
   ·exact ⟨i+1,by exact Nat.lt_succ_of_le ‹_›,by rw [du a,if_neg (by walk_at "l"),if_neg (by walk_at "l")]; exact e⟩
noncomputable def Reach (M:Nat) (place:Array Nat) (h:Int) (j:Nat):Prop:=∃ n,n≤10 * (M+13)∧J M h n=j∧∀ k<n,taken place (J M h k)=true
structure TI {α:Type} (t:SetTable) (es:Array (Int × α)):Prop where
 pw:∃ m,t.mask+1=2 ^ m∧3≤m
 sz:t.place.size=es.size
 up:Up t.place
 le:∀ i,i<t.place.size→t.place.getD i 0≤t.mask
 dm:t.dummies = #[]
 few:es.size * 5<t.mask * 3
 path:∀ i h x,es[i]? = some (h,x)→Reach t.mask t.place h (t.place.getD i 0)
section
variable {α:Type} {t:SetTable} {es:Array (Int × α)}
theorem TI.slot (T:TI t es) (j:Nat):t.slot j=if taken t.place j then .live (below t.place j) else .empty:=by
 unfold SetTable.slot taken
 dsimp only
 split
 ·rfl
 ·have:has t.dummies j=false:=by rw [T.dm]; rfl
  rw [this]; rfl
theorem TI.fits (T:TI t es):t.fits es.size=true:=by
 have:=T.few
 simp only [SetTable.fits,fill,T.dm,T.sz,Bool.and_eq_true,beq_iff_eq,decide_eq_true_eq,true_and]
 simp; walk_at "l"
theorem TI.odd (T:TI t es):t.gaveWay=false:=by
 obtain ⟨m,h,h3⟩:=T.pw
 unfold SetTable.gaveWay
 rw [beq_eq_false_iff_ne]
 have:2 ^ m=2 * 2 ^ (m - 1):=by
  rw [show m=(m - 1)+1 by walk_at "l",Nat.pow_succ]; simp; walk_at "l"
 walk_at "l"
theorem TI.free (T:TI t es):∃ e,e≤t.mask∧taken t.place e=false:=by
 have hf:=T.few
 have hs:=T.sz
 by_cases c:∃ e,e≤t.mask∧taken t.place e=false
 ·exact c
 ·exfalso
  have all:∀ e,e≤t.mask→taken t.place e=true:=fun e he=>by
   cases z:taken t.place e with
   | true=>rfl
   | false=>exact absurd ⟨e,he,z⟩ c
  -- slot e stands at place at most e
  have go:∀ e,e≤t.mask→e≤below t.place e:=by
   intro e
   induction e with
   | zero=>intro _; exact Nat.zero_le _
   | succ e ih =>
    intro he
    have h1:=jo T.up (all e (by exact Nat.le_of_lt ‹_›))
    have h2:=jo T.up (all (e+1) he)
    have:=ih (by exact Nat.le_of_lt ‹_›)
    obtain ⟨_,b,c⟩:=aZ T.up (e+1)
    by_cases z:below t.place e<below t.place (e+1)
    ·walk_at "s1"
    ·have:=c (below t.place e) (by exact Nat.le_of_not_lt ‹_›) h1.1
     walk_at "l"
  have:=go t.mask (Nat.le_refl _)
  have:=(jo T.up (all t.mask (Nat.le_refl _))).1
  walk_at "l"
theorem TI.put (T:TI t es) {h:Int} {x:α} {j:Nat} (hj:j≤t.mask) (hn:taken t.place j=false) (hr:Reach t.mask t.place h j) {t':SetTable} (ht:t'.mask=t.mask) (hp:t'.place=insertAt t.place (below t.place j) j) (hd:t'.dummies = #[])
  (hf:(es.size+1) * 5<t.mask * 3):TI t' (insertAt es (below t.place j) (h,x)):=by
 have a:=(aZ T.up j).1
 have a':below t.place j≤es.size:=by rw [← T.sz]; exact a
 refine ⟨by rw [ht]; exact T.pw,by rw [hp,cg _ _ a,cg _ _ a',T.sz],by rw [hp]; exact zM T.up hn,fun i hi=>?_,hd,by rw [cg _ _ a',ht]; exact hf,fun i g y e=>?_⟩
 ·rw [hp,cg _ _ a] at hi
  rw [hp,du a,ht]
  split
  ·exact T.le i (by walk_at "s1")
  ·split
   ·exact hj
   ·exact T.le (i - 1) (by walk_at "l")
 ·have mono:∀ {g:Int} {k:Nat},Reach t.mask t.place g k→Reach t'.mask t'.place g k:=fun {g k} ⟨n,h1,h2,h3⟩=>⟨n,by rw [ht]; exact h1,by rw [ht]; exact h2,fun q hq=>by
   rw [hp,ht,xn T.up hn,h3 q hq,Bool.or_true]⟩
  rw [ins_get es _ a'] at e
  rw [hp,du a,← hp]
  by_cases h1:i<below t.place j
  ·rw [if_pos h1] at e ⊢
   exact mono (T.path i g y e)
  ·rw [if_neg h1] at e ⊢
   by_cases h2:i=below t.place j
   ·rw [if_pos h2] at e ⊢
    cases e
    exact mono hr
   ·rw [if_neg h2] at e ⊢
    exact mono (T.path (i - 1) g y e)
end
end TS
set_option Elab.async false
set_option linter.all false
set_option maxRecDepth 100000
set_option maxHeartbeats 4000000
namespace TS
open PySem PySem.SetTable
theorem cZ {α:Type} [DecidableEq α]:∀ {l m:List α},l.Nodup→(∀ x∈l,x∈m)→l.length≤m.length
 | [],_,_,_=>Nat.zero_le _
 | x :: l,m,nd,h=>by
  rw [List.nodup_cons] at nd
  have hx:=h x List.mem_cons_self
  have:=cZ (l:=l) (m:=m.erase x) nd.2 fun y hy=>(List.mem_erase_of_ne (fun e=>nd.1 (by rw [← e]; exact hy))).mpr (h y (List.mem_cons_of_mem _ hy))
  rw [List.length_erase_of_mem hx] at this
  have:0<m.length:=List.length_pos_of_mem hx
  simp only [List.length_cons]; walk_at "l"
noncomputable def occ (owner:Array (Option Nat)) (j:Nat):Bool:=(owner.getD j (some 0)).isSome
theorem oM {M:Nat} (h:Int) (owner:Array (Option Nat)):∀ (fuel k:Nat),(∀ q<blk M h k,occ owner (J M h q)=true)→(∃ K,k≤K∧K<k+fuel∧K≤M+13∧occ owner (lp M h K).1=false) →
  ∃ j n,layClean.free M owner fuel (lp M h k).1 (lp M h k).2=some j∧J M h n=j∧n≤10 * (M+13)∧occ owner j=false∧∀ q<n,occ owner (J M h q)=true
 | 0,k,_,⟨K,h1,h2,_⟩=>by walk_at "l"
 | fuel+1,k,hq,⟨K,h1,h2,h3,h4⟩=>by
  have hrun:∀ r,r≤runEnd M (lp M h k).1 - (lp M h k).1→J M h (blk M h k+r)=(lp M h k).1+r:=fun r hr=>by
   unfold J
   rw [xT M h (blk M h k) r (by rw [su]; exact hr),su]
  have hle:=tG (Bf M h k)
  have e:∀ r,(owner.getD ((lp M h k).1+r) (some 0)).isNone = !occ owner ((lp M h k).1+r):=fun r=>by
   unfold occ; cases owner.getD ((lp M h k).1+r) (some 0) <;> rfl
  unfold layClean.free
  cases hf:(List.range (runEnd M (lp M h k).1+1 - (lp M h k).1)).find? fun r=>(owner.getD ((lp M h k).1+r) (some 0)).isNone with
  | some r =>
   obtain ⟨a1,a2,a3⟩:=List.find?_range_eq_some.mp hf
   have a2:r<runEnd M (lp M h k).1+1 - (lp M h k).1:=by simpa using a2
   rw [e] at a1
   have a1:occ owner ((lp M h k).1+r)=false:=by simpa using a1
   have occs:∀ q<blk M h k+r,occ owner (J M h q)=true:=fun q hqq=>by
    by_cases z:q<blk M h k
    ·exact hq q z
    ·have:=a3 (q - blk M h k) (by walk_at "l")
     rw [e] at this
     have hj:=hrun (q - blk M h k) (by walk_at "l")
     rw [show blk M h k+(q - blk M h k)=q by exact Nat.add_sub_of_le (Nat.le_of_not_lt ‹_›)] at hj
     rw [hj]
     simpa using this
   refine ⟨_,blk M h k+r,rfl,hrun r (by walk_at "l"),?_,a1,occs⟩
   have hb:=vY M h K
   by_cases z:blk M h k+r≤blk M h K
   ·walk_at "l"
   ·have:=occs (blk M h K) (by exact Nat.lt_of_not_le ‹_›)
    rw [D_,h4] at this; cases this
  | none =>
   have hn:=List.find?_eq_none.mp hf
   have occr:∀ r,r≤runEnd M (lp M h k).1 - (lp M h k).1→occ owner ((lp M h k).1+r)=true:=fun r hr=>by
    have:=hn r (by simp; walk_at "l")
    rw [e] at this
    simpa using this
   dsimp only
   have hK:K≠k:=fun z=>by
    subst z
    have:=occr 0 (Nat.zero_le _)
    rw [Nat.add_zero,h4] at this; cases this
   refine oM h owner fuel (k+1) (fun q hqq=>?_) ⟨K,by walk_at "l",by walk_at "l",h3,h4⟩
   by_cases z:q<blk M h k
   ·exact hq q z
   ·have hqq:q<blk M h k+(runEnd M (lp M h k).1 - (lp M h k).1)+1:=hqq
    have hj:=hrun (q - blk M h k) (by walk_at "l")
    rw [show blk M h k+(q - blk M h k)=q by exact Nat.add_sub_of_le (Nat.le_of_not_lt ‹_›)] at hj
    rw [hj]
    exact occr _ (by walk_at "l")
structure OI (M:Nat) (hs:List Int) (owner:Array (Option Nat)):Prop where
 sz:owner.size=M+1
 lt:∀ j v:Nat,owner[j]? = some (some v)→v<hs.length
 inj:∀ j j' v:Nat,owner[j]? = some (some v)→owner[j']? = some (some v)→j=j'
 all:∀ v:Nat,v<hs.length→∃ j:Nat,owner[j]? = some (some v)
 path:∀ j v:Nat,owner[j]? = some (some v)→∃ n,n≤10 * (M+13)∧J M (hs.getD v 0) n=j∧∀ q<n,occ owner (J M (hs.getD v 0) q)=true
theorem qj {owner:Array (Option Nat)} {j:Nat} (h:j<owner.size):occ owner j=true↔∃ v,owner[j]? = some (some v):=by
 unfold occ
 rw [Array.getElem?_eq_getElem h]
 simp only [Array.getD,h,dite_true,Option.some.injEq]
 cases hh:owner[j] with
 | none =>
  have:owner.getInternal j h=none:=hh
  rw [this]; simp
 | some v =>
  have:owner.getInternal j h=some v:=hh
  rw [this]; simp
theorem OI.free {M:Nat} {hs:List Int} {owner:Array (Option Nat)} (O:OI M hs owner) (hl:hs.length≤M):∃ e,e≤M∧occ owner e=false:=by
 by_cases c:∃ e,e≤M∧occ owner e=false
 ·exact c
 ·exfalso
  have all:∀ e,e≤M→∃ v,owner[e]? = some (some v):=fun e he=>by
   refine (qj (by rw [O.sz]; exact Nat.lt_succ_of_le ‹_›)).mp ?_
   cases z:occ owner e with
   | true=>rfl
   | false=>exact absurd ⟨e,he,z⟩ c
  have nd:((List.range (M+1)).map fun j=>(owner.getD j none).getD 0).Nodup:=by
   rw [List.nodup_iff_pairwise_ne,List.pairwise_map]
   refine List.Pairwise.imp_of_mem ?_ (List.nodup_iff_pairwise_ne.mp List.nodup_range)
   intro a b ha hb hne z
   obtain ⟨va,ea⟩:=all a (by have:=List.mem_range.mp ha; walk_at "l")
   obtain ⟨vb,eb⟩:=all b (by have:=List.mem_range.mp hb; walk_at "l")
   rw [Array.getD_eq_getD_getElem?,Array.getD_eq_getD_getElem?,ea,eb] at z
   have z:va=vb:=z
   subst z
   exact hne (O.inj _ _ _ ea eb)
  have:=cZ (m:=List.range hs.length) nd fun x hx=>by
   obtain ⟨j,hj,rfl⟩:=List.mem_map.mp hx
   obtain ⟨v,e⟩:=all j (by have:=List.mem_range.mp hj; walk_at "l")
   rw [Array.getD_eq_getD_getElem?,e]
   exact List.mem_range.mpr (O.lt _ _ e)
  simp at this
  walk_at "l"
theorem OI.lay {M m:Nat} {hs:List Int} {owner:Array (Option Nat)} (hM:M+1=2 ^ m) (O:OI M hs owner) (hl:hs.length≤M) (h:Int) :
  ∃ j,layClean.free M owner (turns M) (bits h % (M+1)) (bits h)=some j∧OI M (hs++[h]) (owner.setIfInBounds j (some hs.length)):=by
 obtain ⟨e,he,hf⟩:=O.free hl
 obtain ⟨K,hK,hKe⟩:=cover hM h he
 obtain ⟨j,n,e1,e2,e3,e4,e5⟩:=oM h owner (turns M) 0 (fun q hq=>absurd hq (Nat.not_lt_zero q)) ⟨K,Nat.zero_le _,by unfold turns; walk_at "l",hK,by rw [hKe]; exact hf⟩
 refine ⟨j,e1,?_⟩
 have hj:j<owner.size:=by rw [O.sz,← e2]; exact Nat.lt_succ_of_le (J_le M h n)
 have get:∀ i,(owner.setIfInBounds j (some hs.length))[i]? = if j=i then some (some hs.length) else owner[i]? := fun i=>by
  rw [Array.getElem?_setIfInBounds]
  by_cases z:j=i
  ·subst z; simp [hj]
  ·simp [z]
 have oc:∀ i,occ owner i=true→occ (owner.setIfInBounds j (some hs.length)) i=true:=fun i hi=>by
  unfold occ at hi ⊢
  rw [Array.getD_eq_getD_getElem?] at hi ⊢
  rw [get]
  split
  ·rfl
  ·exact hi
 have hne:∀ v,owner[j]?≠some (some v):=fun v z=>by
  have:=(qj hj).mpr ⟨v,z⟩
  rw [e4] at this; cases this
 refine ⟨by rw [Array.size_setIfInBounds]; exact O.sz,fun i v z=>?_,fun i i' v z z'=>?_,fun v hv=>?_,fun i v z=>?_⟩
 ·rw [get] at z
  split at z
  ·cases z; simp
  ·have:=O.lt i v z; simp; exact Nat.lt_succ_of_lt ‹_›
 ·rw [get] at z z'
  split at z
  ·cases z
   split at z'
   ·walk_at "l"
   ·exact absurd (O.lt _ _ z') (Nat.lt_irrefl _)
  ·split at z'
   ·cases z'
    exact absurd (O.lt _ _ z) (Nat.lt_irrefl _)
   ·exact O.inj i i' v z z'
 ·simp at hv
  by_cases c:v=hs.length
  ·exact ⟨j,by rw [get,if_pos rfl,c]⟩
  ·obtain ⟨i,hi⟩:=O.all v (by walk_at "l")
   refine ⟨i,?_⟩
   rw [get,if_neg (fun z=>hne v (by rw [z]; exact hi))]
   exact hi
 ·rw [get] at z
  split at z
  ·rename_i hji
   cases z
   refine ⟨n,e3,?_,fun q hq=>oc _ ?_⟩
   ·rw [List.getD_eq_getElem?_getD,List.getElem?_append_right (Nat.le_refl _)]
    simp [e2,hji]
   ·have:=e5 q hq
    rw [List.getD_eq_getElem?_getD,List.getElem?_append_right (Nat.le_refl _)]
    simpa using this
  ·have hv:=O.lt i v z
   obtain ⟨n',a1,a2,a3⟩:=O.path i v z
   have eg:(hs++[h]).getD v 0=hs.getD v 0:=by
    rw [List.getD_eq_getElem?_getD,List.getD_eq_getElem?_getD,List.getElem?_append_left hv]
   rw [eg]
   exact ⟨n',a1,a2,fun q hq=>oc _ (a3 q hq)⟩
theorem OI.nil (M:Nat):OI M [] (Array.replicate (M+1) none):=by
 have no:∀ (j v:Nat),¬ (Array.replicate (M+1) (none:Option Nat))[j]? = some (some v):=fun j v z=>by
  rw [Array.getElem?_replicate] at z
  split at z <;> cases z
 exact ⟨by simp,fun j v z=>absurd z (no j v),fun j j' v z _=>absurd z (no j v),fun v hv=>absurd hv (Nat.not_lt_zero v),fun j v z=>absurd z (no j v)⟩
theorem Bt {M m:Nat} (hM:M+1=2 ^ m) (hs:Array Int) (hl:hs.size≤M):∃ owner,layClean M hs=some owner∧OI M hs.toList owner:=by
 have go:∀ (l pre:List Int) (owner:Array (Option Nat)),OI M pre owner→pre.length+l.length≤M→∃ owner',l.foldl (fun acc h=>do
   let (owner,k) ← acc
   let j ← layClean.free M owner (turns M) (bits h % (M+1)) (bits h)
   pure (owner.setIfInBounds j (some k),k+1)) (some (owner,pre.length))=some (owner',pre.length+l.length)∧OI M (pre++l) owner':=by
  intro l
  induction l with
  | nil=>intro pre owner O _; exact ⟨owner,rfl,by rw [List.append_nil]; exact O⟩
  | cons h l ih =>
   intro pre owner O hz
   rw [List.length_cons] at hz
   obtain ⟨j,e,O'⟩:=O.lay hM (by walk_at "l") h
   obtain ⟨o2,e2,O2⟩:=ih (pre++[h]) _ O' (by simp; walk_at "l")
   refine ⟨o2,?_,by rw [List.append_assoc] at O2; exact O2⟩
   rw [List.foldl_cons]
   have:(do
    let (owner,k) ← (some (owner,pre.length):Option (Array (Option Nat) × Nat))
    let j ← layClean.free M owner (turns M) (bits h % (M+1)) (bits h)
    pure (owner.setIfInBounds j (some k),k+1))=some (owner.setIfInBounds j (some pre.length),(pre++[h]).length):=by
    simp [e]
   rw [this,e2]
   simp; exact Nat.add_right_comm ..
 obtain ⟨o,e,O⟩:=go hs.toList [] _ (OI.nil M) (by simpa using hl)
 refine ⟨o,?_,by simpa using O⟩
 unfold layClean
 rw [← Array.foldl_toList]
 have e':=e
 simp only [List.length_nil] at e'
 rw [e']
 rfl
end TS
set_option Elab.async false
set_option linter.all false
set_option maxRecDepth 100000
set_option maxHeartbeats 4000000
namespace TS
open PySem PySem.SetTable
theorem iM {n:Nat}:∀ (fuel a:Nat),3≤a→n<2 ^ (a+fuel)→∃ b,3≤b∧sizeAbove.go n fuel (2 ^ a)=2 ^ b∧n<2 ^ b∧(2 ^ b≤2 * n∨b=a)
 | 0,a,ha,h=>⟨a,ha,rfl,by simpa using h,.inr rfl⟩
 | fuel+1,a,ha,h=>by
  unfold sizeAbove.go
  by_cases c:2 ^ a≤n
  ·rw [if_pos c]
   obtain ⟨b,h1,h2,h3,h4⟩:=iM fuel (a+1) (by exact Nat.lt_succ_of_lt ‹_›) (by rw [show a+1+fuel=a+(fuel+1) by exact Nat.add_right_comm ..]; exact h)
   refine ⟨b,h1,by rw [Nat.pow_succ] at h2; exact h2,h3,?_⟩
   rcases h4 with h4 | h4
   ·exact .inl h4
   ·left
    rw [h4,Nat.pow_succ]; walk_at "l"
  ·rw [if_neg c]
   exact ⟨a,ha,rfl,by exact Nat.lt_of_not_le ‹_›,.inr rfl⟩
theorem lC {n:Nat} (h:n<2 ^ 60):∃ b,3≤b∧sizeAbove n=2 ^ b∧n<2 ^ b∧(2 ^ b≤2 * n∨b=3) :=
 iM 64 3 (Nat.le_refl _) (Nat.lt_trans h (by decide))
section
variable {α:Type}
noncomputable def bW (M:Nat) (owner:Array (Option Nat)):List (Nat × Nat):=(List.range (M+1)).filterMap fun j=>(owner.getD j none).map (j,·)
theorem d7 {M:Nat} {owner:Array (Option Nat)} {p:Nat × Nat}:p∈bW M owner↔p.1<M+1∧owner[p.1]? = some (some p.2):=by
 unfold bW
 rw [List.mem_filterMap]
 constructor
 ·rintro ⟨j,hj,e⟩
  rw [Array.getD_eq_getD_getElem?] at e
  cases h:owner[j]? with
  | none=>rw [h] at e; cases e
  | some o =>
   rw [h] at e
   cases o with
   | none=>cases e
   | some v =>
    cases e
    exact ⟨List.mem_range.mp hj,h⟩
 ·rintro ⟨h1,h2⟩
  exact ⟨p.1,List.mem_range.mpr h1,by rw [Array.getD_eq_getD_getElem?,h2]; rfl⟩
theorem rA (M:Nat) (owner:Array (Option Nat)):((bW M owner).map (·.1)).Pairwise (· < ·):=by
 unfold bW
 rw [List.pairwise_map,List.pairwise_filterMap]
 refine List.Pairwise.imp ?_ List.pairwise_lt_range
 intro a b hab p hp q hq
 cases h1:owner.getD a none with
 | none=>rw [h1] at hp; cases hp
 | some x =>
  cases h2:owner.getD b none with
  | none=>rw [h2] at hq; cases hq
  | some y =>
   rw [h1] at hp; rw [h2] at hq
   cases hp; cases hq
   exact hab
theorem t7 {l:List Nat} (h:l.Pairwise (· < ·)):Up l.toArray:=fun i j hij hj=>by
 have hj:j<l.length:=by simpa using hj
 have:=List.pairwise_iff_getElem.mp h i j (by walk_at "s1") hj hij
 have e:∀ k (hk:k<l.length),l.toArray.getD k 0=l[k]:=fun k hk=>by simp [Array.getD,hk]
 rw [e i (by walk_at "s1"),e j hj]
 exact this
theorem sO {β:Type} {f:α→Option β}:∀ {l:List α},(∀ x∈l,(f x).isSome=true)→(l.filterMap f).length=l.length∧∀ i:Nat,(l.filterMap f)[i]? = (l[i]?).bind f
 | [],_=>⟨rfl,fun i=>by simp⟩
 | x :: l,h=>by
  obtain ⟨a,b⟩:=sO (f:=f) (l:=l) fun y hy=>h y (List.mem_cons_of_mem _ hy)
  have hx:=h x List.mem_cons_self
  cases e:f x with
  | none=>rw [e] at hx; cases hx
  | some y =>
   rw [List.filterMap_cons,e]
   refine ⟨by simp [a],fun i=>?_⟩
   cases i with
   | zero=>simp [e]
   | succ i=>simpa using b i
theorem tO (es:Array (Int × α)):(List.range es.size).filterMap (fun i=>es[i]?)=es.toList:=by
 apply List.ext_getElem?
 intro i
 rw [(sO (l:=List.range es.size) fun x hx=>by
  have:=List.mem_range.mp hx
  simp [this]).2 i]
 by_cases h:i<es.size
 ·rw [List.getElem?_range h,Array.getElem?_toList]; rfl
 ·rw [List.getElem?_eq_none (by simpa using h),List.getElem?_eq_none (by simpa using h)]; rfl
theorem Cd {M m finger moves:Nat} {led plain:Bool} (hM:M+1=2 ^ m) (hm:3≤m) {es:Array (Int × α)} (hf:es.size * 5<M * 3) :
  ∃ t order,laid M finger moves led plain (es.map (·.1))=some (t,order)∧t.plain=plain∧t.led=led∧t.mask=M∧TI t (order.filterMap fun i=>es[i]?)∧(order.filterMap fun i=>es[i]?).size=es.size∧(order.filterMap fun i=>es[i]?).toList.Perm es.toList∧order.toList.Perm (List.range es.size):=by
 obtain ⟨owner,e,O⟩:=Bt hM (es.map (·.1)) (by rw [Array.size_map]; walk_at "l")
 have hn:(es.map (·.1)).toList.length=es.size:=by simp
 refine ⟨{ mask:=M,place:=((bW M owner).map (·.1)).toArray,dummies:=#[],finger,led,moves,plain },((bW M owner).map (·.2)).toArray,?_,rfl,rfl,rfl,?_⟩
 ·unfold laid
  rw [e]; rfl
 have vlt:∀ p∈bW M owner,p.2<es.size:=fun p hp=>by
  have:=O.lt _ _ (d7.mp hp).2
  walk_at "l"
 have nd:((bW M owner).map (·.2)).Nodup:=by
  rw [List.nodup_iff_pairwise_ne,List.pairwise_map]
  have:=rA M owner
  rw [List.pairwise_map] at this
  refine List.Pairwise.imp_of_mem ?_ this
  intro p q hp hq hlt z
  have:=O.inj _ _ _ (d7.mp hp).2 (by rw [z]; exact (d7.mp hq).2)
  walk_at "l"
 have pm:((bW M owner).map (·.2)).Perm (List.range es.size):=by
  refine (List.perm_ext_iff_of_nodup nd List.nodup_range).mpr fun v=>⟨fun hv=>?_,fun hv=>?_⟩
  ·obtain ⟨p,hp,rfl⟩:=List.mem_map.mp hv
   exact List.mem_range.mpr (vlt p hp)
  ·obtain ⟨j,hj⟩:=O.all v (by rw [hn]; exact List.mem_range.mp hv)
   have hjs:=(Array.getElem?_eq_some_iff.mp hj).1
   rw [O.sz] at hjs
   exact List.mem_map.mpr ⟨(j,v),d7.mpr ⟨hjs,hj⟩,rfl⟩
 have hlen:(bW M owner).length=es.size:=by
  have:=pm.length_eq
  simpa using this
 have hes:(((bW M owner).map (·.2)).toArray.filterMap fun i=>es[i]?).toList=(bW M owner).filterMap fun p=>es[p.2]? := by
  rw [Array.toList_filterMap,List.filterMap_map]; rfl
 obtain ⟨f1,f2⟩:=sO (l:=bW M owner) (f:=fun p=>es[p.2]?) fun p hp=>by simp [vlt p hp]
 have hget:∀ i:Nat,(((bW M owner).map (·.2)).toArray.filterMap fun i=>es[i]?)[i]? = ((bW M owner)[i]?).bind fun p=>es[p.2]? := fun i=>by
  rw [← Array.getElem?_toList,hes]; exact f2 i
 have hsz:(((bW M owner).map (·.2)).toArray.filterMap fun i=>es[i]?).size=es.size:=by
  rw [← Array.length_toList,hes,f1,hlen]
 have hpl:∀ i:Nat,∀ p,(bW M owner)[i]? = some p→((bW M owner).map (·.1)).toArray.getD i 0=p.1:=fun i p hp=>by
  rw [Array.getD_eq_getD_getElem?]
  simp [hp]
 have tk:∀ j,occ owner j=true→j≤M→taken ((bW M owner).map (·.1)).toArray j=true:=fun j hj hM'=>by
  obtain ⟨v,hv⟩:=(qj (by rw [O.sz]; exact Nat.lt_succ_of_le ‹_›)).mp hj
  obtain ⟨i,hi⟩:=List.mem_iff_getElem?.mp (d7.mpr (show ((j,v):Nat × Nat).1<M+1∧owner[((j,v):Nat × Nat).1]? = some (some ((j,v):Nat × Nat).2) from ⟨by show j<M+1; exact Nat.lt_succ_of_le ‹_›,hv⟩))
  exact (eQ (t7 (rA M owner))).mpr ⟨i,by
   have:=(List.getElem?_eq_some_iff.mp hi).1
   simpa using this,hpl i _ hi⟩
 refine ⟨?_,hsz,?_,by simpa using pm⟩
 ·refine ⟨⟨m,hM,hm⟩,?_,t7 (rA M owner),fun i hi=>?_,rfl,by rw [hsz]; exact hf,fun i h x hx=>?_⟩
  ·rw [hsz]; simp [hlen]
  ·have hi:i<(bW M owner).length:=by simpa using hi
   have e1:=List.getElem?_eq_getElem hi
   show ((bW M owner).map (·.1)).toArray.getD i 0≤M
   rw [hpl i _ e1]
   have:=(d7.mp (List.mem_of_getElem? e1)).1
   walk_at "l"
  ·rw [hget] at hx
   cases hp:(bW M owner)[i]? with
   | none=>rw [hp] at hx; cases hx
   | some p =>
    rw [hp] at hx
    have hx:es[p.2]? = some (h,x):=hx
    have hm':=d7.mp (List.mem_of_getElem? hp)
    obtain ⟨n,a1,a2,a3⟩:=O.path _ _ hm'.2
    have hh:(es.map (·.1)).toList.getD p.2 0=h:=by
     rw [List.getD_eq_getElem?_getD,Array.getElem?_toList,Array.getElem?_map,hx]; rfl
    rw [hh] at a2 a3
    refine ⟨n,a1,?_,fun q hq=>tk _ (a3 q hq) (J_le M h q)⟩
    show J M h n=((bW M owner).map (·.1)).toArray.getD i 0
    rw [hpl i _ hp]; exact a2
 ·rw [hes]
  have:=pm.filterMap fun i=>es[i]?
  rw [tO,List.filterMap_map] at this
  exact this
theorem o7 {t:SetTable} {es:Array (Int × α)} (hn:es.size≤10000) :
  ∃ t' order,t.relaid (es.map (·.1)) (grown es.size)=some (t',order)∧t'.plain=t.plain∧t'.led=t.led∧sizeAbove (grown es.size)≤16777216∧(es.size≤1000→t'.mask≤8191)∧TI t' (order.filterMap fun i=>es[i]?)∧(order.filterMap fun i=>es[i]?).size=es.size∧(order.filterMap fun i=>es[i]?).toList.Perm es.toList∧order.toList.Perm (List.range es.size):=by
 have hg:grown es.size=es.size * 4:=by unfold grown; rw [if_neg (by walk_at "l")]
 obtain ⟨b,h3,e,hlt,hle⟩:=lC (n:=es.size * 4) (by walk_at "l")
 have h8:8≤2 ^ b:=Nat.pow_le_pow_right (n:=2) (by decide) h3
 unfold relaid
 rw [hg,e]
 obtain ⟨t',order,q1,q2,q3,qm,q4⟩:=Cd (M:=2 ^ b - 1) (m:=b) (finger:=t.finger) (moves:=t.movedTo (2 ^ b - 1)) (led:=t.led) (plain:=t.plain) (by walk_at "l") h3 (es:=es) (by walk_at "l")
 refine ⟨t',order,q1,q2,q3,?_,fun hz=>?_,q4⟩
 ·rcases hle with hle | rfl
  ·walk_at "l"
  ·decide
 ·rw [qm]
  rcases hle with hle | rfl
  ·walk_at "l"
  ·decide
end
end TS
set_option Elab.async false
set_option linter.all false
set_option maxRecDepth 100000
set_option maxHeartbeats 4000000
namespace TS
open PySem PySem.SetTable
section
variable {α:Type} {t:SetTable} {es:Array (Int × α)}
theorem n6 (T:TI t es) (hashAt:Nat→Int) (h:Int):∀ (fuel n:Nat),(∃ N,n≤N∧N<n+fuel∧taken t.place (J t.mask h N)=false) →
  ∃ n',n≤n'∧n'<n+fuel∧(∀ q,n≤q→q<n'→taken t.place (J t.mask h q)=true∧hashAt (below t.place (J t.mask h q))≠h) ∧
   ((taken t.place (J t.mask h n')=false∧probe.go t hashAt h fuel (ps t.mask h n)=some (.empty (J t.mask h n') none)) ∨
    (taken t.place (J t.mask h n')=true∧hashAt (below t.place (J t.mask h n'))=h∧probe.go t hashAt h fuel (ps t.mask h n)=some (.candidate (J t.mask h n') (below t.place (J t.mask h n')) (ps t.mask h (n'+1)))))
 | 0,n,⟨N,h1,h2,_⟩=>by walk_at "l"
 | fuel+1,n,⟨N,h1,h2,h3⟩=>by
  unfold probe.go
  have hs:=T.slot (J t.mask h n)
  have hd:=(Ah t.mask h n).2.2.1
  by_cases c:taken t.place (J t.mask h n)=true
  ·rw [if_pos c] at hs
   have hs:t.slot (ps t.mask h n).j=.live (below t.place (J t.mask h n)):=hs
   rw [hs]
   dsimp only
   by_cases e:hashAt (below t.place (J t.mask h n))=h
   ·rw [if_pos (by simpa using e)]
    exact ⟨n,Nat.le_refl _,by (clear h1 h2 h3 hd c hs e; walk_at "l"),fun q a b=>by (clear h1 h2 h3 hd c hs e; walk_at "l"),.inr ⟨c,e,rfl⟩⟩
   ·rw [if_neg (by simpa using e)]
    have hN:N≠n:=fun z=>by rw [z,c] at h3; cases h3
    obtain ⟨n',a1,a2,a3,a4⟩:=n6 T hashAt h fuel (n+1) ⟨N,by (clear h2 h3 hd c hs e; walk_at "l"),by (clear h1 h3 hd c hs e hN; walk_at "l"),h3⟩
    refine ⟨n',by (clear h1 h2 h3 hd c hs e hN a2 a4; exact Nat.le_of_lt ‹_›),by (clear h1 h2 h3 hd c hs e hN a1 a4; walk_at "l"),fun q b1 b2=>?_,a4⟩
    by_cases z:q=n
    ·subst z; exact ⟨c,e⟩
    ·exact a3 q (by (clear h1 h2 h3 hd c hs e hN a1 a2 a4 b2; walk_at "l")) b2
  ·have c:taken t.place (J t.mask h n)=false:=by simpa using c
   rw [if_neg (by rw [c]; exact Bool.false_ne_true)] at hs
   have hs:t.slot (ps t.mask h n).j=.empty:=hs
   rw [hs]
   dsimp only
   rw [hd]
   exact ⟨n,Nat.le_refl _,by (clear h1 h2 h3 hd c hs; walk_at "l"),fun q a b=>by (clear h1 h2 h3 hd c hs; walk_at "l"),.inl ⟨c,rfl⟩⟩
end
section
variable {prog:Program} {w:World} {K:Type} [DecidableEq K] {knd:KeyKind prog w K}
noncomputable abbrev bw (knd:KeyKind prog w K) (k:List K):Int:=tupleKeyHash knd k
noncomputable def yo (knd:KeyKind prog w K) (p:List K × Addr):Int × Value:=(bw knd p.1,.ref p.2)
structure SetT (knd:KeyKind prog w K) (h:Heap) (a:Addr) (ks:List (List K × Addr)):Prop where
 ob:∃ o es ep t,h.get? a=some o∧o.ExactSet∧o.data=.set es ep t∧TI t es∧t.mask≤8191∧t.led=(!w.params.followText "set-order")∧es.toList=ks.map (yo knd)
 nd:(ks.map (·.1)).Nodup
 is:∀ p∈ks,IsTupleKey knd h p.1 p.2
variable {A:Around} {E:Value→Shared→Prop} {s:Shared}
theorem jU {k:List K} {a:Addr} {Q:Bool→Shared→Prop} (hk:IsTupleKey knd s.heap k a) (h:Q false s):wpAny (model prog w) A (ofAClassStatement 8 (.ref a)) Q E s:=by
 have hT:=hk.typeIs
 obtain ⟨o,items,n,ho,_,hd,hi⟩:=hk
 unfold ofAClassStatement
 refine wpAny_bind (wpAny_typeOf hT ?_)
 dsimp only
 refine wpAny_bind ?_
 refine wpAny_pure ?_
 simp only [Bool.not_true,Bool.false_eq_true,if_false]
 refine wpAny_bind (wpAny_seqItems ho hd ?_)
 dsimp only
 refine wpAny_bind ?_
 rw [← Array.forIn_toList]
 refine wpAny_forIn_list _ (fun rest r s'=>r.1=none∧s'=s∧∀ v∈rest,carriedByValue v=true) _ ?_ ?_ _ _ ⟨rfl,rfl,hi.byValue⟩
 ·rintro v rest r s' ⟨hr,rfl,hall⟩
  have hv:=hall v List.mem_cons_self
  have e:ofAClassStatement 7 v=pure false:=by
   cases v with
   | ref a=>cases hv
   | _=>rfl
  rw [e]
  refine wpAny_bind (wpAny_pure ?_)
  simp only [Bool.false_eq_true,if_false]
  exact wpAny_pure ⟨rfl,rfl,fun u hu'=>hall u (List.mem_cons_of_mem _ hu')⟩
 ·rintro ⟨r1,r2⟩ s' ⟨hr,rfl,_⟩
  simp only at hr
  subst hr
  exact wpAny_pure h
theorem ie {k:List K} {a:Addr} {Q:Bool→Shared→Prop} (hk:IsTupleKey knd s.heap k a) (hsc:∀ k v,knd.is k v=true→v.scannable=true) (h:∀ b,Q b s):wpAny (model prog w) A (hashByValue 8 (.ref a)) Q E s:=by
 have hT:=hk.typeIs
 obtain ⟨o,items,n,ho,_,hd,hi⟩:=hk
 have hsc':∀ v∈items.toList,v.scannable=true:=by
  clear ho hd
  generalize items.toList=l at hi
  induction hi with
  | nil=>intro v hv; cases hv
  | cons h1 _ ih =>
   intro v hv
   rcases List.mem_cons.mp hv with rfl | hv
   ·exact hsc _ _ h1
   ·exact ih v hv
 unfold hashByValue
 refine wpAny_bind (wpAny_specialOf hT F.slot_tuple_hash.lookup ?_)
 dsimp only
 refine wpAny_bind (wpAny_seqItems ho hd ?_)
 dsimp only [Option.getD]
 refine wpAny_bind ?_
 rw [← Array.forIn_toList]
 refine wpAny_forIn_list _ (fun rest r s'=>s'=s∧∀ v∈rest,v.scannable=true) _ ?_ ?_ _ _ ⟨rfl,hsc'⟩
 ·rintro v rest r s' ⟨rfl,hall⟩
  rw [hashByValue_scannable 7 (hall v List.mem_cons_self)]
  refine wpAny_bind (wpAny_pure ?_)
  split
  ·exact wpAny_pure (wpAny_pure (h _))
  ·exact wpAny_pure ⟨rfl,fun u hu'=>hall u (List.mem_cons_of_mem _ hu')⟩
 ·rintro ⟨r1,r2⟩ s' ⟨rfl,_⟩
  cases r1 with
  | none=>exact wpAny_pure (h true)
  | some b=>exact wpAny_pure (h b)
end
end TS
namespace TS
open PySem PySem.SetTable
local macro_rules | `(tactic| walk_at $s:str) => do
 let x:=s.getString
 if x.startsWith "PV" then `(tactic| exact $(Lean.mkIdent (.str (.str (.num (.str (.str (.str .anonymous "_private") "PySem") "SetOps") 0) "PySem") (x.drop 2).toString)))
 else Lean.Macro.throwUnsupported
noncomputable abbrev vI:Array (Int × Value)→Nat→Int:=by walk_at "PVstoredHashAt"
noncomputable abbrev Bc:Array (Int × Value)→Option (SetTable × Array Nat)→Sem (Array (Int × Value) × SetTable):=by walk_at "PVreordered"
noncomputable abbrev mO:Array (Int × Value)→SetTable→Bool:=by walk_at "PVdrawn"
noncomputable abbrev Fx:Array (Int × Value)→SetTable→Sem Unit:=by walk_at "PVmustBeLedForItsPlaces"
noncomputable abbrev DP:Bool→Sem Unit:=by walk_at "PVgaveWayHere"
noncomputable def qU:Array (Int × Value)→Nat→Int:=vI
theorem oR (es:Array (Int × Value)) (i:Nat):qU es i=(es[i]?.map (·.1)).getD 0:=rfl
section
variable {prog:Program} {w:World} {K:Type} [DecidableEq K] {knd:KeyKind prog w K} {A:Around} {E:Value→Shared→Prop} {s:Shared}
theorem ur {k:List K} {a:Addr} {ys:List Value} {Q:Bool→Shared→Prop} (hk:IsTupleKey knd s.heap k a) (hy:∀ y∈ys,∃ k' b,y=.ref b∧IsTupleKey knd s.heap k' b) (h:Q false s):wpAny (model prog w) A (searchCouldBeSeen (.ref a) ys) Q E s:=by
 unfold searchCouldBeSeen
 refine wpAny_bind ?_
 refine wpAny_forIn_list _ (fun rest r s'=>r.1=none∧s'=s∧∀ y∈rest,∃ k' b,y=.ref b∧IsTupleKey knd s.heap k' b) _ ?_ ?_ _ _ ⟨rfl,rfl,hy⟩
 ·rintro y rest r s' ⟨hr,rfl,hall⟩
  obtain ⟨k',b,rfl,hb⟩:=hall y List.mem_cons_self
  have go:∀ (P:Prop),P→P:=fun _ p=>p
  dsimp only
  split
  ·exact wpAny_pure ⟨rfl,rfl,fun u hu'=>hall u (List.mem_cons_of_mem _ hu')⟩
  ·refine wpAny_bind (wpAny_eqIsQuiet_tuple hk ?_)
   simp only [Bool.not_true,Bool.false_eq_true,if_false]
   refine wpAny_bind (wpAny_eqIsQuiet_tuple hb ?_)
   simp only [Bool.not_true,Bool.false_eq_true,if_false]
   refine wpAny_bind (jU hk ?_)
   simp only [Bool.false_eq_true,if_false]
   refine wpAny_bind (jU hb ?_)
   simp only [Bool.false_eq_true,if_false]
   exact wpAny_pure ⟨rfl,rfl,fun u hu'=>hall u (List.mem_cons_of_mem _ hu')⟩
 ·rintro ⟨r1,r2⟩ s' ⟨hr,rfl,_⟩
  simp only at hr
  subst hr
  exact wpAny_pure h
theorem GZ {K G:Prop} (pk:K) (h:K→G):G:=h pk
theorem pD {a x:Addr} {k:List K} {ks:List (List K × Addr)} {o:Obj} {es:Array (Int × Value)} {ep:Nat} {t:SetTable} (hu:A.units<cLine) (ho:s.heap.get? a=some o) (hd:o.data=.set es ep t) (T:TI t es) (he:es.toList=ks.map (yo knd))
  (his:∀ p∈ks,IsTupleKey knd s.heap p.1 p.2) (hx:IsTupleKey knd s.heap k x) {Q:SetFound→Shared→Prop} (hyes:k∈ks.map (·.1)→Q (.there none) s)
  (nf:Nat) (hnf:nf≤10 * (t.mask+13)) (hfr:taken t.place (J t.mask (bw knd k) nf)=false) (hbf:∀ q<nf,taken t.place (J t.mask (bw knd k) q)=true)
  (hno:k∉ks.map (·.1)→Q (.free (J t.mask (bw knd k) nf) false) s) :
  ∀ (fuel n:Nat) (stand:Option Probe),stand.getD (t.probeStart (bw knd k))=ps t.mask (bw knd k) n→n≤nf→nf<n+fuel →
   (∀ q<n,∀ p,ks[below t.place (J t.mask (bw knd k) q)]? = some p→p.1≠k)→wpAny (model prog w) A (setSearchFrom a (.ref x) (bw knd k) true fuel stand) Q E s
 | 0,n,stand,_,h1,h2,_=>by (clear hu ho hd he hyes hnf hfr hno; walk_at "l")
 | fuel+1,n,stand,hst,h1,h2,hq=>by
  have hel:∀ i:Nat,es[i]? = (ks[i]?).map (yo knd):=fun i=>by rw [← Array.getElem?_toList,he,List.getElem?_map]
  unfold setSearchFrom
  refine wpAny_bind (wpAny_setState_of ho hd T.fits ?_)
  dsimp only
  rw [if_neg (by rw [T.odd]; exact Bool.false_ne_true)]
  obtain ⟨n',a1,a2,a3,a4⟩:=n6 T (qU es) (bw knd k) (10 * turns t.mask) n ⟨nf,h1,by unfold turns; (clear hu ho hd he hyes hfr hno hst h1 h2; walk_at "l"),hfr⟩
  have hn':n'≤nf:=by
   by_cases z:n'≤nf
   ·exact z
   ·have:=(a3 nf h1 (by (clear hu ho hd he hyes hnf hfr hno hst h1 h2 a1 a2 a4; exact Nat.lt_of_not_le ‹_›))).1
    rw [hfr] at this; cases this
  rcases a4 with ⟨c1,c2⟩ | ⟨c1,c2,c3⟩
  ·have c2:t.probe (qU es) (bw knd k) (stand.getD (t.probeStart (bw knd k)))=some (.empty (J t.mask (bw knd k) n') none):=by rw [hst]; exact c2
   have e:n'=nf:=by
    by_cases z:n'<nf
    ·have:=hbf n' z
     rw [c1] at this; cases this
    ·(clear hu ho hd he hyes hnf hfr hno hst h1 h2 a1 a2 c1 c2; walk_at "l")
   have c2:t.probe (vI es) (bw knd k) (stand.getD (t.probeStart (bw knd k)))=some (.empty (J t.mask (bw knd k) n') none):=c2
   rw [c2]
   dsimp only
   rw [e]
   refine wpAny_pure (hno fun hm=>?_)
   obtain ⟨p,hp,rfl⟩:=List.mem_map.mp hm
   obtain ⟨i,hi⟩:=List.mem_iff_getElem?.mp hp
   have ei:es[i]? = some (bw knd p.1,.ref p.2):=by rw [hel,hi]; rfl
   have his':i<t.place.size:=by rw [T.sz]; exact (Array.getElem?_eq_some_iff.mp ei).1
   obtain ⟨ni,b1,b2,b3⟩:=T.path i _ _ ei
   have bt:below t.place (J t.mask (bw knd p.1) ni)=i:=by rw [b2]; exact below_at T.up his'
   have tk:taken t.place (J t.mask (bw knd p.1) ni)=true:=by rw [b2]; exact (eQ T.up).mpr ⟨i,his',rfl⟩
   have hlt:ni<nf:=by
    by_cases z:nf<ni
    ·have:=b3 nf z
     rw [hfr] at this; cases this
    ·have:ni≠nf:=fun z=>by rw [z,hfr] at tk; cases tk
     (clear hu ho hd he hnf h1 h2 a1 a2 hn' hyes hfr hno hst c1 c2 hi ei his' b1 b2 bt tk; walk_at "l")
   by_cases z:ni<n
   ·exact hq ni z p (by rw [bt]; exact hi) rfl
   ·refine (a3 ni (by (clear hu ho hd he hnf h1 h2 a1 a2 hn' e hyes hfr hno hst c1 c2 hi ei his' b1 b2 bt tk hlt; exact Nat.le_of_not_lt ‹_›)) (by (clear hu ho hd he hnf h1 h2 a1 a2 hn' hyes hfr hno hst c1 c2 hi ei his' b1 b2 bt tk z; walk_at "l"))).2 ?_
    rw [bt,oR,ei]; rfl
  ·have c3:t.probe (vI es) (bw knd k) (stand.getD (t.probeStart (bw knd k)))=some (.candidate (J t.mask (bw knd k) n') (below t.place (J t.mask (bw knd k) n')) (ps t.mask (bw knd k) (n'+1))):=by rw [hst]; exact c3
   rw [c3]
   dsimp only
   have tk:=jo T.up c1
   have hsl:t.slot (J t.mask (bw knd k) n')=.live (below t.place (J t.mask (bw knd k) n')):=by rw [T.slot,if_pos c1]
   generalize hi:below t.place (J t.mask (bw knd k) n')=i at tk c2 hsl ⊢
   have hil:i<es.size:=by rw [← T.sz]; exact tk.1
   obtain ⟨p,hp⟩:∃ p,ks[i]? = some p:=by
    have:i<ks.length:=by
     have:=congrArg List.length he
     simp at this; (clear hu ho hd he hyes hnf hfr hno hst h1 h2 a1 a2 hn' c1 c3 hi tk c2 hsl; walk_at "l")
    exact ⟨_,List.getElem?_eq_getElem this⟩
   have ei:es[i]? = some (bw knd p.1,.ref p.2):=by rw [hel,hp]; rfl
   have hpm:=List.mem_of_getElem? hp
   have hne:n'≠nf:=fun z=>by rw [z,hfr] at c1; cases c1
   have again:¬ p.1=k→wpAny (model prog w) A (setSearchFrom a (.ref x) (bw knd k) true fuel (some (ps t.mask (bw knd k) (n'+1)))) Q E s:=fun hpk =>
    pD hu ho hd T he his hx hyes nf hnf hfr hbf hno fuel (n'+1) (some (ps t.mask (bw knd k) (n'+1))) rfl (by (clear hu ho hd he hyes hnf hfr hno hst h1 h2 a1 a2 c1 c3 hi tk c2 hsl hil hp ei hpk; walk_at "l")) (by (clear hu ho hd he hyes hnf hfr hno hst h1 a2 hn' c1 c3 hi tk c2 hsl hil hp ei hne hpk; walk_at "l")) fun q hqq p' hp'=>by
     by_cases z:q<n
     ·exact hq q z p' hp'
     ·by_cases z2:q=n'
      ·subst z2
       rw [hi,hp] at hp'
       cases hp'
       exact hpk
      ·intro e'
       have:=(a3 q (by (clear hu ho hd he hyes hnf hfr hno hst h1 h2 a1 a2 hn' c1 c3 hi tk c2 hsl hil hp ei hne hpk hqq hp' z2 e'; exact Nat.le_of_not_lt ‹_›)) (by (clear hu ho hd he hyes hnf hfr hno hst h1 h2 a1 a2 hn' c1 c3 hi tk c2 hsl hil hp ei hne hpk hp' z e'; walk_at "l"))).2
       refine this ?_
       rw [oR,hel,hp']
       show bw knd p'.1=_
       rw [e']
   have hin:p.1=k→k∈ks.map (·.1):=fun e=>e ▸ List.mem_map.mpr ⟨p,hpm,rfl⟩
   have seen:∀ y∈List.map (fun x=>x.snd) (Array.filter (fun x=>x.fst == bw knd k) es).toList,∃ k' b,y=.ref b∧IsTupleKey knd s.heap k' b:=fun y hy=>by
    obtain ⟨e',he',rfl⟩:=List.mem_map.mp hy
    rw [Array.toList_filter] at he'
    have:=(List.mem_filter.mp he').1
    rw [he] at this
    obtain ⟨p',hp',rfl⟩:=List.mem_map.mp this
    exact ⟨p'.1,p'.2,rfl,his p' hp'⟩
   refine GZ ?pk (K:=?K) fun key=>?main
   case main =>
    split
    ·refine wpAny_bind (ur hx seen ?_)
     rw [if_neg Bool.false_ne_true]
     exact key
    ·exact key
   rw [ei]
   dsimp only
   refine wpAny_bind (wpAny_holding (wpAny_eqBool_tuple hu (his p hpm) hx ?_))
   refine wpAny_bind (wpAny_setState_of ho hd T.fits ?_)
   dsimp only
   by_cases e:p.1=k
   ·rw [if_pos (by simp [e])]
    exact wpAny_pure (hyes (hin e))
   ·rw [if_neg (by simp [e])]
    have hsm:t.sameMemory t.moves t.mask=some true:=by unfold sameMemory; rw [if_pos (by simp)]
    rw [hsm]
    dsimp only
    rw [if_pos rfl,hsl]
    dsimp only
    rw [ei]
    dsimp only
    refine wpAny_bind (m:=isSame (.ref p.2) (.ref p.2)) ?_
    unfold isSame
    dsimp only
    rw [if_pos (by simp)]
    refine wpAny_pure (wpAny_bind (wpAny_pure ?_))
    rw [if_pos rfl]
    dsimp only
    rw [if_neg (by simp [e])]
    exact again e
end
end TS
set_option Elab.async false
set_option linter.all false
set_option maxRecDepth 100000
set_option maxHeartbeats 4000000
namespace TS
open PySem PySem.SetTable
theorem iH {α β:Type} {f:α→β}:∀ {l l2:List β},l.Perm l2→∀ {m:List α},l2=m.map f→∃ m':List α,l=m'.map f∧m'.Perm m:=by
 intro l l2 p
 induction p with
 | nil=>intro m e; exact ⟨m,by rw [← e],.refl _⟩
 | cons x _ ih =>
  intro m e
  cases m with
  | nil=>cases e
  | cons y m =>
   simp only [List.map_cons,List.cons.injEq] at e
   obtain ⟨m',e1,p1⟩:=ih e.2
   exact ⟨y :: m',by rw [List.map_cons,← e1,e.1],p1.cons _⟩
 | swap x y l =>
  intro m e
  match m,e with
  | a :: b :: m,e =>
   simp only [List.map_cons,List.cons.injEq] at e
   exact ⟨b :: a :: m,by simp [e.1,e.2.1,e.2.2],.swap ..⟩
 | trans _ _ ih1 ih2 =>
  intro m e
  obtain ⟨m',e1,p1⟩:=ih2 e
  obtain ⟨m2,e2,p2⟩:=ih1 e1
  exact ⟨m2,e2,p2.trans p1⟩
theorem lN {α:Type} (xs:Array α) (p:Nat) (x:α):(insertAt xs p x).toList=xs.toList.take p++x :: xs.toList.drop p:=by
 unfold insertAt
 simp
 rw [List.take_of_length_le (by simp)]
theorem oX {prog:Program} {w:World} {A:Around} {E:Value→Shared→Prop} {s:Shared} {es:Array (Int × Value)} {t:SetTable} {order:Array Nat} {Q:Array (Int × Value) × SetTable→Shared→Prop} (hz:(order.filterMap fun i=>es[i]?).size=es.size)
  (h:Q (order.filterMap fun i=>es[i]?,t) s):wpAny (model prog w) A (Bc es (some (t,order))) Q E s:=by
 show wpAny _ _ (if ((order.filterMap fun i=>es[i]?).size != es.size)=true then (do unsupported "internal:set-table-lost-an-element"; pure (order.filterMap fun i=>es[i]?,t)) else pure (order.filterMap fun i=>es[i]?,t)) _ _ _
 rw [if_neg (by simp [hz])]
 exact wpAny_pure h
section
variable {prog:Program} {w:World} {K:Type} [DecidableEq K] {knd:KeyKind prog w K} {A:Around} {E:Value→Shared→Prop} {s:Shared}
theorem IsTupleKey.stay {h h':Heap} {k:List K} {a:Addr} (hk:IsTupleKey knd h k a) (e:∀ o,h.get? a=some o→h'.get? a=some o):IsTupleKey knd h' k a:=by
 obtain ⟨o,items,n,ho,r⟩:=hk
 exact ⟨o,items,n,e o ho,r⟩
theorem SetT.ne {h:Heap} {a x:Addr} {k:List K} {ks:List (List K × Addr)} (S:SetT knd h a ks) (hx:IsTupleKey knd h k x):x≠a:=by
 obtain ⟨⟨o,es,ep,t,ho,hex,_⟩,_,_⟩:=S
 obtain ⟨o',items,n,ho',hc,_⟩:=hx
 intro z
 subst z
 rw [ho] at ho'
 cases ho'
 rw [hex.1] at hc
 exact absurd hc (by decide)
theorem DK {a x:Addr} {k:List K} {ks:List (List K × Addr)} (S:SetT knd s.heap a ks) (hx:IsTupleKey knd s.heap k x) (hz:ks.length<1000) (hu:A.units<cLine) (hsc:∀ k v,knd.is k v=true→v.scannable=true) {Q:Bool→Shared→Prop}
  (h:∀ (b:Bool) (h':Heap) (ks':List (List K × Addr)),Heap.SameBut a s.heap h'→SetT knd h' a ks'→(k∈ks.map (·.1)∧ks'=ks∨k∉ks.map (·.1)∧ks'.Perm ((k,x) :: ks))→Q b { s with heap:=h' }) :
  wpAny (model prog w) A (setAddHashed a (.ref x) (bw knd k)) Q E s:=by
 obtain ⟨⟨o,es,ep,t,ho,hex,hd,T,hM,hL,he⟩,nd,is⟩:=id S
 have hlen:es.size=ks.length:=by
  have:=congrArg List.length he
  simpa using this
 obtain ⟨m,hm,_⟩:=T.pw
 obtain ⟨e0,he0,hf0⟩:=T.free
 obtain ⟨nf,n1,n2,n3⟩:=lW hm (bw knd k) (taken t.place) he0 hf0
 unfold setAddHashed setAddHashedIn
 refine wpAny_holding (wpAny_bind (wpAny_setState_of ho hd T.fits ?_))
 dsimp only
 have hbs:byScan (.ref x) es=false:=by simp [byScan,Value.scannable]
 rw [hbs]
 simp only [Bool.false_eq_true,if_false]
 refine wpAny_bind ?_
 unfold setSearch
 refine pD hu ho hd T he is hx (fun hin=>?_) nf n1 n2 n3 (fun hout=>?_) 100000 0 none rfl (Nat.zero_le _) (by walk_at "l") fun q hq=>absurd hq (Nat.not_lt_zero q)
 ·dsimp only
  refine wpAny_pure ?_
  have e:s={ s with heap:=s.heap }:=by cases s; rfl
  rw [e]
  exact h _ _ ks (Heap.SameBut.refl a s.heap) S (.inl ⟨hin,rfl⟩)
 ·dsimp only
  generalize hj:J t.mask (bw knd k) nf=j at n2 ⊢
  have hjm:j≤t.mask:=by rw [← hj]; exact J_le ..
  have hre:Reach t.mask t.place (bw knd k) j:=⟨nf,n1,hj,n3⟩
  refine wpAny_bind (wpAny_setState_of ho hd T.fits ?_)
  dsimp only
  have hput:t.put j=({ t with place:=insertAt t.place (below t.place j) j,dummies:=#[] },below t.place j):=by
   unfold SetTable.put
   have:has t.dummies j=false:=by rw [T.dm]; rfl
   simp only [this,Bool.false_eq_true,if_false]
   rw [T.dm]
  rw [hput]
  dsimp only
  have hin:(insertAt es (below t.place j) (bw knd k,.ref x)).toList=(ks.take (below t.place j)++(k,x) :: ks.drop (below t.place j)).map (yo knd):=by
   rw [lN,he,List.map_append,List.map_cons,List.map_take,List.map_drop]; rfl
  have hperm:(ks.take (below t.place j)++(k,x) :: ks.drop (below t.place j)).Perm ((k,x) :: ks):=by
   refine List.perm_middle.trans ?_
   rw [List.take_append_drop]
  have hbl:below t.place j≤es.size:=by rw [← T.sz]; exact (aZ T.up j).1
  have hsz':(insertAt es (below t.place j) (bw knd k,Value.ref x)).size=es.size+1:=cg _ _ hbl
  have hxa:=S.ne hx
  have isK:∀ h',Heap.SameBut a s.heap h'→∀ ks':List (List K × Addr),ks'.Perm ((k,x) :: ks)→∀ p∈ks',IsTupleKey knd h' p.1 p.2:=fun h' sb ks' pm p hp=>by
   have:IsTupleKey knd s.heap p.1 p.2:=by
    rcases List.mem_cons.mp (pm.mem_iff.mp hp) with rfl | hp
    ·exact hx
    ·exact is p hp
   exact IsTupleKey.stay this fun o' ho'=>sb.extBut _ _ (S.ne this) ho'
  have ndK:∀ ks':List (List K × Addr),ks'.Perm ((k,x) :: ks)→(ks'.map (·.1)).Nodup:=fun ks' pm=>by
   rw [(pm.map _).nodup_iff,List.map_cons,List.nodup_cons]
   exact ⟨hout,nd⟩
  -- behind the flag
  have main:∀ pl:Bool,wpAny (model prog w) A (do
    storeSet a (insertAt es (below t.place j) (bw knd k,.ref x)) { t with place:=insertAt t.place (below t.place j) j,dummies:=#[],plain:=pl }
    if (!false && ({ t with place:=insertAt t.place (below t.place j) j,dummies:=#[],plain:=pl }:SetTable).tooFull)=true then do
      setRelay a (grown (es.size+1))
      pure true
     else pure true) Q E s:=fun pl=>by
   generalize ht':({ t with place:=insertAt t.place (below t.place j) j,dummies:=#[],plain:=pl }:SetTable)=t'
   have tm:t'.mask=t.mask:=by rw [← ht']
   have tp:t'.place=insertAt t.place (below t.place j) j:=by rw [← ht']
   have td:t'.dummies = #[]:=by rw [← ht']
   have hfill:t'.fill=es.size+1:=by
    unfold SetTable.fill
    rw [tp,td,cg _ _ (aZ T.up j).1,T.sz]; simp
   refine wpAny_bind (wpAny_storeSet_of ho hd ?_ (by rw [hsz',sizeLine_eq]; walk_at "l"))
   have ho1:(s.heap.update a (Obj.putSet (insertAt es (below t.place j) (bw knd k,.ref x)) t')).get? a=some { o with data:=.set (insertAt es (below t.place j) (bw knd k,.ref x)) (ep+1) t' }:=by
    have:=Heap.get?_update_self (Obj.putSet (insertAt es (below t.place j) (bw knd k,.ref x)) t') ho (by rw [putSet_of _ _ hd]; rfl)
    rw [putSet_of _ _ hd] at this; exact this
   have sb1:=Heap.SameBut.update s.heap a (Obj.putSet (insertAt es (below t.place j) (bw knd k,.ref x)) t')
   by_cases c:t'.tooFull=true
   ·rw [if_pos (by rw [c]; rfl)]
    have hfit:t'.fits (insertAt es (below t.place j) (bw knd k,Value.ref x)).size=true:=by
     have:=T.few
     simp only [SetTable.fits,hfill,Bool.and_eq_true,beq_iff_eq,decide_eq_true_eq]
     rw [tp,cg _ _ (aZ T.up j).1,hsz',T.sz,tm]
     exact ⟨rfl,by walk_at "l"⟩
    obtain ⟨t2,order,r1,r2,r3,r4,r5,r6,r7,r8,_⟩:=o7 (t:=t') (es:=insertAt es (below t.place j) (bw knd k,Value.ref x)) (by walk_at "l")
    rw [hsz'] at r1 r4
    unfold setRelay
    refine wpAny_bind (wpAny_bind (wpAny_setState_of ho1 rfl hfit ?_))
    dsimp only
    rw [if_neg (by rw [sizeLine_eq]; walk_at "l")]
    refine wpAny_bind ?_
    rw [r1]
    obtain ⟨ks',ek,pk⟩:=iH r8 hin
    refine oX r7 ?_
    dsimp only
    refine wpAny_storeSet_of ho1 rfl ?_ (by rw [r7,hsz',sizeLine_eq]; walk_at "l")
    refine wpAny_pure ?_
    have sb2:=sb1.trans (Heap.SameBut.update _ a (Obj.putSet (order.filterMap fun i=>(insertAt es (below t.place j) (bw knd k,Value.ref x))[i]?) t2))
    have ho2:=Heap.get?_update_self (Obj.putSet (order.filterMap fun i=>(insertAt es (below t.place j) (bw knd k,Value.ref x))[i]?) t2) ho1 (by rw [putSet_of _ _ rfl]; rfl)
    rw [putSet_of _ _ rfl] at ho2
    exact h true _ ks' sb2 ⟨⟨_,_,_,_,ho2,hex,rfl,r6,r5 (by walk_at "l"),by rw [r3,← ht']; exact hL,ek⟩,ndK ks' (pk.trans hperm),isK _ sb2 ks' (pk.trans hperm)⟩ (.inr ⟨hout,pk.trans hperm⟩)
   ·rw [if_neg (by simpa using c)]
    refine wpAny_pure ?_
    have hfew:(es.size+1) * 5<t.mask * 3:=by
     unfold SetTable.tooFull at c
     rw [hfill,tm] at c
     simpa using c
    exact h true _ _ sb1 ⟨⟨_,_,_,_,ho1,hex,rfl,T.put hjm n2 hre tm tp td hfew,by rw [tm]; exact hM,by rw [← ht']; exact hL,hin⟩,ndK _ hperm,isK _ sb1 _ hperm⟩ (.inr ⟨hout,hperm⟩)
  split
  ·refine wpAny_bind (ie hx hsc fun b=>?_)
   cases b with
   | true=>exact main t.plain
   | false=>exact main false
  ·exact wpAny_bind (wpAny_pure (main t.plain))
end
end TS
set_option Elab.async false
set_option linter.all false
set_option maxRecDepth 100000
set_option maxHeartbeats 4000000
namespace TS
open PySem PySem.SetTable PyProof.Rows
section
variable {prog:Program} {w:World} {A:Around} {R:Result→Shared→Prop} {I:Addr} {fp wr:List Addr} {n:Nat} {P:Nat→Value→Prop} {St:Nat→Heap→Prop}
theorem yI (W:Walks prog w A.in1 I fp wr n P St) (S:Addr) (hSf:S∉fp) (SI:Nat→Heap→Prop) (keep:∀ i h h',SI i h→(∀ b o,b∉wr→h.get? b=some o→h'.get? b=some o)→SI i h')
  (step:∀ (i:Nat) (v:Value) (s':Shared) (E':Value→Shared→Prop) (Q:Bool→Shared→Prop),P i v→SI i s'.heap→(∀ b h' tk,Heap.SameBut S s'.heap h'→SI (i+1) h'→Q b { s' with heap:=h',toks:=tk })→wpAny (model prog w) A.in1 (setAdd S v) Q E' s') :
  ∀ (k i:Nat) (s:Shared),n - i=k→i≤n→St i s.heap→SI i s.heap →
   (∀ h' tk,SI n h'→(∀ b o,b∉wr→b≠S→s.heap.get? b=some o→h'.get? b=some o)→R (.ok (.ret .none)) { s with heap:=h',toks:=tk }) →
   codeAny (model prog w) A (.builtin "set.update.loop" ⟨[.ref S,.ref I],[]⟩) R s:=by
 have hSw:S∉wr:=fun h=>hSf (W.sub _ h)
 intro k
 induction k with
 | zero =>
  intro i s hk hi hst hS hR
  have hin:i=n:=by walk_at "l"
  subst hin
  refine codeAny_builtin F.entry_set_update_loop ?_
  rw [Around.under_plainId F.plain_set_update_loop _]
  show wpAny _ A.in1 (pyNext (.ref I) >>= _) _ _ s
  refine wpAny_bind (W.done s _ _ hst fun h' tk hk'=>?_)
  show wpAny _ A.in1 (ret Value.none) _ _ _
  exact wpAny_pure (hR h' tk (keep _ _ _ hS hk') fun b o hb _ e=>hk' b o hb e)
 | succ k ih =>
  intro i s hk hi hst hS hR
  have hlt:i<n:=by walk_at "l"
  refine codeAny_builtin F.entry_set_update_loop ?_
  rw [Around.under_plainId F.plain_set_update_loop _]
  show wpAny _ A.in1 (pyNext (.ref I) >>= _) _ _ s
  refine wpAny_bind (W.item i s _ _ hlt hst fun v h' tk hP hst' hk'=>?_)
  show wpAny _ A.in1 (holding [v] (setAdd S v) >>= _) _ _ _
  refine wpAny_bind (wpAny_holding (step i v _ _ _ hP (keep _ _ _ hS hk') fun b h2 tk2 sb hS2=>?_))
  refine wpAny_pure ⟨plainId_quiet F.plain_set_update_loop _,ih (i+1) _ (by walk_at "l") hlt (W.frame _ _ _ hst' fun b hb o e=>?_) hS2 fun h3 tk3 hS3 hk3=>?_⟩
  ·exact sb.extBut b o (fun z=>hSf (by rw [← z]; exact hb)) e
  ·exact hR h3 tk3 hS3 fun b o hb hbS e=>hk3 b o hb hbS (sb.extBut b o hbS (hk' b o hb e))
end
section
variable {prog:Program} {w:World} {A:Around} {E:Value→Shared→Prop} {s:Shared}
theorem wg (a:Value) {Q₁:Value→Shared→Prop}
  (h:Q₁ (.ref s.heap.objs.size) { s with heap:=s.heap.push { cls:=.type "set",dict:=none,data:=.set #[] 0 (.fresh 0 0 (!w.params.followText "set-order")) } }) :
  codeAny (model prog w) A (.call (.builtin "set.__new__") ⟨[.type "set",a],[]⟩) (wants Q₁ E) s:=by
 refine codeAny_of_tree ?_
 show wpAny _ A.in1 (do checkBuiltinCall "set.__new__" ⟨[.type "set",a],[]⟩; again (.builtin "set.__new__" ⟨[.type "set",a],[]⟩)) _ _ s
 refine wpAny_bind (wpAny_of_eq (F.newCall_set_1 a) (wpAny_pure ⟨plainId_quiet F.plain_set_new _,codeAny_builtin F.entry_set_new ?_⟩))
 rw [Around.under_plainId F.plain_set_new _]
 unfold Builtin.«set.__new__» Builtin.Frozenset.newClass
 have hsub:=sub_set_self
 obtain ⟨hp,g,d,tk,os⟩:=s
 dsimp only
 wp_walk
 refine wpAny_askSetting (wpAny_pure ?_)
 dsimp only
 simp only [newObj]
 refine wpAny_bind (wpAny_alloc (wpAny_pure ?_))
 exact wpAny_pure h
theorem iQ {l:Addr} {items:Array Value} {Q:Value→Shared→Prop} (hh:A.handled=none) (hl:s.heap.IsList l items) (SI:Nat→Heap→Prop)
  (h0:∀ h,h.get? s.heap.objs.size=some { cls:=.type "set",dict:=none,data:=.set #[] 0 (.fresh 0 0 (!w.params.followText "set-order")) }→(∀ b o,s.heap.get? b=some o→h.get? b=some o)→SI 0 h)
  (keep:∀ i h h',SI i h→(∀ b o,b≤s.heap.objs.size→h.get? b=some o→h'.get? b=some o)→SI i h')
  (step:∀ (i:Nat) (v:Value) (s':Shared) (E':Value→Shared→Prop) (Q:Bool→Shared→Prop),items[i]? = some v→SI i s'.heap→(∀ b h' tk,Heap.SameBut s.heap.objs.size s'.heap h'→SI (i+1) h'→Q b { s' with heap:=h',toks:=tk }) →
   wpAny (model prog w) A.in1.in1.in1 (setAdd s.heap.objs.size v) Q E' s')
  (h:∀ (h':Heap) (tk:Nat),SI items.size h'→(∀ b o,b<s.heap.objs.size→s.heap.get? b=some o→h'.get? b=some o)→Q (.ref s.heap.objs.size) { s with heap:=h',toks:=tk }) :
  wpAny (model prog w) A (call (.type "set") [.ref l]) Q E s:=by
 obtain ⟨c,tl,hmro⟩:=F.called_set.mro
 have hmade:=F.called_set.made
 have hsub:=F.called_set.sub
 refine wpAny_call (codeAny_of_tree ?_)
 show wpAny _ _ (callAny (.type "set") _) _ _ _
 refine wpAny_pure ⟨Code.quiet_builtin _ (by decide +kernel),codeAny_builtin F.entry_type_call ?_⟩
 rw [Around.under_plain (weight_type_call_type "set" [.ref l] []) rfl]
 have h1:=F.called_set.notType
 have h2:=F.called_set.canCreate
 have hct:=F.typeCall_set_1 (.ref l)
 repeat (any_goals (first | assumption | wp_step))
 refine codeAny_mono (wg (.ref l) (E:=E) (Q₁:=fun obj s₁=>obj=.ref s.heap.objs.size∧s₁={ s with heap:=s.heap.push { cls:=.type "set",dict:=none,data:=.set #[] 0 (.fresh 0 0 (!w.params.followText "set-order")) } }) ⟨rfl,rfl⟩) fun r s₁ hr=>?_
 cases r with
 | error e=>exact hr
 | ok fl =>
  cases fl with
  | ret obj =>
   obtain ⟨rfl,rfl⟩:=hr
   generalize hled:(!w.params.followText "set-order")=led at h0 ⊢
   have hS:(s.heap.push { cls:=.type "set",dict:=none,data:=.set #[] 0 (.fresh 0 0 led) }).get? s.heap.objs.size=some { cls:=.type "set",dict:=none,data:=.set #[] 0 (.fresh 0 0 led) }:=Heap.get?_push_size _ rfl
   have hT:Shared.TypeIs { s with heap:=s.heap.push { cls:=.type "set",dict:=none,data:=.set #[] 0 (.fresh 0 0 led) } } (.ref s.heap.objs.size) "set" := ⟨_,hS,rfl⟩
   have hli:=F.called_set.init.lookup
   have hbi:=F.called_set.init.bind (.ref s.heap.objs.size)
   repeat (any_goals (first | assumption | wp_step))
   refine codeAny_mono (codeAny_call_builtin (R:=wants (fun r s₂=>r=.none∧∃ h' tk,s₂={ s with heap:=h',toks:=tk }∧SI items.size h' ∧
     (∀ b o,b<s.heap.objs.size→s.heap.get? b=some o→h'.get? b=some o)) E) F.called_set.init.plain F.entry_set_init (check_set_init_1 hT ?_)) fun r₂ s₂ hr₂=>?_
   ·obtain ⟨ol,hol,hcl,nl,hdl⟩:=hl
    obtain ⟨ocls,odict,odata,oslots⟩:=ol
    simp only at hcl hdl
    subst hcl; subst hdl
    have hol':(s.heap.push { cls:=.type "set",dict:=none,data:=.set #[] 0 (.fresh 0 0 led) }).get? l=some { cls:=.type "list",dict:=odict,data:=.seq items nl,slots:=oslots }:=Heap.get?_push_of_some _ hol
    have hsls:=F.sub_list_set
    have hslf:=F.sub_list_frozenset
    have hne:(Value.type "list" == Value.type "dict")=false:=by decide
    have hl1:(s.heap.push { cls:=.type "set",dict:=none,data:=.set #[] 0 (.fresh 0 0 led) }).IsList l items:=⟨_,hol',rfl,nl,rfl⟩
    unfold Builtin.«set.__init__» noKeywords Builtin.Frozenset.updateFrom
    generalize hPI:pyIter=PI
    wp_walk
    subst hPI
    refine wpAny_pyIter_list hl1 ?_
    refine wpAny_bind (wpAny_runValue ?_)
    have hlS:l<s.heap.objs.size:=Heap.lt_size hol
    have hh3:A.in1.in1.in1.handled=none:=by simp [hh]
    have hsz:(s.heap.push { cls:=.type "set",dict:=none,data:=.set #[] 0 (.fresh 0 0 led) }).objs.size=s.heap.objs.size+1:=Heap.size_push ..
    have hneI:l≠(s.heap.push { cls:=.type "set",dict:=none,data:=.set #[] 0 (.fresh 0 0 led) }).objs.size:=by
     rw [hsz]; exact Nat.ne_of_lt (Nat.lt_succ_of_lt hlS)
    have hSf:s.heap.objs.size∉[(s.heap.push { cls:=.type "set",dict:=none,data:=.set #[] 0 (.fresh 0 0 led) }).objs.size,l]:=by
     rw [hsz]; simp only [List.mem_cons,List.mem_singleton,List.not_mem_nil,or_false,not_or]
     exact ⟨Nat.ne_of_lt (Nat.lt_succ_self _),Nat.ne_of_gt hlS⟩
    refine yI (Walks.list hh3 _ l hneI items) s.heap.objs.size hSf SI (fun i h h' hi hk=>keep i h h' hi fun b o hb e=>hk b o ?_ e) (fun i v s' E' Q' hP hi hq=>step i v s' E' Q' hP hi hq) (items.size - 0) 0 _ (by rfl) (Nat.zero_le _)
     ⟨⟨_,Heap.get?_push_size _ rfl,rfl,rfl⟩,(hl1.push _)⟩ ?hS0 ?hR
    ·rw [hsz]
     simp only [List.mem_cons,List.not_mem_nil,or_false]
     exact Nat.ne_of_lt (Nat.lt_succ_of_le hb)
    case hS0 =>
     exact h0 _ (Heap.get?_push_of_some _ hS) fun b o e=>Heap.get?_push_of_some _ (Heap.get?_push_of_some _ e)
    case hR =>
     intro h' tk' hS' hk'
     show wpAny _ _ _ _ _ _
     refine wpAny_pure ?_
     show wpAny _ _ (ret Value.none) _ _ _
     refine wpAny_pure ⟨rfl,h',tk',rfl,hS',fun b o hb e=>?_⟩
     refine hk' b o ?_ (Nat.ne_of_lt hb) (Heap.get?_push_of_some _ (Heap.get?_push_of_some _ e))
     rw [hsz]
     simp only [List.mem_cons,List.not_mem_nil,or_false]
     exact Nat.ne_of_lt (Nat.lt_succ_of_lt hb)
   ·cases r₂ with
    | error e=>exact hr₂
    | ok fl₂ =>
     cases fl₂ with
     | ret r =>
      obtain ⟨rfl,h',tk,rfl,hS',hk'⟩:=hr₂
      repeat (any_goals (first | assumption | wp_step))
      exact h _ _ hS' hk'
     | _=>exact hr₂.elim
  | _=>exact hr.elim
end
end TS
set_option Elab.async false
set_option linter.all false
set_option maxRecDepth 100000
set_option maxHeartbeats 4000000
namespace TS
open PySem PySem.SetTable PyProof.Rows
theorem qe:Manifest.owners.lookup (String.ofList ['r','o','t','a','r','e','t','i','_','t','e','s'].reverse)=some Manifest.sig_set_iterator:=by kernel_rfl
theorem cj:Slot "set_iterator" "__next__" "set_iterator.__next__" :=
 .of (owner := "set_iterator") (n := "__next__") (by rw [typeLookup_type,builtinLookup_eq_fast]; kernel_rfl) (by decide +kernel) (by decide +kernel) (by decide +kernel)
  (by first | exact .inl (by decide +kernel) | exact .inr (by decide +kernel)) (by rw [isSubtype_type]; kernel_rfl)
theorem lE:entryFor table "set_iterator.__next__" = some Builtin.«set_iterator.__next__» := entryFor_of_tree (by kernel_rfl)
theorem nG (a:Value):argsOk "set_iterator.__next__" ⟨[a],[]⟩:=by
 unfold argsOk; rw [signature?_of (id := "set_iterator.__next__") (n:=['_','_','t','x','e','n','_','_']) (o:=['r','o','t','a','r','e','t','i','_','t','e','s']) (by kernel_rfl) qe]; kernel_rfl
theorem gO:Slot "set_iterator" "__iter__" "set_iterator.__iter__" :=
 .of (owner := "set_iterator") (n := "__iter__") (by rw [typeLookup_type,builtinLookup_eq_fast]; kernel_rfl) (by decide +kernel) (by decide +kernel) (by decide +kernel)
  (by first | exact .inl (by decide +kernel) | exact .inr (by decide +kernel)) (by rw [isSubtype_type]; kernel_rfl)
theorem lu:entryFor table "set.__iter__" = some Builtin.«frozenset.__iter__» :=
 entryFor_alias (id' := "frozenset.__iter__") (by kernel_rfl) rfl (by decide +kernel) (by kernel_rfl)
theorem g8 {α:Type}:∀ (l:List α) (i:Nat) (h:i<l.length),(l[i] :: l.eraseIdx i).Perm l
 | x :: l,0,_=>.refl _
 | x :: l,i+1,h=>by
  have ih:=g8 l i (by simpa using h)
  exact (List.Perm.swap _ _ _).trans (ih.cons x)
theorem xN {α:Type} (next:Nat→Nat):∀ (fuel k:Nat) (left:List α) (out:Array α),left.length=fuel→(pickOrder.go next fuel k left out).toList.Perm (out.toList++left)
 | 0,k,left,out,h=>by
  have:left=[]:=List.length_eq_zero_iff.mp h
  subst this
  unfold pickOrder.go
  rw [List.append_nil]
 | fuel+1,k,left,out,h=>by
  unfold pickOrder.go
  have hlt:next k % left.length<left.length:=Nat.mod_lt _ (by walk_at "l")
  rw [List.getElem?_eq_getElem hlt]
  dsimp only
  refine (xN next fuel (k+1) _ _ (by rw [List.length_eraseIdx]; split <;> walk_at "l")).trans ?_
  rw [Array.toList_push,List.append_assoc]
  refine List.Perm.append_left _ ?_
  exact g8 _ _ hlt
theorem kh {α:Type} (next:Nat→Nat) (xs:Array α):(pickOrder next xs).toList.Perm xs.toList:=by
 unfold pickOrder
 have:=xN next xs.size 0 xs.toList #[] (by simp)
 simpa using this
section
variable {prog:Program} {w:World} {A:Around} {E:Value→Shared→Prop} {s:Shared}
theorem o_ {M:Model} {src:Source} {n:Nat} {Q:Nat→Shared→Prop} (hn:n≠0) (h:∀ i d,i<n→Q i { s with drawn:=d }):wpAny M A (choose src n) Q E s:=fun Γ p _=>⟨hn,h _ _ (Nat.mod_lt _ (Nat.pos_of_ne_zero hn))⟩
theorem zW {α:Type} (n:Nat):∀ (xs:List α) (s:Shared) (Q:List α→Shared→Prop),xs.length=n→(∀ ys d,ys.Perm xs→Q ys { s with drawn:=d })→wpAny (model prog w) A (drawOrder n xs) Q E s:=by
 induction n with
 | zero =>
  intro xs s Q h q
  have:xs=[]:=List.length_eq_zero_iff.mp h
  subst this
  unfold drawOrder
  exact wpAny_pure (q [] s.drawn (.refl _))
 | succ n ih =>
  intro xs s Q h q
  cases xs with
  | nil=>cases h
  | cons x xs =>
   unfold drawOrder
   refine wpAny_bind (o_ (by simp) fun i d hi=>?_)
   rw [List.getElem?_eq_getElem hi]
   dsimp only
   refine wpAny_bind (ih _ _ _ (by rw [List.length_eraseIdx,if_pos hi]; simp at h ⊢; walk_at "l") fun ys d' py=>?_)
   refine wpAny_pure ?_
   exact q _ d' ((py.cons _).trans (g8 _ _ hi))
noncomputable def SIt (h:Heap) (I:Addr) (first:Value) (i:Nat) (a:Addr) (n ep:Nat):Prop :=
 h.get? I=some { cls:=.type "set_iterator",dict:=none,data:=.fields #[first,.int i 0,.ref a,.int n 0,.int ep 0],slots:=#[] }
noncomputable def SOb (h:Heap) (a:Addr) (es:Array (Int × Value)) (ep:Nat) (t:SetTable):Prop:=∃ o,h.get? a=some o∧o.data=.set es ep t
variable {a I:Addr} {es:Array (Int × Value)} {ep:Nat} {t:SetTable} {first:Value} {i n:Nat}
theorem SIt.typeIs (h:SIt s.heap I first i a n ep):s.TypeIs (.ref I) "set_iterator" := ⟨_,h,rfl⟩
theorem vd {Q:Option Value→Shared→Prop} (hit:SIt s.heap I first i a n ep)
  (h:wpAny (model prog w) A.in1 (Builtin.«set_iterator.__next__» ⟨[.ref I],[]⟩) (fun fin s'=>∃ v,fin=.done (.ret v)∧Q (some v) s') (fun e s'=>wpAny (model prog w) A (isInstance e (.type "StopIteration")) (fun b s''=>b=true∧Q none s'') E s') s) :
  wpAny (model prog w) A (pyNext (.ref I)) Q E s:=by
 unfold pyNext
 refine wpAny_bind (wpAny_attempt (wpAny_callSpecial?_slot (name:=Str.ofString "__next__") hit.typeIs cj
  (wpAny_call_entry cj hit.typeIs lE ?_ (nG _))))
 refine wpAny_mono h (fun fin s' ⟨v,e,q⟩=>⟨v,e,wpAny_pure q⟩) fun e s' q=>?_
 refine wpAny_bind (wpAny_mono q (fun b s'' hx9=>?_) fun _ _ x=>x)
 obtain ⟨e,q⟩:=hx9
 subst e
 rw [if_pos rfl]
 exact wpAny_pure q
theorem vW {P:Fin→Shared→Prop} {Q:Option Value→Shared→Prop} (hh:A.handled=none) (hQ:∀ h',(∀ b o,s.heap.get? b=some o→h'.get? b=some o)→Q none { s with heap:=h' }) :
  wpAny (model prog w) A.in1 (newExc (.type "StopIteration") [] >>= fun e=>raiseNew e) P (fun e s'=>wpAny (model prog w) A (isInstance e (.type "StopIteration")) (fun b s''=>b=true∧Q none s'') E s') s:=by
 refine wpAny_bind ?_
 simp only [newExc,newTuple]
 refine wpAny_bind (wpAny_newObj_type ?_ (by size_fits))
 refine wpAny_bind (m:=firstArgMember _ _) (wpAny_of_eq (a:=Value.none) (by first | rfl | (simp only [firstArgMember]; rfl)) ?_)
 refine wpAny_newObj_type ?_ (by size_fits)
 simp only [raiseNew]
 refine wpAny_bind (wpAny_handled ?_)
 rw [show A.in1.handled=none from hh]
 refine wpAny_bind (wpAny_pure (wpAny_throw ?_))
 refine wpAny_isInstance (T := "StopIteration") (b:=true) ⟨_,Heap.get?_push_size _ rfl,rfl⟩ isSubtype_stop ⟨rfl,?_⟩
 exact hQ _ fun b o e=>Heap.get?_push_of_some _ (Heap.get?_push_of_some _ e)
theorem gB {Q:Option Value→Shared→Prop} {slot:Nat} {r:Option (Value × Nat)} (hh:A.handled=none) (hne:a≠I) (hit:SIt s.heap I (.int slot 0) i a es.size ep) (hob:SOb s.heap a es ep t) (hf:t.fits es.size=true)
  (hr:∀ (A':Around) (E':Value→Shared→Prop) (Q':Option (Value × Nat)→Shared→Prop),Q' r s→wpAny (model prog w) A' (setNext a slot i ep) Q' E' s)
  (h1:∀ x nx h',r=some (x,nx)→SIt h' I (.int nx 0) (i+1) a es.size ep→Heap.SameBut I s.heap h'→Q (some x) { s with heap:=h' })
  (h2:∀ h',r=none→(∀ b o,b≠I→s.heap.get? b=some o→h'.get? b=some o)→Q none { s with heap:=h' }) :
  wpAny (model prog w) A (pyNext (.ref I)) Q E s:=by
 obtain ⟨o,ho,hd⟩:=hob
 refine vd hit ?_
 unfold Builtin.«set_iterator.__next__»
 refine wpAny_bind (m:=slotArgs "__next__" 0 ⟨[.ref I],[]⟩) (wpAny_of_eq (a:=(.ref I,[])) rfl ?_)
 dsimp only
 refine wpAny_bind (wpAny_fieldsOf hit rfl ?_)
 dsimp only
 refine wpAny_bind (wpAny_setEntries_of ho hd hf ?_)
 rw [if_neg (by simp)]
 simp only [Int.toNat_natCast]
 refine wpAny_bind (hr _ _ _ ?_)
 cases r with
 | some p =>
  obtain ⟨x,nx⟩:=p
  dsimp only
  refine wpAny_bind (wpAny_setField_rec hit (by simp) fun g1 e1 sb1=>?_)
  refine wpAny_bind (wpAny_setField_rec (s:={ s with heap:=g1 }) e1 (by simp) fun g2 e2 sb2=>?_)
  exact wpAny_pure ⟨x,rfl,h1 x nx g2 rfl (by unfold SIt; simpa [rawInt] using e2) (sb1.trans sb2)⟩
 | none =>
  dsimp only
  refine wpAny_bind (wpAny_setField_rec hit (by simp) fun g1 e1 sb1=>?_)
  exact vW (s:={ s with heap:=g1 }) hh fun h' k=>h2 h' rfl fun b o hb e=>k b o (sb1.extBut b o hb e)
theorem lG {Q:Option Value→Shared→Prop} {T:Addr} {ix:List Nat} {oT:Obj} {kT:Nat} (hh:A.handled=none) (hit:SIt s.heap I (.ref T) i a es.size ep) (hob:SOb s.heap a es ep t) (hf:t.fits es.size=true)
  (hT:s.heap.get? T=some oT) (hTd:oT.data=.seq (ix.map fun (k:Nat)=>Value.int k 0).toArray kT)
  (h1:∀ k e h',ix[i]? = some k→es[k]? = some e→SIt h' I (.ref T) (i+1) a es.size ep→Heap.SameBut I s.heap h'→Q (some e.2) { s with heap:=h' }) (hix:∀ k∈ix,k<es.size)
  (h2:∀ h',ix[i]? = none→(∀ b o,b≠I→s.heap.get? b=some o→h'.get? b=some o)→Q none { s with heap:=h' }) :
  wpAny (model prog w) A (pyNext (.ref I)) Q E s:=by
 obtain ⟨o,ho,hd⟩:=hob
 refine vd hit ?_
 unfold Builtin.«set_iterator.__next__»
 refine wpAny_bind (m:=slotArgs "__next__" 0 ⟨[.ref I],[]⟩) (wpAny_of_eq (a:=(.ref I,[])) rfl ?_)
 dsimp only
 refine wpAny_bind (wpAny_fieldsOf hit rfl ?_)
 dsimp only
 refine wpAny_bind (wpAny_setEntries_of ho hd hf ?_)
 rw [if_neg (by simp)]
 refine wpAny_bind (wpAny_seqItems hT hTd ?_)
 dsimp only
 simp only [Int.toNat_natCast,List.getElem?_toArray,List.getElem?_map]
 cases hk:ix[i]? with
 | some k =>
  dsimp only [Option.map]
  have hkl:=hix k (List.mem_of_getElem? hk)
  refine wpAny_bind ?_
  unfold setNextDrawn
  refine wpAny_bind (wpAny_setState_of ho hd hf ?_)
  dsimp only
  simp only [Int.toNat_natCast]
  rw [if_neg (by simp),Array.getElem?_eq_getElem hkl]
  refine wpAny_pure ?_
  refine wpAny_bind (wpAny_setField_rec hit (by simp) fun g1 e1 sb1=>?_)
  exact wpAny_pure ⟨_,rfl,h1 k es[k] g1 hk (Array.getElem?_eq_getElem hkl) (by unfold SIt; simpa [rawInt] using e1) sb1⟩
 | none =>
  dsimp only [Option.map]
  refine wpAny_bind (wpAny_setField_rec hit (by simp) fun g1 e1 sb1=>?_)
  refine wpAny_bind (wpAny_setField_rec (s:={ s with heap:=g1 }) e1 (by simp) fun g2 e2 sb2=>?_)
  exact vW (s:={ s with heap:=g2 }) hh fun h' k=>h2 h' hk fun b o hb e=>k b o ((sb1.trans sb2).extBut b o hb e)
theorem mR (a:Value):argsOk "set_iterator.__iter__" ⟨[a],[]⟩:=by
 unfold argsOk; rw [signature?_of (id := "set_iterator.__iter__") (n:=['_','_','r','e','t','i','_','_']) (o:=['r','o','t','a','r','e','t','i','_','t','e','s']) (by kernel_rfl) qe]; kernel_rfl
theorem kY:entryFor table "set_iterator.__iter__" = some Builtin.«dict_keyiterator.__iter__» :=
 entryFor_alias (id' := "dict_keyiterator.__iter__") (by kernel_rfl) rfl (by decide +kernel) (by kernel_rfl)
theorem jC {Q:Value→Shared→Prop} (hit:SIt s.heap I first i a n ep) (h:Q (.ref I) s):wpAny (model prog w) A (pyIter (.ref I)) Q E s:=by
 refine wpAny_pyIter_slot hit.typeIs gO (wpAny_call_entry gO hit.typeIs kY ?_ (mR _))
 show wpAny _ _ (ret (.ref I)) _ _ s
 exact wpAny_pure ⟨_,rfl, "set_iterator",_,hit.typeIs,cj.lookup,h⟩
theorem p7 {slot:Nat} {Q:Option (Value × Nat)→Shared→Prop} (hb:w.params.followText "set-order" = true) (hob:SOb s.heap a es ep t) (hf:t.fits es.size=true)
  (h:Q (((pickOrder (w.params.setOrder a ep) es)[i]?).map fun e=>(e.2,slot)) s):wpAny (model prog w) A (setNext a slot i ep) Q E s:=by
 obtain ⟨o,ho,hd⟩:=hob
 unfold setNext
 refine wpAny_bind (wpAny_setState_of ho hd hf ?_)
 dsimp only
 unfold setsByText
 refine wpAny_bind (wpAny_bind (wpAny_askSetting (wpAny_pure ?_)))
 dsimp only
 rw [if_pos (by exact hb),if_neg (by simp)]
 refine wpAny_bind ?_
 unfold setWalk
 refine wpAny_bind (wpAny_setState_of ho hd hf ?_)
 dsimp only
 unfold setsByText
 refine wpAny_bind (wpAny_bind (wpAny_askSetting (wpAny_pure ?_)))
 dsimp only
 rw [if_pos (by exact hb)]
 refine wpAny_bind (wpAny_askSetting (wpAny_pure ?_))
 exact wpAny_pure h
theorem lX {slot:Nat} {Q:Option (Value × Nat)→Shared→Prop} (hb:w.params.followText "set-order" = false) (hl:t.led=true) (hdr:(!t.plain && decide (es.size>1))=false) (hob:SOb s.heap a es ep t) (hf:t.fits es.size=true)
  (h:Q (match es[below t.place slot]?,t.place[below t.place slot]? with
  | some (_,x),some j=>some (x,j+1)
  | _,_=>none) s):wpAny (model prog w) A (setNext a slot i ep) Q E s:=by
 obtain ⟨o,ho,hd⟩:=hob
 unfold setNext
 refine wpAny_bind (wpAny_setState_of ho hd hf ?_)
 dsimp only
 unfold setsByText
 refine wpAny_bind (wpAny_bind (wpAny_askSetting (wpAny_pure ?_)))
 dsimp only
 rw [if_neg (by rw [show (model prog w).w.params.followText "set-order" = false from hb]; exact Bool.false_ne_true)]
 have e0:mO es t=(!t.plain && decide (es.size>1)):=rfl
 unfold mO at e0
 rw [e0,hdr,if_neg Bool.false_ne_true]
 refine wpAny_bind (m:=Fx es t) ?_
 show wpAny _ _ (if (!t.led && !es.isEmpty)=true then unsupported "set:maker-not-led" else pure ()) _ _ s
 rw [if_neg (by rw [hl]; simp)]
 exact wpAny_pure (wpAny_pure h)
noncomputable def PV (ys:List (Int × Value)) (i:Nat) (v:Value):Prop:=∃ e,ys[i]? = some e∧v=e.2
theorem SIt.keep {h h':Heap} (x:SIt h I first i a n ep) (e:∀ o,h.get? I=some o→h'.get? I=some o):SIt h' I first i a n ep:=e _ x
theorem SOb.keep {h h':Heap} (x:SOb h a es ep t) (e:∀ o,h.get? a=some o→h'.get? a=some o):SOb h' a es ep t:=let ⟨o,ho,r⟩:=x; ⟨o,e _ ho,r⟩
theorem vg (hh:A.handled=none) (hne:a≠I) (hb:w.params.followText "set-order" = true) (hf:t.fits es.size=true) :
  Walks prog w A I [I,a] [I] es.size (PV (pickOrder (w.params.setOrder a ep) es).toList) (fun i h=>(∃ slot:Nat,SIt h I (.int slot 0) i a es.size ep)∧SOb h a es ep t) where
 sub:=fun b hb=>by simp at hb; simp [hb]
 frame:=fun _ _ _ ⟨⟨sl,x⟩,y⟩ hk=>⟨⟨sl,x.keep fun o e=>hk I (by simp) o e⟩,y.keep fun o e=>hk a (by simp) o e⟩
 item:=fun i s Q E hi ⟨⟨sl,x⟩,y⟩ hQ=>by
  have hlen:(pickOrder (w.params.setOrder a ep) es).size=es.size:=by
   have:=(kh (w.params.setOrder a ep) es).length_eq
   simpa using this
  refine gB hh hne x y hf (r:=((pickOrder (w.params.setOrder a ep) es)[i]?).map fun e=>(e.2,sl)) (fun A' E' Q' q=>p7 hb y hf q) (fun v nx h' e x' sb=>?_) fun h' e k=>?_
  ·rw [Array.getElem?_eq_getElem (by walk_at "l")] at e
   cases e
   exact hQ _ h' s.toks ⟨_,by rw [Array.getElem?_toList]; exact Array.getElem?_eq_getElem (by walk_at "l"),rfl⟩ ⟨⟨_,x'⟩,y.keep fun o e=>sb.extBut _ _ hne e⟩ fun b o hb e=>sb.extBut b o (fun h=>hb (by simp [h])) e
  ·rw [Array.getElem?_eq_getElem (by walk_at "l")] at e
   cases e
 done:=fun s Q E ⟨⟨sl,x⟩,y⟩ hQ=>by
  have hlen:(pickOrder (w.params.setOrder a ep) es).size=es.size:=by
   have:=(kh (w.params.setOrder a ep) es).length_eq
   simpa using this
  refine gB hh hne x y hf (r:=((pickOrder (w.params.setOrder a ep) es)[es.size]?).map fun e=>(e.2,sl)) (fun A' E' Q' q=>p7 hb y hf q) (fun v nx h' e x' sb=>?_) fun h' e k=>?_
  ·rw [Array.getElem?_eq_none (by walk_at "l")] at e
   cases e
  ·exact hQ h' s.toks fun b o hb e=>k b o (fun h=>hb (by simp [h])) e
 self:=fun _ _ _ _ ⟨⟨sl,x⟩,y⟩ hQ=>jC x hQ
noncomputable def slotAt (t:SetTable):Nat→Nat
 | 0=>0
 | i+1=>t.place.getD i 0+1
theorem iT (U:Up t.place) {i:Nat} (h:i≤t.place.size):below t.place (slotAt t i)=i:=by
 cases i with
 | zero =>
  obtain ⟨_,b,_⟩:=aZ U 0
  by_cases z:below t.place 0=0
  ·exact z
  ·exact absurd (b 0 (Nat.pos_of_ne_zero z)) (Nat.not_lt_zero _)
 | succ i=>exact uv U (by assumption)
theorem uH (hh:A.handled=none) (hne:a≠I) (hb:w.params.followText "set-order" = false) (hl:t.led=true) (hdr:(!t.plain && decide (es.size>1))=false) (U:Up t.place) (hz:t.place.size=es.size) (hf:t.fits es.size=true) :
  Walks prog w A I [I,a] [I] es.size (PV es.toList) (fun i h=>SIt h I (.int (slotAt t i:Nat) 0) i a es.size ep∧SOb h a es ep t) where
 sub:=fun b hb=>by simp at hb; simp [hb]
 frame:=fun _ _ _ ⟨x,y⟩ hk=>⟨x.keep fun o e=>hk I (by simp) o e,y.keep fun o e=>hk a (by simp) o e⟩
 item:=fun i s Q E hi ⟨x,y⟩ hQ=>by
  have hbl:=iT (t:=t) U (i:=i) (by walk_at "l")
  have e1:es[below t.place (slotAt t i)]? = some es[i]:=by rw [hbl]; exact Array.getElem?_eq_getElem hi
  have e2:t.place[below t.place (slotAt t i)]? = some (t.place.getD i 0):=by rw [hbl]; exact wX (by walk_at "l")
  refine gB hh hne x y hf (r:=some (es[i].2,t.place.getD i 0+1)) (fun A' E' Q' q=>lX hb hl hdr y hf (by rw [e1,e2]; exact q)) (fun v nx h' e x' sb=>?_) fun h' e k=>nomatch e
  cases e
  exact hQ _ h' s.toks ⟨_,by rw [Array.getElem?_toList]; exact Array.getElem?_eq_getElem hi,rfl⟩ ⟨x',y.keep fun o e=>sb.extBut _ _ hne e⟩ fun b o hb e=>sb.extBut b o (fun h=>hb (by simp [h])) e
 done:=fun s Q E ⟨x,y⟩ hQ=>by
  have hbl:=iT (t:=t) U (i:=es.size) (by walk_at "l")
  have e1:es[below t.place (slotAt t es.size)]? = none:=by rw [hbl]; exact Array.getElem?_eq_none (Nat.le_refl _)
  refine gB hh hne x y hf (r:=none) (fun A' E' Q' q=>lX hb hl hdr y hf (by rw [e1]; exact q)) (fun v nx h' e x' sb=>nomatch e) fun h' e k=>?_
  exact hQ h' s.toks fun b o hb e=>k b o (fun h=>hb (by simp [h])) e
 self:=fun _ _ _ _ ⟨x,y⟩ hQ=>jC x hQ
theorem uP {T:Addr} {ix:List Nat} {kT:Nat} (hh:A.handled=none) (hne:a≠I) (hTI:T≠I) (hf:t.fits es.size=true) (hp:ix.Perm (List.range es.size)) :
  Walks prog w A I [I,a,T] [I] es.size (PV (ix.filterMap fun k=>es[k]?)) (fun i h=>SIt h I (.ref T) i a es.size ep∧SOb h a es ep t∧∃ o,h.get? T=some o∧o.data=.seq (ix.map fun (k:Nat)=>Value.int k 0).toArray kT):=by
 have hlen:ix.length=es.size:=by simpa using hp.length_eq
 have hix:∀ k∈ix,k<es.size:=fun k hk=>List.mem_range.mp (hp.mem_iff.mp hk)
 obtain ⟨f1,f2⟩:=sO (l:=ix) (f:=fun k=>es[k]?) fun k hk=>by simp [hix k hk]
 exact {
  sub:=fun b hb=>by simp at hb; simp [hb]
  frame:=fun _ _ _ ⟨x,y,o,z,zd⟩ hk=>⟨x.keep fun o e=>hk I (by simp) o e,y.keep fun o e=>hk a (by simp) o e,o,hk T (by simp) o z,zd⟩
  item:=fun i s Q E hi ⟨x,y,o,z,zd⟩ hQ=>by
   refine lG hh x y hf z zd (fun k e h' e1 e2 x' sb=>?_) hix fun h' e k=>?_
   ·refine hQ _ h' s.toks ⟨e,by rw [f2,e1]; exact e2,rfl⟩ ⟨x',y.keep fun o e=>sb.extBut _ _ hne e,o,sb.extBut _ _ hTI z,zd⟩ fun b o hb e=>sb.extBut b o (fun h=>hb (by simp [h])) e
   ·rw [List.getElem?_eq_getElem (by walk_at "l")] at e; cases e
  done:=fun s Q E ⟨x,y,o,z,zd⟩ hQ=>by
   refine lG hh x y hf z zd (fun k e h' e1 e2 x' sb=>?_) hix fun h' e k=>?_
   ·rw [List.getElem?_eq_none (by walk_at "l")] at e1; cases e1
   ·exact hQ h' s.toks fun b o hb e=>k b o (fun h=>hb (by simp [h])) e
  self:=fun _ _ _ _ ⟨x,_⟩ hQ=>jC x hQ }
end
end TS
set_option Elab.async false
set_option linter.all false
set_option maxRecDepth 100000
set_option maxHeartbeats 4000000
namespace TS
open PySem PySem.SetTable PyProof.Rows
section
variable {prog:Program} {w:World} {A:Around} {E:Value→Shared→Prop} {s:Shared} {a:Addr} {o:Obj} {es:Array (Int × Value)} {ep:Nat} {t:SetTable}
theorem yK {Q:Value→Shared→Prop} (hh:A.handled=none) (ho:s.heap.get? a=some o) (hex:o.ExactSet) (hd:o.data=.set es ep t) (hf:t.fits es.size=true) (U:Up t.place) (hz:t.place.size=es.size) (hl:t.led=(!w.params.followText "set-order")) (hn:es.size≤sizeLine)
  (h:∀ (I:Addr) (h2:Heap) d (fp:List Addr) (St:Nat→Heap→Prop) (ys:List (Int × Value)),(∀ b o,s.heap.get? b=some o→h2.get? b=some o)→s.heap.objs.size≤I→(∀ b∈fp,b=a∨s.heap.objs.size≤b)→ys.Perm es.toList →
   Walks prog w A I fp [I] es.size (PV ys) St→St 0 h2→Q (.ref I) { s with heap:=h2,drawn:=d }):wpAny (model prog w) A (pyIter (.ref a)) Q E s:=by
 have hT:s.TypeIs (.ref a) "set" := ⟨o,ho,hex.1⟩
 have hlt:a<s.heap.objs.size:=Heap.lt_size ho
 refine wpAny_pyIter_slot hT F.slot_set_iter (wpAny_call_entry F.slot_set_iter hT lu ?_ (F.args_set_iter_1 _))
 unfold Builtin.«frozenset.__iter__»
 refine wpAny_bind (m:=Builtin.Frozenset.slot0 "__iter__" ⟨[.ref a],[]⟩) (wpAny_of_eq (a:=a) rfl ?_)
 refine wpAny_bind ?_
 unfold Builtin.Frozenset.sizeOf
 refine wpAny_bind (wpAny_setEntries_of ho hd hf (wpAny_pure ?_))
 refine wpAny_bind ?_
 unfold setDrawn
 refine wpAny_bind (wpAny_setState_of ho hd hf ?_)
 dsimp only
 unfold setsByText
 refine wpAny_bind (wpAny_bind (wpAny_askSetting (wpAny_pure ?_)))
 refine wpAny_pure ?_
 have e0:mO es t=(!t.plain && decide (es.size>1)):=rfl
 unfold mO at e0
 rw [e0]
 show wpAny _ _ (if (!w.params.followText "set-order" && (!t.plain && decide (es.size>1)))=true then _ else _) _ _ s
 cases hb:w.params.followText "set-order" with
 | true =>
  rw [if_neg (by simp)]
  refine wpAny_bind (wpAny_pure ?_)
  refine wpAny_bind (wpAny_setEpoch_of ho hd hf ?_)
  refine wpAny_bind (wpAny_newObj_type ?_)
  refine wpAny_pure ⟨_,rfl, "set_iterator",_,⟨_,Heap.get?_push_size _ rfl,rfl⟩,cj.lookup,?_⟩
  have ho':(s.heap.push { cls:=.type "set_iterator",data:=.fields #[rawInt 0,rawInt 0,.ref a,rawInt es.size,rawInt ep] }).get? a=some o:=Heap.get?_push_of_some _ ho
  exact h s.heap.objs.size _ s.drawn _ _ _ (fun b o e=>Heap.get?_push_of_some _ e) (Nat.le_refl _) (fun b hb=>by
   rcases List.mem_cons.mp hb with rfl | hb
   ·exact .inr (Nat.le_refl _)
   ·exact .inl (List.mem_singleton.mp hb)) (kh _ _) (vg (ep:=ep) hh (Nat.ne_of_lt hlt) hb hf) ⟨⟨0,Heap.get?_push_size _ rfl⟩,o,ho',hd⟩
 | false =>
  cases hdr:(!t.plain && decide (es.size>1)) with
  | false =>
   rw [if_neg (by simp)]
   refine wpAny_bind (wpAny_pure ?_)
   refine wpAny_bind (wpAny_setEpoch_of ho hd hf ?_)
   refine wpAny_bind (wpAny_newObj_type ?_)
   refine wpAny_pure ⟨_,rfl, "set_iterator",_,⟨_,Heap.get?_push_size _ rfl,rfl⟩,cj.lookup,?_⟩
   have ho':(s.heap.push { cls:=.type "set_iterator",data:=.fields #[rawInt 0,rawInt 0,.ref a,rawInt es.size,rawInt ep] }).get? a=some o:=Heap.get?_push_of_some _ ho
   exact h s.heap.objs.size _ s.drawn _ _ _ (fun b o e=>Heap.get?_push_of_some _ e) (Nat.le_refl _) (fun b hb=>by
    rcases List.mem_cons.mp hb with rfl | hb
    ·exact .inr (Nat.le_refl _)
    ·exact .inl (List.mem_singleton.mp hb)) (.refl _) (uH (ep:=ep) hh (Nat.ne_of_lt hlt) hb (by rw [hl,hb]; rfl) hdr U hz hf) ⟨Heap.get?_push_size _ rfl,o,ho',hd⟩
  | true =>
   rw [if_pos (by simp)]
   refine wpAny_bind (zW es.size (List.range es.size) s _ (by simp) fun ix d hp=>?_)
   refine wpAny_bind (wpAny_newObj_type ?_ ?hzz)
   case hzz =>
    have:=hp.length_eq
    rw [List.length_range] at this
    show (ix.map fun (i:Nat)=>rawInt i).toArray.size≤sizeLine
    rw [List.size_toArray,List.length_map,this]; exact hn
   have ho1:(s.heap.push { cls:=.type "tuple",data:=.seq (ix.map fun (i:Nat)=>rawInt i).toArray }).get? a=some o:=Heap.get?_push_of_some _ ho
   refine wpAny_bind (wpAny_setEpoch_of ho1 hd hf ?_)
   refine wpAny_bind (wpAny_newObj_type ?_)
   refine wpAny_pure ⟨_,rfl, "set_iterator",_,⟨_,Heap.get?_push_size _ rfl,rfl⟩,cj.lookup,?_⟩
   have hs1:(s.heap.push { cls:=.type "tuple",data:=.seq (ix.map fun (i:Nat)=>rawInt i).toArray }).objs.size=s.heap.objs.size+1:=Heap.size_push ..
   refine h (s.heap.push { cls:=.type "tuple",data:=.seq (ix.map fun (i:Nat)=>rawInt i).toArray }).objs.size _ d [(s.heap.push { cls:=.type "tuple",data:=.seq (ix.map fun (i:Nat)=>rawInt i).toArray }).objs.size,a,s.heap.objs.size] _ (ix.filterMap fun k=>es[k]?) (fun b o e=>Heap.get?_push_of_some _ (Heap.get?_push_of_some _ e)) (by rw [hs1]; exact Nat.le_succ _) (fun b hb=>?_) ?_
    (uP (ep:=ep) (kT:=0) (T:=s.heap.objs.size) (ix:=ix) (t:=t) hh (by rw [hs1]; exact Nat.ne_of_lt (Nat.lt_succ_of_lt hlt)) (by rw [hs1]; exact Nat.ne_of_lt (Nat.lt_succ_self _)) hf hp) ⟨Heap.get?_push_size _ rfl,⟨o,Heap.get?_push_of_some _ ho1,hd⟩,_,Heap.get?_push_of_some _ (Heap.get?_push_size _ rfl),rfl⟩
   ·rcases List.mem_cons.mp hb with rfl | hb
    ·exact .inr (by rw [hs1]; exact Nat.le_succ _)
    ·rcases List.mem_cons.mp hb with rfl | hb
     ·exact .inl rfl
     ·rw [List.mem_singleton.mp hb]; exact .inr (Nat.le_refl _)
   ·have:=hp.filterMap fun k=>es[k]?
    rw [tO] at this
    exact this
theorem yH {Q:Bool→Shared→Prop} (hT:s.TypeIs (.ref a) "set") (h:Q false s):wpAny (model prog w) A (Builtin.List.listLengthHint (.ref a)) Q E s:=by
 unfold Builtin.List.listLengthHint
 refine wpAny_bind (wpAny_specialOf hT PySem.F.slot_set_len.lookup ?_)
 generalize hid:("set.__len__" : String)=id0
 wp_delta
 rw [show splitId id0=some ("set", "__len__") from by subst hid; decide +kernel]
 subst hid
 refine wpAny_bind (wpAny_isInstance (T := "set") (b:=true) hT (by rw [isSubtype_type]; kernel_rfl) ?_)
 refine wpAny_ite_split (fun hab=>absurd hab (by decide)) (fun _=>?_)
 refine wpAny_ite_split (fun _=>?_) (fun hab=>absurd (by decide +kernel) hab)
 refine wpAny_bind (wpAny_typeOf hT ?_)
 exact wpAny_pure h
theorem Cv {R:Result→Shared→Prop} (hh:A.handled=none) (ho:s.heap.get? a=some o) (hex:o.ExactSet) (hd:o.data=.set es ep t) (hf:t.fits es.size=true) (U:Up t.place) (hz:t.place.size=es.size) (hl:t.led=(!w.params.followText "set-order")) (hn:es.size≤sizeLine)
  (S:Addr) (hSa:S≠a) (res:Value) (c₀:Nat) (hS:s.heap.get? S=some { cls:=.type "list",data:=.seq #[] c₀ })
  (hR:∀ h' tk d acc' c' ys,(∀ b o,b≠S→s.heap.get? b=some o→h'.get? b=some o)→h'.get? S=some { cls:=.type "list",dict:=none,data:=.seq acc' c',slots:=#[] }→ys.Perm es.toList→ItemsOf (PV ys) acc' es.size→R (.ok (.ret res)) { s with heap:=h',toks:=tk,drawn:=d }) :
  wpAny (model prog w) A.in1 (Builtin.List.listExtendWith (.ref S) (.ref a) res)
   (fun fin s'=>match fin with | .done f=>R (.ok f) s' | .again c'=>c'.quiet=true∧codeAny (model prog w) A c' R s') (fun e s'=>R (.error e) s') s:=by
 have hT:s.TypeIs (.ref a) "set" := ⟨o,ho,hex.1⟩
 have hSl:=Heap.lt_size hS
 unfold Builtin.List.listExtendWith
 refine wpAny_bind (wpAny_typeOf hT ?_)
 have h1:Builtin.List.listSameRef (.ref S) (.ref a)=false:=by simp [Builtin.List.listSameRef,hSa]
 simp only [h1,show (Value.type "set" == Value.type "list")=false by decide,show (Value.type "set" == Value.type "tuple")=false by decide,Bool.or_false,Bool.false_eq_true,if_false]
 refine wpAny_bind (yK (A:=A.in1) hh ho hex hd hf U hz hl hn fun I h2 d fp St ys kp hI hfp hp W st=>?_)
 have hSf:S∉fp:=fun hm=>by
  rcases hfp S hm with z | z
  ·exact hSa z
  ·exact absurd hSl (Nat.not_lt.mpr z)
 have key:∀ (h:Heap) (c₁ tk:Nat),St 0 h→(∀ b o,b≠S→s.heap.get? b=some o→h.get? b=some o) →
   h.get? S=some { cls:=.type "list",data:=.seq #[] c₁ }→codeAny (model prog w) A (.builtin "list.extend.loop" ⟨[.ref S,.ref I,res],[]⟩) R { s with heap:=h,toks:=tk,drawn:=d }:=by
  intro h c₁ tk hst hk hS₁
  refine codeAny_extend_loopS W.toS hn S hSf res es.size 0 _ #[] c₁ rfl (Nat.zero_le _) hst hS₁ (ItemsOf.nil _) fun s' acc' c' hm hS' hacc=>?_
  rw [Moved.eq_with hm]
  refine hR s'.heap s'.toks d acc' c' ys (fun b o hb e=>hm.heap b o (fun hmem=>?_) (hk b o hb e)) hS' hp hacc
  rcases List.mem_cons.mp hmem with e' | hmem
  ·exact hb e'
  ·exact absurd (Heap.lt_size e) (by rw [List.mem_singleton.mp hmem]; exact Nat.not_lt.mpr hI)
 have hS₁:h2.get? S=some { cls:=.type "list",data:=.seq #[] c₀ }:=kp _ _ hS
 refine wpAny_bind (wpAny_holding (yH (s:={ s with heap:=h2,drawn:=d }) ⟨o,kp _ _ ho,hex.1⟩ ?_))
 refine wpAny_ite_split (fun _=>?_) (fun _=>wpAny_pure ⟨plainId_quiet PySem.F.plain_extend_loop _,key _ c₀ _ st (fun b o _ e=>kp b o e) hS₁⟩)
 refine wpAny_bind (wpAny_rule ?_)
 refine wpAny_bind ?_
 show wpAny _ _ (updateSeq S (·.push .none) >>= fun _=>updateSeq S (·.pop)) _ _ _
 refine wpAny_bind (wpAny_updateSeq hS₁ rfl ?_)
 have hS₂:=Heap.get?_update_self (Obj.mapSeq (·.push Value.none)) hS₁ rfl
 refine wpAny_updateSeq (hz:=by seq_fits) hS₂ rfl ?_
 have hS₃:=Heap.get?_update_self (Obj.mapSeq (·.pop)) hS₂ rfl
 refine wpAny_pure ⟨plainId_quiet PySem.F.plain_extend_loop _,key _ _ _ ?_ (fun b o hb e=>?_) hS₃⟩
 ·refine W.frame 0 _ _ st fun b hb o e=>?_
  have hbS:b≠S:=fun h=>hSf (h ▸ hb)
  exact (Heap.get?_update_other _ _ (Ne.symm hbS)).trans ((Heap.get?_update_other _ _ (Ne.symm hbS)).trans e)
 ·exact (Heap.get?_update_other _ _ (Ne.symm hb)).trans ((Heap.get?_update_other _ _ (Ne.symm hb)).trans (kp _ _ e))
theorem uQ {ys:List (Int × Value)} {acc:Array Value} {n:Nat} (h:ItemsOf (PV ys) acc n) (hn:ys.length=n):acc.toList=ys.map (·.2):=by
 apply List.ext_getElem?
 intro i
 rw [List.getElem?_map]
 by_cases hi:i<n
 ·have hi':i<acc.size:=by rw [h.1]; exact hi
  have e1:acc[i]? = some acc[i]:=Array.getElem?_eq_getElem hi'
  obtain ⟨e,he,hv⟩:=h.2 i acc[i] e1
  rw [Array.getElem?_toList,e1,he,hv]; rfl
 ·rw [List.getElem?_eq_none (by rw [Array.length_toList,h.1]; exact Nat.le_of_not_lt ‹_›),List.getElem?_eq_none (by walk_at "l")]; rfl
theorem iZ {R:Result→Shared→Prop} (hh:A.handled=none) (ho:s.heap.get? a=some o) (hex:o.ExactSet) (hd:o.data=.set es ep t) (hf:t.fits es.size=true) (U:Up t.place) (hz:t.place.size=es.size) (hl:t.led=(!w.params.followText "set-order")) (hn:es.size≤sizeLine)
  (hR:∀ h' tk d acc' c' ys,(∀ b o,s.heap.get? b=some o→h'.get? b=some o)→h'.get? s.heap.objs.size=some { cls:=.type "list",dict:=none,data:=.seq acc' c',slots:=#[] }→ys.Perm es.toList→ItemsOf (PV ys) acc' es.size→R (.ok (.ret (.ref s.heap.objs.size))) { s with heap:=h',toks:=tk,drawn:=d }) :
  codeAny (model prog w) A (.builtin "proto.collect" ⟨[.ref a],[]⟩) R s:=by
 have hlt:a<s.heap.objs.size:=Heap.lt_size ho
 have hS:(s.heap.push { cls:=.type "list",data:=.seq ([]:List Value).toArray }).get? s.heap.objs.size=some { cls:=.type "list",data:=.seq ([]:List Value).toArray }:=Heap.get?_push_size _ rfl
 refine codeAny_builtin F.entry_proto_collect ?_
 rw [Around.under_plainId F.plain_proto_collect _]
 show wpAny _ A.in1 (newList [] >>= fun l=>again (.builtin "list.__iadd__" ⟨[l,.ref a],[]⟩)) _ _ s
 refine wpAny_bind (wpAny_newObj_type ?_)
 refine wpAny_pure ⟨plainId_quiet F.plain_list_iadd _,codeAny_builtin F.entry_list_iadd ?_⟩
 rw [Around.under_plainId F.plain_list_iadd _]
 show wpAny _ A.in1 (Builtin.List.listExtendWith (.ref s.heap.objs.size) (.ref a) (.ref s.heap.objs.size)) _ _ _
 exact Cv (R:=R) (s:={ s with heap:=s.heap.push { cls:=.type "list",data:=.seq ([]:List Value).toArray } }) hh (Heap.get?_push_of_some _ ho) hex hd hf U hz hl hn s.heap.objs.size (Nat.ne_of_gt hlt) _ 0 hS fun h' tk d acc' c' ys kp eo hp ia =>
  hR h' tk d acc' c' ys (fun b o e=>kp b o (Nat.ne_of_lt (Heap.lt_size e)) (Heap.get?_push_of_some _ e)) eo hp ia
theorem jW {Q:List Value→Shared→Prop} (hh:A.handled=none) (ho:s.heap.get? a=some o) (hex:o.ExactSet) (hd:o.data=.set es ep t) (hf:t.fits es.size=true) (U:Up t.place) (hz:t.place.size=es.size) (hl:t.led=(!w.params.followText "set-order")) (hn:es.size≤sizeLine)
  (hQ:∀ h' tk d vs,(∀ b o,s.heap.get? b=some o→h'.get? b=some o)→s.heap.objs.size≤h'.objs.size→vs.Perm (es.toList.map (·.2))→Q vs { s with heap:=h',toks:=tk,drawn:=d }):wpAny (model prog w) A (collect (.ref a)) Q E s:=by
 unfold collect
 refine wpAny_bind (wpAny_runValue (iZ hh ho hex hd hf U hz hl hn fun h' tk d acc c ys kp eo hp ia=>?_))
 show wpAny _ A (load s.heap.objs.size >>= _) _ _ { s with heap:=h',toks:=tk,drawn:=d }
 refine wpAny_bind (wpAny_load eo ?_)
 refine wpAny_pure (hQ h' tk d _ kp (Nat.le_of_lt (Heap.lt_size eo)) ?_)
 rw [uQ ia (by rw [hp.length_eq]; simp)]
 exact hp.map _
end
end TS
namespace Tim
open PySem PyProof.Rows
section
variable {prog:Program} {w:World} {A:Around} {E:Value→Shared→Prop} {s:Shared} {κ:SortKind} {r:Value→Int} {P:Value→Prop}
theorem j8 {v:Value} {R:List Value→Prop} {Q:Value→Shared→Prop}
  (hcol:∀ (A':Around) (E':Value→Shared→Prop) (Q':List Value→Shared→Prop),A'.handled=A.handled→(∀ vs h1 tk d,R vs→(∀ b o,s.heap.get? b=some o→h1.get? b=some o)→s.heap.objs.size≤h1.objs.size→Q' vs { s with heap:=h1,toks:=tk,drawn:=d })→wpAny (model prog w) A' (collect v) Q' E' s)
  (hsz:∀ vs,R vs→vs.length≤63) (hP:∀ vs,R vs→∀ v∈vs,P v)
  (hk:∀ vs,R vs→2≤vs.length→∀ (A':Around) (E':Value→Shared→Prop) (s':Shared),(∀ b o,s.heap.get? b=some o→s'.heap.get? b=some o)→∀ (Q:SortKind→Shared→Prop),Q κ s'→wpAny (model prog w) A' (keyKind' vs.toArray) Q E' s')
  (C:∀ (s':Shared),(∀ b o,s.heap.get? b=some o→s'.heap.get? b=some o)→Cmp prog w A.in1.in1 s' κ r P)
  (h:∀ (vs:List Value) (h':Heap) (a:Addr) (out:List Value) (n tk:Nat) d,R vs→out.Perm vs→(out.Pairwise fun x y=>r x≤r y)→(∀ b o,s.heap.get? b=some o→h'.get? b=some o)→s.heap.objs.size≤a→h'.get? a=some (seqObj "list" out.toArray n)→Q (.ref a) { s with heap:=h',toks:=tk,drawn:=d }) :
  wpAny (model prog w) A (call (.builtin "sorted") [v]) Q E s:=by
 refine Calls.call_function_entry kind_sorted plain_sorted entry_sorted (args_sorted1 _) ?_
 unfold Builtin.«sorted»
 refine wpAny_bind (m:=checkCount "sorted" 1 1 _) (wpAny_pure ?_)
 refine wpAny_bind (hcol _ _ _ rfl fun vs h1 tk d hR kp hz=>?_)
 have h63:=hsz vs hR
 have hsz':vs.length≤sizeLine:=Nat.le_trans h63 (by rw [sizeLine_eq]; decide)
 refine wpAny_bind (wpAny_newList ?_ (by simpa using hsz'))
 have hoL:(h1.push (seqObj "list" vs.toArray 0)).get? h1.objs.size=some (seqObj "list" vs.toArray 0):=Heap.get?_push_size _ rfl
 have old:∀ b o,s.heap.get? b=some o→(eE (h1.push (seqObj "list" vs.toArray 0)) h1.objs.size vs).get? b=some o:=fun b o e=>by
  have hlt:b<h1.objs.size:=Heap.lt_size (kp b o e)
  rw [qT (Nat.ne_of_lt hlt) (by rw [size_push']; exact Nat.lt_succ_of_lt hlt)]
  exact Heap.get?_push_of_some _ (kp b o e)
 show wpAny _ _ _ _ _ { s with heap:=h1.push (seqObj "list" vs.toArray 0),toks:=tk,drawn:=d }
 refine wpAny_bind (wpAny_holding (wpAny_call_entry slot_list_sort ⟨_,hoL,rfl⟩ entry_list_sort (pC (r:=r) (s:={ s with heap:=h1.push (seqObj "list" vs.toArray 0),toks:=tk,drawn:=d }) hoL h63 (hP vs hR)
  (fun h2=>hk vs hR h2 _ _ _ old) (fun h2=>C _ old) fun out a1 a2=>⟨_,rfl,?_⟩) (args_list_sort _)))
 obtain ⟨n,e⟩:=sortedHeap_at (out:=out) hoL
 refine wpAny_pure ⟨_,rfl,h vs _ h1.objs.size out.toList n tk d hR a1 a2 (fun b o e=>?_) hz (by rw [Array.toArray_toList]; exact e)⟩
 have hlt:b<h1.objs.size:=Heap.lt_size (kp b o e)
 rw [sortedHeap_old (Nat.ne_of_lt hlt) (by rw [size_push']; exact Nat.lt_succ_of_lt hlt)]
 exact Heap.get?_push_of_some _ (kp b o e)
end
end Tim
set_option Elab.async false
set_option linter.all false
set_option maxRecDepth 100000
set_option maxHeartbeats 4000000
namespace TS
open PySem PySem.SetTable PyProof.Rows
section
variable {prog:Program} {w:World} {K:Type} [DecidableEq K] {knd:KeyKind prog w K} {A:Around} {E:Value→Shared→Prop} {s:Shared}
theorem sW {α:Type} (led:Bool):TI (α:=α) (SetTable.fresh 0 0 led) #[] :=
 ⟨⟨3,rfl,Nat.le_refl _⟩,rfl,fun i j h hj=>absurd hj (Nat.not_lt_zero _),fun i hi=>absurd hi (Nat.not_lt_zero _),rfl,(by show 0 * 5<7 * 3; decide),fun i h x e=>by simp at e⟩
theorem p6 {l:Addr} {items:Array Value} {xs:List (List K × Addr)} {Q:Value→Shared→Prop} (hh:A.handled=none) (hu:A.units+8<cLine) (hl:s.heap.IsList l items) (hi:items.toList=xs.map fun p=>Value.ref p.2)
  (his:∀ p∈xs,IsTupleKey knd s.heap p.1 p.2) (hz:xs.length≤63) (hsc:∀ k v,knd.is k v=true→v.scannable=true)
  (h:∀ h' tk ks,SetT knd h' s.heap.objs.size ks→(∀ k,k∈ks.map (·.1)↔k∈xs.map (·.1))→(∀ p∈ks,p∈xs)→(∀ b o,s.heap.get? b=some o→h'.get? b=some o)→Q (.ref s.heap.objs.size) { s with heap:=h',toks:=tk }) :
  wpAny (model prog w) A (call (.type "set") [.ref l]) Q E s:=by
 have lt:∀ p∈xs,p.2<s.heap.objs.size:=fun p hp=>by
  obtain ⟨o,_,_,ho,_⟩:=his p hp
  exact Heap.lt_size ho
 refine iQ hh hl (fun i h=>∃ ks,SetT knd h s.heap.objs.size ks∧(∀ k,k∈ks.map (·.1)↔k∈(xs.take i).map (·.1))∧(∀ p∈ks,p∈xs)∧ks.length≤i∧∀ p∈xs,IsTupleKey knd h p.1 p.2) (fun h e k=>?_) (fun i h h' ⟨ks,S,m1,m2,m3,m4⟩ k=>?_) (fun i v s' E' Q' hv ⟨ks,S,m1,m2,m3,m4⟩ q=>?_) fun h' tk ⟨ks,S,m1,m2,m3,m4⟩ k=>?_
 ·exact ⟨[],⟨⟨_,#[],0,_,e,⟨rfl,rfl,rfl⟩,rfl,sW _,(by show 7≤8191; decide),rfl,rfl⟩,List.nodup_nil,fun p hp=>nomatch hp⟩,fun k=>by simp,(fun p hp=>nomatch hp),Nat.le_refl _,fun p hp=>IsTupleKey.stay (his p hp) fun o ho=>k _ _ ho⟩
 ·obtain ⟨⟨o,es,ep,t,ho,r⟩,nd,is⟩:=S
  exact ⟨ks,⟨⟨o,es,ep,t,k _ _ (Nat.le_refl _) ho,r⟩,nd,fun p hp=>IsTupleKey.stay (is p hp) fun o ho=>k _ _ (Nat.le_of_lt (lt p (m2 p hp))) ho⟩,m1,m2,m3,fun p hp=>IsTupleKey.stay (m4 p hp) fun o ho=>k _ _ (Nat.le_of_lt (lt p hp)) ho⟩
 ·have hv':items.toList[i]? = some v:=by rw [Array.getElem?_toList]; exact hv
  rw [hi,List.getElem?_map] at hv'
  cases ex:xs[i]? with
  | none=>rw [ex] at hv'; cases hv'
  | some p =>
   rw [ex] at hv'
   cases hv'
   have hp:=List.mem_of_getElem? ex
   have hil:i<xs.length:=(List.getElem?_eq_some_iff.mp ex).1
   have tk1:(xs.take (i+1)).map (·.1)=(xs.take i).map (·.1)++[p.1]:=by
    rw [List.take_add_one,ex,List.map_append]; rfl
   unfold setAdd
   refine wpAny_holding (wpAny_bind (wpAny_pyHash_tuple (by show A.units+3<cLine; walk_at "l") (m4 p hp) ?_))
   refine DK (s:={ s' with toks:=s'.toks+(p.1.length+1) }) S (m4 p hp) (by walk_at "l") (by show A.units+3<cLine; walk_at "l") hsc fun b h' ks' sb S' c=>?_
   refine q b h' _ sb ⟨ks',S',fun k=>?_,fun p' hp'=>?_,?_,fun p' hp'=>IsTupleKey.stay (m4 p' hp') fun o ho=>sb.extBut _ _ (Nat.ne_of_lt (lt p' hp')) ho⟩
   ·rw [tk1,List.mem_append,List.mem_singleton,← m1]
    rcases c with ⟨c1,rfl⟩ | ⟨c1,c2⟩
    ·exact ⟨.inl,fun z=>z.elim id fun e=>e ▸ c1⟩
    ·rw [(c2.map _).mem_iff,List.map_cons,List.mem_cons]
     exact ⟨fun z=>z.symm,fun z=>z.symm⟩
   ·rcases c with ⟨c1,rfl⟩ | ⟨c1,c2⟩
    ·exact m2 p' hp'
    ·rcases List.mem_cons.mp (c2.mem_iff.mp hp') with rfl | z
     ·exact hp
     ·exact m2 p' z
   ·rcases c with ⟨c1,rfl⟩ | ⟨c1,c2⟩
    ·walk_at "l"
    ·rw [c2.length_eq]; simp; walk_at "l"
 ·have e:items.size=xs.length:=by
   have:=congrArg List.length hi
   simpa using this
  rw [e,List.take_length] at m1
  exact h h' tk ks S m1 m2 fun b o ho=>k b o (Heap.lt_size ho) ho
end
end TS
namespace L2
open PySem PySem.Spec PyProof.Rows
section
variable {X:Cx} {pins:List (Addr × Obj)} {σ:St} {H:Hp} {s:Shared}
theorem Inv.drawn {d} (I:Inv X pins σ H s):Inv X pins σ H { s with drawn:=d }:=⟨I.ok,I.os,I.bare,I.base,I.loc,I.cell,I.free,I.freeC,I.pin,I.hok,I.len⟩
theorem t_ {prog:Program} {w:World}:∀ (k:Key) (v:Value),(mixKind prog w).is k v=true→v.scannable=true:=fun k v h=>by
 rcases keyIs_shape h with ⟨i,t,rfl,rfl⟩ | ⟨x,t,rfl,rfl⟩ <;> rfl
noncomputable def gF (K:PySem.W.Frag):V→Hp→VK→Prop:=fun x H Q=>match x with
 | .ref p=>∃ ys ks sh,SqL K H p ys∧ys.length≤63∧dO H ys ks∧(∀ k∈ks,shOf k=true :: sh) ∧
   ∀ zs ms l,dO H zs ms→ms.Nodup→(∀ k,k∈ms↔k∈ks)→(ms.Pairwise fun a b=>ltK b a=false)→H l=none→Q (.ref l) (upd H l (.lst zs))
 | _=>False
theorem dO.pairs {H:Hp} {ys:List V} {ks:List (List Key)} {vs:List Value} (h:dO H ys ks) (hv:Vals ys vs):∃ xs:List (List Key × Addr),vs=xs.map (fun p=>Value.ref p.2)∧xs.map (·.1)=ks∧∀ p∈xs,H p.2=some (.tup (p.1.map kV)):=by
 induction ys generalizing ks vs with
 | nil=>exact ⟨[],Paired.n0 hv,(show ks=[] from Paired.n0 h).symm,fun p hp=>nomatch hp⟩
 | cons y ys ih =>
  obtain ⟨k,ks,rfl,⟨b,rfl,g⟩,t⟩:=Paired.c h
  obtain ⟨v,vs,rfl,rfl,rs⟩:=Paired.c hv
  obtain ⟨xs,e1,e2,e3⟩:=ih t rs
  refine ⟨(k,b) :: xs,by rw [e1]; rfl,by rw [← e2]; rfl,fun p hp=>?_⟩
  rcases List.mem_cons.mp hp with rfl | hp
  ·exact g
  ·exact e3 p hp
end
section
variable {X:Cx} {e:Expr} {te:TE} {p p2 pos pos2:Pos}
theorem qN (hc:X.calm=true) (hu:X.A.units+64<cLine) (hg:Gl X "sorted") (hm:X.mg "sorted" = none) (hg2:Gl X "set") (hm2:X.mg "set" = none) (he:PE X e te)
  (hv:bootBuiltins "sorted" = some (.builtin "sorted")) (hv2:bootBuiltins "set" = some (.type "set"))
  (hs2:starEach [e] X.env=(false,eval e X.env) :: starEach [] X.env:=by rfl)
  (hs:starEach [.Call (.Name "set" p2) [e] [] pos2] X.env=(false,eval (.Call (.Name "set" p2) [e] [] pos2) X.env) :: starEach [] X.env:=by rfl) :
  PE X (.Call (.Name "sorted" p) [.Call (.Name "set" p2) [e] [] pos2] [] pos) (tUn (gF X.K) te):=by
 intro pins s σ H Q I h
 refine wpAny_Call_Name_kw (ld_blt I hg hm hv ?_ (by decide) (by decide))
 refine PyProof.Rows.callWith_builtin1 ?_ hs rfl
 rw [hs]
 refine Calls.spliced_cons ?_
 refine wpAny_Call_Name_kw (ld_blt I hg2 hm2 hv2 ?_ (by decide) (by decide))
 refine PyProof.Rows.callWith_type1 ?_ hs2 rfl
 rw [hs2]
 refine Calls.spliced_cons (thn (he pins s σ H _ I h) fun u s1 hx5=>L2.ex2 hx5 fun x H1 I1 r1 q1=>Calls.spliced_nil ?_)
 have q1:gF X.K x H1 Q:=q1
 obtain ⟨a,rfl⟩:∃ a,x=.ref a:=by
  unfold gF at q1
  split at q1
  ·exact ⟨_,rfl⟩
  ·exact q1.elim
 obtain ⟨ys,ks,sh,hl,hz1,ht,hsh,q⟩:=q1
 cases r1
 obtain ⟨vs,rv,pl,hz⟩:=I1.list hl
 obtain ⟨xs,ex,ek,hx⟩:=ht.pairs rv
 have hhd:X.A.handled=none:=I1.ok.hd hc
 have hlen:xs.length=ys.length:=by rw [rv.length,ex,List.length_map]
 have his:∀ p∈xs,IsTupleKey (mixKind X.prog X.w) s1.heap p.1 p.2:=fun p hp=>by
  obtain ⟨us,ru,o,e1,c1,n1,d1⟩:=I1.tup (hx p hp)
  exact ⟨o,us.toArray,n1,e1,c1,d1,by simpa using items_are ru⟩
 refine TS.p6 (knd:=mixKind X.prog X.w) hhd (by walk_at "l") pl.isList (by simpa using ex) his (by walk_at "l") t_ fun h2 tk ks' S m1 m2 kp=>?_
 refine Calls.spliced_nil ?_
 obtain ⟨⟨o,es,ep,t,ho,hex,hd,T,hM,hL,hes⟩,nd,is⟩:=S
 have hent:es.toList.map (·.2)=ks'.map fun p=>Value.ref p.2:=by rw [hes,List.map_map]; rfl
 have hksl:ks'.length≤63:=by
  have:=TS.cZ nd (m:=ks) fun k hk=>by rw [← ek]; exact (m1 k).mp hk
  rw [List.length_map] at this
  have:ks.length=xs.length:=by rw [← ek,List.length_map]
  walk_at "l"
 have hesz:es.size=ks'.length:=by
  have:=congrArg List.length hes
  simpa using this
 have memk:∀ p∈ks',p.1∈ks:=fun p hp=>by rw [← ek]; exact List.mem_map.mpr ⟨p,m2 p hp,rfl⟩
 have mem:∀ vs':List Value,vs'.Perm (ks'.map fun p=>Value.ref p.2)→∀ v∈vs',∃ b k,v=.ref b∧H1 b=some (.tup (k.map kV))∧k∈ks:=fun vs' pv v hv=>by
  obtain ⟨p,hp,rfl⟩:=List.mem_map.mp (pv.mem_iff.mp hv)
  exact ⟨p.2,p.1,rfl,hx p (m2 p hp),memk p hp⟩
 have h12:s1.heap.objs.size≤h2.objs.size:=Nat.le_of_lt (Heap.lt_size ho)
 refine Tim.j8 (s:={ s1 with heap:=h2,toks:=tk }) (κ:=tuples' true) (R:=fun vs'=>vs'.Perm (ks'.map fun p=>Value.ref p.2)) (r:=fun v=>rkK ks (qO H1 v)) (P:=fun v=>∃ b k,v=.ref b∧H1 b=some (.tup (k.map kV))∧shOf k=true :: sh∧k∈ks)
  (fun A' E' Q' hA hQ=>TS.jW (s:={ s1 with heap:=h2,toks:=tk }) (hA.trans hhd) ho hex hd T.fits T.up T.sz hL (by rw [hesz,sizeLine_eq]; walk_at "l") fun h' tk' d vs' kp' hz' pv=>hQ vs' h' tk' d (by rw [← hent]; exact pv) kp' hz')
  (fun vs' pv=>by rw [pv.length_eq,List.length_map]; walk_at "l") (fun vs' pv v hv=>?_) (fun vs' pv h2' A' E' s' kp' Q' q'=>?_) (fun s' kp'=>yC I1 fun b o e=>kp' b o (kp b o e)) fun vs' h' a' out n tk' d pv pm pw kp' ha eo=>?_
 ·obtain ⟨b,k,e1,e2,e3⟩:=mem vs' pv v hv
  exact ⟨b,k,e1,e2,hsh k e3,e3⟩
 ·obtain ⟨zs,z1,z2⟩:=dO.of (H:=H1) (ks:=ks) vs' (mem vs' pv)
  obtain ⟨fs,f1,f2,f3⟩:=kat_tups I1 (s':=s') (fun b o e=>kp' b o (kp b o e)) z1 z2 fun k hk=>by
   obtain ⟨v,hv,rfl⟩:=List.mem_map.mp hk
   obtain ⟨b,k,rfl,e2,e3⟩:=mem vs' pv v hv
   rw [d8 e2]; exact hsh k e3
  refine PySem.W.kat_kind (T:=.type "int") f1 (by walk_at "l") (fun f hf=>?_) (by decide) q'
  obtain ⟨i,t,rfl⟩:=f3 f hf
  exact .now
 ·have pm2:=pm.trans pv
  obtain ⟨zs,z1,z2⟩:=dO.of (H:=H1) (ks:=ks) out fun v hv=>mem _ pm2 v hv
  have zl:=z2.length
  have ol:=pm2.length_eq
  rw [List.length_map] at ol
  have ekk:(ks'.map fun p=>Value.ref p.2).map (qO H1)=ks'.map (·.1):=by
   rw [List.map_map]
   exact List.map_congr_left fun p hp=>d8 (hx p (m2 p hp))
  have pms:(out.map (qO H1)).Perm (ks'.map (·.1)):=by rw [← ekk]; exact pm2.map _
  refine ⟨.ref a',_,(I1.laid (a:=a') (t':=tk') (fun b o e=>kp' b o (kp b o e)) (Nat.le_trans h12 ha) (show ObjOk X.prog X.w _ h' _ (.lst zs) from ⟨by rw [sizeLine_eq]; walk_at "l",out,n,z2,eo⟩)).drawn,rfl,
   q zs _ _ z1 (pms.nodup_iff.mpr nd) (fun k=>by rw [pms.mem_iff,m1,ek]) ?_ (I1.hok.fresh (Nat.le_trans h12 ha))⟩
  rw [List.pairwise_map]
  refine pw.imp_of_mem fun {x y} mx my hle=>?_
  obtain ⟨b,k,rfl,hb,kk⟩:=mem _ pm2 x mx
  obtain ⟨c,m,rfl,hc',km⟩:=mem _ pm2 y my
  rw [d8 hb,d8 hc'] at *
  have:=sU (L:=ks) ((hsh m km).trans (hsh k kk).symm) km
  rw [← this]
  exact decide_eq_false (by walk_at "l")
end
end L2
set_option Elab.async false
set_option linter.all false
set_option maxRecDepth 100000
set_option maxHeartbeats 4000000
namespace TS
open PySem PySem.SetTable PyProof.Rows
section
variable {t:SetTable} {es:Array (Int × Value)}
theorem wA (T:TI t es) (h:Int) (x:Value):∃ j,j≤t.mask∧taken t.place j=false∧Reach t.mask t.place h j ∧
  layNew t es h x=(insertAt es (below t.place j) (h,x),{ t with place:=insertAt t.place (below t.place j) j,dummies:=#[] },false,false):=by
 obtain ⟨m,hm,_⟩:=T.pw
 obtain ⟨e0,he0,hf0⟩:=T.free
 obtain ⟨nf,n1,n2,n3⟩:=lW hm h (taken t.place) he0 hf0
 obtain ⟨n',a1,a2,a3,a4⟩:=n6 T (fun _=>h+1) h (10 * turns t.mask) 0 ⟨nf,Nat.zero_le _,by unfold turns; walk_at "l",n2⟩
 rcases a4 with ⟨c1,c2⟩ | ⟨_,c2,_⟩
 ·have hn':n'≤nf:=by
   by_cases z:n'≤nf
   ·exact z
   ·have:=(a3 nf (Nat.zero_le _) (by exact Nat.lt_of_not_le ‹_›)).1
    rw [n2] at this; cases this
  refine ⟨J t.mask h n',J_le ..,c1,⟨n',by walk_at "s1",rfl,fun q hq=>(a3 q (Nat.zero_le _) hq).1⟩,?_⟩
  have hfs:t.freeSlot h=some (J t.mask h n',false):=by
   unfold SetTable.freeSlot
   have:t.probe (fun _=>h+1) h (t.probeStart h)=some (.empty (J t.mask h n') none):=c2
   rw [this]; rfl
  have hput:t.put (J t.mask h n')=({ t with place:=insertAt t.place (below t.place (J t.mask h n')) (J t.mask h n'),dummies:=#[] },below t.place (J t.mask h n')):=by
   unfold SetTable.put
   have:has t.dummies (J t.mask h n')=false:=by rw [T.dm]; rfl
   simp only [this,Bool.false_eq_true,if_false]
   rw [T.dm]
  have hb:=(aZ T.up (J t.mask h n')).1
  have hfit:({ t with place:=insertAt t.place (below t.place (J t.mask h n')) (J t.mask h n'),dummies:=#[] }:SetTable).fits (insertAt es (below t.place (J t.mask h n')) (h,x)).size=true:=by
   have:=T.few
   have hsz:(insertAt es (below t.place (J t.mask h n')) (h,x)).size=es.size+1:=cg _ _ (by rw [← T.sz]; exact hb)
   simp only [SetTable.fits,SetTable.fill,hsz,cg _ _ hb,T.sz,Bool.and_eq_true,beq_iff_eq,decide_eq_true_eq,true_and]
   simp; walk_at "l"
  unfold layNew
  rw [hfs]
  dsimp only
  rw [hput]
  dsimp only
  unfold SetTable.orStandIn
  rw [hfit]
  rfl
 ·exact absurd c2 (by walk_at "l")
end
section
variable {prog:Program} {w:World} {K:Type} [DecidableEq K] {knd:KeyKind prog w K}
noncomputable def entK (knd:KeyKind prog w K) (p:K × Value):Int × Value:=(knd.hash p.1,p.2)
structure SetK (knd:KeyKind prog w K) (h:Heap) (a:Addr) (ks:List (K × Value)):Prop where
 ob:∃ o es ep t,h.get? a=some o∧o.ExactSet∧o.data=.set es ep t∧TI t es∧t.mask≤8191∧t.led=(!w.params.followText "set-order")∧es.toList=ks.map (entK knd)
 nd:(ks.map (·.1)).Nodup
 is:∀ p∈ks,knd.is p.1 p.2=true
variable {A:Around} {E:Value→Shared→Prop} {s:Shared}
theorem Ca {a:Addr} {x:Value} {k:K} {ks:List (K × Value)} (S:SetK knd s.heap a ks) (hx:knd.is k x=true) (hz:ks.length<1000) (hsc:∀ k v,knd.is k v=true→v.scannable=true) {Q:Bool→Shared→Prop}
  (h:∀ (b:Bool) (h':Heap) (ks':List (K × Value)),Heap.SameBut a s.heap h'→SetK knd h' a ks'→(k∈ks.map (·.1)∧ks'=ks∨k∉ks.map (·.1)∧ks'.Perm ((k,x) :: ks))→Q b { s with heap:=h' }) :
  wpAny (model prog w) A (setAddHashed a x (knd.hash k)) Q E s:=by
 obtain ⟨⟨o,es,ep,t,ho,hex,hd,T,hM,hL,he⟩,nd,is⟩:=id S
 have hlen:es.size=ks.length:=by
  have:=congrArg List.length he
  simpa using this
 have hel:ElemsOf knd es.toList:=fun e hm=>by
  rw [he] at hm
  obtain ⟨p,hp,rfl⟩:=List.mem_map.mp hm
  exact ⟨⟨p.1,is p hp,rfl⟩,hsc _ _ (is p hp)⟩
 have hsb:scanBound=4096:=rfl
 unfold setAddHashed setAddHashedIn
 refine wpAny_holding (wpAny_bind (wpAny_setState_of ho hd T.fits ?_))
 dsimp only
 rw [byScan_of (hsc _ _ hx) (by walk_at "l") hel]
 simp only [↓reduceIte]
 unfold setAddByScan
 refine wpAny_bind ?_
 refine wpAny_bind (wpAny_rule ?_)
 refine wpAny_bind (wpAny_setScan_of hx ho hd T.fits hel ?_)
 cases hr:List.findIdx? (fun e=>knd.is k e.2) es.toList with
 | some j =>
  dsimp only
  refine wpAny_pure (wpAny_pure ?_)
  obtain ⟨hj,hpj,_⟩:=List.findIdx?_eq_some_iff_getElem.mp hr
  have hm:es.toList[j]∈ks.map (entK knd):=by rw [← he]; exact List.getElem_mem hj
  obtain ⟨p,hp,ep'⟩:=List.mem_map.mp hm
  rw [← ep'] at hpj
  have hk:k=p.1:=knd.inj p.2 k p.1 hpj (is p hp)
  have e:s={ s with heap:=s.heap }:=by cases s; rfl
  rw [e]
  exact h _ _ ks (Heap.SameBut.refl a s.heap) S (.inl ⟨List.mem_map.mpr ⟨p,hp,hk.symm⟩,rfl⟩)
 | none =>
  dsimp only
  have hout:k∉ks.map (·.1):=fun hm=>by
   obtain ⟨p,hp,rfl⟩:=List.mem_map.mp hm
   have:=List.findIdx?_eq_none_iff.mp hr (entK knd p) (by rw [he]; exact List.mem_map.mpr ⟨p,hp,rfl⟩)
   rw [show knd.is p.1 (entK knd p).2=true from is p hp] at this
   cases this
  obtain ⟨j,hjm,n2,hre,hlay⟩:=wA T (knd.hash k) x
  rw [hlay]
  dsimp only
  refine wpAny_bind (wpAny_pure ?_)
  have hin:(insertAt es (below t.place j) (knd.hash k,x)).toList=(ks.take (below t.place j)++(k,x) :: ks.drop (below t.place j)).map (entK knd):=by
   rw [lN,he,List.map_append,List.map_cons,List.map_take,List.map_drop]; rfl
  have hperm:(ks.take (below t.place j)++(k,x) :: ks.drop (below t.place j)).Perm ((k,x) :: ks):=by
   refine List.perm_middle.trans ?_
   rw [List.take_append_drop]
  have hbl:below t.place j≤es.size:=by rw [← T.sz]; exact (aZ T.up j).1
  have hsz':(insertAt es (below t.place j) (knd.hash k,x)).size=es.size+1:=cg _ _ hbl
  have isK:∀ ks':List (K × Value),ks'.Perm ((k,x) :: ks)→∀ p∈ks',knd.is p.1 p.2=true:=fun ks' pm p hp=>by
   rcases List.mem_cons.mp (pm.mem_iff.mp hp) with rfl | hp
   ·exact hx
   ·exact is p hp
  have ndK:∀ ks':List (K × Value),ks'.Perm ((k,x) :: ks)→(ks'.map (·.1)).Nodup:=fun ks' pm=>by
   rw [(pm.map _).nodup_iff,List.map_cons,List.nodup_cons]
   exact ⟨hout,nd⟩
  have main:∀ t':SetTable,t'.mask=t.mask→t'.place=insertAt t.place (below t.place j) j→t'.dummies = #[]→t'.led=t.led→wpAny (model prog w) A (do
    storeSet a (insertAt es (below t.place j) (knd.hash k,x)) t'
    if (!false && t'.tooFull)=true then do
      DP (relayAll t' (insertAt es (below t.place j) (knd.hash k,x)) (grown (insertAt es (below t.place j) (knd.hash k,x)).size)).2.2
      storeSet a (relayAll t' (insertAt es (below t.place j) (knd.hash k,x)) (grown (insertAt es (below t.place j) (knd.hash k,x)).size)).1 (relayAll t' (insertAt es (below t.place j) (knd.hash k,x)) (grown (insertAt es (below t.place j) (knd.hash k,x)).size)).2.1
      pure (some true)
     else pure (some true)) (fun r s'=>wpAny (model prog w) A (match r with | some added=>pure added | none=>setAddHashedIn a x (knd.hash k) 99999) Q E s') E s:=fun t' tm tp td tl=>by
   have hfill:t'.fill=es.size+1:=by
    unfold SetTable.fill
    rw [tp,td,cg _ _ (aZ T.up j).1,T.sz]; simp
   refine wpAny_bind (wpAny_storeSet_of ho hd ?_ (by rw [hsz',sizeLine_eq]; walk_at "l"))
   have ho1:(s.heap.update a (Obj.putSet (insertAt es (below t.place j) (knd.hash k,x)) t')).get? a=some { o with data:=.set (insertAt es (below t.place j) (knd.hash k,x)) (ep+1) t' }:=by
    have:=Heap.get?_update_self (Obj.putSet (insertAt es (below t.place j) (knd.hash k,x)) t') ho (by rw [putSet_of _ _ hd]; rfl)
    rw [putSet_of _ _ hd] at this; exact this
   have sb1:=Heap.SameBut.update s.heap a (Obj.putSet (insertAt es (below t.place j) (knd.hash k,x)) t')
   by_cases c:t'.tooFull=true
   ·rw [if_pos (by rw [c]; rfl)]
    obtain ⟨t2,order,r1,r2,r3,r4,r5,r6,r7,r8,r9⟩:=o7 (t:=t') (es:=insertAt es (below t.place j) (knd.hash k,x)) (by walk_at "l")
    have hrel:relayAll t' (insertAt es (below t.place j) (knd.hash k,x)) (grown (insertAt es (below t.place j) (knd.hash k,x)).size)=(order.filterMap fun i=>(insertAt es (below t.place j) (knd.hash k,x))[i]?,t2,false):=by
     unfold relayAll
     rw [r1]
     dsimp only
     rw [if_pos]
     rw [Bool.and_eq_true]
     refine ⟨?_,r6.fits⟩
     unfold coversAll
     rw [List.isPerm_iff]; exact r9
    rw [hrel]
    dsimp only
    refine wpAny_bind (wpAny_pure ?_)
    obtain ⟨ks',ek,pk⟩:=iH r8 hin
    refine wpAny_bind (wpAny_storeSet_of ho1 rfl ?_ (by rw [r7,hsz',sizeLine_eq]; walk_at "l"))
    refine wpAny_pure (wpAny_pure ?_)
    have sb2:=sb1.trans (Heap.SameBut.update _ a (Obj.putSet (order.filterMap fun i=>(insertAt es (below t.place j) (knd.hash k,x))[i]?) t2))
    have ho2:=Heap.get?_update_self (Obj.putSet (order.filterMap fun i=>(insertAt es (below t.place j) (knd.hash k,x))[i]?) t2) ho1 (by rw [putSet_of _ _ rfl]; rfl)
    rw [putSet_of _ _ rfl] at ho2
    exact h true _ ks' sb2 ⟨⟨_,_,_,_,ho2,hex,rfl,r6,r5 (by walk_at "l"),by rw [r3,tl]; exact hL,ek⟩,ndK ks' (pk.trans hperm),isK ks' (pk.trans hperm)⟩ (.inr ⟨hout,pk.trans hperm⟩)
   ·rw [if_neg (by simpa using c)]
    refine wpAny_pure (wpAny_pure ?_)
    have hfew:(es.size+1) * 5<t.mask * 3:=by
     unfold SetTable.tooFull at c
     rw [hfill,tm] at c
     simpa using c
    exact h true _ _ sb1 ⟨⟨_,_,_,_,ho1,hex,rfl,T.put hjm n2 hre tm tp td hfew,by rw [tm]; exact hM,by rw [tl]; exact hL,hin⟩,ndK _ hperm,isK _ hperm⟩ (.inr ⟨hout,hperm⟩)
  split
  ·refine wpAny_bind ?_
   rw [hashByValue_scannable 8 (hsc _ _ hx)]
   refine wpAny_pure ?_
   split
   ·exact main _ rfl rfl rfl rfl
   ·exact main _ rfl rfl rfl rfl
  ·refine wpAny_bind (wpAny_pure ?_)
   rw [if_pos rfl]
   exact main _ rfl rfl rfl rfl
end
end TS
set_option Elab.async false
set_option linter.all false
set_option maxRecDepth 100000
set_option maxHeartbeats 4000000
namespace TS
open PySem PySem.SetTable PyProof.Rows
section
variable {prog:Program} {w:World} {K:Type} [DecidableEq K] {knd:KeyKind prog w K} {A:Around} {E:Value→Shared→Prop} {s:Shared}
theorem m5 {l:Addr} {items:Array Value} {xs:List (K × Value)} {Q:Value→Shared→Prop} (hh:A.handled=none) (hl:s.heap.IsList l items) (hi:items.toList=xs.map (·.2))
  (his:∀ p∈xs,knd.is p.1 p.2=true) (hz:xs.length≤63) (hsc:∀ k v,knd.is k v=true→v.scannable=true)
  (h:∀ h' tk ks,SetK knd h' s.heap.objs.size ks→(∀ k,k∈ks.map (·.1)↔k∈xs.map (·.1))→(∀ p∈ks,p∈xs)→(∀ b o,s.heap.get? b=some o→h'.get? b=some o)→Q (.ref s.heap.objs.size) { s with heap:=h',toks:=tk }) :
  wpAny (model prog w) A (call (.type "set") [.ref l]) Q E s:=by
 refine iQ hh hl (fun i h=>∃ ks,SetK knd h s.heap.objs.size ks∧(∀ k,k∈ks.map (·.1)↔k∈(xs.take i).map (·.1))∧(∀ p∈ks,p∈xs)∧ks.length≤i) (fun h e k=>?_) (fun i h h' ⟨ks,S,m1,m2,m3⟩ k=>?_) (fun i v s' E' Q' hv ⟨ks,S,m1,m2,m3⟩ q=>?_) fun h' tk ⟨ks,S,m1,m2,m3⟩ k=>?_
 ·exact ⟨[],⟨⟨_,#[],0,_,e,⟨rfl,rfl,rfl⟩,rfl,sW _,(by show 7≤8191; decide),rfl,rfl⟩,List.nodup_nil,fun p hp=>nomatch hp⟩,fun k=>by simp,(fun p hp=>nomatch hp),Nat.le_refl _⟩
 ·obtain ⟨⟨o,es,ep,t,ho,r⟩,nd,is⟩:=S
  exact ⟨ks,⟨⟨o,es,ep,t,k _ _ (Nat.le_refl _) ho,r⟩,nd,is⟩,m1,m2,m3⟩
 ·have hv':items.toList[i]? = some v:=by rw [Array.getElem?_toList]; exact hv
  rw [hi,List.getElem?_map] at hv'
  cases ex:xs[i]? with
  | none=>rw [ex] at hv'; cases hv'
  | some p =>
   rw [ex] at hv'
   cases hv'
   have hp:=List.mem_of_getElem? ex
   have hil:i<xs.length:=(List.getElem?_eq_some_iff.mp ex).1
   have tk1:(xs.take (i+1)).map (·.1)=(xs.take i).map (·.1)++[p.1]:=by
    rw [List.take_add_one,ex,List.map_append]; rfl
   unfold setAdd
   refine wpAny_holding (wpAny_bind (knd.pyHash (k:=p.1) (his p hp) ?_))
   refine Ca (s:={ s' with toks:=s'.toks+1 }) S (his p hp) (by walk_at "l") hsc fun b h' ks' sb S' c=>?_
   refine q b h' _ sb ⟨ks',S',fun k=>?_,fun p' hp'=>?_,?_⟩
   ·rw [tk1,List.mem_append,List.mem_singleton,← m1]
    rcases c with ⟨c1,rfl⟩ | ⟨c1,c2⟩
    ·exact ⟨.inl,fun z=>z.elim id fun e=>e ▸ c1⟩
    ·rw [(c2.map _).mem_iff,List.map_cons,List.mem_cons]
     exact ⟨fun z=>z.symm,fun z=>z.symm⟩
   ·rcases c with ⟨c1,rfl⟩ | ⟨c1,c2⟩
    ·exact m2 p' hp'
    ·rcases List.mem_cons.mp (c2.mem_iff.mp hp') with rfl | z
     ·exact hp
     ·exact m2 p' z
   ·rcases c with ⟨c1,rfl⟩ | ⟨c1,c2⟩
    ·walk_at "l"
    ·rw [c2.length_eq]; simp; walk_at "l"
 ·have e:items.size=xs.length:=by
   have:=congrArg List.length hi
   simpa using this
  rw [e,List.take_length] at m1
  exact h h' tk ks S m1 m2 fun b o ho=>k b o (Heap.lt_size ho) ho
end
end TS
namespace L2
open PySem PySem.Spec PyProof.Rows
noncomputable def gU (K:PySem.W.Frag):V→Hp→VK→Prop:=fun x H Q=>match x with
 | .ref p=>∃ (ks:List Key) (b:Bool),SqL K H p (ks.map kV)∧ks.length≤63∧(∀ k∈ks,isI k=b) ∧
   ∀ (ms:List Key) (l:Addr),ms.Nodup→(∀ k,k∈ms↔k∈ks)→(ms.Pairwise fun a b=>lt1 b a=false)→H l=none→Q (.ref l) (upd H l (.lst (ms.map kV)))
 | _=>False
theorem uT {ks:List Key} {vs:List Value} (h:Vals (ks.map kV) vs):∃ xs:List (Key × Value),vs=xs.map (·.2)∧xs.map (·.1)=ks∧∀ p∈xs,RelV (kV p.1) p.2:=by
 induction ks generalizing vs with
 | nil=>exact ⟨[],Paired.n0 h,rfl,fun p hp=>nomatch hp⟩
 | cons k ks ih =>
  obtain ⟨v,vs,rfl,r,rs⟩:=Paired.c h
  obtain ⟨xs,e1,e2,e3⟩:=ih rs
  refine ⟨(k,v) :: xs,by rw [e1]; rfl,by rw [← e2]; rfl,fun p hp=>?_⟩
  rcases List.mem_cons.mp hp with rfl | hp
  ·exact r
  ·exact e3 p hp
section
variable {X:Cx} {e:Expr} {te:TE} {p p2 pos pos2:Pos}
theorem rE (hc:X.calm=true) (hg:Gl X "sorted") (hm:X.mg "sorted" = none) (hg2:Gl X "set") (hm2:X.mg "set" = none) (he:PE X e te)
  (hv:bootBuiltins "sorted" = some (.builtin "sorted")) (hv2:bootBuiltins "set" = some (.type "set"))
  (hs2:starEach [e] X.env=(false,eval e X.env) :: starEach [] X.env:=by rfl)
  (hs:starEach [.Call (.Name "set" p2) [e] [] pos2] X.env=(false,eval (.Call (.Name "set" p2) [e] [] pos2) X.env) :: starEach [] X.env:=by rfl) :
  PE X (.Call (.Name "sorted" p) [.Call (.Name "set" p2) [e] [] pos2] [] pos) (tUn (gU X.K) te):=by
 intro pins s σ H Q I h
 refine wpAny_Call_Name_kw (ld_blt I hg hm hv ?_ (by decide) (by decide))
 refine PyProof.Rows.callWith_builtin1 ?_ hs rfl
 rw [hs]
 refine Calls.spliced_cons ?_
 refine wpAny_Call_Name_kw (ld_blt I hg2 hm2 hv2 ?_ (by decide) (by decide))
 refine PyProof.Rows.callWith_type1 ?_ hs2 rfl
 rw [hs2]
 refine Calls.spliced_cons (thn (he pins s σ H _ I h) fun u s1 hx5=>L2.ex2 hx5 fun x H1 I1 r1 q1=>Calls.spliced_nil ?_)
 have q1:gU X.K x H1 Q:=q1
 obtain ⟨a,rfl⟩:∃ a,x=.ref a:=by
  unfold gU at q1
  split at q1
  ·exact ⟨_,rfl⟩
  ·exact q1.elim
 obtain ⟨ks,b,hl,hz1,hb,q⟩:=q1
 cases r1
 obtain ⟨vs,rv,pl,hz⟩:=I1.list hl
 obtain ⟨xs,ex,ek,hx⟩:=uT rv
 have hhd:X.A.handled=none:=I1.ok.hd hc
 have hlen:xs.length=ks.length:=by rw [← ek,List.length_map]
 have his:∀ p∈xs,(mixKind X.prog X.w).is p.1 p.2=true:=fun p hp=>by
  obtain ⟨k,v⟩:=p
  have r:=hx _ hp
  rw [mixKind_is]
  cases k with
  | inl i=>obtain ⟨t,e⟩:=r; rw [show v=_ from e]; exact keyIs_int ..
  | inr x=>obtain ⟨t,e⟩:=r; rw [show v=_ from e]; exact keyIs_str ..
 refine TS.m5 (knd:=mixKind X.prog X.w) hhd pl.isList (by simpa using ex) his (by walk_at "l") t_ fun h2 tk ks' S m1 m2 kp=>?_
 refine Calls.spliced_nil ?_
 obtain ⟨⟨o,es,ep,t,ho,hex,hd,T,hM,hL,hes⟩,nd,is⟩:=S
 have hent:es.toList.map (·.2)=ks'.map (·.2):=by rw [hes,List.map_map]; rfl
 have hksl:ks'.length≤63:=by
  have:=TS.cZ nd (m:=ks) fun k hk=>by rw [← ek]; exact (m1 k).mp hk
  rw [List.length_map] at this
  walk_at "l"
 have hesz:es.size=ks'.length:=by
  have:=congrArg List.length hes
  simpa using this
 have memk:∀ p∈ks',p.1∈ks:=fun p hp=>by rw [← ek]; exact List.mem_map.mpr ⟨p,m2 p hp,rfl⟩
 have mem:∀ vs':List Value,vs'.Perm (ks'.map (·.2))→∀ v∈vs',∃ k,RelV (kV k) v∧k∈ks:=fun vs' pv v hv=>by
  obtain ⟨p,hp,rfl⟩:=List.mem_map.mp (pv.mem_iff.mp hv)
  exact ⟨p.1,hx p (m2 p hp),memk p hp⟩
 have h12:s1.heap.objs.size≤h2.objs.size:=Nat.le_of_lt (Heap.lt_size ho)
 refine Tim.j8 (s:={ s1 with heap:=h2,toks:=tk }) (κ:=oneType') (R:=fun vs'=>vs'.Perm (ks'.map (·.2))) (r:=fun v=>rkK (ks.map fun k=>[k]) (iJ v)) (P:=fun v=>∃ k,RelV (kV k) v∧isI k=b∧k∈ks)
  (fun A' E' Q' hA hQ=>TS.jW (s:={ s1 with heap:=h2,toks:=tk }) (hA.trans hhd) ho hex hd T.fits T.up T.sz hL (by rw [hesz,sizeLine_eq]; walk_at "l") fun h' tk' d vs' kp' hz' pv=>hQ vs' h' tk' d (by rw [← hent]; exact pv) kp' hz')
  (fun vs' pv=>by rw [pv.length_eq,List.length_map]; walk_at "l") (fun vs' pv v hv=>?_) (fun vs' pv h2' A' E' s' kp' Q' q'=>?_) (fun s' kp'=>yc) fun vs' h' a' out n tk' d pv pm pw kp' ha eo=>?_
 ·obtain ⟨k,rk,mk⟩:=mem vs' pv v hv
  exact ⟨k,rk,hb k mk,mk⟩
 ·obtain ⟨ms,rm⟩:=pL (ks:=ks) vs' (mem vs' pv)
  refine xR (b:=b) rm (fun k hk=>?_) h2' q'
  have:(vs'.map iJ)=ms.map fun k=>[k]:=keys_map rm
  have hk2:[k]∈vs'.map iJ:=by rw [this]; exact List.mem_map.mpr ⟨k,hk,rfl⟩
  obtain ⟨v,hv,e⟩:=List.mem_map.mp hk2
  obtain ⟨k',rk,mk⟩:=mem vs' pv v hv
  rw [jX rk] at e
  cases e
  exact hb _ mk
 ·have pm2:=pm.trans pv
  obtain ⟨ms,rm⟩:=pL (ks:=ks) out (mem _ pm2)
  have ekk:(ks'.map (·.2)).map iJ=(ks'.map (·.1)).map fun k=>[k]:=by
   rw [List.map_map,List.map_map]
   exact List.map_congr_left fun p hp=>jX (hx p (m2 p hp))
  have pk:ms.Perm (ks'.map (·.1)):=v8 (by rw [← keys_map rm,← ekk]; exact pm2.map _)
  have hml:ms.length=ks'.length:=by simpa using pk.length_eq
  have mems:∀ k∈ms,k∈ks:=fun k hk=>by rw [← ek]; exact (m1 k).mp (pk.mem_iff.mp hk)
  refine ⟨.ref a',_,(I1.laid (a:=a') (t':=tk') (fun b o e=>kp' b o (kp b o e)) (Nat.le_trans h12 ha) (show ObjOk X.prog X.w _ h' _ (.lst (ms.map kV)) from ⟨by rw [List.length_map,sizeLine_eq]; walk_at "l",out,n,rm,eo⟩)).drawn,rfl,
   q ms _ (pk.nodup_iff.mpr nd) (fun k=>by rw [pk.mem_iff,m1,ek]) ?_ (I1.hok.fresh (Nat.le_trans h12 ha))⟩
  have pw2:(out.map iJ).Pairwise fun x y=>rkK (ks.map fun k=>[k]) x≤rkK (ks.map fun k=>[k]) y:=List.pairwise_map.mpr pw
  rw [keys_map rm,List.pairwise_map] at pw2
  refine pw2.imp_of_mem fun {x y} mx my hle=>?_
  have mx:=mems x mx
  have my:=mems y my
  rw [← vN,← sU (L:=ks.map fun k=>[k]) (by simp [shOf,hb x mx,hb y my]) (List.mem_map.mpr ⟨y,my,rfl⟩)]
  exact decide_eq_false (by walk_at "l")
end
end L2
namespace L2.Q
open PySem PySem.Spec PyProof.Rows
section
variable {X:Cx} {K:PySem.W.Frag} {e:Expr} {te:WE} {p p2 pos pos2:Pos}
theorem zK:bootBuiltins "set" = some (.type "set"):=by decide +kernel
noncomputable def fJ:W1:=fun _ x Q=>match x with
 | .list xs=>∃ (ks:List (List Key)) (sh:List Bool),xs=ks.map keyT∧ks.length≤63∧(∀ k∈ks,shOf k=true :: sh)∧∀ ms:List (List Key),ms.Nodup→(∀ k,k∈ms↔k∈ks)→(ms.Pairwise fun a b=>ltK b a=false)→Q (.ow true) (.list (ms.map keyT))
 | _=>False
noncomputable def gA:W1:=fun _ x Q=>match x with
 | .list xs=>∃ (ks:List Key) (b:Bool),xs=ks.map keyD∧ks.length≤63∧(∀ k∈ks,isI k=b)∧∀ ms:List Key,ms.Nodup→(∀ k,k∈ms↔k∈ks)→(ms.Pairwise fun a b=>lt1 b a=false)→Q (.ow true) (.list (ms.map keyD))
 | _=>False
theorem rB:Br1 K (gF K) fJ:=by
 intro Hs H m x v As Qd Qv w rx h f
 have r1:=rx.rep w
 cases r1 with
 | list z s q =>
  obtain ⟨ks,sh,rfl,hz,hs,h⟩:=h
  obtain ⟨ta,ok⟩:=Av q
  have hl:=q.length
  rw [List.length_map] at hl
  refine ⟨_,ks,sh,s,by walk_at "l",ta,hs,fun zs ms l tz nd mm pw hl'=>?_⟩
  have rr:=uh (K:=K) tz fun k hk=>ok k ((mm k).mp hk)
  have:ms.length≤ks.length:=TS.cZ nd fun k hk=>(mm k).mp hk
  exact f.lst w (by rw [List.length_map,sizeLine_eq]; walk_at "l") rr (jO ms) (h ms nd mm pw) l hl'
 | _=>exact h.elim
theorem qy:Br1 K (gU K) gA:=by
 intro Hs H m x v As Qd Qv w rx h f
 have r1:=rx.rep w
 cases r1 with
 | list z s q =>
  obtain ⟨ks,b,rfl,hz,hb,h⟩:=h
  obtain ⟨e,ok⟩:=w6 q
  subst e
  refine ⟨ks,b,s,hz,hb,fun ms l nd mm pw hl=>?_⟩
  have:ms.length≤ks.length:=TS.cZ nd fun k hk=>(mm k).mp hk
  exact f.lst w (by rw [List.length_map,sizeLine_eq]; walk_at "l") (nH fun k hk=>ok k ((mm k).mp hk)) (jR ms) (h ms nd mm pw) l hl
 | _=>exact h.elim
theorem lO (hu:X.A.units+64<cLine) (hg:Gl X "sorted") (hm:X.mg "sorted" = none) (hg2:Gl X "set") (hm2:X.mg "set" = none) (he:QE X K e te) (hc:X.calm=true:=by rfl) (hK:X.K=K:=by rfl)
  (hs2:starEach [e] X.env=(false,eval e X.env) :: starEach [] X.env:=by rfl)
  (hs:starEach [.Call (.Name "set" p2) [e] [] pos2] X.env=(false,eval (.Call (.Name "set" p2) [e] [] pos2) X.env) :: starEach [] X.env:=by rfl) :
  QE X K (.Call (.Name "sorted" p) [.Call (.Name "set" p2) [e] [] pos2] [] pos) (wUn fJ te):=by
 subst hK
 refine PE.imp (qN hc hu hg hm hg2 hm2 he pJ zK hs2 hs) fun σ H Qv hx9=>?_
 obtain ⟨Hs,ρ,tot,Q,sr,h,fin⟩:=hx9
 exact ⟨Hs,ρ,tot,_,sr,h,fun v H1 Hs1 m x As g1 r1 f1 q1=>rB Hs1 H1 m x v As Q Qv g1.wf r1 q1 (Fin.after fin g1)⟩
theorem uw (hg:Gl X "sorted") (hm:X.mg "sorted" = none) (hg2:Gl X "set") (hm2:X.mg "set" = none) (he:QE X K e te) (hc:X.calm=true:=by rfl) (hK:X.K=K:=by rfl)
  (hs2:starEach [e] X.env=(false,eval e X.env) :: starEach [] X.env:=by rfl)
  (hs:starEach [.Call (.Name "set" p2) [e] [] pos2] X.env=(false,eval (.Call (.Name "set" p2) [e] [] pos2) X.env) :: starEach [] X.env:=by rfl) :
  QE X K (.Call (.Name "sorted" p) [.Call (.Name "set" p2) [e] [] pos2] [] pos) (wUn gA te):=by
 subst hK
 refine PE.imp (rE hc hg hm hg2 hm2 he pJ zK hs2 hs) fun σ H Qv hx9=>?_
 obtain ⟨Hs,ρ,tot,Q,sr,h,fin⟩:=hx9
 exact ⟨Hs,ρ,tot,_,sr,h,fun v H1 Hs1 m x As g1 r1 f1 q1=>qy Hs1 H1 m x v As Q Qv g1.wf r1 q1 (Fin.after fin g1)⟩
end
end L2.Q
namespace L2.Q.R
open PySem PySem.Spec PyProof.Rows L2.Q
section
variable {Q:Md→L2.Q.D→Prop} {m:Md} {xs:List L2.Q.D}
theorem Cz:fJ m (.list xs) Q = ∃ (ks:List (List Key)) (sh:List Bool),xs=ks.map keyT∧ks.length≤63∧(∀ k∈ks,shOf k=true :: sh)∧∀ ms:List (List Key),ms.Nodup→(∀ k,k∈ms↔k∈ks)→(ms.Pairwise fun a b=>ltK b a=false)→Q (.ow true) (.list (ms.map keyT)):=rfl
theorem Cy:gA m (.list xs) Q = ∃ (ks:List Key) (b:Bool),xs=ks.map keyD∧ks.length≤63∧(∀ k∈ks,isI k=b)∧∀ ms:List Key,ms.Nodup→(∀ k,k∈ms↔k∈ks)→(ms.Pairwise fun a b=>lt1 b a=false)→Q (.ow true) (.list (ms.map keyD)):=rfl
end
end L2.Q.R
set_option Elab.async false
set_option linter.all false
set_option maxRecDepth 100000
set_option maxHeartbeats 4000000
namespace L2
open PySem PySem.Spec PyProof.Rows
section
variable {prog:Program} {w:World} {A:Around} {E:Value→Shared→Prop} {s:Shared} {I l:Addr} {items:Array Value}
end
section
variable {X:Cx} {e:Expr} {te:TE} {p p2 pos pos2:Pos}
end
end L2
namespace L2
open PySem PySem.Spec PyProof.Rows
section
variable {prog:Program} {w:World} {A:Around} {E:Value→Shared→Prop} {s:Shared}
end
section
variable {X:Cx}
end
end L2
namespace L2.Q
open PySem PySem.Spec PyProof.Rows
section
variable {X:Cx} {K:PySem.W.Frag} {e a b:Expr} {te ta tb:WE} {p p2 pos pos2:Pos}
end
end L2.Q
namespace L2.Q.R
open PySem PySem.Spec PyProof.Rows L2.Q
section
variable {Q:Md→L2.Q.D→Prop} {m m':Md} {xs ys:List L2.Q.D}
end
end L2.Q.R
set_option Elab.async false
set_option linter.all false
set_option maxRecDepth 100000
set_option maxHeartbeats 4000000
namespace L2
open PySem PySem.Spec PyProof.Rows Builtin Builtin.Str Builtin.Int
section
variable {prog:Program} {w:World} {A:Around} {E:Value→Shared→Prop} {s:Shared} {x:Str} {n:Int} {t u:Tok}
end
end L2
namespace L2.Q
open PySem PySem.Spec PyProof.Rows
section
variable {X:Cx} {K:PySem.W.Frag} {a b:Expr} {ta tb:WE} {pos:Pos}
noncomputable def owl (o:Option (Option Sl)) (k:List D→Prop):Prop:=match o with
 | some (some (.ow true (.list xs)))=>k xs
 | _=>False
noncomputable def intD (y:D) (k:Int→Prop):Prop:=match y with
 | .int i=>k i
 | _=>False
noncomputable def outM (d:D):Md:=bif d.flat then .sh else .ow true
end
end L2.Q
namespace L2.Q.R
open PySem PySem.Spec PyProof.Rows L2.Q
section
variable {ρ:Env} {te:WE} {m m':Md} {x:L2.Q.D} {ys:List L2.Q.D} {Q:Md→L2.Q.D→Prop}
theorem Ij {k:List L2.Q.D→Prop}:owl (some (some (.ow true (.list ys)))) k=k ys:=rfl
theorem Hf {i:Int} {k:Int→Prop}:intD (.int i) k=k i:=rfl
end
end L2.Q.R
set_option Elab.async false
set_option linter.all false
set_option maxRecDepth 100000
set_option maxHeartbeats 4000000
namespace L2
open PySem PySem.Spec PyProof.Rows
section
variable {prog:Program} {w:World} {A:Around} {E:Value→Shared→Prop} {s:Shared}
theorem Az {κ:Type} [DecidableEq κ] {kd:HeapKind prog w κ} {d b:Addr} {xs:List (κ × Addr × Value)} {k:κ} {r:Value} {Q:Value→Shared→Prop} (hu:kd.room A) (hk:kd.is s.heap k b) (hm:s.heap.DictOfH kd d xs) (hz:xs.length≤sizeLine)
  (h1:∀ p,atKey xs k=some p→Q p.2 { s with toks:=s.toks+kd.draws k })
  (h2:atKey xs k=none→∀ h',h'.DictOfH kd d (storedH xs k b r)→Heap.SameBut d s.heap h'→Q r { s with heap:=h',toks:=s.toks+kd.draws k }):wpAny (model prog w) A (dictSetDefault d (.ref b) r) Q E s:=by
 obtain ⟨o,es,ep,ho,hc,hd,he,his,hn⟩:=hm
 unfold dictSetDefault
 try with_reducible refine wpAny_holding ?_
 refine wpAny_bind (kd.pyHash hu hk (wpAny_bind (wpAny_dictFind_heap (s:={ s with toks:=s.toks+kd.draws k }) hu hk ho hd he his hn (fun no=>?_) fun j p hj=>?_)))
 ·have nk:=atKey_none_of_get no
  refine wpAny_bind (wpAny_rule (wpAny_bind (wpAny_updateDictKeys (hz:=by have e:=size_of_entries he; walk_at "l") (s:={ s with toks:=s.toks+kd.draws k }) ho hd (wpAny_pure (h2 nk _ ?_ (Heap.SameBut.update ..))))))
  rw [storedH_new nk]
  refine ⟨_,_,ep+1,Heap.get?_update_self _ ho (Obj.isFreed_of_dict (Obj.data_mapDictKeys hd _)),hc.mapDictKeys _,Obj.data_mapDictKeys hd _,by simp [he,entryOfKey],fun x hx=>?_,?_⟩
  ·rcases List.mem_append.mp hx with q | q
   ·exact kd.keeps (his x q) ho hd (Heap.SameBut.update ..)
   ·obtain rfl:=List.mem_singleton.mp q
    exact kd.keeps hk ho hd (Heap.SameBut.update ..)
  ·rw [List.map_append]
   refine List.nodup_append.mpr ⟨hn,by simp,fun x hx y hy e=>?_⟩
   obtain rfl:y=k:=by simpa using hy
   exact not_mem_keys_of_get no (e ▸ hx)
 ·refine wpAny_bind (wpAny_dictEntries (s:={ s with toks:=s.toks+kd.draws k }) ho hd ?_)
  rw [entry_at he j,hj]
  exact wpAny_bind (wpAny_rule (wpAny_pure (h1 _ (atKey_of_get hn hj))))
theorem yD {κ:Type} [DecidableEq κ] (kd:HeapKind prog w κ) (d b:Addr) (hd:(d == sysModules)=false) (r:Value) :
  MeetsIn prog w (Builtin.«dict.setdefault» ⟨[.ref d,.ref b,r],[]⟩) (fun A R s=>kd.room A.in1∧∃ k xs,kd.is s.heap k b∧s.heap.DictOfH kd d xs∧xs.length≤sizeLine ∧
   (∀ p,atKey xs k=some p→R (.ok (.ret p.2)) { s with toks:=s.toks+kd.draws k }) ∧
   (atKey xs k=none→∀ h',h'.DictOfH kd d (storedH xs k b r)→Heap.SameBut d s.heap h'→R (.ok (.ret r)) { s with heap:=h',toks:=s.toks+kd.draws k })) :=
 .of_wp fun A R s hx9=>by
  obtain ⟨hu,k,xs,hk,hm,hz,h1,h2⟩:=hx9
  unfold Builtin.«dict.setdefault» Builtin.Dict.keyAndDefault
  refine wpAny_bind (wpAny_bind (wpAny_notOrdered_dict hm.typeIs ?_))
  refine (show wpAny _ _ (pure (d,Value.ref b,some r)) _ _ s from wpAny_pure ?_)
  refine (show wpAny _ _ (if (d == sysModules)=true then _ else (dictSetDefault d (Value.ref b) r >>= _)) _ _ s from ?_)
  rw [if_neg (by rw [hd]; decide)]
  exact wpAny_bind (Az hu hk hm hz (fun p q=>wpAny_pure ⟨p.2,rfl,h1 p q⟩) fun q h' a c=>wpAny_pure ⟨r,rfl,h2 q h' a c⟩)
end
section
variable {X:Cx} {pins:List (Addr × Obj)} {σ:St} {H:Hp} {s:Shared} {a b:Addr} {A:Around} {E:Value→Shared→Prop}
theorem xY {kvs:List (List Key × V)} {k:List Key} {v:V} {r:Value} {Q:Value→Shared→Prop} (hu:A.units+1<cLine) (I:Inv X pins σ H s) (e:H a=some (.dT kvs)) (eb:H b=some (.tup (k.map kV))) (hl:kvs.length<sizeLine) (rv:RelV v r)
  (h1:∀ v' w' s',valV kvs k=some v'→Inv X pins σ H s'→RelV v' w'→Q w' s') (h2:valV kvs k=none→∀ s',Inv X pins σ (upd H a (.dT (putK kvs k v))) s'→Q r s') :
  wpAny (model X.prog X.w) A (call (.builtin "dict.setdefault") [.ref a,.ref b,r]) Q E s:=by
 obtain ⟨z,hd,xs,rel,dd⟩:=dt_of I.hok e
 have hz:xs.length≤sizeLine:=by rw [← Paired.length rel]; exact z
 have hp:(putK kvs k v).length≤sizeLine:=by have:=length_putK kvs k v; walk_at "l"
 have vl:=rel.val k
 refine call_meetsIn PySem.F.slot_dict_setdefault dd.typeIs PySem.F.entry_dict_setdefault (PySem.F.args_dict_setdefault_3 _ _ _) (yD (tupleKind (mixKind X.prog X.w)) a b hd r) ⟨tupleKind_room_in1 hu,k,xs,key_of I.hok eb,dd,hz,fun p hp'=>?_,fun hn h' dd' hs=>?_⟩
 ·rw [hp'] at vl
  cases ev:valV kvs k with
  | none=>rw [ev] at vl; exact (vl:False).elim
  | some v'=>rw [ev] at vl; exact h1 v' _ _ ev (I.tok _) vl
 ·have ev:valV kvs k=none:=by
   rw [hn] at vl
   cases ev:valV kvs k with
   | none=>rfl
   | some v'=>rw [ev] at vl; exact (vl:False).elim
  refine h2 ev _ ?_
  obtain ⟨q,es,ep,hq,g2,g3,g4,_,g5⟩:=dd'
  refine d_write I (by rw [e]; exact True.intro) hs ⟨q,hq⟩ ⟨hp,hd,_,(rel.put k eb rv).keeps fun c ys ec=>?_,q,es,ep,hq,g2,g3,g4,g5⟩
  rw [upd_ne (ne_of ec e fun z=>nomatch z)]
  exact ec
end
noncomputable def tSd (td ty tx:TE):TE:=fun σ H Q=>td σ H fun x H1=>∃ a,x=.ref a∧IsD H1 a∧ty σ H1 fun y H2=>tx σ H2 fun z H3=>∃ kvs k b,H3 a=some (.dT kvs)∧y=.ref b∧H3 b=some (.tup (k.map kV))∧kvs.length<sizeLine ∧
 (∀ v,valV kvs k=some v→Q v H3)∧(valV kvs k=none→Q z (upd H3 a (.dT (putK kvs k z))))
theorem Fv {X:Cx} {o e f:Expr} {apos cpos:Pos} {td ty tx:TE} (hu:X.A.units+1<cLine) (ho:PE X o td) (he:PE X e ty) (hf:PE X f tx) (m:M2 X o "setdefault" apos e f cpos):PE X (.Call (.Attribute o "setdefault" apos) [e,f] [] cpos) (tSd td ty tx):=by
 intro pins s σ H Q I h
 refine wpAny_Call_method m.base m.few m.line PySem.F.plainAttrs_dict PySem.F.slot_dict_setdefault PySem.F.type_dict_setdefault (thn (ho pins s σ H _ I h) fun u s1 hx9=>?_)
 obtain ⟨x,H1,I1,rx,a,ex,d,q1⟩:=hx9
 subst ex
 cases (show u=Value.ref a from rx)
 have td:=isD_at I1 d
 refine ⟨td.1,td.2.1,?_⟩
 rw [m.trees]
 refine Calls.callWith_builtin rfl (Calls.evalArgs_plain (Calls.spliced_cons (thn (he pins s1 σ H1 _ I1 q1) fun iv s2 hx5=>L2.ex2 hx5 fun y H2 I2 ry q2=>Calls.spliced_cons (thn (hf pins s2 σ H2 _ I2 q2) fun fv s3 ⟨z,H3,I3,rz,kvs,k,b,e1,e2,e3,hl,q3,q4⟩=>Calls.spliced_nil ?_))))
 subst e2
 cases (show iv=Value.ref b from ry)
 exact xY hu I3 e1 e3 hl rz (fun v' w' s' ev I' r'=>⟨v',H3,I',r',q3 v' ev⟩) fun ev s' I'=>⟨z,_,I',rz,q4 ev⟩
end L2
namespace L2.Q
open PySem PySem.Spec PyProof.Rows
section
variable {X:Cx} {K:PySem.W.Frag} {a b c:Expr} {ta tb tc:WE} {pos apos cpos:Pos}
noncomputable def onD (x:D) (f:List (Key × D)→Prop) (g:List (List Key × D)→Prop):Prop:=match x with
 | .dK kvs=>f kvs
 | .dT kvs=>g kvs
 | _=>False
noncomputable def tupD (y:D) (k:List D→Prop):Prop:=match y with
 | .tup ys=>k ys
 | _=>False
noncomputable def gotG (o:Option D) (m n:Md) (z:D) (Q:Md→D→Prop):Prop:=match o with
 | some d=>Q (itm m d) d
 | none=>Q n z
noncomputable def wGet (ta tb tc:WE):WE:=fun ρ Q=>ta ρ fun m x=>onD x (fun kvs=>tb ρ fun _ y=>tc ρ fun n z=>∃ k,y.key1=some k∧gotG (getG kvs k) m n z Q)
 (fun kvs=>tb ρ fun _ y=>tc ρ fun n z=>tupD y fun ys=>∃ ks,eN ys=some ks∧gotG (getG kvs ks) m n z Q)
theorem Gi (hu:X.A.units+64<cLine) (ha:QE X K a ta) (hb:QE X K b tb) (hc:QE X K c tc) (hm:M2 X a "get" apos b c cpos:=by exact ⟨rfl,rfl,rfl,rfl⟩):QE X K (.Call (.Attribute a "get" apos) [b,c] [] cpos) (wGet ta tb tc):=by
 refine PE.imp (pe_dget2 (by walk_at "l") ha hb hc hm) fun σ H Qv hx=>ex4 hx fun Hs ρ tot Q sr h fin=>?_
 refine ⟨Hs,ρ,tot,_,sr,h,fun v H1 Hs1 m x As g1 r1 f1 q1=>?_⟩
 have got:∀ {o:Option V} {d? : Option D} {H2 H3 Hs2 Hs3:Hp} {w:V} {n:Md} {z:D} {Cs:List Addr},Grow Hs1 H1 Hs2 H2→Grow Hs2 H2 Hs3 H3→RM K Hs3 H3 n z w Cs→cV Hs3 H2 Cs→(match d? with
   | some d=>∃ v,o=some v∧Rep K H3 d v∧(m=.sh→Rep K Hs3 d v)
   | none=>o=none)→gotG d? m n z Q→Qv (o.getD w) H3:=by
  intro o d? H2 H3 Hs2 Hs3 w n z Cs g2 g3 r3 f3 l q
  cases d? with
  | none=>rw [show o=none from l]; exact fin w H3 Hs3 n z Cs ((g1.trans g2).trans g3) r3 (f3.of (g1.trans g2).all) q
  | some d =>
   obtain ⟨v',e,u1,u2⟩:=l
   rw [e]
   exact (Fin.after fin ((g1.trans g2).trans g3)).itm g3.wf u1 u2 q
 have core:∀ G:Hp,Same G H1→(∀ H3 Hs3,Grow Hs1 H1 Hs3 H3→∀ d v,Rep K G d v→Rep K H3 d v∧(m=.sh→Rep K Hs3 d v))→Rep K G x v→∃ a,v=.ref a∧IsD H1 a∧tpE K tb σ H1 fun y H2=>tpE K tc σ H2 fun z H3=>∃ o,DGet H3 a y o∧Qv (o.getD z) H3:=by
  intro G sg up r
  cases r with
  | dK kk s q =>
   refine ⟨_,rfl,.inl ⟨_,.inl (sg _ _ s)⟩,Hs1,ρ,tot,_,sr.grow g1,q1,fun u H2 Hs2 n y Bs g2 r2 f2 q2=>⟨Hs2,ρ,tot,_,(sr.grow g1).grow g2,q2,fun w H3 Hs3 n3 z Cs g3 r3 f3 q3=>?_⟩⟩
   have ry:=(r2.grow g3).rep g3.wf
   obtain ⟨k,hk,q4⟩:=q3
   have ev:=ry.key hk
   subst ev
   refine ⟨_,DGet.k ((g2.trans g3).all _ _ (sg _ _ s)),got g2 g3 r3 f3 ?_ q4⟩
   have z:=zip_get (k:=k) q
   split
   ·rename_i d e
    rw [e] at z
    obtain ⟨v',e',r'⟩:=z
    exact ⟨v',e',up _ _ (g2.trans g3) _ _ r'⟩
   ·rename_i e
    rw [e] at z
    exact z
  | dT kk s q =>
   refine ⟨_,rfl,.inr ⟨_,.inl (sg _ _ s)⟩,Hs1,ρ,tot,_,sr.grow g1,q1,fun u H2 Hs2 n y Bs g2 r2 f2 q2=>⟨Hs2,ρ,tot,_,(sr.grow g1).grow g2,q2,fun w H3 Hs3 n3 z Cs g3 r3 f3 q3=>?_⟩⟩
   have ry:=(r2.grow g3).rep g3.wf
   cases ry with
   | tup t2 e2 p2 =>
    obtain ⟨k,hk,q4⟩:=q3
    obtain ⟨b',eb,e3⟩:=Rep.keyT (.tup t2 e2 p2) hk
    cases eb
    refine ⟨_,DGet.t ((g2.trans g3).all _ _ (sg _ _ s)) e3,got g2 g3 r3 f3 ?_ q4⟩
    have z:=zip_get (k:=k) q
    split
    ·rename_i d e
     rw [e] at z
     obtain ⟨v',e',r'⟩:=z
     exact ⟨v',e',up _ _ (g2.trans g3) _ _ r'⟩
    ·rename_i e
     rw [e] at z
     exact z
   | _=>exact q3.elim
  | _=>exact q1.elim
 rcases r1.here g1.wf with ⟨hm,r⟩ | ⟨hm,r⟩
 ·exact core Hs1 g1.wf.sub (fun H3 Hs3 g d v q=>⟨q.same (g1.wf.sub.trans g.all),fun _=>q.same g.sh⟩) r
 ·exact core H1 (Same.refl H1) (fun H3 Hs3 g d v q=>⟨q.same g.all,fun z=>absurd z hm⟩) r
noncomputable def appD (d x:D):D:=match d with
 | .list xs=>.list (xs++[x])
 | d=>d
noncomputable def sdG:List (List Key × D)→List Key→D→List (List Key × D)
 | [],k,x=>[(k,.list [x])]
 | p :: r,k,x=>if p.1=k then (p.1,appD p.2 x) :: r else p :: sdG r k x
noncomputable def sdN (kvs:List (List Key × D)) (k:List Key):List (List Key × D):=match getG kvs k with
 | some _=>kvs
 | none=>kvs++[(k,.list [])]
noncomputable def zu:Option D→Prop
 | none=>True
 | some (.list xs)=>xs.length<sizeLine
 | _=>False
noncomputable def owdT (o:Option (Option Sl)) (k:List (List Key × D)→Prop):Prop:=match o with
 | some (some (.ow true (.dT kvs)))=>k kvs
 | _=>False
noncomputable def wSd (i:Nat) (tk te:WE):WS:=fun E ρ=>owdT ρ[i]? fun kvs=>tk ρ fun _ y=>tupD y fun ys=>∃ ks,eN ys=some ks∧kvs.length<sizeLine∧zu (getG kvs ks) ∧
 te (ρ.set i (some (.ow true (.dT (sdN kvs ks))))) fun _ x=>x.flat=true∧E.nx (ρ.set i (some (.ow true (.dT (sdG kvs ks x)))))
theorem aR {κ β:Type} [DecidableEq κ] (p:κ × β) (r:List (κ × β)) (k:κ):getG (p :: r) k=if p.1=k then some p.2 else getG r k:=by
 by_cases h:p.1=k <;> simp [getG,h]
theorem DX {k:List Key} {d:D}:∀ {kvs:List (List Key × D)},getG kvs k=some d→∃ j,(kvs.map (·.2))[j]? = some d∧(∀ vs:List V,vs.length=kvs.length→valV ((kvs.map (·.1)).zip vs) k=vs[j]?) ∧
  ∀ x,(sdG kvs k x).map (·.1)=kvs.map (·.1)∧(sdG kvs k x).map (·.2)=(kvs.map (·.2)).set j (appD d x)
 | [],h=>by simp [getG] at h
 | p :: kvs,h=>by
  rw [aR] at h
  by_cases e:p.1=k
  ·rw [if_pos e] at h
   cases h
   refine ⟨0,rfl,fun vs hl=>?_,fun x=>?_⟩
   ·cases vs with
    | nil=>cases hl
    | cons v vs=>exact valV_pos (p:=(p.1,v)) e
   ·simp [sdG,e]
  ·rw [if_neg e] at h
   obtain ⟨j,h1,h2,h3⟩:=DX h
   refine ⟨j+1,by simpa using h1,fun vs hl=>?_,fun x=>?_⟩
   ·cases vs with
    | nil=>cases hl
    | cons v vs =>
     show valV ((p.1,v) :: (kvs.map (·.1)).zip vs) k=_
     rw [valV_neg (p:=(p.1,v)) e,h2 vs (by simpa using hl)]
     rfl
   ·simp [sdG,e,h3 x]
theorem pU {k:List Key} {d:D}:∀ {kvs:List (List Key × D)},getG kvs k=none→getG (kvs++[(k,d)]) k=some d
 | [],_=>by simp [getG]
 | p :: kvs,h=>by
  rw [aR] at h
  by_cases e:p.1=k
  ·rw [if_pos e] at h; cases h
  ·rw [if_neg e] at h
   rw [List.cons_append,aR,if_neg e,pU h]
theorem t8 {k:List Key} {x:D}:∀ {kvs:List (List Key × D)},getG kvs k=none→sdG (kvs++[(k,.list [])]) k x=sdG kvs k x
 | [],_=>by simp [sdG,appD]
 | p :: kvs,h=>by
  rw [aR] at h
  by_cases e:p.1=k
  ·rw [if_pos e] at h; cases h
  ·rw [if_neg e] at h
   rw [List.cons_append,sdG,sdG,if_neg e,if_neg e,t8 h]
theorem SRel.place {Hs H:Hp} {ρ:Env} {σ:St} {tot:List Addr} {i:Nat} {fl:Bool} {d:D} (sr:SRel K Hs ρ σ H tot) (e:ρ[i]? = some (some (.ow fl d))):∃ v,σ[i]? = some (some v)∧Place K Hs H σ fl d v fun fl2 d2=>ρ.set i (some (.ow fl2 d2)):=by
 obtain ⟨v,As,t,e2,ne,r,sb,g⟩:=SR.put i sr.sr e sr.nod
 refine ⟨v,e2,As,r,ne,sb.nodup sr.nod,fun a h=>sr.own a (sb.subset h),fun Hs2 H2 fl2 d2 As2 s2 w2 n2 _ r2 ne2 nd2 o2 st=>?_⟩
 obtain ⟨t2,x,y,z⟩:=g Hs2 H2 fl2 d2 As2 s2 r2 ne2 nd2 (fun a ha m=>(o2 a ha).2.elim id fun q=>absurd q (sr.sr.own a m).ne) fun a ha m=>st a (sr.sr.own a ha).ne m
 exact ⟨t2,z,w2,x,fun a h=>(y a h).elim (fun q=>n2 a (sr.own a q) (sr.sr.own a q).ne) fun q=>(o2 a q).1⟩
theorem tY {Hs H:Hp} {ρ:Env} {σ:St} {tot:List Addr} {i:Nat} {kvs:List (List Key × D)} {ks:List Key} {xs:List D} (sr:SRel K Hs ρ σ H tot) (e1:ρ[i]? = some (some (.ow true (.dT kvs)))) (hg:getG kvs ks=some (.list xs)) :
  ∃ a kvv c ws,σ[i]? = some (some (.ref a))∧H a=some (.dT kvv)∧valV kvv ks=some (.ref c)∧H c=some (.lst ws)∧ws.length=xs.length ∧
   ∀ x y,x.flat=true→Rep K Hs x y→ws.length<sizeLine→∃ tot2,SRel K Hs (ρ.set i (some (.ow true (.dT (sdG kvs ks x))))) σ (upd H c (.lst (ws++[y]))) tot2:=by
 obtain ⟨v,e2,pl⟩:=sr.place e1
 obtain ⟨As',r,ne,nd,own,k⟩:=pl.ex
 cases r with
 | sh hf _=>exact absurd rfl ne
 | @dT a0 vs _ A kk e rs =>
  obtain ⟨na,nA⟩:=List.nodup_cons.mp nd
  obtain ⟨j,ej,ev,es⟩:=DX hg
  obtain ⟨w,B,e3,r3,sb,g⟩:=rs.at ej nA
  have hl:vs.length=kvs.length:=by have:=rs.length; rw [List.length_map] at this; exact this.symm
  cases r3 with
  | sh hf _=>exact absurd (hf rfl) (by simp [D.flat])
  | @list c ws _ B' hz ec rs' =>
   have cA:c∈A:=sb.subset List.mem_cons_self
   refine ⟨a0,_,c,ws,e2,e,(ev vs hl).trans e3,ec,rs'.length.symm,fun x y hx rx hw=>?_⟩
   have hca:a0≠c:=fun z=>na (z ▸ cA)
   obtain ⟨nc,nB⟩:=List.nodup_cons.mp (sb.nodup nA)
   have r4:RepO K Hs (upd H c (.lst (ws++[y]))) true (.list (xs++[x])) (.ref c) (c :: B'):=by
    have:=(rs'.stay (H':=upd H c (.lst (ws++[y]))) (Same.refl _) fun b hb=>upd_ne fun z=>nc (z ▸ hb)).append (aD.cons (As:=[]) (.sh (fun _=>hx) rx) .nil)
    rw [List.append_nil,List.append_nil] at this
    exact .list (by rw [List.length_append]; exact hw) upd_same this
   obtain ⟨As2,n2,y2,_,r5⟩:=g Hs (upd H c (.lst (ws++[y]))) true _ _ (Same.refl _) id r4 (sb.nodup nA) (fun _ h _=>h) (fun b _ nb=>upd_ne fun z=>nb (z ▸ List.mem_cons_self))
   have in2:∀ b∈As2,b∈A:=fun b hb=>(y2 b hb).elim (fun q=>q.1) fun q=>sb.subset q
   obtain ⟨k1,k2⟩:=es x
   have kl:(sdG kvs ks x).length=kvs.length:=by have:=congrArg List.length k1; simpa using this
   refine k Hs _ true (.dT (sdG kvs ks x)) (a0 :: As2) (Same.refl _) (xu sr.wf (own c (List.mem_cons_of_mem _ cA)) fun _ z=>nomatch z) (fun _ h _=>h) id (.dT (vs:=vs) ⟨by rw [kl]; exact kk.1,fun p hp=>?_⟩ (by rw [upd_ne hca,k1]; exact e) (by rw [k2]; exact r5)) (by simp) (List.nodup_cons.mpr ⟨fun z=>na (in2 _ z),n2⟩) (fun b hb=>?_) fun b _ nb=>upd_ne fun z=>nb (z ▸ List.mem_cons_of_mem _ cA)
   ·have:p.1∈kvs.map (·.1):=k1 ▸ List.mem_map_of_mem hp
    obtain ⟨p',hp',e'⟩:=List.mem_map.mp this
    rw [← e']; exact kk.2 p' hp'
   ·have hb':b∈a0 :: A:=(List.mem_cons.mp hb).elim (fun z=>z ▸ List.mem_cons_self) fun z=>List.mem_cons_of_mem _ (in2 b z)
    exact ⟨own b hb',.inl hb'⟩
theorem zr {te:WE} {Hs H:Hp} {ρ:Env} {σ:St} {tot:List Addr} {i:Nat} {kvs:List (List Key × D)} {ks:List Key} {xs:List D} {a:Addr} {kvv:List (List Key × V)} {v':V} {R:Env→Prop} {G:Hp→Prop} (sr:SRel K Hs ρ σ H tot) (e1:ρ[i]? = some (some (.ow true (.dT kvs)))) (hg:getG kvs ks=some (.list xs)) (hz:xs.length<sizeLine)
  (eσ:σ[i]? = some (some (.ref a))) (eH:H a=some (.dT kvv)) (ev:valV kvv ks=some v') (q:te ρ fun _ x=>x.flat=true∧R (ρ.set i (some (.ow true (.dT (sdG kvs ks x)))))) (k1:∀ H' Hs' ρ' tot',Same Hs Hs'→SRel K Hs' ρ' σ H' tot'→R ρ'→G H') :
  tyV K "list" v' H∧tCons (tpE K te) tNil σ H fun us H2=>rAppend v' us H2 fun _ H3=>G H3:=by
 obtain ⟨a',kv',c,ws,f1,f2,f3,f4,f5,f6⟩:=tY sr e1 hg
 have ea:a'=a:=by rw [f1] at eσ; cases eσ; rfl
 subst ea
 have ek:kv'=kvv:=by rw [f2] at eH; cases eH; rfl
 subst ek
 have e':v'=.ref c:=by rw [f3] at ev; cases ev; rfl
 subst e'
 refine ⟨.inl ⟨rfl,_,.inl (.inl f4)⟩,Hs,ρ,tot,_,sr,q,fun y H2 Hs2 m x Cs g2 r2 fr2 q2=>?_⟩
 obtain ⟨hx,q2⟩:=q2
 obtain ⟨b',kv2,c2,ws2,h1,h2,h3,h4,h5,h6⟩:=tY (sr.grow g2) e1 hg
 have ea:b'=a':=by rw [f1] at h1; cases h1; rfl
 subst ea
 have ek:kv2=kv':=by rw [g2.all _ _ f2] at h2; cases h2; rfl
 subst ek
 have e':c2=c:=by rw [f3] at h3; cases h3; rfl
 subst e'
 obtain ⟨tot2,sr2⟩:=h6 x y hx (r2.flat g2.wf hx) (by walk_at "l")
 exact ⟨c2,ws2,y,rfl,rfl,h4,by walk_at "l",k1 _ Hs2 _ tot2 g2.sh sr2 q2⟩
theorem set_own {α:Type} {ρ:List α} {i:Nat} {x:α} (h:ρ[i]? = some x):ρ.set i x=ρ:=by
 apply List.ext_getElem?
 intro j
 rw [List.getElem?_set]
 split
 ·rename_i e
  subst e
  have:=(List.getElem?_eq_some_iff.mp h).1
  rw [if_pos this,h]
 ·rfl
theorem Gy {L:Str→Hp→Prop} {i:Nat} {p1 p2 p3 p4 p5:Pos} (hu:X.A.units+64<cLine) (he:PE X a (tVar i)) (hb:QE X K b tb) (hc:QE X K c tc) (hK:X.K=K:=by rfl) (hm:M2 X a "setdefault" p1 b (.List [] p2) p3:=by exact ⟨rfl,rfl,rfl,rfl⟩)
  (hs:swapsWith (.Call (.Attribute (.Call (.Attribute a "setdefault" p1) [b,.List [] p2] [] p3) "append" p4) [c] [] p5) none pos.line X.env=pure false:=by rfl)
  (hbase:attributeBase (.Call (.Attribute a "setdefault" p1) [b,.List [] p2] [] p3) "append" X.env (eval (.Call (.Attribute a "setdefault" p1) [b,.List [] p2] [] p3) X.env)=eval (.Call (.Attribute a "setdefault" p1) [b,.List [] p2] [] p3) X.env:=by rfl)
  (hfew:((backTo p5 (starEach [c] X.env)).all (fun x=>!x.1) && (backToKw p5 (keywordEach [] X.env)).all (fun x=>x.1.isSome)
   && decide ([c].length+([]:List Keyword).length+(if ([]:List Keyword).isEmpty then 0 else 1)<30))=true:=by rfl)
  (hline:(p4.endLine == p5.line)=true:=by rfl) (hss:starEach (c :: []) X.env=(false,eval c X.env) :: starEach [] X.env:=by rfl) (hplain:(backTo p5 (starEach [] X.env)).any (·.1)=false:=by rfl) :
  QS X K L (.Expr (.Call (.Attribute (.Call (.Attribute a "setdefault" p1) [b,.List [] p2] [] p3) "append" p4) [c] [] p5) pos) (wSd i tb tc):=by
 subst hK
 refine PS.imp (ps_expr (pe_bm PySem.F.plainAttrs_list PySem.F.slot_list_append PySem.F.type_list_append mt_append (Fv (by walk_at "l") he hb (c7 (K:=X.K) az) hm) (pa_cons hc pa_nil hss) hbase hfew hline hss hplain) hs) fun D σ H hx=>fV hx fun Hs ρ tot E sr h k1 k2 k3 k4=>?_
 unfold wSd owdT at h
 split at h
 ·rename_i kvs e1
  obtain ⟨v,e2,pl⟩:=sr.place e1
  obtain ⟨As',r,ne,nd,own,k⟩:=pl.ex
  have lv:∀ x∈As',Hs x=none∧H x≠none:=fun x hx=>⟨own x hx,(r.own x hx).ne⟩
  cases r with
  | sh hf _=>exact absurd rfl ne
  | @dT a0 vs _ A kk e rs =>
   refine ⟨_,e2,a0,rfl,.inr ⟨_,.inl e⟩,Hs,ρ,tot,_,sr,h,fun u H2 Hs2 m y Bs g2 r2 f2 q2=>?_⟩
   refine ⟨Hs2,ρ,tot,fun m d=>m=.ow true∧d=.list [],sr.grow g2,⟨Nat.zero_le _,rfl,rfl⟩,fun w H3 Hs3 n z Cs g3 r3 f3 q3=>?_⟩
   obtain ⟨rfl,rfl⟩:=q3
   have ry:=(r2.grow g3).rep g3.wf
   cases ry with
   | tup t2 ey p2 =>
    obtain ⟨ks,hk,hz,hsh,q⟩:=q2
    obtain ⟨b',eb,e3⟩:=Rep.keyT (.tup t2 ey p2) hk
    cases eb
    have g:=g2.trans g3
    have hl:kvs.length=vs.length:=by have:=rs.length; rwa [List.length_map] at this
    have srg:=sr.grow g
    have zg:=zip_get (k:=ks) (rs.reps (G:=H) sr.wf.sub fun _ _=>rfl)
    refine ⟨_,ks,_,g.all _ _ e,rfl,e3,by rw [List.length_zip,List.length_map,← hl,Nat.min_self]; exact hz,fun v' ev=>?_,fun ev=>?_⟩
    ·cases hg:getG kvs ks with
     | none=>rw [hg] at zg; rw [zg] at ev; cases ev
     | some d =>
      rw [hg] at hsh
      cases d with
      | list xs =>
       rw [show sdN kvs ks=kvs by unfold sdN; rw [hg],set_own e1] at q
       exact zr (G:=fun H'=>D.nx σ H') srg e1 hg hsh e2 (g.all _ _ e) ev q fun H' Hs' ρ' tot' s1 s2 q'=>k1 σ H' Hs' ρ' tot' (g.sh.trans s1) s2 q'
      | _=>exact hsh.elim
    ·have hg:getG kvs ks=none:=by
      cases hg:getG kvs ks with
      | none=>rfl
      | some d=>rw [hg] at zg; obtain ⟨v',z,_⟩:=zg; rw [z] at ev; cases ev
     rw [show sdN kvs ks=kvs++[(ks,.list [])] by unfold sdN; rw [hg]] at q
     obtain ⟨r3,_⟩:=r3
     cases r3 with
     | sh hf _=>exact absurd (hf rfl) (by simp [Q.D.flat])
     | @list c ws _ B' hw ec rs' =>
      cases rs'
      obtain ⟨na,nA⟩:=List.nodup_cons.mp nd
      have fc:=f3.2 c List.mem_cons_self
      have hHc:H c=none:=g2.all.free fc.2
      have cA:∀ b∈a0 :: A,b≠c:=fun b hb z=>by
       subst z
       rcases List.mem_cons.mp hb with rfl | hb
       ·rw [e] at hHc; cases hHc
       ·exact (rs.own _ hb).ne hHc
      have ek:putK ((kvs.map (·.1)).zip vs) ks (V.ref c)=((kvs++[(ks,Q.D.list [])]).map (·.1)).zip (vs++[V.ref c]):=by
       have:=valV_any ks ((kvs.map (·.1)).zip vs)
       rw [ev] at this
       unfold putK
       rw [this,if_neg (by decide),List.map_append,List.zip_append (by rw [List.length_map]; exact hl)]
       rfl
      obtain ⟨kl,ko⟩:=yU p2 hk
      have l1:=p2.length
      have rs3:=rs.grow g.sh g.all
      have rs4:aD X.K Hs3 (upd H3 a0 (.dT (((kvs++[(ks,Q.D.list [])]).map (·.1)).zip (vs++[V.ref c])))) true ((kvs++[(ks,Q.D.list [])]).map (·.2)) (vs++[V.ref c]) (A++[c]):=by
       have q1:=rs3.stay (H':=upd H3 a0 (.dT (((kvs++[(ks,Q.D.list [])]).map (·.1)).zip (vs++[V.ref c])))) (Same.refl _) fun b hb=>upd_ne fun z=>na (z ▸ hb)
       have q2:=q1.append (aD.cons (RepO.list (ds:=[]) (As:=[]) hw ((upd_ne fun z=>cA a0 List.mem_cons_self z.symm).trans ec) .nil) .nil)
       rw [show (kvs++[(ks,Q.D.list [])]).map (·.2)=kvs.map (·.2)++[Q.D.list []] by simp]
       exact q2
      obtain ⟨tot2,sr2⟩:=k.node (fl2:=true) (d2:=.dT (kvs++[(ks,.list [])])) (C:=A++[c]) g lv (fun _ z=>by cases z) id
       (.dT ⟨by rw [List.length_append]; exact hz,fun p hp=>(List.mem_append.mp hp).elim (kk.2 p) fun z=>by
        obtain rfl:p=(ks,.list []):=by simpa using z
        exact ⟨by show ks.length≤_; walk_at "l",ko⟩⟩ upd_same rs4)
       (List.nodup_append.mpr ⟨nA,by simp,fun x hx y hy z=>cA x (List.mem_cons_of_mem _ hx) (by rw [z]; simpa using hy)⟩) (fun z=>(List.mem_append.mp z).elim na fun z=>cA a0 List.mem_cons_self (by simpa using z))
       (fun x hx=>(List.mem_append.mp hx).imp id fun z=>by
        obtain rfl:x=c:=by simpa using z
        exact ⟨fc.1,hHc⟩)
      rw [ek]
      have hi:i<ρ.length:=(List.getElem?_eq_some_iff.mp e1).1
      refine zr (G:=fun H'=>D.nx σ H') (R:=E.nx) (kvs:=kvs++[(ks,.list [])]) (xs:=[]) sr2 (by simp [hi]) (pU hg) (by rw [sizeLine_eq]; decide) e2 upd_same (by rw [← ek,valV_put,if_pos rfl]) ?_ fun H' Hs' ρ' tot' s1 s2 q'=>k1 σ H' Hs' ρ' tot' (g.sh.trans s1) s2 q'
      simp only [List.set_set,t8 hg]
      exact q
   | _=>exact q2.elim
 ·exact h.elim
end
end L2.Q
set_option Elab.async false
set_option linter.all false
set_option maxRecDepth 100000
set_option maxHeartbeats 4000000
namespace L2
open PySem PySem.Spec PyProof.Rows
end L2
namespace L2.Q
open PySem PySem.Spec PyProof.Rows
section
variable {X:Cx} {K:PySem.W.Frag} {a b c:Expr} {ta tb tc:WE} {pos apos cpos:Pos}
section
variable {κ:Type} [DecidableEq κ]
end
noncomputable def owdK (d:D) (k:List (Key × D)→Prop):Prop:=match d with
 | .dK kvs=>k kvs
 | _=>False
theorem SR.take {Hs H:Hp} {ρ:Env} {σ:St} {tot:List Addr} (i:Nat) {fl:Bool} {d:D} (s:SR K Hs H ρ σ tot):ρ[i]? = some (some (.ow fl d))→tot.Nodup →
  ∃ (v:V) (As tot':List Addr),σ[i]? = some (some v)∧RepO K Hs H fl d v As∧As.Sublist tot∧tot'.Sublist tot∧(∀ a∈As,a∉tot')∧SR K Hs H (ρ.set i none) σ tot':=by
 induction s generalizing i with
 | nil=>intro e; simp at e
 | non q ih =>
  intro e n
  cases i with
  | zero=>simp at e
  | succ i =>
   obtain ⟨v,As,t,o,a,b,c,d,f⟩:=ih i e n
   exact ⟨v,As,t,o,a,b,c,d,.non f⟩
 | sh r q ih =>
  intro e n
  cases i with
  | zero=>simp at e
  | succ i =>
   obtain ⟨v,As,t,o,a,b,c,d,f⟩:=ih i e n
   exact ⟨v,As,t,o,a,b,c,d,.sh r f⟩
 | xc q ih =>
  intro e n
  cases i with
  | zero=>simp at e
  | succ i =>
   obtain ⟨v,As,t,o,a,b,c,d,f⟩:=ih i e n
   exact ⟨v,As,t,o,a,b,c,d,.xc f⟩
 | ow ne r q ih =>
  intro e n
  obtain ⟨n1,n2,n3⟩:=List.nodup_append.mp n
  cases i with
  | zero =>
   simp at e
   obtain ⟨rfl,rfl⟩:=e
   exact ⟨_,_,_,rfl,r,List.sublist_append_left _ _,List.sublist_append_right _ _,fun a h m=>n3 a h a m rfl,.non q⟩
  | succ i =>
   obtain ⟨v,As,t,o,a,b,c,d,f⟩:=ih i e n2
   exact ⟨v,As,_,o,a,b.trans (List.sublist_append_right _ _),c.append_left _,nO n b d,.ow ne r f⟩
 | lk ne r q ih =>
  intro e n
  obtain ⟨n1,n2,n3⟩:=List.nodup_append.mp n
  cases i with
  | zero=>simp at e
  | succ i =>
   obtain ⟨v,As,t,o,a,b,c,d,f⟩:=ih i e n2
   exact ⟨v,As,_,o,a,b.trans (List.sublist_append_right _ _),c.append_left _,nO n b d,.lk ne r f⟩
end
end L2.Q
namespace L2.Q.R
open PySem PySem.Spec PyProof.Rows L2.Q
section
variable {ρ:Env} {E:rF} {te tb tc tk tv:WE} {m m':Md} {x y:L2.Q.D} {ys:List L2.Q.D} {Q:Md→L2.Q.D→Prop} {p:WP} {i j k:Nat}
theorem JG {kvs:List (Key × L2.Q.D)} {k:List (Key × L2.Q.D)→Prop}:owdK (.dK kvs) k=k kvs:=rfl
theorem J7:wGet te tb tc ρ Q=te ρ fun m x=>onK x (f:=fun x=>onD x (fun kvs=>tb ρ fun _ y=>tc ρ fun n z=>∃ k,y.key1=some k∧gotG (getG kvs k) m n z Q)
 (fun kvs=>tb ρ fun _ y=>tc ρ fun n z=>onK y (f:=fun y=>tupD y fun ys=>∃ ks,eN ys=some ks∧gotG (getG kvs ks) m n z Q) ⟨⟩)) ⟨⟩:=rfl
theorem Jz {kvs:List (Key × L2.Q.D)} {f:List (Key × L2.Q.D)→Prop} {g:List (List Key × L2.Q.D)→Prop}:onD (.dK kvs) f g=f kvs:=rfl
theorem Ju {kvs:List (List Key × L2.Q.D)} {f:List (Key × L2.Q.D)→Prop} {g:List (List Key × L2.Q.D)→Prop}:onD (.dT kvs) f g=g kvs:=rfl
theorem J8 {k:List L2.Q.D→Prop}:tupD (.tup ys) k=k ys:=rfl
theorem wSd_:wSd i tk te E ρ=onK ρ[i]? (f:=fun o=>owdT o fun kvs=>tk ρ fun _ y=>onK y (f:=fun y=>tupD y fun ys=>∃ ks,eN ys=some ks∧kvs.length<sizeLine∧zu (getG kvs ks) ∧
 te (ρ.set i (some (.ow true (.dT (sdN kvs ks))))) fun _ x=>x.flat=true∧E.nx (ρ.set i (some (.ow true (.dT (sdG kvs ks x)))))) ⟨⟩) ⟨⟩:=rfl
theorem J9 {kvs:List (List Key × L2.Q.D)} {k:List (List Key × L2.Q.D)→Prop}:owdT (some (some (.ow true (.dT kvs)))) k=k kvs:=rfl
end
end L2.Q.R
set_option Elab.async false
set_option linter.all false
set_option maxRecDepth 100000
set_option maxHeartbeats 4000000
namespace L2
open PySem PySem.Spec PyProof.Rows
section
variable {X:Cx}
noncomputable def rAny (K:PySem.W.Frag):List V→Hp→VK→Prop:=fun xs H Q=>match xs with
 | [.ref a]=>∃ bs:List Bool,SqL K H a (bs.map V.bl)∧Q (.bl (bs.any id)) H
 | _=>False
theorem wD (hc:X.calm=true):CallR X (.builtin "any") (rAny X.K):=by
 intro pins s σ H xs us Q I r h
 unfold rAny at h
 split at h
 ·rename_i a
  obtain ⟨bs,e,q⟩:=h
  obtain ⟨u,rfl,ru⟩:=Vals.one r
  cases ru
  obtain ⟨its,rv,pl,hz⟩:=I.list e
  have hl:s.heap.IsList a its.toArray:=pl.isList
  obtain ⟨o,ho,hoc,n,hod⟩:=id hl
  have hlen:=rv.length
  rw [List.length_map] at hlen
  refine call_any_walk (wpAny_pyIter_list hl ?_)
  have hne:a≠s.heap.objs.size:=Nat.ne_of_lt (Heap.lt_size ho)
  have hhd:X.A.in1.handled=none:=I.ok.hd hc
  refine ⟨s.heap.objs.size,_,_,_,_,_,fun i=>bs.getD i false,rfl,Walks.list hhd s.heap.objs.size a hne its.toArray,⟨⟨_,Heap.get?_push_size _ rfl,rfl,rfl⟩,⟨_,Heap.get?_push_of_some _ ho,hoc,n,hod⟩⟩,?_,fun h' tk hk=>?_⟩
  ·intro i v s' Q' E' hv hq
   have hv':its[i]? = some v:=by simpa using (show its.toArray[i]? = some v from hv)
   have hi:i<bs.length:=by
    have:=(List.getElem?_eq_some_iff.mp hv').1
    walk_at "l"
   obtain ⟨w',e1,r1⟩:=rv.get (i:=i) (x:=V.bl bs[i]) (by simp [hi])
   rw [hv'] at e1
   cases e1
   cases (show v=Value.bool bs[i] from r1)
   have hq:Q' (bs.getD i false) s':=hq
   rw [show bs.getD i false=bs[i] by simp [List.getD,hi]] at hq
   exact wpAny_truthy_bool hq
  ·have e3:((List.range its.toArray.size).any fun i=>bs.getD i false)=bs.any id:=by
    rw [List.size_toArray,← hlen]
    apply Bool.eq_iff_iff.mpr
    simp only [List.any_eq_true,List.mem_range,id]
    constructor
    ·rintro ⟨i,hi,h⟩
     exact ⟨bs[i],List.getElem_mem hi,by simpa [List.getD,hi] using h⟩
    ·rintro ⟨b,hb,h⟩
     obtain ⟨i,hi,rfl⟩:=List.mem_iff_getElem.mp hb
     exact ⟨i,hi,by simpa [List.getD,hi] using h⟩
   rw [e3]
   refine ⟨.bl (bs.any id),H,?_,rfl,q⟩
   exact I.kept (t':=tk) fun b o e=>hk b o (by simp; exact Nat.ne_of_lt (Heap.lt_size e)) (Heap.get?_push_of_some _ e)
 ·exact h.elim
noncomputable def insL {α:Type} (xs:List α) (k:Nat) (y:α):List α:=xs.take k++y :: xs.drop k
end
end L2
namespace L2.Q
open PySem PySem.Spec PyProof.Rows
section
variable {X:Cx} {K:PySem.W.Frag} {L:Str→Hp→Prop} {e e2 e3:Expr} {p:WP} {te te2 te3:WE} {apos cpos pos:Pos}
theorem kAny (hc:X.calm=true:=by rfl) (hK:X.K=K:=by rfl):CallR X (.builtin "any") (rAny K):=by subst hK; exact wD hc
theorem zL:bootBuiltins "any" = some (.builtin "any"):=by decide +kernel
noncomputable def fAny:W1:=fun _ x Q=>match x with
 | .list xs=>∃ bs:List Bool,xs=bs.map D.bl∧Q .sh (.bl (bs.any (fun b=>b)))
 | _=>False
theorem zO:BrC K (rAny K) fAny:=by
 intro Hs H m x v As Qd Qv w rx h f
 have r1:=rx.rep w
 cases r1 with
 | list z s q =>
  obtain ⟨bs,rfl,h⟩:=h
  cases zF q
  exact ⟨bs,s,f.sh w (.bl _) h⟩
 | _=>exact h.elim
theorem vh:bootBuiltins "int" = some (.type "int"):=by decide +kernel
end
end L2.Q
namespace L2.Q.R
open PySem PySem.Spec PyProof.Rows L2.Q
section
variable {ρ:Env} {E:rF} {te tk:WE} {m:Md} {Q:Md→L2.Q.D→Prop} {p:WP} {xs ys:List L2.Q.D} {k:List L2.Q.D→Prop}
noncomputable def lstD (d:L2.Q.D) (k:List L2.Q.D→Prop):Prop:=match d with
 | .list xs=>k xs
 | _=>False
theorem JD:lstD (.list xs) k=k xs:=rfl
theorem Hc {d z:L2.Q.D} {n:Md}:gotG (some d) m n z Q=Q (itm m d) d:=rfl
theorem Hq {z:L2.Q.D} {n:Md}:gotG none m n z Q=Q n z:=rfl
theorem Jy:fAny m (.list xs) Q = ∃ bs:List Bool,xs=bs.map L2.Q.D.bl∧Q .sh (.bl (bs.any (fun b=>b))):=rfl
end
end L2.Q.R
local macro_rules | `(tactic| walk_at "q") => do
 let nm (s:String):Lean.Ident:=Lean.mkIdent ((s.splitOn ".").foldl Lean.Name.mkStr .anonymous)
 let ds ← ("HS J4 HN Hz Gg HW Jg Jh Gk Ex Hv Im Ip HX Hd Ik Jw HY Iz HJ JD Hc Hq Jy JG J7 Jz Ju J8 wSd_ J9 JX Je Hl Iu Ib JL JB Gw Hi H_ CV Gd Fp FN JH HQ wB_ JC Jt JT wOr_ JV JK G6 FW wC_ wOp_ wUn_ G_ Ja Jm Ht wIf_ Iw JF Jj Ke Jd Gp GR G3 Ha G8 Gm G4 GJ Hw HD HF Ih I_ Io Hh HH Jv Jq Jl Hm Hk Jk J1 J0 Js G7 Ir Ig HB Cz Cy J3 J_ Jx Kc JN Ka Jp J2 Kd JW JM Hx Hn Ho IW Ii J5 Gh Ft Gu wSl_ Fq IK HR Ji JQ Jf Hy GD GK wpN_ Fd JS G9 JP Jr Jo Fw Ie Il GX Gr E_ Fb Fj gN_ gT_ Hj JR Hu Jc IV G5 GF Gn Ga Ia Ij Hf".splitOn " ").toArray.mapM fun s=>`(Lean.Parser.Tactic.simpLemma| ↓$(nm ("L2.Q.R." ++ s)):ident)
 let us ← ("L2.Q.movS L2.Q.outM L2.Q.uU L2.Q.Bo L2.Q.okSh L2.Q.okOw L2.Q.okFl L2.Q.retM L2.Q.jt L2.Q.frzE L2.Q.shS L2.Q.shC L2.Q.lU L2.Q.Ab L2.Q.asg L2.Q.itm L2.Q.bA L2.Q.D.flat L2.Q.flats L2.Q.D.ty L2.Q.truD L2.Q.D.key1 L2.Q.eN L2.Q.Hg L2.Q.Jb List.length_map List.map_cons List.map_nil List.length_cons List.length_nil List.replicate_succ List.replicate_zero List.cons_append List.nil_append List.append_nil List.getElem?_cons_zero List.getElem?_cons_succ List.getElem?_nil List.set_cons_zero List.set_cons_succ List.all_cons List.all_nil Option.some.injEq Option.join_some Option.map_some Option.map_none Nat.reduceAdd Nat.reduceSub true_and and_true Bool.and_true Bool.true_and Bool.and_false Bool.false_and Bool.not_true Bool.not_false Bool.false_eq_true if_true if_false decide_true decide_false reduceIte cond_true cond_false PySem.sizeLine_eq L2.Q.atI0 L2.Q.atI1 L2.Q.atI2 L2.Q.cF L2.Q.CP L2.Q.empty_app Nat.zero_add exists_eq_left' Int.reduceLT Int.reduceLE Int.reducePow Int.reduceNeg Int.reduceToNat Int.reduceAdd Int.reduceMul Int.reduceSub Nat.reduceLeDiff Nat.reduceLT false_or or_false and_self L2.JZ".splitOn " ").toArray.mapM fun s=>`(Lean.Parser.Tactic.simpLemma| $(nm s):ident)
 let as:Lean.TSyntaxArray [`Lean.Parser.Tactic.simpStar,`Lean.Parser.Tactic.simpErase,`Lean.Parser.Tactic.simpLemma]:=(ds++us).map fun x=>⟨x.raw⟩
 `(tactic| simp -dsimp only [$as,*])
namespace L2.Q.Law
open PySem PySem.Spec PyProof.Rows
theorem small {n:Nat} (h:n≤10000):n≤sizeLine:=Nat.le_trans h (by decide)
theorem De {n:Nat} (h:n≤10000):n<sizeLine:=Nat.lt_of_le_of_lt h (by decide)
noncomputable def isLet (c:Nat):Bool:=decide (97≤c∧c≤122)
noncomputable abbrev abc:Str := "abcdefghijklmnopqrstuvwxyz"
theorem mX:sg abc=(List.range 26).map (97 + ·):=by decide +kernel
theorem Dn {i:Int} (h0:0≤i) (h1:i<26):∃ c,atI (sg abc) i=some c∧isLet c=true:=by
 refine ⟨97+i.toNat,?_,?_⟩
 ·have:atI (sg abc) ((i.toNat:Nat):Int)=some (97+i.toNat):=atI_nat (by
   rw [mX]
   have:i.toNat<26:=by walk_at "l"
   simp [this])
  rwa [Int.toNat_of_nonneg h0] at this
 ·simp [isLet]; walk_at "l"
theorem BK (x:Int):∃ c,atI (sg abc) (x % 26)=some c∧isLet c=true:=Dn (Int.emod_nonneg _ (by decide)) (Int.emod_lt_of_pos _ (by decide))
noncomputable def lets (x:Str):Prop:=∀ c∈sg x,isLet c=true
noncomputable def Open (x:Str):Prop:=1≤x.length∧x.length≤6∧lets x
noncomputable def Deed (x:Str):Prop:=x = "*"∨Open x
theorem t6 {x y:Str} (hx:lets x) (hy:lets y):lets (x++y):=fun c hc=>by
 rw [rQ] at hc
 exact (List.mem_append.mp hc).elim (hx c) (hy c)
theorem yE {c:Nat} (h:isLet c=true):lets ⟨#[c]⟩:=fun d hd=>by
 have:d=c:=by simpa [sg] using hd
 rw [this]; exact h
theorem oG {x:Str} (h:lets x) (lo hi:Option Int):lets (cutS x lo hi):=fun c hc=>by
 unfold cutS sg at hc
 rw [List.toList_toArray] at hc
 exact h c (List.mem_of_mem_drop (List.mem_of_mem_take hc))
theorem fK (c:Nat):(⟨#[c]⟩:Str).length=1:=rfl
theorem Deed.len {x:Str} (h:Deed x):x.length≤6:=by
 rcases h with rfl | h
 ·decide
 ·exact h.2.1
theorem Deed.ok {x:Str} (h:Deed x):PyData.strOk x=true:=by
 rw [Ar]
 rcases h with rfl | h
 ·have:sg "*" = [42]:=by decide +kernel
  intro c hc
  rw [this] at hc
  have:c=42:=by simpa using hc
  walk_at "l"
 ·intro c hc
  have:=h.2.2 c hc
  simp [isLet] at this
  walk_at "l"
theorem gG:∀ (l:List Str),flats (l.map D.str)=true
 | []=>rfl
 | x :: l=>by simp [flats,gG l,D.flat]
theorem cz:∀ (l:List Int),flats (l.map D.int)=true
 | []=>rfl
 | x :: l=>by simp [flats,cz l,D.flat]
theorem yS:∀ (l:List Bool),flats (l.map D.bl)=true
 | []=>rfl
 | x :: l=>by simp [flats,yS l,D.flat]
theorem yg (l:List Str) (x:Str):l.map D.str++[D.str x]=(l++[x]).map D.str:=by simp
theorem ints_app (l:List Int) (x:Int):l.map D.int++[D.int x]=(l++[x]).map D.int:=by simp
theorem f9 {n i:Nat} {lo:Int} {x:D} (h:(gq lo n)[i]? = some x):i<n∧x=.int (lo+(i:Nat)):=by
 unfold gq at h
 rw [List.getElem?_map] at h
 by_cases hi:i<n
 ·rw [List.getElem?_range hi] at h
  exact ⟨hi,(Option.some.inj h).symm⟩
 ·rw [List.getElem?_eq_none (by simpa using hi)] at h
  cases h
theorem dW (lo:Int) (n:Nat):(gq lo n).length=n:=by simp [gq]
theorem sJ {lo:Int} {n:Nat} {x:D} (h:x∈gq lo n):∃ i:Nat,i<n∧x=.int (lo+i):=by
 obtain ⟨i,hi⟩:=List.mem_iff_getElem?.mp h
 exact ⟨i,f9 hi⟩
theorem dG {α:Type} (l:List α):l.filter (fun _=>true)=l:=List.filter_eq_self.mpr fun _ _=>rfl
noncomputable abbrev Stp:=Int × Str × Int
noncomputable def stpK (s:Stp):List Key:=[.inl s.1,.inr s.2.1,.inl s.2.2]
noncomputable def stpD (s:Stp):D:=.tup [.int s.1,.str s.2.1,.int s.2.2]
theorem Ew (s:Stp):keyT (stpK s)=stpD s:=rfl
noncomputable def mD (many:Int) (steps:List Stp):D:=.tup [.int many,.list (steps.map stpD)]
theorem jA:∀ (l:List Stp),flats (l.map stpD)=true
 | []=>rfl
 | x :: l=>by simp [flats,jA l,stpD,D.flat]
noncomputable def StOk (many:Int) (s:Stp):Prop:=0≤s.1∧s.1<many∧Deed s.2.1∧0≤s.2.2∧s.2.2<many
theorem Dy {many:Int} {s:Stp} (n:Nat) (h:StOk many s):okD (n+1) (stpD s)=true:=by
 have:=h.2.2.1.ok
 simp [okD,stpD,this]
theorem z8 {many:Int} {l:List Stp} (n:Nat) (h:∀ s∈l,StOk many s):okD (n+2) (.list (l.map stpD))=true:=by
 simp only [okD,List.all_map,List.all_eq_true]
 intro s hs
 exact Dy n (h s hs)
theorem m_ok {many:Int} {l:List Stp} (n:Nat) (h:∀ s∈l,StOk many s):okD (n+3) (mD many l)=true:=by
 have h2:=z8 n h
 show (okD (n+2) (.int many) && (okD (n+2) (.list (l.map stpD)) && true))=true
 rw [h2]
 rfl
theorem wO:∀ (l:List Stp),nbs (l.map stpD)=true
 | []=>rfl
 | x :: l=>by simp [nbs,wO l,stpD,D.nb]
theorem nb_m (many:Int) (l:List Stp):(mD many l).nb=true:=by simp [mD,D.nb,nbs,wO]
theorem eq_self {x:D} (h:x.nb=true):eqD x x=true:=(n_ x x h h).mpr rfl
theorem yN {s t:Stp} (h:stpD s=stpD t):s=t:=by
 obtain ⟨a,b,c⟩:=s
 obtain ⟨a',b',c'⟩:=t
 simp [stpD] at h
 obtain ⟨rfl,rfl,rfl⟩:=h
 rfl
theorem yP:∀ {l m:List Stp},l.map stpD=m.map stpD→l=m
 | [],[],_=>rfl
 | [],_ :: _,h=>by simp at h
 | _ :: _,[],h=>by simp at h
 | x :: l,y :: m,h=>by
  simp only [List.map_cons,List.cons.injEq] at h
  rw [yN h.1,yP h.2]
theorem tZ {s t:Stp} (h:stpK s=stpK t):s=t:=by
 obtain ⟨a,b,c⟩:=s
 obtain ⟨a',b',c'⟩:=t
 simp [stpK] at h
 obtain ⟨rfl,rfl,rfl⟩:=h
 rfl
noncomputable def ltP (s t:Stp):Bool:=ltK (stpK s) (stpK t)
theorem wH {P:Stp→Prop}:∀ {ks:List (List Key)},(∀ k∈ks,∃ s,k=stpK s∧P s)→∃ l:List Stp,ks=l.map stpK∧∀ s∈l,P s
 | [],_=>⟨[],rfl,fun s h=>nomatch h⟩
 | k :: ks,h=>by
  obtain ⟨s,rfl,p⟩:=h k List.mem_cons_self
  obtain ⟨l,rfl,q⟩:=wH fun k hk=>h k (List.mem_cons_of_mem _ hk)
  refine ⟨s :: l,rfl,fun t ht=>?_⟩
  rcases List.mem_cons.mp ht with rfl | ht
  ·exact p
  ·exact q t ht
noncomputable abbrev Kn:=List (List Key × D)
noncomputable def StD (P:Stp→Prop) (kvs:Kn):Prop:=(∀ p∈kvs,∃ s,p.1=stpK s∧P s)∧(kvs.map (·.1)).Nodup
theorem vZ {κ β:Type} [DecidableEq κ] (kvs:List (κ × β)) (k:κ) (v:β):(putG kvs k v).map (·.1)=if k∈kvs.map (·.1) then kvs.map (·.1) else kvs.map (·.1)++[k]:=by
 unfold putG
 by_cases h:k∈kvs.map (·.1)
 ·have:(kvs.any fun kv=>decide (kv.1=k))=true:=by
   obtain ⟨p,hp,e⟩:=List.mem_map.mp h
   exact List.any_eq_true.mpr ⟨p,hp,decide_eq_true e⟩
  rw [if_pos this,if_pos h,List.map_map]
  apply List.map_congr_left
  intro p _
  show (if p.1=k then (p.1,v) else p).1=p.1
  split <;> rfl
 ·have:¬ (kvs.any fun kv=>decide (kv.1=k))=true:=by
   intro z
   obtain ⟨p,hp,e⟩:=List.any_eq_true.mp z
   exact h (List.mem_map.mpr ⟨p,hp,of_decide_eq_true e⟩)
  rw [if_neg this,if_neg h,List.map_append]
  rfl
theorem StD.put {P:Stp→Prop} {kvs:Kn} {s:Stp} {d:D} (h:StD P kvs) (hs:P s):StD P (putG kvs (stpK s) d):=by
 refine ⟨fun p hp=>?_,?_⟩
 ·rcases zc hp with e | e
  ·exact ⟨s,e,hs⟩
  ·obtain ⟨q,hq,e⟩:=List.mem_map.mp e
   rw [← e]
   exact h.1 q hq
 ·rw [vZ]
  split
  ·exact h.2
  ·rename_i hn
   exact List.nodup_append.mpr ⟨h.2,by simp,fun a ha b hb e=>by
    have:b=stpK s:=by simpa using hb
    subst this; subst e; exact hn ha⟩
theorem StD.nil {P:Stp→Prop}:StD P []:=⟨(fun p hp=>nomatch hp),List.nodup_nil⟩
theorem Cg {names:List Str} {i:Int} (h0:0≤i) (h1:i<names.length):∃ n,n∈names∧atI (names.map D.str) i=some (.str n):=by
 have hn:i.toNat<names.length:=by walk_at "l"
 refine ⟨names[i.toNat],List.getElem_mem hn,?_⟩
 have:=atI_nat (xs:=names.map D.str) (j:=i.toNat) (v:=.str names[i.toNat]) (by simp [hn])
 rwa [Int.toNat_of_nonneg h0] at this
theorem name_mod {names:List Str} (x:Int) (h:1≤names.length):∃ n,n∈names∧atI (names.map D.str) (x % (names.length:Int))=some (.str n) :=
 Cg (Int.emod_nonneg _ (by walk_at "l")) (Int.emod_lt_of_pos _ (by walk_at "l"))
theorem n8 {α:Type} (f:α→D) (l:List α) (lo hi:Option Int):cutG (l.map f) lo hi=(cutG l lo hi).map f:=by
 unfold cutG
 rw [List.length_map,List.map_take,List.map_drop]
theorem A_ {α:Type} {l:List α} {lo hi:Option Int} {x:α} (h:x∈cutG l lo hi):x∈l:=List.mem_of_mem_drop (List.mem_of_mem_take h)
noncomputable def Mde (steps out:List Stp):Prop:=out.Nodup∧(∀ s,s∈out↔s∈steps)∧(out.Pairwise fun a b=>ltP b a=false)
theorem iI {α β:Type} {f:α→β} {l:List α} (h:(l.map f).Nodup):l.Nodup:=by
 rw [List.Nodup,List.pairwise_map] at h
 exact h.imp fun hab e=>hab (by rw [e])
theorem Mde.one {steps out out2:List Stp} (M:Mde steps out) (M2:Mde steps out2):out=out2 :=
 List.Perm.eq_of_pairwise (fun a b _ _ h1 h2=>tZ (qx (a:=stpK a) (b:=stpK b) rfl h2 h1)) M.2.2 M2.2.2 ((List.perm_ext_iff_of_nodup M.1 M2.1).mpr fun s=>(M.2.1 s).trans (M2.2.1 s).symm)
theorem Mde.len {steps out:List Stp} (M:Mde steps out):out.length≤steps.length:=TS.cZ M.1 fun s hs=>(M.2.1 s).mp hs
theorem xV {l:List Stp} (P:List D→Prop) (hz:l.length≤63) (k:∀ out,Mde l out→P (out.map stpD)):∃ (ks:List (List Key)) (sh:List Bool),l.map stpD=ks.map keyT∧ks.length≤63∧(∀ k∈ks,shOf k=true :: sh) ∧
  ∀ ms:List (List Key),ms.Nodup→(∀ k,k∈ms↔k∈ks)→(ms.Pairwise fun a b=>ltK b a=false)→P (ms.map keyT):=by
 refine ⟨l.map stpK,[false,true],by rw [List.map_map]; rfl,by simpa using hz,?_,fun ms nd mm pw=>?_⟩
 ·intro k hk
  obtain ⟨s,_,rfl⟩:=List.mem_map.mp hk
  rfl
 ·obtain ⟨out,rfl,ho⟩:=wH (P:=fun s=>s∈l) (ks:=ms) fun k hk=>by
   obtain ⟨s,hs,rfl⟩:=List.mem_map.mp ((mm k).mp hk)
   exact ⟨s,rfl,hs⟩
  have e:(out.map stpK).map keyT=out.map stpD:=by rw [List.map_map]; rfl
  rw [e]
  refine k out ⟨iI nd,fun s=>⟨fun hm=>ho s hm,fun hm=>?_⟩,List.pairwise_map.mp pw⟩
  obtain ⟨s',hs',e⟩:=List.mem_map.mp ((mm (stpK s)).mpr (List.mem_map.mpr ⟨s,hm,rfl⟩))
  rw [← tZ e]; exact hs'
theorem zR {steps:List Stp} {i:Nat} {x:D} (h:(steps.map stpD)[i]? = some x):∃ p d r,x=.tup [.int p,.str d,.int r]∧(p,d,r)∈steps∧steps.take (i+1)=steps.take i++[(p,d,r)]:=by
 rw [List.getElem?_map] at h
 cases e:steps[i]? with
 | none=>rw [e] at h; cases h
 | some s =>
  rw [e] at h
  cases h
  obtain ⟨p,d,r⟩:=s
  exact ⟨p,d,r,rfl,List.mem_of_getElem? e,by rw [List.take_add_one,e]; rfl⟩
theorem Hr {l:List Str} {i:Nat} {x:D} (h:(l.map D.str)[i]? = some x):∃ n,x=.str n∧n∈l∧l.take (i+1)=l.take i++[n]:=by
 rw [List.getElem?_map] at h
 cases e:l[i]? with
 | none=>rw [e] at h; cases h
 | some s =>
  rw [e] at h
  cases h
  exact ⟨s,rfl,List.mem_of_getElem? e,by rw [List.take_add_one,e]; rfl⟩
theorem Ez {n:Str}:(decide (1≤n.length∧n.length≤6) && (sg n).all isLet)=true↔Open n:=by
 unfold Open lets
 simp only [Bool.and_eq_true,decide_eq_true_eq,List.all_eq_true]
 exact ⟨fun ⟨⟨a,b⟩,c⟩=>⟨a,b,c⟩,fun ⟨a,b,c⟩=>⟨⟨a,b⟩,c⟩⟩
noncomputable def hdF (f:Str→Option Str) (s:Stp):Stp:=(s.1,(f s.2.1).getD s.2.1,s.2.2)
theorem Dj {many:Int} {f:Str→Option Str} {s:Stp} (hf:∀ x y,f x=some y→Deed y) (h:StOk many s):StOk many (hdF f s):=by
 refine ⟨h.1,h.2.1,?_,h.2.2.2.1,h.2.2.2.2⟩
 show Deed ((f s.2.1).getD s.2.1)
 cases e:f s.2.1 with
 | none=>exact h.2.2.1
 | some y=>exact hf _ y e
theorem Mde.ok {many:Int} {l out:List Stp} (h:∀ s∈l,StOk many s) (M:Mde l out):∀ s∈out,StOk many s:=fun s hs=>h s ((M.2.1 s).mp hs)
theorem Mde.okF {many:Int} {f:Str→Option Str} {l out:List Stp} (hf:∀ x y,f x=some y→Deed y) (h:∀ s∈l,StOk many s) (M:Mde (l.map (hdF f)) out):∀ s∈out,StOk many s :=
 M.ok fun s hs=>by
  obtain ⟨t,ht,rfl⟩:=List.mem_map.mp hs
  exact Dj hf (h t ht)
theorem eq_m (many:Int) (l:List Stp):eqD (D.tup [.int many,.list (l.map stpD)]) (D.tup [.int many,.list (l.map stpD)])=true:=eq_self (nb_m many l)
theorem ok_m {many:Int} {l:List Stp} (h:∀ s∈l,StOk many s):okD 12 (D.tup [.int many,.list (l.map stpD)])=true:=m_ok 9 h
theorem Fl {α β:Type} (f:α→β) (l:List α) (k:Nat) (y:α):insL (l.map f) k (f y)=(insL l k y).map f:=by
 unfold insL
 rw [List.map_append,List.map_cons,List.map_take,List.map_drop]
theorem Fo {α:Type} (l:List α) (k:Nat) (y:α):(insL l k y).length=l.length+1:=by
 unfold insL
 rw [List.length_append,List.length_cons,List.length_take,List.length_drop]
 walk_at "l"
theorem Ff {α:Type} (l:List α) (k:Nat) (y:α):y∈insL l k y:=List.mem_append_right _ List.mem_cons_self
theorem Gq {α:Type} {l:List α} {k:Nat} (y:α) (h:k≤l.length):(insL l k y)[k]? = some y:=by
 unfold insL
 rw [List.getElem?_append_right (by rw [List.length_take]; walk_at "l"),List.length_take,Nat.min_eq_left h,Nat.sub_self]
 rfl
theorem CW {α:Type} {l:List α} {k:Nat} (y:α) (h:k≤l.length):(insL l k y).eraseIdx k=l:=by
 unfold insL
 rw [List.eraseIdx_append_of_length_le (by rw [List.length_take]; walk_at "l"),List.length_take,Nat.min_eq_left h,Nat.sub_self]
 exact List.take_append_drop k l
theorem Fe {n:Nat} {l:List Str} (h:∀ x∈l,Open x):okD (n+1) (.list (l.map D.str))=true:=by
 simp only [okD,List.all_map,List.all_eq_true]
 intro s hs
 have:=Deed.ok (.inr (h s hs))
 cases n <;> simpa [okD] using this
theorem tU:∀ (l:List Str),nbs (l.map D.str)=true
 | []=>rfl
 | x :: l=>by simp [nbs,tU l,D.nb]
theorem Gf (l:List Str):eqD (.list (l.map D.str)) (.list (l.map D.str))=true:=eq_self (x:=.list (l.map D.str)) (tU l)
theorem rW {κ β:Type} [DecidableEq κ] (k k':κ) (v:β):∀ (kvs:List (κ × β)),getG (kvs.map fun kv=>if kv.1=k then (kv.1,v) else kv) k'=if k'=k then (getG kvs k').map (fun _=>v) else getG kvs k'
 | []=>by simp [getG]
 | p :: r=>by
  rw [List.map_cons,aR,aR,rW k k' v r]
  by_cases h:p.1=k
  ·rw [if_pos h]
   by_cases h2:k'=k
   ·subst h2; simp [h]
   ·have:¬ p.1=k':=fun z=>h2 (z.symm.trans h)
    simp [this,h2]
  ·rw [if_neg h]
   by_cases h2:k'=k
   ·subst h2; simp [h]
   ·simp [h2]
theorem qd {κ β:Type} [DecidableEq κ] (k k':κ) (v:β):∀ (kvs:List (κ × β)),getG (kvs++[(k,v)]) k'=(getG kvs k').or (if k=k' then some v else none)
 | []=>by rw [List.nil_append,aR]; rfl
 | p :: r=>by
  rw [List.cons_append,aR,aR,qd k k' v r]
  split <;> simp
theorem Dt {κ β:Type} [DecidableEq κ] (k k':κ) (v:β) (kvs:List (κ × β)):getG (putG kvs k v) k'=if k'=k then some v else getG kvs k':=by
 have ex:∀ kvs:List (κ × β),(kvs.any fun kv=>decide (kv.1=k))=(getG kvs k).isSome:=fun kvs=>by
  induction kvs with
  | nil=>rfl
  | cons p r ih =>
   rw [List.any_cons,aR,ih]
   by_cases h:p.1=k <;> simp [h]
 unfold putG
 rw [ex kvs]
 cases e:getG kvs k with
 | none =>
  simp only [Option.isSome_none,Bool.false_eq_true,if_false]
  rw [qd]
  by_cases h:k'=k
  ·subst h; rw [e]; simp
  ·rw [if_neg h,if_neg fun z=>h z.symm]; simp
 | some u =>
  simp only [Option.isSome_some,if_true]
  rw [rW]
  by_cases h:k'=k
  ·subst h; rw [e]; simp
  ·rw [if_neg h,if_neg h]
inductive Rw where
 | st (w d:Str) (j:Int)
 | nt (j:Int)
 | jn (w:Str) (ps:List Int)
noncomputable def rwD:Rw→D
 | .st w d j=>.tup [.str w,.str d,.int j]
 | .nt j=>.tup [.str "not",.int j]
 | .jn w ps=>.tup [.str w,.tup (ps.map .int)]
noncomputable def RwOk (k:Int):Rw→Prop
 | .st w d j=>(w = "some"∨w = "all")∧Deed d∧0≤j∧j<k
 | .nt j=>0≤j∧j<k
 | .jn w ps=>(w = "and"∨w = "or")∧ps.length≤200∧∀ p∈ps,0≤p∧p<k
noncomputable def ScOk (l:List Rw):Prop:=∀ (i:Nat) (r:Rw),l[i]? = some r→RwOk i r
theorem xr:∀ r:Rw,(rwD r).flat=true
 | .st _ _ _=>rfl
 | .nt _=>rfl
 | .jn _ ps=>by simp [rwD,D.flat,flats,cz]
theorem sG:∀ l:List Rw,flats (l.map rwD)=true
 | []=>rfl
 | r :: l=>by simp [flats,xr r,sG l]
theorem Hb (l:List Rw) (r:Rw):l.map rwD++[rwD r]=(l++[r]).map rwD:=by simp
theorem RwOk.mono {k k':Int} (hk:k≤k'):∀ {r:Rw},RwOk k r→RwOk k' r
 | .st _ _ _,⟨a,b,c,d⟩=>⟨a,b,c,by walk_at "l"⟩
 | .nt _,⟨c,d⟩=>⟨c,by walk_at "l"⟩
 | .jn _ _,⟨a,b,c⟩=>⟨a,b,fun p hp=>⟨(c p hp).1,by have:=(c p hp).2; walk_at "l"⟩⟩
theorem ScOk.app {l:List Rw} {r:Rw} (h:ScOk l) (hr:RwOk l.length r):ScOk (l++[r]):=fun i x hx=>by
 by_cases hi:i<l.length
 ·rw [List.getElem?_append_left hi] at hx
  exact h i x hx
 ·rw [List.getElem?_append_right (by walk_at "l")] at hx
  by_cases h0:i=l.length
  ·subst h0
   rw [Nat.sub_self] at hx
   cases hx
   exact hr
  ·rw [List.getElem?_eq_none (by simp; walk_at "l")] at hx
   cases hx
theorem ScOk.take {l:List Rw} (h:ScOk l) (n:Nat):ScOk (l.take n):=fun i x hx=>by
 rw [List.getElem?_take] at hx
 split at hx
 ·exact h i x hx
 ·cases hx
theorem ScOk.nil:ScOk []:=fun i r h=>by simp at h
noncomputable def mxL (l:List Int):Int:=l.foldl (fun b x=>if x>b then x else b) 0
noncomputable def dep (ds:List Int):Rw→Int
 | .st _ _ j=>ds.getD j.toNat 0+1
 | .nt j=>ds.getD j.toNat 0
 | .jn _ ps=>mxL (ps.map fun p=>ds.getD p.toNat 0)
noncomputable def depF:List Int→List Rw→List Int
 | ds,[]=>ds
 | ds,r :: l=>depF (ds++[dep ds r]) l
noncomputable def deps (l:List Rw):List Int:=depF [] l
theorem nM:∀ (l m:List Rw) (ds:List Int),depF ds (l++m)=depF (depF ds l) m
 | [],_,_=>rfl
 | r :: l,m,ds=>nM l m (ds++[dep ds r])
theorem ji (l:List Rw) (r:Rw):deps (l++[r])=deps l++[dep (deps l) r]:=by
 unfold deps
 rw [nM]; rfl
theorem tK:∀ (l:List Rw) (ds:List Int),(depF ds l).length=ds.length+l.length
 | [],_=>rfl
 | r :: l,ds=>by
  show (depF (ds++[dep ds r]) l).length=_
  rw [tK l]; simp; walk_at "l"
theorem dX (l:List Rw):(deps l).length=l.length:=by unfold deps; rw [tK]; simp
theorem tE:∀ (l:List Rw) (ds:List Int),∃ m,depF ds l=ds++m
 | [],ds=>⟨[],by simp [depF]⟩
 | r :: l,ds=>by
  obtain ⟨m,e⟩:=tE l (ds++[dep ds r])
  exact ⟨dep ds r :: m,by show depF (ds++[dep ds r]) l=_; rw [e]; simp⟩
noncomputable def depth (l:List Rw):Int:=(deps l).getD (l.length - 1) 0
theorem CG {l:List Rw} {n:Nat} (h1:1≤n) (h2:n≤l.length):depth (l.take n)=(deps l).getD (n - 1) 0:=by
 unfold depth
 have e:deps l=deps (l.take n)++(deps l).drop n:=by
  obtain ⟨m,hm⟩:=tE (l.drop n) (deps (l.take n))
  have:deps l=deps (l.take n)++m:=by
   rw [← hm]; unfold deps; rw [← nM,List.take_append_drop]
  rw [this,List.drop_left' (by rw [dX,List.length_take]; walk_at "l")]
 have hl:(l.take n).length=n:=by rw [List.length_take]; walk_at "l"
 have h3:n - 1<(deps (l.take n)).length:=by rw [dX,hl]; walk_at "l"
 rw [e,hl,List.getD_eq_getElem?_getD,List.getD_eq_getElem?_getD,List.getElem?_append_left h3]
theorem xW (l:List Rw) (r:Rw):depth (l++[r])=dep (deps l) r:=by
 unfold depth
 rw [ji,List.getD_eq_getElem?_getD]
 have:(l++[r]).length - 1=(deps l).length:=by rw [dX]; simp
 rw [this,List.getElem?_append_right (Nat.le_refl _),Nat.sub_self]; rfl
theorem zN:∀ (l:List Int) (b:Int),0≤b→0≤l.foldl (fun b x=>if x>b then x else b) b
 | [],b,h=>h
 | x :: l,b,h=>by
  simp only [List.foldl_cons]
  refine zN l _ ?_
  split <;> walk_at "l"
theorem Dd (l:List Int):0≤mxL l:=zN l 0 (by decide)
theorem gk {ds:List Int} (h:∀ d∈ds,0≤d) (i:Nat):0≤ds.getD i 0:=by
 rw [List.getD_eq_getElem?_getD]
 cases e:ds[i]? with
 | none=>exact Int.le_refl _
 | some x=>exact h x (List.mem_of_getElem? e)
theorem Dh {ds:List Int} (h:∀ d∈ds,0≤d):∀ r:Rw,0≤dep ds r
 | .st _ _ j=>by have:=gk h j.toNat; simp only [dep]; walk_at "l"
 | .nt j=>gk h _
 | .jn _ ps=>Dd _
theorem vU:∀ (l:List Rw) (ds:List Int),(∀ d∈ds,0≤d)→∀ d∈depF ds l,0≤d
 | [],_,h=>h
 | r :: l,ds,h=>vU l _ fun d hd=>by
  rcases List.mem_append.mp hd with hd | hd
  ·exact h d hd
  ·rw [List.mem_singleton.mp hd]; exact Dh h r
theorem qY (l:List Rw):∀ d∈deps l,0≤d:=vU l [] fun d hd=>nomatch hd
theorem CQ {ns:List Int} (h:∀ n∈ns,0≤n):(if ns=[] then 0 else mxP ns ns.length)=mxL ns:=by
 have go:∀ j,j<ns.length→mxP ns (j+1)=mxL (ns.take (j+1)):=by
  intro j
  induction j with
  | zero =>
   intro hj
   cases ns with
   | nil=>simp at hj
   | cons n ns =>
    have:=h n List.mem_cons_self
    show n=mxL [n]
    simp only [mxL,List.foldl_cons,List.foldl_nil]
    split <;> walk_at "l"
  | succ j ih =>
   intro hj
   rw [List.take_succ_eq_append_getElem hj]
   simp only [mxL,List.foldl_append,List.foldl_cons,List.foldl_nil]
   have e:=ih (by walk_at "l")
   unfold mxL at e
   rw [← e]
   have e2:ns.getD (j+1) 0=ns[j+1]:=by simp [List.getD,hj]
   show (if ns.getD (j+1) 0>mxP ns (j+1) then ns.getD (j+1) 0 else mxP ns (j+1))=_
   rw [e2]
 by_cases h0:ns=[]
 ·subst h0; rfl
 ·rw [if_neg h0]
  have hl:0<ns.length:=List.length_pos_iff.mpr h0
  have:=go (ns.length - 1) (by walk_at "l")
  rw [show ns.length - 1+1=ns.length by walk_at "l",List.take_length] at this
  exact this
theorem BJ {l:List Rw} {j:Int} (h0:0≤j) (h1:j<l.length):atI ((deps l).map D.int) j=some (.int ((deps l).getD j.toNat 0)):=by
 have hj:j.toNat<(deps l).length:=by rw [dX]; walk_at "l"
 have:=atI_nat (xs:=(deps l).map D.int) (j:=j.toNat) (v:=.int ((deps l).getD j.toNat 0)) (by simp [hj,List.getD])
 rwa [Int.toNat_of_nonneg h0] at this
theorem rw_ok {k:Int}:∀ {r:Rw} (n:Nat),RwOk k r→okD (n+2) (rwD r)=true
 | .st w d j,n,h=>by
  have h1:=h.2.1.ok
  have h2:PyData.strOk w=true:=by rcases h.1 with rfl | rfl <;> decide +kernel
  simp [rwD,okD,h1,h2]
 | .nt j,n,h=>by
  have h2:PyData.strOk "not" = true:=by decide +kernel
  simp [rwD,okD,h2]
 | .jn w ps,n,h=>by
  have h2:PyData.strOk w=true:=by rcases h.1 with rfl | rfl <;> decide +kernel
  simp [rwD,okD,h2]
theorem rP {l:List Rw} (h:ScOk l) (n:Nat):okD (n+3) (.list (l.map rwD))=true:=by
 simp only [okD,List.all_map,List.all_eq_true]
 intro r hr
 obtain ⟨i,hi⟩:=List.mem_iff_getElem?.mp hr
 exact rw_ok n (h i r hi)
theorem u_:∀ l:List Int,nbs (l.map D.int)=true
 | []=>rfl
 | x :: l=>by simp [nbs,u_ l,D.nb]
theorem um:∀ l:List Rw,nbs (l.map rwD)=true
 | []=>rfl
 | .st _ _ _ :: l=>by simp [nbs,um l,rwD,D.nb]
 | .nt _ :: l=>by simp [nbs,um l,rwD,D.nb]
 | .jn _ ps :: l=>by simp [nbs,um l,rwD,D.nb,u_]
theorem gK {α:Type} [DecidableEq α]:∀ {l m:List α},l.Nodup→(∀ x∈l,x∈m)→l.length≤m.length
 | [],_,_,_=>Nat.zero_le _
 | x :: l,m,nd,h=>by
  obtain ⟨hx,nd⟩:=List.nodup_cons.mp nd
  have hm:=h x List.mem_cons_self
  have:=gK (l:=l) (m:=m.erase x) nd fun y hy=>(List.mem_erase_of_ne (fun e=>by subst e; exact hx hy)).mpr (h y (List.mem_cons_of_mem _ hy))
  rw [List.length_erase_of_mem hm] at this
  have:=List.length_pos_of_mem hm
  simp only [List.length_cons]
  walk_at "l"
noncomputable def cJ (n:Nat):List Int:=(List.range n).map fun i=>((i:Nat):Int)
theorem uA (n:Nat):(cJ n).length=n:=by simp [cJ]
theorem lM {n:Nat} {x:Int}:x∈cJ n↔0≤x∧x<n:=by
 unfold cJ
 rw [List.mem_map]
 constructor
 ·rintro ⟨i,hi,rfl⟩
  have:=List.mem_range.mp hi
  walk_at "l"
 ·intro ⟨h0,h1⟩
  exact ⟨x.toNat,List.mem_range.mpr (by walk_at "l"),by walk_at "l"⟩
theorem Bh:∀ {l m:List Int},l.Pairwise (· < ·)→m.Pairwise (· < ·)→(∀ x,x∈l↔x∈m)→l=m
 | [],[],_,_,_=>rfl
 | [],y :: m,_,_,h=>absurd ((h y).mpr List.mem_cons_self) (by simp)
 | x :: l,[],_,_,h=>absurd ((h x).mp List.mem_cons_self) (by simp)
 | x :: l,y :: m,hl,hm,h=>by
  obtain ⟨a1,a2⟩:=List.pairwise_cons.mp hl
  obtain ⟨b1,b2⟩:=List.pairwise_cons.mp hm
  have e:x=y:=by
   rcases List.mem_cons.mp ((h x).mp List.mem_cons_self) with e | e
   ·exact e
   ·rcases List.mem_cons.mp ((h y).mpr List.mem_cons_self) with e' | e'
    ·exact e'.symm
    ·have:=b1 x e; have:=a1 y e'; walk_at "l"
  subst e
  rw [Bh a2 b2 fun z=>⟨fun hz=>by
   rcases List.mem_cons.mp ((h z).mp (List.mem_cons_of_mem _ hz)) with e | e
   ·subst e; exact absurd (a1 z hz) (by walk_at "l")
   ·exact e,fun hz=>by
   rcases List.mem_cons.mp ((h z).mpr (List.mem_cons_of_mem _ hz)) with e | e
   ·subst e; exact absurd (b1 z hz) (by walk_at "l")
   ·exact e⟩]
theorem Ey {l:List Int} (h:l.Pairwise (· < ·)):l.Nodup:=h.imp fun h=>by walk_at "l"
noncomputable def StIn (many:Int) (steps:List Stp):Prop:=∀ s∈steps,StOk many s
noncomputable def setK (ks:List Int):List (Key × D):=ks.map fun x=>(.inl x,.bl true)
theorem jz (ks:List Int):(setK ks).map (·.1)=ks.map fun x=>(Sum.inl x:Key):=by simp [setK,List.map_map,Function.comp_def]
theorem EY (ks:List Int):(setK ks).length=ks.length:=by simp [setK]
theorem qL {ks:List Int} {x:Int}:((Sum.inl x:Key)∈ks.map fun x=>(Sum.inl x:Key))↔x∈ks:=by
 rw [List.mem_map]
 exact ⟨fun ⟨y,hy,e⟩=>by cases e; exact hy,fun h=>⟨x,h,rfl⟩⟩
noncomputable def insI (ks:List Int) (x:Int):List Int:=if x∈ks then ks else ks++[x]
theorem wN {κ β:Type} [DecidableEq κ] {kvs:List (κ × β)} {k:κ}:(kvs.any fun kv=>decide (kv.1=k))=true↔k∈kvs.map (·.1):=by
 rw [List.any_eq_true,List.mem_map]
 exact ⟨fun ⟨p,hp,e⟩=>⟨p,hp,of_decide_eq_true e⟩,fun ⟨p,hp,e⟩=>⟨p,hp,decide_eq_true e⟩⟩
theorem Gv (ks:List Int) (x:Int):putG (setK ks) (.inl x) (.bl true)=setK (insI ks x):=by
 unfold putG insI
 by_cases h:x∈ks
 ·rw [if_pos h,if_pos (wN.mpr (by rw [jz]; exact qL.mpr h))]
  unfold setK
  rw [List.map_map]
  apply List.map_congr_left
  intro y _
  show (if (Sum.inl y:Key)=Sum.inl x then ((Sum.inl y:Key),D.bl true) else (.inl y,.bl true))=_
  split <;> rfl
 ·rw [if_neg h,if_neg (fun z=>h (qL.mp (by rw [← jz]; exact wN.mp z)))]
  simp [setK]
theorem vP {κ β:Type} [DecidableEq κ]:∀ {kvs:List (κ × β)} {k:κ},(getG kvs k).isSome=true↔k∈kvs.map (·.1)
 | [],k=>by simp [getG]
 | p :: kvs,k=>by
  have ih:=vP (kvs:=kvs) (k:=k)
  rw [List.map_cons,List.mem_cons]
  by_cases h:p.1=k
  ·subst h; simp [getG]
  ·have:getG (p :: kvs) k=getG kvs k:=by simp [getG,h]
   rw [this,ih]
   exact ⟨.inr,fun z=>z.elim (fun e=>absurd e.symm h) id⟩
theorem get_set (ks:List Int) (x:Int):(getG (setK ks) (.inl x)).isSome=decide (x∈ks):=by
 rw [Bool.eq_iff_iff,vP,jz,qL,decide_eq_true_iff]
theorem Fg {ks:List Int} {x y:Int}:y∈insI ks x↔y∈ks∨y=x:=by
 unfold insI
 split
 ·rename_i h; exact ⟨.inl,fun z=>z.elim id fun e=>by subst e; exact h⟩
 ·simp
theorem CJ {ks:List Int} {x:Int} (h:ks.Nodup):(insI ks x).Nodup:=by
 unfold insI
 split
 ·exact h
 ·rename_i hx
  exact List.nodup_append.mpr ⟨h,by simp,fun a ha b hb e=>by
   have:b=x:=by simpa using hb
   subst this; subst e; exact hx ha⟩
noncomputable def bQ (l:List Stp) (s:Int) (d:Str):List Int:=(l.filter fun t=>decide (t.1=s) && decide (t.2.1=d)).map (·.2.2)
theorem jm {l:List Stp} {s:Int} {d:Str} {x:Int}:x∈bQ l s d↔(s,d,x)∈l:=by
 unfold bQ
 rw [List.mem_map]
 constructor
 ·rintro ⟨⟨p,q,r⟩,ht,rfl⟩
  obtain ⟨h1,e⟩:=List.mem_filter.mp ht
  simp only [Bool.and_eq_true,decide_eq_true_eq] at e
  rw [← e.1,← e.2]
  exact h1
 ·exact fun h=>⟨_,List.mem_filter.mpr ⟨h,by simp⟩,rfl⟩
theorem yz (l:List Stp) (s:Int) (d:Str):(bQ l s d).length≤l.length:=by
 unfold bQ
 rw [List.length_map]
 exact List.length_filter_le _ _
noncomputable def Ways (l:List Stp) (kvs:Kn):Prop:=∀ s d,getG kvs [.inl s,.inr d]=if bQ l s d=[] then none else some (.list ((bQ l s d).map .int))
theorem tD (k k':List Key) (x:D):∀ (kvs:Kn),getG (sdG kvs k x) k'=if k'=k then some (match getG kvs k with
  | none=>.list [x]
  | some d=>appD d x) else getG kvs k'
 | []=>by
  rw [sdG,aR]
  by_cases h:k'=k
  ·rw [if_pos h.symm,if_pos h]; rfl
  ·rw [if_neg fun e=>h e.symm,if_neg h]
 | p :: r=>by
  rw [sdG]
  by_cases e:p.1=k
  ·rw [if_pos e,aR]
   by_cases h:k'=k
   ·rw [if_pos h,h,aR p r k,if_pos e,if_pos e]
   ·rw [if_neg h,aR p r k',if_neg fun z=>h (z.symm.trans e),if_neg fun z=>h (z.symm.trans e)]
  ·rw [if_neg e,aR,tD k k' x r]
   by_cases h:k'=k
   ·rw [if_pos h,h,aR p r k,if_neg e,if_neg e,if_pos rfl]
   ·rw [if_neg h,aR p r k',if_neg h]
theorem v5 (k:List Key) (x:D):∀ (kvs:Kn),(sdG kvs k x).length≤kvs.length+1
 | []=>by simp [sdG]
 | p :: r=>by
  have:=v5 k x r
  rw [sdG]
  split <;> simp only [List.length_cons] <;> walk_at "l"
theorem Ways.nil:Ways [] []:=fun s d=>rfl
theorem Ways.put {l:List Stp} {kvs:Kn} (h:Ways l kvs) (p:Int) (n:Str) (r:Int):Ways (l++[(p,n,r)]) (sdG kvs [.inl p,.inr n] (.int r)):=by
 intro s d
 rw [tD]
 have ee:bQ (l++[(p,n,r)]) s d=bQ l s d++if p=s∧n=d then [r] else []:=by
  unfold bQ
  rw [List.filter_append,List.map_append]
  congr 1
  by_cases e:p=s∧n=d
  ·simp [e.1,e.2]
  ·rw [if_neg e,List.filter_cons_of_neg (by simpa using e)]; rfl
 by_cases e:p=s∧n=d
 ·rw [if_pos e] at ee
  obtain ⟨rfl,rfl⟩:=e
  rw [ee,if_pos rfl,h p n,if_neg (show ¬ bQ l p n++[r]=[] by simp)]
  by_cases z:bQ l p n=[]
  ·rw [if_pos z,z]; rfl
  ·rw [if_neg z]; simp [appD]
 ·rw [if_neg e,List.append_nil] at ee
  rw [ee,if_neg fun z=>e ?_,h s d]
  simp only [List.cons.injEq,Sum.inl.injEq,Sum.inr.injEq,and_true] at z
  exact ⟨z.1.symm,z.2.symm⟩
theorem Fi {l:List Stp} {kvs:Kn} (h:Ways l kvs) {s:Int} {d:Str} {Q:Md→D→Prop} (q:Q .sh (.list ((bQ l s d).map .int))):gotG (getG kvs [.inl s,.inr d]) .sh .sh (.list []) Q:=by
 rw [h s d]
 by_cases z:bQ l s d=[]
 ·rw [if_pos z]; rw [z] at q; exact q
 ·rw [if_neg z]; exact q
theorem int_at {l:List Int} {i:Nat} {x:D} (h:(l.map D.int)[i]? = some x):∃ c,x=.int c∧c∈l∧l.take (i+1)=l.take i++[c]:=by
 rw [List.getElem?_map] at h
 cases e:l[i]? with
 | none=>rw [e] at h; cases h
 | some s =>
  rw [e] at h
  cases h
  exact ⟨s,rfl,List.mem_of_getElem? e,by rw [List.take_add_one,e]; rfl⟩
noncomputable abbrev Tr:=Int→Bool
noncomputable def hol (l:List Stp) (ts:List Tr):Rw→Tr
 | .st w d j=>fun s=>if w = "some" then (bQ l s d).any (ts.getD j.toNat fun _=>false) else (bQ l s d).all (ts.getD j.toNat fun _=>false)
 | .nt j=>fun s=>!(ts.getD j.toNat (fun _=>false) s)
 | .jn w ps=>fun s=>if w = "and" then ps.all (fun p=>ts.getD p.toNat (fun _=>false) s) else ps.any (fun p=>ts.getD p.toNat (fun _=>false) s)
noncomputable def holF (l:List Stp):List Tr→List Rw→List Tr
 | ts,[]=>ts
 | ts,r :: rs=>holF l (ts++[hol l ts r]) rs
noncomputable def hols (l:List Stp) (rs:List Rw):List Tr:=holF l [] rs
theorem rN (l:List Stp):∀ (a b:List Rw) (ts:List Tr),holF l ts (a++b)=holF l (holF l ts a) b
 | [],_,_=>rfl
 | r :: a,b,ts=>rN l a b (ts++[hol l ts r])
theorem gC (l:List Stp) (a:List Rw) (r:Rw):hols l (a++[r])=hols l a++[hol l (hols l a) r]:=by
 unfold hols
 rw [rN]; rfl
theorem ug (l:List Stp):∀ (rs:List Rw) (ts:List Tr),(holF l ts rs).length=ts.length+rs.length
 | [],ts=>rfl
 | r :: rs,ts=>by
  rw [holF,ug l rs,List.length_append,List.length_cons,List.length_cons,List.length_nil]
  walk_at "l"
theorem dZ (l:List Stp) (rs:List Rw):(hols l rs).length=rs.length:=by
 unfold hols
 rw [ug]; simp
noncomputable def trD (many:Int) (t:Tr):D:=.list ((cJ many.toNat).map fun i=>.bl (t i))
theorem wM {many s:Int} (h0:0≤s) (h1:s<many) (t:Tr):atI ((cJ many.toNat).map fun i=>D.bl (t i)) s=some (.bl (t s)):=by
 have hs:s.toNat<many.toNat:=by walk_at "l"
 have:=atI_nat (xs:=(cJ many.toNat).map fun i=>D.bl (t i)) (j:=s.toNat) (v:=.bl (t s)) (by
  rw [List.getElem?_map,cJ,List.getElem?_map,List.getElem?_range hs]
  show some (D.bl (t ((s.toNat:Nat):Int)))=_
  rw [Int.toNat_of_nonneg h0])
 rwa [Int.toNat_of_nonneg h0] at this
theorem tH {many j:Int} {ts:List Tr} (h0:0≤j) (h1:j<ts.length):atI (ts.map (trD many)) j=some (trD many (ts.getD j.toNat fun _=>false)):=by
 have hj:j.toNat<ts.length:=by walk_at "l"
 have:=atI_nat (xs:=ts.map (trD many)) (j:=j.toNat) (v:=trD many (ts.getD j.toNat fun _=>false)) (by
  rw [List.getElem?_map,List.getD_eq_getElem?_getD,List.getElem?_eq_getElem hj]; rfl)
 rwa [Int.toNat_of_nonneg h0] at this
theorem Cu {l:List Stp} {kvs:Kn} (h:Ways l kvs) {s:Int} {d:Str} {n:Md} {Q:Md→D→Prop} (q:∀ m,Q m (.list ((bQ l s d).map .int))):gotG (getG kvs [.inl s,.inr d]) .sh n (.list []) Q:=by
 rw [h s d]
 by_cases z:bQ l s d=[]
 ·have:=q n
  rw [z] at this
  rw [if_pos z]; exact this
 ·rw [if_neg z]; exact q _
noncomputable def whL (many:Int) (t:Tr):List Int:=(cJ many.toNat).filter t
theorem uX (n:Nat) (g:Int→D):jf ((cJ n).map g)=(cJ n).map fun i=>.tup [.int i,g i]:=by
 apply List.ext_getElem?
 intro i
 unfold jf cJ
 rw [List.getElem?_mapIdx,List.getElem?_map,List.getElem?_map,List.getElem?_map,List.getElem?_map]
 by_cases hi:i<n
 ·rw [List.getElem?_range hi]; rfl
 ·rw [List.getElem?_eq_none (by simpa using hi)]; rfl
theorem uY (n:Nat):gq 0 n=(cJ n).map D.int:=by
 unfold gq cJ
 rw [List.map_map]
 exact List.map_congr_left fun i _=>by simp
noncomputable def jY:WS :=
 (wSeq (wIfS (wOr (wNot (wB (wUn (fIsi "str") (wVar 0)))) (wNot (wB (gM fLe fLe (wC (.int 1)) (wUn fLen (wVar 0)) (wC (.int 6))))))
 (wRet (wC (.bl false)))
 cT)
 (wRet (wUn fAll (d_ (yQ (wVar 0)) (gN 0) wYes (wOp (fIn false) (wVar 0) (wC (.str "abcdefghijklmnopqrstuvwxyz"))) 1 []))))
theorem Ba {c:Nat}:inS ⟨#[c]⟩ abc=isLet c:=by
 rw [Ci]
 have:abc.cps.toList=(List.range 26).map (97 + ·):=mX
 rw [this]
 apply Bool.eq_iff_iff.mpr
 simp only [decide_eq_true_eq,isLet,List.mem_map,List.mem_range]
 constructor
 ·rintro ⟨i,hi,rfl⟩; walk_at "l"
 ·intro h; exact ⟨c - 97,by walk_at "l",by walk_at "l"⟩
noncomputable def cO:SpD:=fun ds Q=>∃ x:Str,ds=[.str x]∧Q .sh (.bl (decide (1≤x.length∧x.length≤6) && (sg x).all isLet))
theorem rn (ds Q) (h:cO ds Q):ds.length=["thing"].length:=by obtain ⟨_,rfl,_⟩:=h; rfl
theorem vH:∀ ds Q,cO ds Q→jY { nx:=fun _=>Q .sh .non,rt:=Q } (bA 1 ds):=by
 rintro ds Q ⟨x,rfl,h⟩
 unfold jY
 walk_at "q"
 refine R.F rfl ?_
 walk_at "q"
 refine R.D (fun h1=>?_) fun h1=>?_
 ·walk_at "q"
  refine R.B (fun h2=>?_) fun h2=>?_
  rotate_left
  ·have h2:x.length≤6:=by simp at h2; walk_at "l"
   walk_at "q"
   refine bK (fun _=>true) (fun d=>match d with
    | .str z=>.bl (inS z abc)
    | d=>d) (fun ρ=>∃ o,ρ=[o]) _ _ _ ⟨_,rfl⟩ ?_ ?_
   ·rintro y hy ρ ⟨o,rfl⟩ N1 N2 _ h2
    obtain ⟨c,hc,rfl⟩:=List.mem_map.mp hy
    walk_at "q"
    exact ⟨.inl rfl,h2 _ ⟨_,rfl⟩ rfl⟩
   ·rw [dG]
    refine ⟨(sg x).map isLet,?_,?_⟩
    ·unfold sgnD
     rw [List.map_map,List.map_map]
     refine List.map_congr_left fun c _=>?_
     show D.bl (inS ⟨#[c]⟩ abc)=_
     rw [Ba]; rfl
    ·rw [decide_eq_true (by walk_at "l"),Bool.true_and] at h
     rw [List.all_map]
     exact h
  ·have h2:¬ x.length≤6:=by simp at h2; walk_at "l"
   walk_at "q"
   rw [decide_eq_false (by walk_at "l"),Bool.false_and] at h
   exact h
 ·walk_at "q"
  rw [decide_eq_false (by walk_at "l"),Bool.false_and] at h
  exact h
noncomputable def g_:WS :=
 (wRet (jd (wUn (fIsi "int") (wVar 0)) (vK (wUn (fIsi "bool") (wVar 0)))))
noncomputable def cD:SpD:=fun ds Q=>∃ d:D,ds=[d]∧Q .sh (.bl (decide (d.ty = "int")))
theorem qb (ds Q) (h:cD ds Q):ds.length=["thing"].length:=by obtain ⟨_,rfl,_⟩:=h; rfl
theorem uZ:∀ ds Q,cD ds Q→g_ { nx:=fun _=>Q .sh .non,rt:=Q } (bA 1 ds):=by
 rintro ds Q ⟨d,rfl,h⟩
 unfold g_
 walk_at "q"
 cases d <;> first
  | (refine R.F rfl ?_; walk_at "q"; exact h)
  | (refine R.T rfl ?_; walk_at "q"; first | exact h | (refine R.T rfl ?_; walk_at "q"; exact h) | (refine R.F rfl ?_; walk_at "q"; exact h))
noncomputable def dU:WS :=
 (wIfS (wNot (wB (gM fLe fLt (wC (.int 0)) (wVar 1) (wOp fIx (wVar 0) (wC (.int 0))))))
 sy
 cT)
noncomputable def bB:SpD:=fun ds Q=>∃ (many:Int) (l:List Stp) (s:Int),ds=[mD many l,.int s]∧0≤s∧s<many∧Q .sh .non
theorem jF (ds Q) (h:bB ds Q):ds.length=["m", "state"].length:=by obtain ⟨_,_,_,rfl,_⟩:=h; rfl
theorem nu:∀ ds Q,bB ds Q→dU { nx:=fun _=>Q .sh .non,rt:=Q } (bA 2 ds):=by
 rintro ds Q ⟨many,l,s,rfl,h0,h1,h⟩
 unfold dU mD
 walk_at "q"
 refine R.T (decide_eq_true h0) ?_
 walk_at "q"
 refine R.F (by simp [h1]) ?_
 walk_at "q"
 exact h
noncomputable def jK:WS :=
 (wSeq (wSet 1 xX)
 (wSeq (wFrz 0 (wFor (jD (wOp fIx (wVar 0) (wC (.int 1)))) (gT 3 (eG (gN 2) (eG (gN 3) (eG (gN 4) qt))))
 (wFrz 4 (wFrz 3 (wFrz 2 (wSd 1 (wTup (aq (wVar 2) (aq (wVar 3) wNil))) (wVar 4)))))))
 (pK 1)))
noncomputable def cP:SpD:=fun ds Q=>∃ (many:Int) (l:List Stp),ds=[mD many l]∧l.length≤1000∧∀ kvs,Ways l kvs→Q (.ow true) (.dT kvs)
theorem qH (ds Q) (h:cP ds Q):ds.length=["m"].length:=by obtain ⟨_,_,rfl,_⟩:=h; rfl
theorem xJ:∀ ds Q,cP ds Q→jK { nx:=fun _=>Q .sh .non,rt:=Q } (bA 5 ds):=by
 rintro ds Q ⟨many,l,rfl,hz,h⟩
 unfold jK mD
 walk_at "q"
 refine dJ _ (fun i ρ=>∃ (kvs:Kn) (o2 o3 o4:Option Sl),Ways (l.take i) kvs∧kvs.length≤i∧ρ=[some (.sh (.tup [.int many,.list (l.map stpD)])),some (.ow true (.dT kvs)),o2,o3,o4]) ⟨[],_,_,_,Ways.nil,by simp,rfl⟩ ?_ ?_
 ·rintro i x ρ hx ⟨kvs,o2,o3,o4,hw,hk,rfl⟩ N hN
  have hi:=(List.getElem?_eq_some_iff.mp hx).1
  rw [List.length_map] at hi
  obtain ⟨p,d,r,rfl,hs,et⟩:=zR hx
  walk_at "q"
  refine ⟨by walk_at "l",?_,hN _ ⟨_,_,_,_,by rw [et]; exact hw.put p d r,by have:=v5 [.inl p,.inr d] (.int r) kvs; walk_at "l",rfl⟩⟩
  rw [hw p d]
  have:=yz (l.take i) p d
  rw [List.length_take] at this
  split
  ·trivial
  ·show List.length _<_
   rw [List.length_map]
   exact De (by walk_at "l")
 ·rintro ρ ⟨kvs,o2,o3,o4,hw,hk,rfl⟩
  rw [List.length_map,List.take_length] at hw
  walk_at "q"
  exact h kvs hw
noncomputable def rG:WS :=
 (wSeq (wIfS (wOr (wB (wOp fEq (wOp fIx (wVar 0) (wC (.int 0))) (wC (.str "some")))) (wB (wOp fEq (wOp fIx (wVar 0) (wC (.int 0))) (wC (.str "all")))))
 (wRet (wLst (aq (wOp fIx (wVar 0) (wC (.int 2))) wNil)))
 cT)
 (wSeq (wIfS (wB (wOp fEq (wOp fIx (wVar 0) (wC (.int 0))) (wC (.str "not"))))
 (wRet (wLst (aq (wOp fIx (wVar 0) (wC (.int 1))) wNil)))
 cT)
 (wRet (wUn pN (wOp fIx (wVar 0) (wC (.int 1)))))))
noncomputable def drw:Rw→List Int
 | .st _ _ j=>[j]
 | .nt j=>[j]
 | .jn _ ps=>ps
noncomputable def dY:SpD:=fun ds Q=>∃ (r:Rw) (k:Int),ds=[rwD r]∧RwOk k r∧Q (.ow true) (.list ((drw r).map D.int))
theorem vA (ds Q) (h:dY ds Q):ds.length=["row"].length:=by obtain ⟨_,_,rfl,_⟩:=h; rfl
theorem w_no:∀ {w:Str},(w = "and"∨w = "or")→w ≠ "some"∧w ≠ "all"∧w ≠ "not" := by
 rintro w (rfl | rfl) <;> decide +kernel
theorem w_sa:∀ {w:Str},(w = "some"∨w = "all")→w ≠ "not"∧w ≠ "and"∧w ≠ "or" := by
 rintro w (rfl | rfl) <;> decide +kernel
theorem n_sa:("not" : Str) ≠ "some"∧("not" : Str) ≠ "all" := by decide +kernel
theorem Aj:∀ ds Q,dY ds Q→rG { nx:=fun _=>Q .sh .non,rt:=Q } (bA 1 ds):=by
 rintro ds Q ⟨r,k,rfl,hr,h⟩
 unfold rG
 cases r with
 | st w d j =>
  obtain ⟨hw,_⟩:=hr
  rw [show rwD (.st w d j)=.tup [.str w,.str d,.int j] from rfl]
  walk_at "q"
  refine R.D (fun e=>?_) fun e=>?_
  ·walk_at "q"
   exact h
  ·walk_at "q"
   refine R.D (fun e=>?_) fun e2=>?_
   ·walk_at "q"
    exact h
   ·exact absurd hw (by simp [e,e2])
 | nt j =>
  rw [show rwD (.nt j)=.tup [.str "not",.int j] from rfl]
  walk_at "q"
  refine R.F (decide_eq_false n_sa.1) ?_
  walk_at "q"
  refine R.F (decide_eq_false n_sa.2) ?_
  walk_at "q"
  exact h
 | jn w ps =>
  obtain ⟨hw,hl,_⟩:=hr
  rw [show rwD (.jn w ps)=.tup [.str w,.tup (ps.map .int)] from rfl]
  walk_at "q"
  refine R.F (decide_eq_false (w_no hw).1) ?_
  walk_at "q"
  refine R.F (decide_eq_false (w_no hw).2.1) ?_
  walk_at "q"
  refine R.F (decide_eq_false (w_no hw).2.2) ?_
  walk_at "q"
  exact .inl ⟨cz ps,h⟩
noncomputable def gf:WS :=
 (wSeq (wIfS (wB (wOp fEq (wOp fIx (wVar 2) (wC (.int 0))) (wC (.str "not"))))
 (wRet (vK (wOp fIx (wOp fIx (wVar 1) (wOp fIx (wVar 2) (wC (.int 1)))) (wVar 3))))
 cT)
 (wSeq (wIfS (wB (wOp fEq (wOp fIx (wVar 2) (wC (.int 0))) (wC (.str "and"))))
 (wRet (wUn fAll (d_ (uG (wOp fIx (wVar 2) (wC (.int 1)))) (gN 0) wYes (wOp fIx (wOp fIx (wVar 2) (wVar 0)) (wVar 1)) 1 [3,1])))
 cT)
 (wSeq (wIfS (wB (wOp fEq (wOp fIx (wVar 2) (wC (.int 0))) (wC (.str "or"))))
 (wRet (wUn fAny (d_ (uG (wOp fIx (wVar 2) (wC (.int 1)))) (gN 0) wYes (wOp fIx (wOp fIx (wVar 2) (wVar 0)) (wVar 1)) 1 [3,1])))
 cT)
 (wSeq (wFrz 3 (wSet 4 (d_ (gW (wGet (wVar 0) (wTup (aq (wVar 3) (aq (wOp fIx (wVar 2) (wC (.int 1))) wNil))) (wLst wNil))) (gN 0) wYes (wOp fIx (wOp fIx (wVar 2) (wOp fIx (wVar 1) (wC (.int 2)))) (wVar 0)) 1 [2,1])))
 (wRet (wIf (wB (wOp fEq (wOp fIx (wVar 2) (wC (.int 0))) (wC (.str "some")))) (wUn fAny (wVar 4)) (wUn fAll (wVar 4))))))))
noncomputable def bU:SpD:=fun ds Q=>∃ (kvs:Kn) (l:List Stp) (many:Int) (ts:List Tr) (r:Rw) (s:Int),ds=[.dT kvs,.list (ts.map (trD many)),rwD r,.int s]∧Ways l kvs∧StIn many l∧RwOk ts.length r∧0≤s∧s<many∧Q .sh (.bl (hol l ts r s))
theorem mJ (ds Q) (h:bU ds Q):ds.length=["ways", "truths", "row", "state"].length:=by obtain ⟨_,_,_,_,_,_,rfl,_⟩:=h; rfl
theorem qX:∀ ds Q,bU ds Q→gf { nx:=fun _=>Q .sh .non,rt:=Q } (bA 5 ds):=by
 rintro ds Q ⟨kvs,l,many,ts,r,s,rfl,hw,hin,hr,s0,s1,h⟩
 unfold gf
 cases r with
 | nt j =>
  rw [show rwD (.nt j)=.tup [.str "not",.int j] from rfl]
  walk_at "q"
  refine ⟨_,tH hr.1 hr.2,?_⟩
  unfold trD
  walk_at "q"
  refine ⟨_,wM s0 s1 _,?_⟩
  walk_at "q"
  exact h
 | jn w ps =>
  rw [show rwD (.jn w ps)=.tup [.str w,.tup (ps.map .int)] from rfl]
  walk_at "q"
  refine R.F (decide_eq_false (w_no hr.1).2.2) ?_
  walk_at "q"
  have el:=hr.2.2
  refine R.D (fun e=>?_) fun e=>?_
  ·rw [show hol l ts (.jn w ps) s=ps.all fun p=>ts.getD p.toNat (fun _=>false) s from if_pos e] at h
   walk_at "q"
   refine bK (fun _=>true) (fun d=>match d with
    | .int p=>.bl (ts.getD p.toNat (fun _=>false) s)
    | d=>d) (fun ρ=>∃ o,ρ=[o,some (.sh (.int s)),some (.sh (.list (ts.map (trD many))))]) _ _ _ ⟨_,rfl⟩ ?_ ?_
   ·rintro y hy ρ ⟨o,rfl⟩ N1 N2 _ h2
    obtain ⟨p,hp,rfl⟩:=List.mem_map.mp hy
    walk_at "q"
    refine ⟨_,tH (el p hp).1 (el p hp).2,?_⟩
    unfold trD
    walk_at "q"
    exact ⟨_,wM s0 s1 _,.inl rfl,h2 _ ⟨_,rfl⟩ rfl⟩
   ·rw [dG]
    refine ⟨ps.map fun p=>ts.getD p.toNat (fun _=>false) s,by rw [List.map_map,List.map_map]; rfl,?_⟩
    rw [List.all_map]
    exact h
  ·rw [show hol l ts (.jn w ps) s=ps.any fun p=>ts.getD p.toNat (fun _=>false) s from if_neg e] at h
   walk_at "q"
   refine R.T (decide_eq_true (hr.1.resolve_left e)) ?_
   walk_at "q"
   refine bK (fun _=>true) (fun d=>match d with
    | .int p=>.bl (ts.getD p.toNat (fun _=>false) s)
    | d=>d) (fun ρ=>∃ o,ρ=[o,some (.sh (.int s)),some (.sh (.list (ts.map (trD many))))]) _ _ _ ⟨_,rfl⟩ ?_ ?_
   ·rintro y hy ρ ⟨o,rfl⟩ N1 N2 _ h2
    obtain ⟨p,hp,rfl⟩:=List.mem_map.mp hy
    walk_at "q"
    refine ⟨_,tH (el p hp).1 (el p hp).2,?_⟩
    unfold trD
    walk_at "q"
    exact ⟨_,wM s0 s1 _,.inl rfl,h2 _ ⟨_,rfl⟩ rfl⟩
   ·rw [dG]
    refine ⟨ps.map fun p=>ts.getD p.toNat (fun _=>false) s,by rw [List.map_map,List.map_map]; rfl,?_⟩
    rw [List.any_map]
    exact h
 | st w d j =>
  rw [show rwD (.st w d j)=.tup [.str w,.str d,.int j] from rfl]
  walk_at "q"
  refine R.F (decide_eq_false (w_sa hr.1).1) ?_
  walk_at "q"
  refine R.F (decide_eq_false (w_sa hr.1).2.1) ?_
  walk_at "q"
  refine R.F (decide_eq_false (w_sa hr.1).2.2) ?_
  walk_at "q"
  refine Cu hw fun m=>?_
  walk_at "q"
  refine bK (fun _=>true) (fun y=>match y with
   | .int p=>.bl (ts.getD j.toNat (fun _=>false) p)
   | y=>y) (fun ρ=>∃ o,ρ=[o,some (.sh (.tup [.str w,.str d,.int j])),some (.sh (.list (ts.map (trD many))))]) _ _ _ ⟨_,rfl⟩ ?_ ?_
  ·rintro y hy ρ ⟨o,rfl⟩ N1 N2 _ h2
   obtain ⟨p,hp,rfl⟩:=List.mem_map.mp hy
   have hp':=(hin _ (jm.mp hp)).2.2.2
   walk_at "q"
   refine ⟨_,tH hr.2.2.1 hr.2.2.2,?_⟩
   unfold trD
   walk_at "q"
   exact ⟨_,wM hp'.1 hp'.2 _,.inl rfl,h2 _ ⟨_,rfl⟩ rfl⟩
  ·rw [dG]
   have eb:((bQ l s d).map D.int).map (fun y=>match y with
    | .int p=>D.bl (ts.getD j.toNat (fun _=>false) p)
    | y=>y)=((bQ l s d).map fun p=>ts.getD j.toNat (fun _=>false) p).map D.bl:=by rw [List.map_map,List.map_map]; rfl
   rw [eb]
   refine R.D (fun e=>?_) fun e=>?_
   ·rw [show hol l ts (.st w d j) s=(bQ l s d).any (ts.getD j.toNat fun _=>false) from if_pos e] at h
    walk_at "q"
    refine ⟨_,rfl,?_⟩
    rw [List.any_map]
    exact h
   ·rw [show hol l ts (.st w d j) s=(bQ l s d).all (ts.getD j.toNat fun _=>false) from if_neg e] at h
    walk_at "q"
    refine ⟨_,rfl,?_⟩
    rw [List.all_map]
    exact h
noncomputable def dI:WS :=
 (wRet (d_ (qi (wVar 0)) (gT 2 (eG (gN 0) (eG (gN 1) qt))) (wTru (wVar 1)) (wVar 0) 2 []))
noncomputable def bf:SpD:=fun ds Q=>∃ (many:Int) (t:Tr),ds=[trD many t]∧Q (.ow true) (.list ((whL many t).map .int))
theorem jh (ds Q) (h:bf ds Q):ds.length=["truth"].length:=by obtain ⟨_,_,rfl,_⟩:=h; rfl
theorem lF:∀ ds Q,bf ds Q→dI { nx:=fun _=>Q .sh .non,rt:=Q } (bA 1 ds):=by
 rintro ds Q ⟨many,t,rfl,h⟩
 unfold dI trD
 walk_at "q"
 rw [uX]
 refine bK (fun x=>match x with
  | .tup [.int _,.bl b]=>b
  | _=>false) (fun x=>match x with
  | .tup [.int i,.bl _]=>.int i
  | x=>x) (fun ρ=>∃ o1 o2,ρ=[o1,o2]) _ _ _ ⟨_,_,rfl⟩ ?_ ?_
 ·rintro x hx ρ ⟨o1,o2,rfl⟩ N1 N2 n1 n2
  obtain ⟨i,hi,rfl⟩:=List.mem_map.mp hx
  walk_at "q"
  by_cases ht:t i=true
  ·rw [if_pos ht]
   exact ⟨.inl rfl,n2 _ ⟨_,_,rfl⟩ ht⟩
  ·rw [if_neg ht]
   exact n1 _ ⟨_,_,rfl⟩ (Bool.eq_false_iff.mpr ht)
 ·have eb:(((cJ many.toNat).map fun i=>D.tup [.int i,.bl (t i)]).filter (fun x=>match x with
   | .tup [.int _,.bl b]=>b
   | _=>false)).map (fun x=>match x with
   | .tup [.int i,.bl _]=>.int i
   | x=>x)=(whL many t).map D.int:=by
   unfold whL
   rw [List.filter_map,List.map_map]
   rfl
  rw [eb]
  exact h
noncomputable def dC:WS :=
 (wSeq (wIfS (wB (wOp fLt (wVar 1) (wUn fLen (wVar 0))))
 (wRet (wOp fIx (wVar 0) (wVar 1)))
 cT)
 (wRet (wC (.int 0))))
noncomputable def aA:SpD:=fun ds Q=>∃ (ns:List Int) (k:Int),ds=[.list (ns.map .int),.int k]∧0≤k∧Q .sh (.int (ns.getD k.toNat 0))
theorem je (ds Q) (h:aA ds Q):ds.length=["_law_script", "_law_k"].length:=by obtain ⟨_,_,rfl,_⟩:=h; rfl
theorem lz:∀ ds Q,aA ds Q→dC { nx:=fun _=>Q .sh .non,rt:=Q } (bA 2 ds):=by
 rintro ds Q ⟨ns,k,rfl,hk,h⟩
 unfold dC
 walk_at "q"
 refine R.D (fun hl=>?_) fun hl=>?_
 ·walk_at "q"
  have hn:k.toNat<ns.length:=by walk_at "l"
  refine ⟨.int ns[k.toNat],?_,?_⟩
  ·have:=atI_nat (xs:=ns.map D.int) (j:=k.toNat) (v:=.int ns[k.toNat]) (by simp [hn])
   rwa [Int.toNat_of_nonneg hk] at this
  ·show Q .sh _; simpa [List.getD,hn] using h
 ·walk_at "q"
  have:ns.getD k.toNat 0=0:=by
   have:ns.length≤k.toNat:=by walk_at "l"
   simp [List.getD,List.getElem?_eq_none this]
  rwa [this] at h
noncomputable def eY:WS :=
 (wSeq (wSet 2 (wC (.str "abcdefghijklmnopqrstuvwxyz")))
 (wSeq (wSet 3 (wOp fAdd (wC (.int 1)) (wOp fMod (wVar 0) (wC (.int 6)))))
 (wSeq (wSet 0 (wOp fDiv (wVar 0) (wC (.int 6))))
 (wSeq (wSet 4 (wLst wNil))
 (wSeq (wFor (fu (wVar 3)) (gN 5)
 (wSeq (wApp (wpN 4) (wOp fMod (wVar 0) (wC (.int 26))))
 (wSet 0 (wOp fDiv (wVar 0) (wC (.int 26))))))
 (wSeq (wSet 6 (tM (wC (.str "")) (d_ (gW (wVar 4)) (gN 0) wYes (wOp fIx (wVar 1) (wVar 0)) 1 [2])))
 (wSeq (wIfS (wB (wOp fEq (wOp fMod (wOp fDiv (wVar 1) (wC (.int 6))) (wC (.int 3))) (wC (.int 1))))
 (wRet (d_ (uf (wC (.int 1)) (wC (.int 7))) (gN 0) wYes (wSl (wOp yX (wC (.int 6)) (wVar 1)) ig (ir (wVar 0))) 1 [6]))
 cT)
 (wSeq (wSet 7 (wOp fMod (wVar 1) (wVar 3)))
 (wSeq (wSet 8 (wLst wNil))
 (wSeq (wFor (fu (wC (.int 6))) (gN 5)
 (wSeq (wSet 9 (wOp fIx (wVar 2) (wOp fMod (wOp fAdd (wOp fIx (wVar 4) (wVar 7)) (wOp fMul (wC (.int 5)) (wVar 5))) (wC (.int 26)))))
 (wApp (wpN 8) (wOp fAdd (wOp fAdd (wSl (wVar 6) ig (ir (wVar 7))) (wVar 9)) (wSl (wVar 6) (ir (wOp fAdd (wVar 7) (wC (.int 1)))) ig)))))
 (pK 8)))))))))))
theorem sY {n d:Nat} {k:Int} (h0:0≤k) (h1:k≤n):HT.sIx n d (some k)=k.toNat:=by
 simp only [HT.sIx]
 rw [if_neg (by walk_at "l")]
 walk_at "l"
theorem xm {x:Str} {k:Int} (h0:0≤k) (h1:k≤x.length):(cutS x none (some k)).length=k.toNat:=by
 unfold cutS Str.length at *
 simp only [List.size_toArray,List.length_take,List.length_drop,Array.length_toList]
 rw [sY h0 (by simpa using h1)]
 simp [HT.sIx]
 walk_at "l"
theorem zY {x:Str} {k:Int} (h0:0≤k) (h1:k≤x.length):(cutS x (some k) none).length=x.length - k.toNat:=by
 unfold cutS Str.length at *
 simp only [List.size_toArray,List.length_take,List.length_drop,Array.length_toList]
 rw [sY h0 (by simpa using h1)]
 simp [HT.sIx]
theorem yf {n:Int} {z:Str} (h:lets z):lets (repS n z):=fun c hc=>by
 unfold repS sg at hc
 rw [List.toList_toArray] at hc
 obtain ⟨l,hl,hcl⟩:=List.mem_flatten.mp hc
 rw [List.eq_of_mem_replicate hl] at hcl
 exact h c hcl
theorem mq:∀ (l:List Str),jt (l.map D.str)=some l
 | []=>rfl
 | x :: l=>by simp [jt,mq l]
theorem B_ {p:Int} (h0:0≤p) (h1:p<26):atI (sg abc) p=some (97+p.toNat):=by
 have:atI (sg abc) ((p.toNat:Nat):Int)=some (97+p.toNat):=atI_nat (by
  rw [mX]
  have:p.toNat<26:=by walk_at "l"
  simp [this])
 rwa [Int.toNat_of_nonneg h0] at this
theorem iG:∀ l:List Nat,sg (Str.join "" (l.map fun c=>(⟨#[c]⟩:Str)))=l
 | []=>by decide +kernel
 | [c]=>rfl
 | c :: d :: l=>by
  have ih:=iG (d :: l)
  show sg ((⟨#[c]⟩:Str) ++ "" ++ Str.join "" ((d :: l).map fun c=>(⟨#[c]⟩:Str)))=_
  rw [rQ,rQ,ih,show sg ("" : Str)=[] by decide +kernel]
  rfl
theorem tR:∀ l:List Nat,(l.map fun _=>1).sum=l.length
 | []=>rfl
 | x :: l=>by simp [tR l]; walk_at "l"
noncomputable def bL:SpD:=fun ds Q=>∃ c t:Int,ds=[.int c,.int t]∧∀ names:List Str,names.length=6→(∀ n∈names,Open n)→Q (.ow true) (.list (names.map .str))
theorem lg (ds Q) (h:bL ds Q):ds.length=["_law_cell", "_law_turn"].length:=by obtain ⟨_,_,rfl,_⟩:=h; rfl
theorem pX:∀ ds Q,bL ds Q→eY { nx:=fun _=>Q .sh .non,rt:=Q } (bA 10 ds):=by
 rintro ds Q ⟨c,t,rfl,h⟩
 unfold eY
 walk_at "q"
 have s0:=Int.emod_nonneg c (show (6:Int)≠0 by decide)
 have s1:=Int.emod_lt_of_pos c (show (0:Int)<6 by decide)
 generalize hsz:1+c % 6=size at *
 refine ⟨by walk_at "l",by walk_at "l",?_⟩
 refine dJ _ (fun i ρ=>∃ (cc:Int) (ps:List Int) (o:Option Sl),ps.length=i∧(∀ p∈ps,0≤p∧p<26)∧ρ=[some (.sh (.int cc)),some (.sh (.int t)),some (.sh (.str abc)),some (.sh (.int size)),some (.ow true (.list (ps.map .int))),o,none,none,none,none]) ⟨_,[],_,rfl,(fun p hp=>nomatch hp),rfl⟩ ?_ ?_
 ·rintro i x ρ hx ⟨cc,ps,o,hl,hp,rfl⟩ N hN
  obtain ⟨hi,rfl⟩:=f9 hx
  walk_at "q"
  refine ⟨by walk_at "l",?_⟩
  rw [ints_app]
  refine hN _ ⟨_,ps++[cc % 26],_,by simp [hl],fun p hp'=>?_,rfl⟩
  rcases List.mem_append.mp hp' with h' | h'
  ·exact hp p h'
  ·rw [List.mem_singleton.mp h']
   exact ⟨Int.emod_nonneg _ (by decide),Int.emod_lt_of_pos _ (by decide)⟩
 rintro ρ ⟨cc,ps,o,hl,hp,rfl⟩
 rw [dW] at hl
 walk_at "q"
 have e0:(Str.ofString "").length=0:=by decide
 refine bK (fun _=>true) (fun d=>match d with
  | .int p=>.str ⟨#[97+p.toNat]⟩
  | d=>d) (fun ρ=>∃ o,ρ=[o,some (.sh (.str abc))]) _ _ _ ⟨_,rfl⟩ ?_ ?_
 ·rintro y hy ρ ⟨o,rfl⟩ N1 N2 _ h2
  obtain ⟨p,hp',rfl⟩:=List.mem_map.mp hy
  walk_at "q"
  exact ⟨_,B_ (hp p hp').1 (hp p hp').2,.inl rfl,h2 _ ⟨_,rfl⟩ rfl⟩
 rw [dG]
 refine ⟨(ps.map fun p=>97+p.toNat).map fun c=>⟨#[c]⟩,?_,?_,?_⟩
 ·rw [List.map_map,← mq,List.map_map,List.map_map]; rfl
 ·rw [e0,List.map_map,Nat.mul_zero,Nat.add_zero]
  show ((ps.map fun p=>97+p.toNat).map fun _=>1).sum≤_
  rw [tR,List.length_map]; walk_at "l"
 have hw:=iG (ps.map fun p=>97+p.toNat)
 generalize Str.join "" ((ps.map fun p=>97+p.toNat).map fun c=>(⟨#[c]⟩:Str))=word at hw ⊢
 have wl:word.length=size.toNat:=by
  have:(sg word).length=size.toNat:=by rw [hw,List.length_map,hl]
  rw [← this]; unfold sg Str.length; simp
 have wlet:lets word:=fun ch hc=>by
  rw [hw] at hc
  obtain ⟨p,hp',rfl⟩:=List.mem_map.mp hc
  have:=hp p hp'
  simp [isLet]; walk_at "l"
 refine R.D (fun _=>?_) fun _=>?_
 ·walk_at "q"
  refine bK (fun _=>true) (fun d=>match d with
   | .int k=>.str (cutS (repS 6 word) none (some k))
   | d=>d) (fun ρ=>∃ o,ρ=[o,some (.sh (.str word))]) _ _ _ ⟨_,rfl⟩ ?_ ?_
  ·rintro y hy ρ ⟨o,rfl⟩ N1 N2 _ h2
   obtain ⟨i,hi,rfl⟩:=sJ hy
   walk_at "q"
   exact ⟨by walk_at "l",.inl rfl,h2 _ ⟨_,rfl⟩ rfl⟩
  ·rw [dG]
   have e6:(List.map (fun d=>match d with
    | .int k=>D.str (cutS (repS 6 word) none (some k))
    | d=>d) (gq 1 6))=((List.range 6).map fun i=>cutS (repS 6 word) none (some (1+(i:Nat):Int))).map D.str:=by
    unfold gq
    rw [List.map_map,List.map_map]
    rfl
   rw [e6]
   refine h _ (by simp) fun n hn=>?_
   obtain ⟨i,hi,rfl⟩:=List.mem_map.mp hn
   have hi:i<6:=by simpa using hi
   have l1:(cutS (repS 6 word) none (some (1+(i:Nat):Int))).length=(1+(i:Int)).toNat:=xm (by walk_at "l") (by rw [uc,wl]; simp; walk_at "l")
   exact ⟨by rw [l1]; walk_at "l",by rw [l1]; walk_at "l",oG (yf wlet) _ _⟩
 ·walk_at "q"
  refine ⟨by walk_at "l",?_⟩
  have a0:=Int.emod_nonneg t (show size≠0 by walk_at "l")
  have a1:=Int.emod_lt_of_pos t (show 0<size by walk_at "l")
  generalize t % size=at' at *
  have l1:(cutS word none (some at')).length=at'.toNat:=xm a0 (by walk_at "l")
  have l2:(cutS word (some (at'+1)) none).length=word.length - (at'+1).toNat:=zY (by walk_at "l") (by walk_at "l")
  refine dJ _ (fun i ρ=>∃ (names:List Str) (o5 o9:Option Sl),names.length=i∧(∀ n∈names,Open n)∧ρ=[some (.sh (.int cc)),some (.sh (.int t)),some (.sh (.str abc)),some (.sh (.int size)),some (.ow true (.list (ps.map .int))),o5,some (.sh (.str word)),some (.sh (.int at')),some (.ow true (.list (names.map .str))),o9]) ⟨[],_,_,rfl,(fun n hn=>nomatch hn),rfl⟩ ?_ ?_
  ·rintro i x ρ hx ⟨names,o5,o9,hn,hd,rfl⟩ N hN
   obtain ⟨hi,rfl⟩:=f9 hx
   have hi:i<6:=hi
   walk_at "q"
   have hat:at'.toNat<ps.length:=by walk_at "l"
   refine ⟨.int ps[at'.toNat],?_,?_⟩
   ·have:=atI_nat (xs:=ps.map D.int) (j:=at'.toNat) (v:=.int ps[at'.toNat]) (by simp [hat])
    rwa [Int.toNat_of_nonneg a0] at this
   walk_at "q"
   obtain ⟨ch,ec,lc⟩:=BK (ps[at'.toNat]+5 * (0+(i:Int)))
   refine ⟨.inl ⟨by walk_at "l",by walk_at "l"⟩,ch,ec,?_⟩
   refine ⟨by rw [l1,fK]; walk_at "l",by rw [l1,l2,fK]; walk_at "l",by walk_at "l",?_⟩
   rw [yg]
   refine hN _ ⟨names++[_],_,_,by simp [hn],fun n hn'=>?_,rfl⟩
   rcases List.mem_append.mp hn' with h' | h'
   ·exact hd n h'
   ·obtain rfl:n=_:=by simpa using h'
    refine ⟨?_,?_,t6 (t6 (oG wlet _ _) (yE lc)) (oG wlet _ _)⟩
    ·rw [cF,cF,l1,l2,fK]; walk_at "l"
    ·rw [cF,cF,l1,l2,fK]; walk_at "l"
  ·rintro ρ ⟨names,o5,o9,hn,hd,rfl⟩
   rw [dW] at hn
   walk_at "q"
   exact h names hn hd
noncomputable def eZ:WS :=
 (wSeq (wSet 3 (wLst wNil))
 (wSeq (wFor (fu (wUn fLen (wVar 0))) (gN 4)
 (wSeq (wSet 5 (wOp fMod (wOp fMul (wOp fAdd (wOp fMod (wOp fIx (wVar 0) (wVar 4)) (wC (.int 2147483647))) (wC (.int 1))) (wOp fAdd (wC (.int 48271)) (wOp fMul (wC (.int 7)) (wVar 4)))) (wC (.int 2147483647))))
 (wSeq (wSet 6 (wOp fIx (wVar 2) (wOp fMod (wOp fDiv (wVar 5) (wVar 1)) (wUn fLen (wVar 2)))))
 (wFrz 6 (wApp (wpN 3) (wTup (aq (wOp fMod (wVar 5) (wVar 1)) (aq (wVar 6) (aq (wOp fMod (wOp fDiv (wVar 5) (wOp fMul (wVar 1) (wUn fLen (wVar 2)))) (wVar 1)) wNil)))))))))
 (pK 3)))
noncomputable def aP:SpD:=fun ds Q=>∃ (cells:List Int) (many:Int) (names:List Str),ds=[.list (cells.map .int),.int many,.list (names.map .str)]∧cells.length≤200∧1≤many∧many≤20∧1≤names.length∧names.length≤20∧(∀ n∈names,Deed n)∧∀ l:List Stp,(∀ s∈l,StOk many s)→l.length=cells.length→Q (.ow true) (.list (l.map stpD))
theorem kW (ds Q) (h:aP ds Q):ds.length=["_law_cells", "_law_many", "_law_deeds_here"].length:=by obtain ⟨_,_,_,rfl,_⟩:=h; rfl
theorem pZ:∀ ds Q,aP ds Q→eZ { nx:=fun _=>Q .sh .non,rt:=Q } (bA 7 ds):=by
 rintro ds Q ⟨cells,many,names,rfl,hc,m1,m2,n1,n2,hd,h⟩
 unfold eZ
 walk_at "q"
 refine ⟨by walk_at "l",by walk_at "l",?_⟩
 refine dJ _ (fun i ρ=>∃ (l:List Stp) (o4 o5 o6:Option Sl),(∀ s∈l,StOk many s)∧l.length=i∧ρ=[some (.sh (.list (cells.map .int))),some (.sh (.int many)),some (.sh (.list (names.map .str))),some (.ow true (.list (l.map stpD))),o4,o5,o6]) ⟨[],_,_,_,(fun s hs=>nomatch hs),rfl,rfl⟩ ?_ ?_
 ·rintro i x ρ hx ⟨l,o4,o5,o6,hs,hl,rfl⟩ N hN
  obtain ⟨hi,rfl⟩:=f9 hx
  have hi:i<cells.length:=by walk_at "l"
  walk_at "q"
  have e0:atI (cells.map D.int) (0+(i:Int))=some (.int cells[i]):=by
   have:=atI_nat (xs:=cells.map D.int) (j:=i) (v:=.int cells[i]) (by simp [hi])
   rwa [Int.zero_add]
  refine ⟨_,e0,?_⟩
  walk_at "q"
  have c0:=Int.emod_nonneg cells[i] (show (2147483647:Int)≠0 by decide)
  have c1:=Int.emod_lt_of_pos cells[i] (show (0:Int)<2147483647 by decide)
  refine ⟨.inl ⟨by walk_at "l",by walk_at "l"⟩,.inl ⟨by walk_at "l",by walk_at "l"⟩,⟨by walk_at "l",by walk_at "l"⟩,by walk_at "l",?_⟩
  generalize (cells[i] % 2147483647+1) * (48271+7 * (0+(i:Int))) % 2147483647=num
  obtain ⟨n,hn,e⟩:=name_mod (num / many) n1
  refine ⟨.str n,e,?_⟩
  walk_at "q"
  have b1:=Int.emod_nonneg num (show many≠0 by walk_at "l")
  have b2:=Int.emod_lt_of_pos num (show 0<many by walk_at "l")
  have b3:=Int.emod_nonneg (num / (many * (names.length:Int))) (show many≠0 by walk_at "l")
  have b4:=Int.emod_lt_of_pos (num / (many * (names.length:Int))) (show 0<many by walk_at "l")
  have b5:many * (names.length:Int)≤20 * 20:=Int.mul_le_mul m2 (by walk_at "l") (by walk_at "l") (by walk_at "l")
  have b6:0<many * (names.length:Int):=Int.mul_pos (by walk_at "l") (by walk_at "l")
  refine ⟨by walk_at "l",.inl ⟨by walk_at "l",by walk_at "l"⟩,⟨b6,by walk_at "l"⟩,by walk_at "l",by walk_at "l",?_⟩
  rw [show l.map stpD++[D.tup [D.int (num % many),D.str n,D.int (num / (many * (names.length:Int)) % many)]]=(l++[((num % many,n,num / (many * (names.length:Int)) % many):Stp)]).map stpD by simp [stpD]]
  refine hN _ ⟨_,_,_,_,fun s hs'=>?_,by simp [hl],rfl⟩
  rcases List.mem_append.mp hs' with h' | h'
  ·exact hs s h'
  ·rw [List.mem_singleton.mp h']
   exact ⟨b1,b2,hd n hn,b3,b4⟩
 ·rintro ρ ⟨l,o4,o5,o6,hs,hl,rfl⟩
  rw [dW] at hl
  walk_at "q"
  exact h l hs (by walk_at "l")
noncomputable def fG:WS :=
 (wSeq (wSet 6 (wOp fMod (wVar 3) (wC (.int 8))))
 (wSeq (wIfS (wB (wOp fLt (wVar 6) (wC (.int 5))))
 (vR [.inl (wOp fIx (wLst (aq (wC (.str "some")) (aq (wC (.str "all")) wNil))) (wOp fDiv (wVar 6) (wC (.int 3)))),.inl (wOp fIx (wVar 2) (wOp fMod (wOp fDiv (wVar 3) (wC (.int 16))) (wUn fLen (wVar 2)))),.inr 5])
 cT)
 (wSeq (wIfS (wB (wOp fEq (wVar 6) (wC (.int 5))))
 (vR [.inl (wC (.str "not")),.inr 5])
 cT)
 (wSeq (wSet 7 (wLst wNil))
 (wSeq (wFor (fu (wOp fMod (wOp fDiv (wVar 3) (wC (.int 16))) (wC (.int 4)))) (gN 8)
 (wSeq (wFrz 5 (wApp (wpN 7) (wVar 5)))
 (wSet 5 (wOp fMod (wOp fAdd (wOp fMul (wC (.int 7)) (wVar 5)) (wOp fDiv (wVar 4) (wOp fAdd (wVar 8) (wC (.int 1))))) (wVar 1)))))
 (wRet (wTup (aq (wOp fIx (wLst (aq (wC (.str "and")) (aq (wC (.str "or")) wNil))) (wOp fSub (wVar 6) (wC (.int 6)))) (aq (wUn xf (wVar 7)) wNil)))))))))
noncomputable def gZ:WS :=
 (wSeq (wSet 3 (wOp fMod (wOp fMul (wOp fAdd (wOp fMod (wVar 0) (wC (.int 2147483647))) (wC (.int 1))) (wOp fAdd (wC (.int 48271)) (wOp fMul (wC (.int 7)) (wVar 1)))) (wC (.int 2147483647))))
 (wSeq (wSet 4 (wOp fMod (wOp fMul (wVar 3) (wC (.int 69621))) (wC (.int 2147483629))))
 (wSeq (wIfS (wB (wOp fEq (wVar 1) (wC (.int 0))))
 (wRet (wOp fIx (wLst (aq (wTup (aq (wC (.str "and")) (aq (wTup wNil) wNil))) (aq (wTup (aq (wC (.str "or")) (aq (wTup wNil) wNil))) wNil))) (wOp fMod (wVar 3) (wC (.int 2)))))
 cT)
 (wSeq (wSet 5 (wOp fMod (wVar 4) (wVar 1)))
 (wSeq (wIfS (wB (wOp fEq (wOp fMod (wOp fDiv (wVar 3) (wC (.int 8))) (wC (.int 2))) (wC (.int 1))))
 (wSet 5 (wOp fSub (wOp fSub (wVar 1) (wC (.int 1))) (wOp fMod (wVar 4) (wOp zf (wVar 1) (wC (.int 3))))))
 cT)
 fG)))))
noncomputable def cH:SpD:=fun ds Q=>∃ (c k:Int) (names:List Str),ds=[.int c,.int k,.list (names.map .str)]∧0≤k∧k≤1000∧1≤names.length∧names.length≤100∧(∀ n∈names,Deed n)∧∀ r:Rw,RwOk k r→Q .sh (rwD r)
theorem pO (ds Q) (h:cH ds Q):ds.length=["_law_cell", "_law_k", "_law_names"].length:=by obtain ⟨_,_,_,rfl,_⟩:=h; rfl
theorem row5 {Q:Md→D→Prop} {c k num more j:Int} {names:List Str} (k0:0≤k) (k1:k≤1000) (n1:1≤names.length) (n2:names.length≤100) (hd:∀ n∈names,Deed n) (h:∀ r:Rw,RwOk k r→Q .sh (rwD r)) (h0:0≤j) (h1:j<k) :
  fG { nx:=fun _=>Q .sh .non,rt:=Q } [some (.sh (.int c)),some (.sh (.int k)),some (.sh (.list (names.map .str))),some (.sh (.int num)),some (.sh (.int more)),some (.sh (.int j)),none,none,none]:=by
 unfold fG
 have nb:=Int.emod_nonneg num (show (8:Int)≠0 by decide)
 have nb1:=Int.emod_lt_of_pos num (show (0:Int)<8 by decide)
 walk_at "q"
 have w0:num % 8 / 3=0∨num % 8 / 3=1∨num % 8 / 3=2:=by walk_at "l"
 refine R.D (fun h5=>?_) fun h5=>?_
 ·walk_at "q"
  obtain ⟨w,ew,hw⟩:∃ w:Str,atI [D.str (Str.ofString "some"),D.str (Str.ofString "all")] (num % 8 / 3)=some (.str w)∧(w = "some"∨w = "all"):=by
   rcases w0 with e | e | e
   ·rw [e]; exact ⟨_,rfl,.inl rfl⟩
   ·rw [e]; exact ⟨_,rfl,.inr rfl⟩
   ·walk_at "l"
  refine ⟨_,ew,?_⟩
  walk_at "q"
  obtain ⟨n,hn,en⟩:=name_mod (names:=names) (num / 16) n1
  refine ⟨by walk_at "l",_,en,?_⟩
  walk_at "q"
  exact h (.st w n j) ⟨hw,hd n hn,h0,h1⟩
 ·walk_at "q"
  refine R.D (fun h6=>?_) fun h6=>?_
  ·walk_at "q"
   exact h (.nt j) ⟨h0,h1⟩
  ·walk_at "q"
   have f0:=Int.emod_nonneg (num / 16) (show (4:Int)≠0 by decide)
   have f1:=Int.emod_lt_of_pos (num / 16) (show (0:Int)<4 by decide)
   generalize num / 16 % 4=cnt at *
   refine ⟨by walk_at "l",by walk_at "l",?_⟩
   refine dJ _ (fun i ρ=>∃ (ps:List Int) (j:Int) (o8:Option Sl),ps.length=i∧(∀ p∈ps,0≤p∧p<k)∧0≤j∧j<k∧ρ=[some (.sh (.int c)),some (.sh (.int k)),some (.sh (.list (names.map .str))),some (.sh (.int num)),some (.sh (.int more)),some (.sh (.int j)),some (.sh (.int (num % 8))),some (.ow true (.list (ps.map .int))),o8]) ⟨[],j,_,rfl,(fun p hp=>nomatch hp),h0,h1,rfl⟩ ?_ ?_
   ·rintro i x ρ hx ⟨ps,j,o8,hl,hp,h0,h1,rfl⟩ N hN
    obtain ⟨hi,rfl⟩:=f9 hx
    walk_at "q"
    refine ⟨by walk_at "l",.inl ⟨by walk_at "l",by walk_at "l"⟩,by walk_at "l",by walk_at "l",?_⟩
    rw [ints_app]
    refine hN _ ⟨ps++[j],_,_,by simp [hl],fun p hp'=>?_,Int.emod_nonneg _ (by walk_at "l"),Int.emod_lt_of_pos _ (by walk_at "l"),rfl⟩
    rcases List.mem_append.mp hp' with h' | h'
    ·exact hp p h'
    ·rw [List.mem_singleton.mp h']; exact ⟨h0,h1⟩
   ·rintro ρ ⟨ps,j,o8,hl,hp,h0,h1,rfl⟩
    rw [dW] at hl
    walk_at "q"
    obtain ⟨w,ew,hw⟩:∃ w:Str,atI [D.str (Str.ofString "and"),D.str (Str.ofString "or")] (num % 8 - 6)=some (.str w)∧(w = "and"∨w = "or"):=by
     have:num % 8 - 6=0∨num % 8 - 6=1:=by walk_at "l"
     rcases this with e | e
     ·rw [e]; exact ⟨_,rfl,.inl rfl⟩
     ·rw [e]; exact ⟨_,rfl,.inr rfl⟩
    refine ⟨_,ew,?_⟩
    walk_at "q"
    refine ⟨cz ps,?_⟩
    exact h (.jn w ps) ⟨hw,by walk_at "l",hp⟩
theorem uq:∀ ds Q,cH ds Q→gZ { nx:=fun _=>Q .sh .non,rt:=Q } (bA 9 ds):=by
 rintro ds Q ⟨c,k,names,rfl,k0,k1,n1,n2,hd,h⟩
 unfold gZ
 walk_at "q"
 have m0:=Int.emod_nonneg c (show (2147483647:Int)≠0 by decide)
 have m1:=Int.emod_lt_of_pos c (show (0:Int)<2147483647 by decide)
 refine ⟨.inl ⟨by walk_at "l",by walk_at "l"⟩,.inl ⟨by walk_at "l",by walk_at "l"⟩,.inr ⟨by walk_at "l",by walk_at "l"⟩,?_⟩
 generalize hnum:(c % 2147483647+1) * (48271+7 * k) % 2147483647=num
 generalize num * 69621 % 2147483629=more
 refine R.D (fun hk=>?_) fun hk=>?_
 ·subst hk
  walk_at "q"
  have z0:=Int.emod_nonneg num (show (2:Int)≠0 by decide)
  have z1:=Int.emod_lt_of_pos num (show (0:Int)<2 by decide)
  generalize num % 2=b at *
  have hb:b=0∨b=1:=by walk_at "l"
  have q1:=h (.jn "and" []) ⟨.inl rfl,by decide,fun p hp=>nomatch hp⟩
  have q2:=h (.jn "or" []) ⟨.inr rfl,by decide,fun p hp=>nomatch hp⟩
  rcases hb with rfl | rfl
  ·exact ⟨_,rfl,q1⟩
  ·exact ⟨_,rfl,q2⟩
 ·walk_at "q"
  refine ⟨by walk_at "l",?_⟩
  have j0:=Int.emod_nonneg more (show k≠0 by walk_at "l")
  have j1:=Int.emod_lt_of_pos more (show 0<k by walk_at "l")
  have jj:∀ mm:Int,mm=(if (3:Int)<k then 3 else k)→0<mm∧0≤k - 1 - more % mm∧k - 1 - more % mm<k:=fun mm hm=>by
   have q0:0<mm:=by rw [hm]; split <;> walk_at "l"
   have q1:mm≤k:=by rw [hm]; split <;> walk_at "l"
   have q2:=Int.emod_nonneg more (show mm≠0 by walk_at "l")
   have q3:=Int.emod_lt_of_pos more q0
   walk_at "l"
  refine R.D (fun _=>?_) fun _=>?_
  ·walk_at "q"
   exact ⟨(jj _ rfl).1,row5 k0 k1 n1 n2 hd h (jj _ rfl).2.1 (jj _ rfl).2.2⟩
  ·walk_at "q"
   exact row5 k0 k1 n1 n2 hd h j0 j1
noncomputable def gj:WS :=
 (wSeq (wSet 3 (wLst wNil))
 (wSeq (wFrz 1 (wSet 4 (wLst (aq (wVar 1) wNil))))
 (wSeq (wFor (fu (wOp zf (wVar 2) (wOp fIx (wVar 0) (wC (.int 0))))) (gN 5)
 (wSeq (wSet 3 (wOp fAdd (wVar 3) (wVar 4)))
 (wSet 4 (wUn gA (d_ (gW (wOp fIx (wVar 0) (wC (.int 1)))) (gT 3 (eG (gN 0) (eG (gN 1) (eG (gN 2) qt)))) (wAnd (wB (wOp (fIn false) (wVar 0) (wVar 4))) (wB (wOp (fIn true) (wVar 2) (wVar 3)))) (wVar 2) 3 [3,4])))))
 (pK 3))))
inductive Wi (l:List Stp) (s:Int):Nat→Int→Prop
 | zero:Wi l s 0 s
 | step {k:Nat} {x:Int} {d:Str} {y:Int}:Wi l s k x→(x,d,y)∈l→Wi l s (k+1) y
structure NI (l:List Stp) (s many:Int) (k:Nat) (near ring:List Int):Prop where
 a:∀ j x,j<k→Wi l s j x→x∈near
 b:∀ x,Wi l s k x→x∈near∨x∈ring
 c:∀ x d y,x∈near→(x,d,y)∈l→y∈near∨y∈ring
 nd:near.Nodup
 rd:ring.Nodup
 dj:∀ x∈ring,x∉near
 inn:∀ x∈near,0≤x∧x<many
 inr:∀ x∈ring,0≤x∧x<many
 e:k≤near.length∨ring=[]
noncomputable def PN (l:List Stp) (s depth:Int) (near:List Int):Prop:=∃ V:Nat→Int→Prop,V 0 s∧(∀ k x d y,V k x→(x,d,y)∈l→V (k+1) y)∧∀ (k:Nat) x,(k:Int)<depth→V k x→x∈near
theorem NI.zero {l:List Stp} {s many:Int} (h:0≤s∧s<many):NI l s many 0 [] [s] where
 a:=fun j x hj=>absurd hj (Nat.not_lt_zero _)
 b:=fun x w=>by cases w; exact .inr List.mem_cons_self
 c:=fun x d y hx=>nomatch hx
 nd:=List.nodup_nil
 rd:=by simp
 dj:=fun x _ h=>nomatch h
 inn:=fun x h=>nomatch h
 inr:=fun x hx=>by rw [List.mem_singleton.mp hx]; exact h
 e:=.inl (Nat.le_refl _)
theorem NI.next {l:List Stp} {s many:Int} {k:Nat} {near ring ring2:List Int} (N:NI l s many k near ring) (hin:StIn many l) (nd2:ring2.Nodup) (hm:∀ q,q∈ring2↔∃ p d,(p,d,q)∈l∧p∈ring∧q∉near++ring):NI l s many (k+1) (near++ring) ring2 where
 a:=fun j x hj w=>by
  rcases Nat.lt_or_ge j k with z | z
  ·exact List.mem_append_left _ (N.a j x z w)
  ·obtain rfl:j=k:=by walk_at "l"
   exact List.mem_append.mpr (N.b x w)
 b:=fun y w=>by
  cases w with
  | step w ht =>
   rename_i x d
   rcases N.b x w with hx | hx
   ·exact .inl (List.mem_append.mpr (N.c x d y hx ht))
   ·by_cases hy:y∈near++ring
    ·exact .inl hy
    ·exact .inr ((hm y).mpr ⟨x,d,ht,hx,hy⟩)
 c:=fun x d y hx ht=>by
  rcases List.mem_append.mp hx with hx | hx
  ·exact .inl (List.mem_append.mpr (N.c x d y hx ht))
  ·by_cases hy:y∈near++ring
   ·exact .inl hy
   ·exact .inr ((hm y).mpr ⟨x,d,ht,hx,hy⟩)
 nd:=List.nodup_append.mpr ⟨N.nd,N.rd,fun x hx y hy e=>N.dj y hy (e ▸ hx)⟩
 rd:=nd2
 dj:=fun x hx=>by
  obtain ⟨_,_,_,_,h⟩:=(hm x).mp hx
  exact h
 inn:=fun x hx=>(List.mem_append.mp hx).elim (N.inn x) (N.inr x)
 inr:=fun x hx=>by
  obtain ⟨p,d,ht,_⟩:=(hm x).mp hx
  exact (hin _ ht).2.2.2
 e:=by
  by_cases hr:ring=[]
  ·refine .inr (List.eq_nil_iff_forall_not_mem.mpr fun x hx=>?_)
   obtain ⟨p,d,_,hp,_⟩:=(hm x).mp hx
   rw [hr] at hp
   cases hp
  ·refine .inl ?_
   have:=(N.e.resolve_right hr)
   have:1≤ring.length:=List.length_pos_iff.mpr hr
   rw [List.length_append]; walk_at "l"
theorem tX {many:Int} {ks:List Int} (nd:ks.Nodup) (h:∀ x∈ks,0≤x∧x<many):ks.length≤many.toNat:=by
 have:=gK (m:=cJ many.toNat) nd fun x hx=>lM.mpr (by have:=h x hx; walk_at "l")
 rwa [uA] at this
theorem NI.end {l:List Stp} {s many depth:Int} {K:Nat} {near ring:List Int} (N:NI l s many K near ring) (hin:StIn many l) (h1:1≤many) (h0:0≤depth) (hK:(K:Int)=if many<depth then many else depth):PN l s depth near:=by
 split at hK
 ·have cl:∀ x d y,x∈near→(x,d,y)∈l→y∈near:=fun x d y hx ht=>by
   rcases N.c x d y hx ht with hy | hy
   ·exact hy
   ·rcases N.e with z | z
    ·have hd:=N.dj y hy
     have nd:(near++[y]).Nodup:=List.nodup_append.mpr ⟨N.nd,by simp,fun a ha b hb e=>by rw [List.mem_singleton.mp hb] at e; exact hd (e ▸ ha)⟩
     have:=tX nd (many:=many) fun a ha=>(List.mem_append.mp ha).elim (N.inn a) fun hb=>by rw [List.mem_singleton.mp hb]; exact N.inr y hy
     rw [List.length_append,List.length_singleton] at this
     walk_at "l"
    ·rw [z] at hy; cases hy
  exact ⟨fun _ x=>x∈near,N.a 0 s (by walk_at "l") .zero,fun _ x d y hx ht=>cl x d y hx ht,fun _ _ _ h=>h⟩
 ·exact ⟨Wi l s,.zero,fun _ _ _ _ w ht=>.step w ht,fun k x hk w=>N.a k x (by walk_at "l") w⟩
theorem jy (x:Int) (l:List Int):inD (.int x) (l.map D.int)=decide (x∈l):=by
 unfold inD
 rw [Bool.eq_iff_iff,List.any_eq_true,decide_eq_true_iff]
 constructor
 ·rintro ⟨y,hy,e⟩
  obtain ⟨c,hc,rfl⟩:=List.mem_map.mp hy
  have:=(n_ (.int c) (.int x) rfl rfl).mp e
  cases this
  exact hc
 ·intro hx
  exact ⟨.int x,List.mem_map.mpr ⟨x,hx,rfl⟩,(n_ (.int x) (.int x) rfl rfl).mpr rfl⟩
theorem eO (l:List Int):(l.map D.int).all eV=true:=by
 rw [List.all_eq_true]
 intro x hx
 obtain ⟨c,_,rfl⟩:=List.mem_map.mp hx
 rfl
theorem x_ {l:List Int} (P:List D→Prop) (hz:l.length≤63) (k:∀ out:List Int,out.Nodup→(∀ x,x∈out↔x∈l)→P (out.map D.int)):∃ (ks:List Key) (b:Bool),l.map D.int=ks.map keyD∧ks.length≤63∧(∀ k∈ks,isI k=b) ∧
  ∀ ms:List Key,ms.Nodup→(∀ k,k∈ms↔k∈ks)→(ms.Pairwise fun a b=>lt1 b a=false)→P (ms.map keyD):=by
 refine ⟨l.map Sum.inl,true,by rw [List.map_map]; rfl,by simpa using hz,fun k hk=>?_,fun ms nd mm pw=>?_⟩
 ·obtain ⟨x,_,rfl⟩:=List.mem_map.mp hk
  rfl
 ·have to:∀ ms:List Key,(∀ k∈ms,∃ x,k=(Sum.inl x:Key)∧x∈l)→∃ out:List Int,ms=out.map Sum.inl:=by
   intro ms
   induction ms with
   | nil=>exact fun _=>⟨[],rfl⟩
   | cons m ms ih =>
    intro h
    obtain ⟨x,rfl,_⟩:=h m List.mem_cons_self
    obtain ⟨out,rfl⟩:=ih fun k hk=>h k (List.mem_cons_of_mem _ hk)
    exact ⟨x :: out,rfl⟩
  obtain ⟨out,rfl⟩:=to ms fun k hk=>by
   obtain ⟨x,hx,rfl⟩:=List.mem_map.mp ((mm k).mp hk)
   exact ⟨x,rfl,hx⟩
  have e:(out.map Sum.inl).map keyD=out.map D.int:=by rw [List.map_map]; rfl
  rw [e]
  refine k out (iI nd) fun x=>?_
  have:=mm (Sum.inl x)
  constructor
  ·intro hx
   obtain ⟨y,hy,e⟩:=List.mem_map.mp (this.mp (List.mem_map.mpr ⟨x,hx,rfl⟩))
   rw [← Sum.inl.inj e]; exact hy
  ·intro hx
   obtain ⟨y,hy,e⟩:=List.mem_map.mp (this.mpr (List.mem_map.mpr ⟨x,hx,rfl⟩))
   rw [← Sum.inl.inj e]; exact hy
noncomputable def b7:SpD:=fun ds Q=>∃ (many:Int) (l:List Stp) (s depth:Int),ds=[mD many l,.int s,.int depth]∧1≤many∧many≤20∧StIn many l∧l.length≤63∧0≤s∧s<many∧0≤depth∧∀ near:List Int,near.length≤20→PN l s depth near→Q (.ow true) (.list (near.map .int))
theorem oF (ds Q) (h:b7 ds Q):ds.length=["_law_m", "_law_start", "_law_depth"].length:=by obtain ⟨_,_,_,_,rfl,_⟩:=h; rfl
theorem qK:∀ ds Q,b7 ds Q→gj { nx:=fun _=>Q .sh .non,rt:=Q } (bA 6 ds):=by
 rintro ds Q ⟨many,l,s,depth,rfl,m1,m2,hin,hz,s0,s1,d0,h⟩
 unfold gj mD
 walk_at "q"
 have hK0:0≤(if many<depth then many else depth):=by split <;> walk_at "l"
 have hK1:(if many<depth then many else depth)≤20:=by split <;> walk_at "l"
 generalize hK:(if many<depth then many else depth)=K at *
 refine ⟨by walk_at "l",by walk_at "l",?_⟩
 refine dJ _ (fun i ρ=>∃ (near ring:List Int) (o5:Option Sl),NI l s many i near ring∧ρ=[some (.sh (.tup [.int many,.list (l.map stpD)])),some (.sh (.int s)),some (.sh (.int depth)),some (.ow true (.list (near.map .int))),some (.ow true (.list (ring.map .int))),o5]) ⟨[],[s],_,NI.zero ⟨s0,s1⟩,rfl⟩ ?_ ?_
 ·rintro i x ρ hx ⟨near,ring,o5,N,rfl⟩ N' hN
  have l1:=tX N.nd N.inn
  have l2:=tX N.rd N.inr
  walk_at "q"
  rw [← List.map_append]
  refine ⟨by walk_at "l",.inl ⟨cz near,cz ring,?_⟩⟩
  refine bK (fun x=>match x with
   | .tup [.int p,.str _,.int q]=>decide (p∈ring) && !decide (q∈near++ring)
   | _=>false) (fun x=>match x with
   | .tup [.int _,.str _,.int q]=>.int q
   | x=>x) (fun ρ=>∃ o1 o2 o3,ρ=[o1,o2,o3,some (.sh (.list ((near++ring).map .int))),some (.sh (.list (ring.map .int)))]) _ _ _ ⟨_,_,_,rfl⟩ ?_ ?_
  ·rintro x hx ρ ⟨o1,o2,o3,rfl⟩ N1 N2 n1 n2
   obtain ⟨⟨p,d,q⟩,ht,rfl⟩:=List.mem_map.mp hx
   have n1:(decide (p∈ring) && !decide (q∈near++ring))=false→∀ ρ',(∃ o1 o2 o3,ρ'=[o1,o2,o3,some (.sh (.list ((near++ring).map .int))),some (.sh (.list (ring.map .int)))])→N1 ρ':=fun z ρ' h=>n1 ρ' h z
   have n2:(decide (p∈ring) && !decide (q∈near++ring))=true→∀ ρ',(∃ o1 o2 o3,ρ'=[o1,o2,o3,some (.sh (.list ((near++ring).map .int))),some (.sh (.list (ring.map .int)))])→N2 ρ' (.int q):=fun z ρ' h=>n2 ρ' h z
   unfold stpD
   walk_at "q"
   refine ⟨rfl,eO ring,?_⟩
   rw [jy]
   by_cases hp:p∈ring
   ·refine R.T (decide_eq_true hp) ?_
    walk_at "q"
    refine ⟨rfl,eO _,?_⟩
    rw [jy]
    by_cases hq:q∈near++ring
    ·rw [if_neg (show ¬ (!decide (q∈near++ring))=true by rw [decide_eq_true hq]; decide)]
     exact n1 (by rw [decide_eq_true hq]; simp) _ ⟨_,_,_,rfl⟩
    ·rw [if_pos (show (!decide (q∈near++ring))=true by rw [decide_eq_false hq]; rfl)]
     exact ⟨.inl rfl,n2 (by simpa [hp] using hq) _ ⟨_,_,_,rfl⟩⟩
   ·refine R.F (decide_eq_false hp) ?_
    walk_at "q"
    exact n1 (by simp [hp]) _ ⟨_,_,_,rfl⟩
  ·have eb:((l.map stpD).filter (fun x=>match x with
    | .tup [.int p,.str _,.int q]=>decide (p∈ring) && !decide (q∈near++ring)
    | _=>false)).map (fun x=>match x with
    | .tup [.int _,.str _,.int q]=>.int q
    | x=>x)=((l.filter fun t=>decide (t.1∈ring) && !decide (t.2.2∈near++ring)).map (·.2.2)).map D.int:=by
    rw [List.filter_map,List.map_map,List.map_map]
    rfl
   rw [eb]
   refine x_ (fun xs=>N' [some (.sh (.tup [.int many,.list (l.map stpD)])),some (.sh (.int s)),some (.sh (.int depth)),some (.ow true (.list ((near++ring).map .int))),some (.ow true (.list xs)),some (.sh x)]) (by
    rw [List.length_map]
    exact Nat.le_trans (List.length_filter_le _ _) hz) fun out nd hm=>hN _ ⟨_,out,_,N.next hin nd fun q=>?_,rfl⟩
   rw [hm,List.mem_map]
   constructor
   ·rintro ⟨⟨p,d,q'⟩,ht,rfl⟩
    obtain ⟨h1,h2⟩:=List.mem_filter.mp ht
    simp only [Bool.and_eq_true,decide_eq_true_eq,Bool.not_eq_true',decide_eq_false_iff_not] at h2
    exact ⟨p,d,h1,h2.1,h2.2⟩
   ·rintro ⟨p,d,h1,h2,h3⟩
    exact ⟨(p,d,q),List.mem_filter.mpr ⟨h1,by simpa [h2] using h3⟩,rfl⟩
 ·rintro ρ ⟨near,ring,o5,N,rfl⟩
  rw [dW] at N
  walk_at "q"
  exact h near (by have:=tX N.nd N.inn; walk_at "l") (N.end hin m1 d0 (by rw [hK]; walk_at "l"))
noncomputable def jH:WS :=
 (wRet (wOrV (bJ cO (aq (wVar 0) wNil)) (jd (wUn (fIsi "str") (wVar 0)) (wOp fEq (wVar 0) (wC (.str "*"))))))
noncomputable def rR (x:Str):Bool:=(decide (1≤x.length∧x.length≤6) && (sg x).all isLet) || decide (x = "*")
theorem lL {x:Str}:rR x=true↔Deed x:=by
 unfold rR Deed Open lets
 simp only [Bool.or_eq_true,Bool.and_eq_true,decide_eq_true_eq,List.all_eq_true]
 constructor
 ·rintro (⟨⟨h1,h2⟩,h3⟩ | h)
  ·exact .inr ⟨h1,h2,h3⟩
  ·exact .inl h
 ·rintro (h | ⟨h1,h2,h3⟩)
  ·exact .inr h
  ·exact .inl ⟨⟨h1,h2⟩,h3⟩
noncomputable def cN:SpD:=fun ds Q=>∃ x:Str,ds=[.str x]∧Q .sh (.bl (rR x))
theorem qQ (ds Q) (h:cN ds Q):ds.length=["thing"].length:=by obtain ⟨_,rfl,_⟩:=h; rfl
theorem wI:∀ ds Q,cN ds Q→jH { nx:=fun _=>Q .sh .non,rt:=Q } (bA 1 ds):=by
 rintro ds Q ⟨x,rfl,h⟩
 unfold jH
 walk_at "q"
 refine ⟨_,rfl,?_⟩
 unfold rR at h
 walk_at "q"
 refine R.B (fun e=>?_) fun e=>?_
 ·walk_at "q"
  rw [e] at h
  exact h
 ·walk_at "q"
  refine R.T rfl ?_
  walk_at "q"
  rw [e] at h
  exact h
noncomputable def iy:WS :=
 (wRet (jd (bJ cD (aq (wVar 1) wNil)) (gM fLe fLt (wC (.int 0)) (wVar 1) (wVar 0))))
noncomputable def a_:SpD:=fun ds Q=>∃ k j:Int,ds=[.int k,.int j]∧Q .sh (.bl (decide (0≤j∧j<k)))
theorem pH (ds Q) (h:a_ ds Q):ds.length=["k", "thing"].length:=by obtain ⟨_,_,rfl,_⟩:=h; rfl
theorem uC:∀ ds Q,a_ ds Q→iy { nx:=fun _=>Q .sh .non,rt:=Q } (bA 2 ds):=by
 rintro ds Q ⟨k,j,rfl,h⟩
 unfold iy
 walk_at "q"
 refine ⟨_,rfl,?_⟩
 walk_at "q"
 refine R.D (fun h1=>?_) fun h1=>?_
 ·walk_at "q"
  rwa [show decide (0≤j∧j<k)=decide (j<k) by simp [h1]] at h
 ·walk_at "q"
  rwa [decide_eq_false (by walk_at "l")] at h
noncomputable def gb:WS :=
 (wSeq (wSet 2 (bJ cP (aq (wVar 0) wNil)))
 (wSeq (wSet 3 (wLst wNil))
 (wSeq (wFrz 1 (wFor (jD (wVar 1)) (gN 4)
 (wApp (wpN 3) (d_ (fu (wOp fIx (wVar 0) (wC (.int 0)))) (gN 0) wYes (bJ bU (aq (wVar 3) (aq (wVar 2) (aq (wVar 1) (aq (wVar 0) wNil))))) 1 [4,3,2]))))
 (pK 3))))
noncomputable def aX:SpD:=fun ds Q=>∃ (many:Int) (l:List Stp) (rs:List Rw),ds=[mD many l,.list (rs.map rwD)]∧0≤many∧many≤20∧StIn many l∧l.length≤1000∧ScOk rs∧rs.length≤2000∧Q (.ow true) (.list ((hols l rs).map (trD many)))
theorem nQ (ds Q) (h:aX ds Q):ds.length=["m", "scroll"].length:=by obtain ⟨_,_,_,rfl,_⟩:=h; rfl
theorem ql:∀ ds Q,aX ds Q→gb { nx:=fun _=>Q .sh .non,rt:=Q } (bA 5 ds):=by
 rintro ds Q ⟨many,l,rs,rfl,m0,m1,hin,hz,hs,hl,h⟩
 unfold gb mD
 walk_at "q"
 refine ⟨many,l,rfl,hz,fun kvs hw=>?_⟩
 walk_at "q"
 refine dJ _ (fun i ρ=>∃ o4:Option Sl,ρ=[some (.sh (.tup [.int many,.list (l.map stpD)])),some (.sh (.list (rs.map rwD))),some (.ow true (.dT kvs)),some (.ow true (.list ((hols l (rs.take i)).map (trD many)))),o4]) ⟨_,rfl⟩ ?_ ?_
 ·rintro i x ρ hx ⟨o4,rfl⟩ N hN
  rw [List.getElem?_map] at hx
  cases e:rs[i]? with
  | none=>rw [e] at hx; cases hx
  | some r =>
   rw [e] at hx
   cases hx
   have hr:=hs i r e
   have hi:i<rs.length:=(List.getElem?_eq_some_iff.mp e).1
   walk_at "q"
   have hlen:((hols l (rs.take i)).length:Int)=i:=by rw [dZ,List.length_take]; walk_at "l"
   refine ⟨by walk_at "l",by walk_at "l",bK (fun _=>true) (fun d=>match d with
    | .int s=>.bl (hol l (hols l (rs.take i)) r s)
    | d=>d) (fun ρ=>∃ o,ρ=[o,some (.sh (rwD r)),some (.sh (.list ((hols l (rs.take i)).map (trD many)))),some (.sh (.dT kvs))]) _ _ _ ⟨_,rfl⟩ ?_ ?_⟩
   ·rintro y hy ρ ⟨o,rfl⟩ N1 N2 _ h2
    obtain ⟨k,hk,rfl⟩:=sJ hy
    walk_at "q"
    refine ⟨kvs,l,many,hols l (rs.take i),r,_,rfl,hw,hin,by rw [hlen]; exact hr,by walk_at "l",by walk_at "l",?_⟩
    walk_at "q"
    exact ⟨.inl rfl,h2 _ ⟨_,rfl⟩ rfl⟩
   ·rw [dG]
    have eb:(gq 0 many.toNat).map (fun d=>match d with
     | .int s=>D.bl (hol l (hols l (rs.take i)) r s)
     | d=>d)=(cJ many.toNat).map fun s=>.bl (hol l (hols l (rs.take i)) r s):=by rw [uY,List.map_map]; rfl
    rw [eb]
    have st:(hols l (rs.take i)).map (trD many)++[D.list ((cJ many.toNat).map fun s=>.bl (hol l (hols l (rs.take i)) r s))]=(hols l (rs.take (i+1))).map (trD many):=by
     rw [List.take_add_one,e,show (some r).toList=[r] from rfl,gC,List.map_append]
     rfl
    rw [st]
    exact ⟨by walk_at "l",hN _ ⟨_,rfl⟩⟩
 ·rintro ρ ⟨o4,rfl⟩
  rw [List.length_map,List.take_length]
  walk_at "q"
  exact h
noncomputable def d9:WS :=
 (wRet (d_ (fu (wUn fLen (wVar 0))) (gN 0) wYes (bJ cH (aq (wOp fIx (wVar 1) (wVar 0)) (aq (wVar 0) (aq (wVar 2) wNil)))) 1 [0,1]))
noncomputable def bD:SpD:=fun ds Q=>∃ (cs:List Int) (names:List Str),ds=[.list (cs.map .int),.list (names.map .str)]∧cs.length≤100∧1≤names.length∧names.length≤100∧(∀ n∈names,Deed n)∧∀ l:List Rw,l.length=cs.length→ScOk l→Q (.ow true) (.list (l.map rwD))
theorem jZ (ds Q) (h:bD ds Q):ds.length=["_law_cells", "_law_names"].length:=by obtain ⟨_,_,rfl,_⟩:=h; rfl
theorem mY:∀ ds Q,bD ds Q→d9 { nx:=fun _=>Q .sh .non,rt:=Q } (bA 2 ds):=by
 rintro ds Q ⟨cs,names,rfl,hc,n1,n2,hd,h⟩
 unfold d9
 walk_at "q"
 refine ⟨by walk_at "l",by walk_at "l",?_⟩
 refine jQ (fun i out=>∃ l:List Rw,out=l.map rwD∧l.length=i∧ScOk l) (fun ρ=>∃ o,ρ=[o,some (.sh (.list (cs.map .int))),some (.sh (.list (names.map .str)))]) _ 0 [] _ _ ⟨_,rfl⟩ ⟨[],rfl,rfl,ScOk.nil⟩ ?_ ?_
 ·rintro i x hx ρ ⟨o,rfl⟩ out ⟨l,rfl,hl,hs⟩ N1 N2 h2
  obtain ⟨hi,rfl⟩:=f9 hx
  have hi:i<cs.length:=by simpa using hi
  walk_at "q"
  refine ⟨.int cs[i],?_,?_⟩
  ·have:=atI_nat (xs:=cs.map D.int) (j:=i) (v:=.int cs[i]) (by simp [hi])
   rwa [show ((i:Nat):Int)=0+(i:Int) by walk_at "l"] at this
  walk_at "q"
  refine ⟨_,_,_,rfl,by walk_at "l",by walk_at "l",n1,n2,hd,fun r hr=>?_⟩
  walk_at "q"
  refine ⟨.inl (xr r),h2 _ _ ⟨_,rfl⟩ ⟨l++[r],by simp,by simp [hl],hs.app ?_⟩⟩
  rw [hl]
  simpa using hr
 ·rintro out ⟨l,e,hl,hs⟩
  rw [List.nil_append] at e
  subst e
  rw [dW] at hl
  exact h l (by simpa using hl) hs
noncomputable def dD:WS :=
 (wSeq (wSet 2 (bJ aA (aq (wVar 0) (aq (wC (.int 0)) wNil))))
 (wSeq (wSet 3 (wOp fAdd (wC (.int 1)) (wOp fMod (wVar 2) (wOp fIx (wLst (aq (wC (.int 4)) (aq (wC (.int 8)) (aq (wC (.int 20)) wNil)))) (wOp fMod (wOp fDiv (wVar 2) (wC (.int 20))) (wC (.int 3)))))))
 (wSeq (wSet 4 (bJ aP (aq (wSl (wVar 0) (ir (wC (.int 6))) (ir (wC (.int 25)))) (aq (wVar 3) (aq (wVar 1) wNil)))))
 (wSeq (wIfS (wB (wOp fEq (wOp fMod (wOp fDiv (wVar 2) (wC (.int 60))) (wC (.int 2))) (wC (.int 1))))
 (wFor (fu (wOp fSub (wVar 3) (wC (.int 1)))) (gN 5)
 (wFrz 5 (wApp (wpN 4) (wTup (aq (wVar 5) (aq (wOp fIx (wVar 1) (wOp fMod (wOp fMod (wOp fMul (wOp fMul (wOp fAdd (wOp fMod (wOp fDiv (wVar 2) (wC (.int 120))) (wC (.int 1000003))) (wC (.int 3))) (wOp fAdd (wVar 5) (wC (.int 5)))) (wC (.int 48271))) (wC (.int 10007))) (wUn fLen (wVar 1)))) (aq (wOp fAdd (wVar 5) (wC (.int 1))) wNil)))))))
 cT)
 (vR [.inr 3,.inl (wUn fJ (wVar 4))])))))
noncomputable def bh:SpD:=fun ds Q=>∃ (ns:List Int) (names:List Str),ds=[.list (ns.map .int),.list (names.map .str)]∧ns.length≤63∧1≤names.length∧names.length≤20∧(∀ n∈names,Deed n)∧∀ (many:Int) (l:List Stp),1≤many→many≤20→StIn many l→l.length≤40→Q (.ow true) (mD many l)
theorem jg (ds Q) (h:bh ds Q):ds.length=["_law_script", "_law_names"].length:=by obtain ⟨_,_,rfl,_⟩:=h; rfl
theorem kJ:∀ ds Q,bh ds Q→dD { nx:=fun _=>Q .sh .non,rt:=Q } (bA 6 ds):=by
 rintro ds Q ⟨ns,names,rfl,hl,n1,n2,hd,h⟩
 unfold dD
 walk_at "q"
 refine ⟨ns,0,rfl,by decide,?_⟩
 generalize ns.getD _ 0=first
 walk_at "q"
 obtain ⟨k,ek,k1,k2⟩:∃ k:Int,atI [D.int 4,D.int 8,D.int 20] (first / 20 % 3)=some (.int k)∧1≤k∧k≤20:=by
  have a:=Int.emod_nonneg (first / 20) (show (3:Int)≠0 by decide)
  have b:=Int.emod_lt_of_pos (first / 20) (show (0:Int)<3 by decide)
  rcases (show first / 20 % 3=0∨first / 20 % 3=1∨first / 20 % 3=2 by walk_at "l") with e | e | e <;> rw [e]
  ·exact ⟨4,rfl,by decide,by decide⟩
  ·exact ⟨8,rfl,by decide,by decide⟩
  ·exact ⟨20,rfl,by decide,by decide⟩
 refine ⟨.int k,ek,?_⟩
 walk_at "q"
 have m0:=Int.emod_nonneg first (show k≠0 by walk_at "l")
 have m1:=Int.emod_lt_of_pos first (show 0<k by walk_at "l")
 generalize hmany:1+first % k=many at *
 refine ⟨by walk_at "l",?_⟩
 rw [n8]
 have kl:(cutG ns (some 6) (some 25)).length≤19:=by
  unfold cutG
  simp [HT.sIx]
  walk_at "l"
 generalize cutG ns (some 6) (some 25)=cells at *
 refine .inl ⟨cz ns,cells,many,names,rfl,by walk_at "l",by walk_at "l",by walk_at "l",n1,n2,hd,fun l hs hl2=>?_⟩
 walk_at "q"
 have fin:∀ l:List Stp,(∀ s∈l,StOk many s)→l.length≤40→∃ (ks:List (List Key)) (sh:List Bool),l.map stpD=ks.map keyT∧ks.length≤63∧(∀ k∈ks,shOf k=true :: sh) ∧
   ∀ ms:List (List Key),ms.Nodup→(∀ k,k∈ms↔k∈ks)→(ms.Pairwise fun a b=>ltK b a=false)→Q (.ow true) (.tup [.int many,.list (ms.map keyT)]):=fun l hs hl =>
  xV (l:=l) (fun xs=>Q (.ow true) (.tup [.int many,.list xs])) (by walk_at "l") fun out M=>h many out (by walk_at "l") (by walk_at "l") (M.ok hs) (by have:=M.len; walk_at "l")
 refine R.D (fun _=>?_) fun _=>?_
 ·walk_at "q"
  refine ⟨by walk_at "l",by walk_at "l",?_⟩
  refine dJ _ (fun i ρ=>∃ (l2:List Stp) (o5:Option Sl),(∀ s∈l2,StOk many s)∧l2.length=l.length+i∧ρ=[some (.sh (.list (ns.map .int))),some (.sh (.list (names.map .str))),some (.sh (.int first)),some (.sh (.int many)),some (.ow true (.list (l2.map stpD))),o5]) ⟨l,_,hs,rfl,rfl⟩ ?_ ?_
  ·rintro i x ρ hx ⟨l2,o5,hs2,hl3,rfl⟩ N hN
   obtain ⟨hi,rfl⟩:=f9 hx
   have hi:i<(many - 1).toNat:=hi
   walk_at "q"
   have c0:=Int.emod_nonneg (first / 120) (show (1000003:Int)≠0 by decide)
   have c1:=Int.emod_lt_of_pos (first / 120) (show (0:Int)<1000003 by decide)
   generalize first / 120 % 1000003=cc at *
   obtain ⟨n,hn,e⟩:=name_mod (names:=names) ((cc+3) * (0+(i:Int)+5) * 48271 % 10007) n1
   refine ⟨.inl ⟨by walk_at "l",by walk_at "l"⟩,.inr ?_,by walk_at "l",.str n,e,?_⟩
   ·exact ⟨by walk_at "l",by walk_at "l"⟩
   walk_at "q"
   refine ⟨by walk_at "l",?_⟩
   rw [show l2.map stpD++[D.tup [D.int (0+(i:Int)),D.str n,D.int (0+(i:Int)+1)]]=(l2++[((0+(i:Int),n,0+(i:Int)+1):Stp)]).map stpD by simp [stpD]]
   refine hN _ ⟨_,_,fun s hs'=>?_,by rw [List.length_append,List.length_singleton,hl3]; walk_at "l",rfl⟩
   rcases List.mem_append.mp hs' with h' | h'
   ·exact hs2 s h'
   ·rw [List.mem_singleton.mp h']
    exact ⟨by show (0:Int)≤0+i; walk_at "l",by show (0:Int)+i<many; walk_at "l",hd n hn,by show (0:Int)≤0+i+1; walk_at "l",by show (0:Int)+i+1<many; walk_at "l"⟩
  ·rintro ρ ⟨l2,o5,hs2,hl3,rfl⟩
   rw [dW] at hl3
   walk_at "q"
   exact fin l2 hs2 (by walk_at "l")
 ·walk_at "q"
  exact fin l hs (by walk_at "l")
noncomputable def gh:WS :=
 (wSeq (wIfS (wOr (wNot (wB (wUn (fIsi "tuple") (wVar 1)))) (wB (wOp fGt (wUn fLen (wVar 1)) (wC (.int 200)))))
 (wRet (wC (.bl false)))
 cT)
 (wRet (wUn fAll (d_ (uG (wVar 1)) (gN 0) wYes (bJ a_ (aq (wVar 1) (aq (wVar 0) wNil))) 1 [0]))))
noncomputable def bV:SpD:=fun ds Q=>∃ (k:Int) (ps:List Int),ds=[.int k,.tup (ps.map .int)]∧ps.length≤200∧Q .sh (.bl (ps.all fun p=>decide (0≤p∧p<k)))
theorem m_ (ds Q) (h:bV ds Q):ds.length=["k", "thing"].length:=by obtain ⟨_,_,rfl,_⟩:=h; rfl
theorem qF:∀ ds Q,bV ds Q→gh { nx:=fun _=>Q .sh .non,rt:=Q } (bA 2 ds):=by
 rintro ds Q ⟨k,ps,rfl,hl,h⟩
 unfold gh
 walk_at "q"
 refine R.F rfl ?_
 walk_at "q"
 refine R.F (decide_eq_false (by walk_at "l")) ?_
 walk_at "q"
 refine bK (fun _=>true) (fun d=>match d with
  | .int p=>.bl (decide (0≤p∧p<k))
  | d=>d) (fun ρ=>∃ o,ρ=[o,some (.sh (.int k))]) _ _ _ ⟨_,rfl⟩ ?_ ?_
 ·rintro y hy ρ ⟨o,rfl⟩ N1 N2 _ h2
  obtain ⟨p,hp,rfl⟩:=List.mem_map.mp hy
  walk_at "q"
  exact ⟨_,_,rfl,.inl rfl,h2 _ ⟨_,rfl⟩ rfl⟩
 ·rw [dG]
  refine ⟨ps.map fun p=>decide (0≤p∧p<k),by rw [List.map_map,List.map_map]; rfl,?_⟩
  rw [List.all_map]
  exact h
noncomputable def m9:WS :=
 (wSeq (wIfS (wOr (wNot (wB (wUn (fIsi "tuple") (wVar 1)))) (wOr (wB (wOp fEq (wUn fLen (wVar 1)) (wC (.int 0)))) (wNot (wB (wUn (fIsi "str") (wOp fIx (wVar 1) (wC (.int 0))))))))
 (wRet (wC (.bl false)))
 cT)
 (wSeq (wIfS (wOr (wB (wOp fEq (wOp fIx (wVar 1) (wC (.int 0))) (wC (.str "some")))) (wB (wOp fEq (wOp fIx (wVar 1) (wC (.int 0))) (wC (.str "all")))))
 (wRet (jd (wOp fEq (wUn fLen (wVar 1)) (wC (.int 3))) (jd (bJ cN (aq (wOp fIx (wVar 1) (wC (.int 1))) wNil)) (bJ a_ (aq (wVar 0) (aq (wOp fIx (wVar 1) (wC (.int 2))) wNil))))))
 cT)
 (wSeq (wIfS (wB (wOp fEq (wOp fIx (wVar 1) (wC (.int 0))) (wC (.str "not"))))
 (wRet (jd (wOp fEq (wUn fLen (wVar 1)) (wC (.int 2))) (bJ a_ (aq (wVar 0) (aq (wOp fIx (wVar 1) (wC (.int 1))) wNil)))))
 cT)
 (wSeq (wIfS (wOr (wB (wOp fEq (wOp fIx (wVar 1) (wC (.int 0))) (wC (.str "and")))) (wB (wOp fEq (wOp fIx (wVar 1) (wC (.int 0))) (wC (.str "or")))))
 (wRet (jd (wOp fEq (wUn fLen (wVar 1)) (wC (.int 2))) (bJ bV (aq (wVar 0) (aq (wOp fIx (wVar 1) (wC (.int 1))) wNil)))))
 cT)
 (wRet (wC (.bl false)))))))
noncomputable def cY:SpD:=fun ds Q=>∃ (k:Int) (r:Rw),ds=[.int k,rwD r]∧RwOk k r∧Q .sh (.bl true)
theorem ux (ds Q) (h:cY ds Q):ds.length=["k", "thing"].length:=by obtain ⟨_,_,rfl,_⟩:=h; rfl
theorem yu:∀ ds Q,cY ds Q→m9 { nx:=fun _=>Q .sh .non,rt:=Q } (bA 2 ds):=by
 rintro ds Q ⟨k,r,rfl,hr,h⟩
 unfold m9
 cases r with
 | st w d j =>
  obtain ⟨hw,hd,h0,h1⟩:=hr
  rw [show rwD (.st w d j)=.tup [.str w,.str d,.int j] from rfl]
  walk_at "q"
  refine R.F rfl ?_
  walk_at "q"
  refine R.F rfl ?_
  walk_at "q"
  refine R.F rfl ?_
  walk_at "q"
  have fin:∀ Z:Prop,(Z=True)→Z:=fun _ e=>e ▸ trivial
  refine R.D (fun e=>?_) fun e=>?_
  ·walk_at "q"
   refine R.T rfl ?_
   walk_at "q"
   refine ⟨_,rfl,?_⟩
   walk_at "q"
   refine R.T (lL.mpr hd) ?_
   walk_at "q"
   refine ⟨_,_,rfl,?_⟩
   rw [decide_eq_true ⟨h0,h1⟩]
   exact h
  ·walk_at "q"
   refine R.T (decide_eq_true (hw.resolve_left e)) ?_
   walk_at "q"
   refine R.T rfl ?_
   walk_at "q"
   refine ⟨_,rfl,?_⟩
   walk_at "q"
   refine R.T (lL.mpr hd) ?_
   walk_at "q"
   refine ⟨_,_,rfl,?_⟩
   rw [decide_eq_true ⟨h0,h1⟩]
   exact h
 | nt j =>
  obtain ⟨h0,h1⟩:=hr
  rw [show rwD (.nt j)=.tup [.str "not",.int j] from rfl]
  walk_at "q"
  refine R.F rfl ?_
  walk_at "q"
  refine R.F rfl ?_
  walk_at "q"
  refine R.F rfl ?_
  walk_at "q"
  refine R.F (decide_eq_false n_sa.1) ?_
  walk_at "q"
  refine R.F (decide_eq_false n_sa.2) ?_
  walk_at "q"
  refine R.T rfl ?_
  walk_at "q"
  refine ⟨_,_,rfl,?_⟩
  rw [decide_eq_true ⟨h0,h1⟩]
  exact h
 | jn w ps =>
  obtain ⟨hw,hl,hp⟩:=hr
  rw [show rwD (.jn w ps)=.tup [.str w,.tup (ps.map .int)] from rfl]
  walk_at "q"
  refine R.F rfl ?_
  walk_at "q"
  refine R.F rfl ?_
  walk_at "q"
  refine R.F rfl ?_
  walk_at "q"
  refine R.F (decide_eq_false (w_no hw).1) ?_
  walk_at "q"
  refine R.F (decide_eq_false (w_no hw).2.1) ?_
  walk_at "q"
  refine R.F (decide_eq_false (w_no hw).2.2) ?_
  walk_at "q"
  have ha:(ps.all fun p=>decide (0≤p∧p<k))=true:=List.all_eq_true.mpr fun p h=>decide_eq_true (hp p h)
  refine R.D (fun e=>?_) fun e=>?_
  ·walk_at "q"
   refine R.T rfl ?_
   walk_at "q"
   refine ⟨_,_,rfl,hl,?_⟩
   rw [ha]
   exact h
  ·walk_at "q"
   refine R.T (decide_eq_true (hw.resolve_left e)) ?_
   walk_at "q"
   refine R.T rfl ?_
   walk_at "q"
   refine ⟨_,_,rfl,hl,?_⟩
   rw [ha]
   exact h
noncomputable def gn:WS :=
 (wSeq (wIfS (wOr (wNot (wB (wUn (fIsi "list") (wVar 0)))) (wNot (wB (gM fLe fLe (wC (.int 1)) (wUn fLen (wVar 0)) (wC (.int 2000))))))
 (wRet (wC (.bl false)))
 cT)
 (wRet (wUn fAll (d_ (qi (wVar 0)) (gT 2 (eG (gN 0) (eG (gN 1) qt))) wYes (bJ cY (aq (wVar 0) (aq (wVar 1) wNil))) 2 []))))
noncomputable def b_:SpD:=fun ds Q=>∃ l:List Rw,ds=[.list (l.map rwD)]∧ScOk l∧1≤l.length∧l.length≤2000∧Q .sh (.bl true)
theorem nU (ds Q) (h:b_ ds Q):ds.length=["thing"].length:=by obtain ⟨_,rfl,_⟩:=h; rfl
theorem qR:∀ ds Q,b_ ds Q→gn { nx:=fun _=>Q .sh .non,rt:=Q } (bA 1 ds):=by
 rintro ds Q ⟨l,rfl,hs,h1,h2,h⟩
 unfold gn
 walk_at "q"
 refine R.F rfl ?_
 walk_at "q"
 refine R.T (decide_eq_true (by walk_at "l")) ?_
 walk_at "q"
 refine R.F (by rw [decide_eq_true (by walk_at "l")]; rfl) ?_
 walk_at "q"
 refine bK (fun _=>true) (fun _=>.bl true) (fun ρ=>∃ o o',ρ=[o,o']) _ _ _ ⟨_,_,rfl⟩ ?_ ?_
 ·rintro y hy ρ ⟨o,o',rfl⟩ N1 N2 _ h2
  obtain ⟨i,hi⟩:=List.mem_iff_getElem?.mp hy
  unfold jf at hi
  rw [List.getElem?_mapIdx,List.getElem?_map] at hi
  cases e:l[i]? with
  | none=>rw [e] at hi; cases hi
  | some r =>
   rw [e] at hi
   cases hi
   walk_at "q"
   exact ⟨_,_,rfl,hs i r e,.inl rfl,h2 _ ⟨_,_,rfl⟩ rfl⟩
 ·rw [dG]
  refine ⟨(jf (l.map rwD)).map fun _=>true,by rw [List.map_map]; rfl,?_⟩
  rw [List.all_map,show (jf (l.map rwD)).all ((fun b=>b) ∘ fun _=>true)=true from List.all_eq_true.mpr fun _ _=>rfl]
  exact h
noncomputable def dB:WS :=
 (wIfS (wNot (wB (bJ b_ (aq (wVar 0) wNil))))
 sy
 cT)
noncomputable def aB:SpD:=fun ds Q=>∃ l:List Rw,ds=[.list (l.map rwD)]∧ScOk l∧1≤l.length∧l.length≤2000∧Q .sh .non
theorem jb (ds Q) (h:aB ds Q):ds.length=["thing"].length:=by obtain ⟨_,rfl,_⟩:=h; rfl
theorem kZ:∀ ds Q,aB ds Q→dB { nx:=fun _=>Q .sh .non,rt:=Q } (bA 1 ds):=by
 rintro ds Q ⟨l,rfl,hs,h1,h2,h⟩
 unfold dB
 walk_at "q"
 refine ⟨l,rfl,hs,h1,h2,?_⟩
 walk_at "q"
 exact h
noncomputable def ju:WS :=
 (wSeq (uJ (bJ aB (aq (wVar 1) wNil)))
 (wRet (d_ (gW (bJ aX (aq (wVar 0) (aq (wVar 1) wNil)))) (gN 0) wYes (bJ bf (aq (wVar 0) wNil)) 1 [])))
noncomputable def cM:SpD:=fun ds Q=>∃ (many:Int) (l:List Stp) (rs:List Rw),ds=[mD many l,.list (rs.map rwD)]∧0≤many∧many≤20∧StIn many l∧l.length≤1000∧ScOk rs∧1≤rs.length∧rs.length≤2000∧Q (.ow true) (.list ((hols l rs).map fun t=>.list ((whL many t).map .int)))
theorem rM (ds Q) (h:cM ds Q):ds.length=["m", "scroll"].length:=by obtain ⟨_,_,_,rfl,_⟩:=h; rfl
theorem wY:∀ ds Q,cM ds Q→ju { nx:=fun _=>Q .sh .non,rt:=Q } (bA 2 ds):=by
 rintro ds Q ⟨many,l,rs,rfl,m0,m1,hin,hz,hs,h1,hl,h⟩
 unfold ju
 walk_at "q"
 refine ⟨rs,rfl,hs,h1,hl,?_⟩
 walk_at "q"
 refine ⟨many,l,rs,rfl,m0,m1,hin,hz,hs,hl,?_⟩
 walk_at "q"
 refine jQ (fun i out=>out=((hols l rs).take i).map fun t=>.list ((whL many t).map .int)) (fun ρ=>∃ o,ρ=[o]) _ 0 [] _ _ ⟨_,rfl⟩ rfl ?_ ?_
 ·rintro j x hx ρ ⟨o,rfl⟩ out ho N1 N2 n2
  rw [Nat.zero_add] at ho n2
  rw [List.getElem?_map] at hx
  cases e:(hols l rs)[j]? with
  | none=>rw [e] at hx; cases hx
  | some t =>
   rw [e] at hx
   cases hx
   walk_at "q"
   refine ⟨many,t,rfl,?_⟩
   walk_at "q"
   exact ⟨.inr rfl,n2 _ _ ⟨_,rfl⟩ (by rw [ho,List.take_add_one,e,List.map_append]; rfl)⟩
 ·intro out ho
  rw [Nat.zero_add,List.nil_append,List.length_map,List.take_length] at ho
  rw [ho]
  exact h
noncomputable def qw:WS :=
 (wSeq (uJ (bJ aB (aq (wVar 1) wNil)))
 (wSeq (uJ (bJ bB (aq (wVar 0) (aq (wVar 2) wNil))))
 (wRet (wOp fIx (wOp fIx (bJ aX (aq (wVar 0) (aq (wVar 1) wNil))) (wUn fNeg (wC (.int 1)))) (wVar 2)))))
noncomputable def kO (l:List Stp) (rs:List Rw):Tr:=(hols l rs).getD (rs.length - 1) fun _=>false
theorem vy {l:List Stp} {rs:List Rw} (h1:1≤rs.length) (f:Tr→D):atI ((hols l rs).map f) (-1)=some (f (kO l rs)):=by
 have hne:rs≠[]:=by intro z; subst z; simp at h1
 obtain ⟨a,r,rfl⟩:∃ a r,rs=a++[r]:=⟨rs.dropLast,rs.getLast hne,(List.dropLast_concat_getLast hne).symm⟩
 have e:kO l (a++[r])=hol l (hols l a) r:=by
  unfold kO
  rw [gC,List.length_append,List.length_singleton,Nat.add_sub_cancel,List.getD_eq_getElem?_getD,List.getElem?_append_right (by rw [dZ]; exact Nat.le_refl _),dZ,Nat.sub_self]
  rfl
 rw [e,gC,List.map_append]
 exact atI_last _ _
noncomputable def di:SpD:=fun ds Q=>∃ (many:Int) (l:List Stp) (rs:List Rw) (s:Int),ds=[mD many l,.list (rs.map rwD),.int s]∧0≤many∧many≤20∧StIn many l∧l.length≤1000∧ScOk rs∧1≤rs.length∧rs.length≤2000∧0≤s∧s<many∧Q .sh (.bl (kO l rs s))
theorem u5 (ds Q) (h:di ds Q):ds.length=["m", "scroll", "state"].length:=by obtain ⟨_,_,_,_,rfl,_⟩:=h; rfl
theorem Am:∀ ds Q,di ds Q→qw { nx:=fun _=>Q .sh .non,rt:=Q } (bA 3 ds):=by
 rintro ds Q ⟨many,l,rs,s,rfl,m0,m1,hin,hz,hs,h1,hl,s0,s1,h⟩
 unfold qw
 walk_at "q"
 refine ⟨rs,rfl,hs,h1,hl,?_⟩
 walk_at "q"
 refine ⟨many,l,s,rfl,s0,s1,?_⟩
 walk_at "q"
 refine ⟨many,l,rs,rfl,m0,m1,hin,hz,hs,hl,?_⟩
 walk_at "q"
 refine ⟨_,vy h1 _,?_⟩
 unfold trD
 walk_at "q"
 refine ⟨_,wM s0 s1 _,?_⟩
 exact h
noncomputable def iw:WS :=
 (wSeq (uJ (bJ aB (aq (wVar 0) wNil)))
 (wSeq (wSet 1 (wLst wNil))
 (wSeq (wFrz 0 (wFor (jD (wVar 0)) (gN 2)
 (wSeq (wSet 3 (wOp za (d_ (gW (bJ dY (aq (wVar 2) wNil))) (gN 0) wYes (wOp fIx (wVar 1) (wVar 0)) 1 [1]) (wC (.int 0))))
 (wApp (wpN 1) (wIf (wOr (wB (wOp fEq (wOp fIx (wVar 2) (wC (.int 0))) (wC (.str "some")))) (wB (wOp fEq (wOp fIx (wVar 2) (wC (.int 0))) (wC (.str "all"))))) (wOp fAdd (wVar 3) (wC (.int 1))) (wVar 3))))))
 (wRet (wOp fIx (wVar 1) (wUn fNeg (wC (.int 1))))))))
noncomputable def cG:SpD:=fun ds Q=>∃ l:List Rw,ds=[.list (l.map rwD)]∧ScOk l∧1≤l.length∧l.length≤2000∧Q .sh (.int (depth l))
theorem oV (ds Q) (h:cG ds Q):ds.length=["scroll"].length:=by obtain ⟨_,rfl,_⟩:=h; rfl
theorem uN:∀ ds Q,cG ds Q→iw { nx:=fun _=>Q .sh .non,rt:=Q } (bA 4 ds):=by
 rintro ds Q ⟨l,rfl,hs,h1,h2,h⟩
 unfold iw
 walk_at "q"
 refine ⟨l,rfl,hs,h1,h2,?_⟩
 walk_at "q"
 refine dJ _ (fun i ρ=>∃ o2 o3:Option Sl,ρ=[some (.sh (.list (l.map rwD))),some (.ow true (.list ((deps (l.take i)).map D.int))),o2,o3]) ⟨_,_,rfl⟩ ?_ ?_
 ·rintro i x ρ hx ⟨o2,o3,rfl⟩ N hN
  rw [List.getElem?_map] at hx
  cases e:l[i]? with
  | none=>rw [e] at hx; cases hx
  | some r =>
   rw [e] at hx
   cases hx
   have hr:=hs i r e
   have hi:i<l.length:=(List.getElem?_eq_some_iff.mp e).1
   walk_at "q"
   refine ⟨r,i,rfl,hr,?_⟩
   walk_at "q"
   have hlen:((l.take i).length:Int)=i:=by rw [List.length_take]; walk_at "l"
   have hd:∀ p∈drw r,0≤p∧p<i:=by
    cases r with
    | st w d j=>intro p hp; rw [List.mem_singleton.mp hp]; exact hr.2.2
    | nt j=>intro p hp; rw [List.mem_singleton.mp hp]; exact hr
    | jn w ps=>exact hr.2.2
   have nn:=qY (l.take i)
   have step:deps (l.take (i+1))=deps (l.take i)++[dep (deps (l.take i)) r]:=by
    rw [List.take_add_one,e]
    exact ji _ _
   have hlt:(deps (l.take i)).length<16777216:=by
    rw [dX,List.length_take]
    walk_at "l"
   refine bK (fun _=>true) (fun d=>match d with
    | .int p=>.int ((deps (l.take i)).getD p.toNat 0)
    | d=>d) (fun ρ=>∃ o,ρ=[o,some (.sh (.list ((deps (l.take i)).map D.int)))]) _ _ _ ⟨_,rfl⟩ ?_ ?_
   ·rintro y hy ρ ⟨o,rfl⟩ N1 N2 _ h2
    obtain ⟨p,hp,rfl⟩:=List.mem_map.mp hy
    walk_at "q"
    refine ⟨_,BJ (hd p hp).1 (by rw [hlen]; exact (hd p hp).2),?_⟩
    exact ⟨.inl rfl,h2 _ ⟨_,rfl⟩ rfl⟩
   ·rw [dG]
    refine ⟨(drw r).map fun p=>(deps (l.take i)).getD p.toNat 0,by rw [List.map_map,List.map_map]; rfl,?_⟩
    rw [CQ (fun n hn=>by
     obtain ⟨p,_,rfl⟩:=List.mem_map.mp hn
     exact gk nn _)]
    have one:∀ x:Int,0≤x→mxL [x]=x:=fun x hx=>by
     simp only [mxL,List.foldl_cons,List.foldl_nil]
     split <;> walk_at "l"
    have fin:∀ v:Int,v=dep (deps (l.take i)) r→∀ o2 o3:Option Sl,N [some (.sh (.list (l.map rwD))),some (.ow true (.list ((deps (l.take i)).map D.int++[D.int v]))),o2,o3]:=fun v hv o2 o3=>by
     subst hv
     refine hN _ ⟨o2,o3,?_⟩
     rw [step,List.map_append]; rfl
    cases r with
    | st w d j =>
     rw [show rwD (.st w d j)=.tup [.str w,.str d,.int j] from rfl]
     walk_at "q"
     have ev:mxL ((drw (.st w d j)).map fun p=>(deps (l.take i)).getD p.toNat 0)+1=dep (deps (l.take i)) (.st w d j):=by
      show mxL [_]+1=_
      rw [one _ (gk nn _)]; rfl
     refine R.D (fun e=>?_) fun e=>?_
     ·walk_at "q"
      exact ⟨hlt,fin _ ev _ _⟩
     ·walk_at "q"
      refine R.T (decide_eq_true (hr.1.resolve_left e)) ?_
      walk_at "q"
      exact ⟨hlt,fin _ ev _ _⟩
    | nt j =>
     rw [show rwD (.nt j)=.tup [.str "not",.int j] from rfl]
     walk_at "q"
     refine R.F (decide_eq_false n_sa.1) ?_
     walk_at "q"
     refine R.F (decide_eq_false n_sa.2) ?_
     walk_at "q"
     exact ⟨hlt,fin _ (one _ (gk nn _)) _ _⟩
    | jn w ps =>
     rw [show rwD (.jn w ps)=.tup [.str w,.tup (ps.map .int)] from rfl]
     walk_at "q"
     refine R.F (decide_eq_false (w_no hr.1).1) ?_
     walk_at "q"
     refine R.F (decide_eq_false (w_no hr.1).2.1) ?_
     walk_at "q"
     exact ⟨hlt,fin _ rfl _ _⟩
 ·rintro ρ ⟨o2,o3,rfl⟩
  rw [List.length_map,List.take_length]
  walk_at "q"
  refine ⟨.int (depth l),?_,h⟩
  have hne:l≠[]:=by intro z; subst z; simp at h1
  obtain ⟨l',r,rfl⟩:∃ l' r,l=l'++[r]:=⟨l.dropLast,l.getLast hne,(List.dropLast_concat_getLast hne).symm⟩
  rw [ji,xW,List.map_append]
  exact atI_last _ _
noncomputable def nF:WS :=
 (wSeq (wSet 15 (bJ di (aq (wOp fIx (wVar 14) (wC (.int 0))) (aq (wVar 7) (aq (wVar 9) wNil)))))
 (wSeq (wSet 16 (bJ di (aq (wOp fIx (wVar 14) (wC (.int 1))) (aq (wVar 7) (aq (wVar 9) wNil)))))
 (wSeq (wIfS (wOr (wNot (wB (wUn (fIsi "bool") (wVar 15)))) (wOr (wNot (wB (wUn (fIsi "bool") (wVar 16)))) (wB (wOp fNe (wVar 15) (wVar 16)))))
 (wRet (wC (.bl false)))
 cT)
 (wSeq (wSet 17 (bJ cM (aq (wOp fIx (wVar 14) (wC (.int 1))) (aq (wVar 7) wNil))))
 (wFrz 13 (wFrz 3 (wRet (jd (wOp fEq (wVar 15) (wOp (fIn false) (wVar 9) (wOp fIx (wVar 17) (wUn fNeg (wC (.int 1)))))) (jd (wOp fEq (wVar 14) (wLst (aq (wVar 3) (aq (wVar 13) wNil)))) (wOp fEq (wVar 7) (wVar 6)))))))))))
noncomputable def jk:WS :=
 (wSeq (wSet 14 (wLst (aq (wTup (aq (wOp fIx (wVar 3) (wC (.int 0))) (aq (wUn pN (wOp fIx (wVar 3) (wC (.int 1)))) wNil))) (aq (wTup (aq (wOp fIx (wVar 13) (wC (.int 0))) (aq (wUn pN (wOp fIx (wVar 13) (wC (.int 1)))) wNil))) wNil))))
 nF)
noncomputable def mW:WS :=
 (wSeq (wSet 11 (d_ (gW (wOp fIx (wVar 3) (wC (.int 1)))) (gN 0) (wB (wOp (fIn false) (wOp fIx (wVar 0) (wC (.int 0))) (wVar 1))) (wVar 0) 1 [10]))
 (wSeq (wFor (jD (bJ aP (aq (wSl (wVar 0) (ir (wC (.int 45))) (ir (wC (.int 63)))) (aq (wOp fIx (wVar 3) (wC (.int 0))) (aq (wVar 2) wNil))))) (gN 12)
 (wIfS (wB (wOp (fIn true) (wOp fIx (wVar 12) (wC (.int 0))) (wVar 10)))
 (wFrz 12 (wApp (wpN 11) (wVar 12)))
 cT))
 (wSeq (wSet 13 (wTup (aq (wOp fIx (wVar 3) (wC (.int 0))) (aq (wUn fJ (wVar 11)) wNil))))
 jk)))
noncomputable def qu:WS :=
 (wSeq (wSet 9 (wOp fMod (bJ aA (aq (wVar 0) (aq (wC (.int 5)) wNil))) (wOp fIx (wVar 3) (wC (.int 0)))))
 (wSeq (wSet 10 (bJ b7 (aq (wVar 3) (aq (wVar 9) (aq (wVar 8) wNil)))))
 mW))
noncomputable def qM:WS :=
 (wSeq (wSet 7 (wUn pN (wVar 6)))
 (wSeq (wSet 8 (bJ cG (aq (wVar 7) wNil)))
 (wSeq (wIfS (wOr (wNot (wB (wUn (fIsi "int") (wVar 8)))) (wOr (wB (wUn (fIsi "bool") (wVar 8))) (wOr (wB (wOp fLt (wVar 8) (wC (.int 0)))) (wB (wOp fNe (wVar 7) (wVar 6))))))
 (wRet (wC (.bl false)))
 cT)
 qu)))
noncomputable def oh:WS :=
 (wSeq (wSet 6 (bJ bD (aq (wOp fAdd (wVar 5) (wLst (aq (bJ aA (aq (wVar 0) (aq (wC (.int 3)) wNil))) wNil))) (aq (wOp fAdd (wLst (aq (wC (.str "*")) wNil)) (wVar 1)) wNil))))
 qM)
noncomputable def qD:WS :=
 (wSeq (wSet 5 (wSl (wVar 0) (ir (wC (.int 25))) (ir (wOp fAdd (wC (.int 25)) (wOp fIx (wLst (aq (wC (.int 4)) (aq (wC (.int 8)) (aq (wC (.int 16)) (aq (wC (.int 19)) wNil))))) (wOp fMod (wVar 4) (wC (.int 4))))))))
 oh)
noncomputable def Ao:WS :=
 (wSeq (wSet 1 (bJ bL (aq (bJ aA (aq (wVar 0) (aq (wC (.int 1)) wNil))) (aq (bJ aA (aq (wVar 0) (aq (wC (.int 2)) wNil))) wNil))))
 (wSeq (wSet 2 (wOp fAdd (wLst (aq (wC (.str "*")) wNil)) (wSl (wVar 1) ig (ir (wC (.int 5))))))
 (wSeq (wSet 3 (bJ bh (aq (wVar 0) (aq (wVar 2) wNil))))
 (wSeq (wSet 4 (bJ aA (aq (wVar 0) (aq (wC (.int 4)) wNil))))
 qD))))
noncomputable abbrev sp_law:SpD:=spLaw
theorem Ad (ds Q) (h:sp_law ds Q):ds.length=["_law_script"].length:=by obtain ⟨_,rfl,_⟩:=h; rfl
theorem zP:∀ (l:List Int) (b x:Int),x≤b∨x∈l→x≤l.foldl (fun b x=>if x>b then x else b) b
 | [],b,x,h=>h.elim id fun z=>nomatch z
 | y :: l,b,x,h=>by
  rw [List.foldl_cons]
  refine zP l _ x ?_
  rcases h with h | h
  ·left; split <;> walk_at "l"
  ·rcases List.mem_cons.mp h with rfl | h
   ·left; split <;> walk_at "l"
   ·exact .inr h
theorem sZ {a b:List Int} {f g:Tr} (h1:∀ x,x∈a↔x∈b) (h2:∀ x∈a,f x=g x):a.any f=b.any g:=by
 rw [Bool.eq_iff_iff,List.any_eq_true,List.any_eq_true]
 exact ⟨fun ⟨x,hx,e⟩=>⟨x,(h1 x).mp hx,by rw [← h2 x hx]; exact e⟩,fun ⟨x,hx,e⟩=>⟨x,(h1 x).mpr hx,by rw [h2 x ((h1 x).mpr hx)]; exact e⟩⟩
theorem ud {a b:List Int} {f g:Tr} (h1:∀ x,x∈a↔x∈b) (h2:∀ x∈a,f x=g x):a.all f=b.all g:=by
 rw [Bool.eq_iff_iff,List.all_eq_true,List.all_eq_true]
 exact ⟨fun h x hx=>by rw [← h2 x ((h1 x).mpr hx)]; exact h x ((h1 x).mpr hx),fun h x hx=>by rw [h2 x hx]; exact h x ((h1 x).mp hx)⟩
theorem wW {l1 l2:List Stp} {near:List Int} {V:Nat→Int→Prop} {D:Int} (hs:∀ x∈near,∀ d y,(x,d,y)∈l1↔(x,d,y)∈l2) (hV:∀ k x d y,V k x→(x,d,y)∈l1→V (k+1) y) (hn:∀ (k:Nat) x,(k:Int)<D→V k x→x∈near) :
  ∀ (n:Nat) (rs:List Rw),rs.length=n→ScOk rs→∀ i,i<rs.length→∀ (k:Nat) x,V k x→(k:Int)+(deps rs).getD i 0≤D→(hols l1 rs).getD i (fun _=>false) x=(hols l2 rs).getD i (fun _=>false) x:=by
 intro n
 induction n with
 | zero=>intro rs hl _ i hi; walk_at "l"
 | succ n ih =>
  intro rs hl ok i hi k x vx hd
  have hne:rs≠[]:=by intro z; subst z; cases hl
  obtain ⟨a,r,rfl⟩:∃ a r,rs=a++[r]:=⟨rs.dropLast,rs.getLast hne,(List.dropLast_concat_getLast hne).symm⟩
  have la:a.length=n:=by rw [List.length_append,List.length_singleton] at hl; walk_at "l"
  have oka:ScOk a:=by have:=ok.take a.length; rwa [List.take_left] at this
  have IH:=ih a la oka
  have nn:=qY a
  rw [gC,gC]
  rw [ji] at hd
  rw [List.length_append,List.length_singleton] at hi
  have left:∀ {β:Type} (u:List β) (z w:β),u.length=a.length→∀ j,j<a.length→(u++[z]).getD j w=u.getD j w:=fun u z w hu j hj=>by
   rw [List.getD_eq_getElem?_getD,List.getD_eq_getElem?_getD,List.getElem?_append_left (by walk_at "l")]
  have last:∀ {β:Type} (u:List β) (z w:β),u.length=a.length→(u++[z]).getD a.length w=z:=fun u z w hu=>by
   rw [List.getD_eq_getElem?_getD,List.getElem?_append_right (by walk_at "l"),hu,Nat.sub_self]; rfl
  rcases Nat.lt_or_ge i a.length with z | z
  ·rw [left _ _ _ (dX a) i z] at hd
   rw [left _ _ _ (dZ l1 a) i z,left _ _ _ (dZ l2 a) i z]
   exact IH i z k x vx hd
  ·obtain rfl:i=a.length:=by walk_at "l"
   rw [last _ _ _ (dX a)] at hd
   rw [last _ _ _ (dZ l1 a),last _ _ _ (dZ l2 a)]
   have rok:RwOk a.length r:=ok a.length r (by rw [List.getElem?_append_right (Nat.le_refl _),Nat.sub_self]; rfl)
   cases r with
   | nt j =>
    have hj:j.toNat<a.length:=by have:=rok.1; have:=rok.2; walk_at "l"
    show (!(_:Bool)) = !(_:Bool)
    rw [IH j.toNat hj k x vx hd]
   | jn w ps =>
    have each:∀ p∈ps,(hols l1 a).getD p.toNat (fun _=>false) x=(hols l2 a).getD p.toNat (fun _=>false) x:=fun p hp=>by
     have h1:=rok.2.2 p hp
     have h2:(deps a).getD p.toNat 0≤dep (deps a) (.jn w ps):=zP _ 0 _ (.inr (List.mem_map.mpr ⟨p,hp,rfl⟩))
     exact IH p.toNat (by walk_at "l") k x vx (by walk_at "l")
    show (if w = "and" then _ else _)=if w = "and" then _ else _
    split
    ·exact ud (f:=fun p=>(hols l1 a).getD p.toNat (fun _=>false) x) (g:=fun p=>(hols l2 a).getD p.toNat (fun _=>false) x) (fun _=>Iff.rfl) each
    ·exact sZ (f:=fun p=>(hols l1 a).getD p.toNat (fun _=>false) x) (g:=fun p=>(hols l2 a).getD p.toNat (fun _=>false) x) (fun _=>Iff.rfl) each
   | st w d j =>
    have hj:j.toNat<a.length:=by have:=rok.2.2; walk_at "l"
    have hdj:(k:Int)+((deps a).getD j.toNat 0+1)≤D:=hd
    have:=gk nn j.toNat
    have hx:=hn k x (by walk_at "l") vx
    have em:∀ y,y∈bQ l1 x d↔y∈bQ l2 x d:=fun y=>by rw [jm,jm]; exact hs x hx d y
    have each:∀ y∈bQ l1 x d,(hols l1 a).getD j.toNat (fun _=>false) y=(hols l2 a).getD j.toNat (fun _=>false) y:=fun y hy =>
     IH j.toNat hj (k+1) y (hV k x d y vx (jm.mp hy)) (by push_cast; walk_at "l")
    show (if w = "some" then _ else _)=if w = "some" then _ else _
    split
    ·exact sZ em each
    ·exact ud em each
theorem zB (rs:List Rw):eqD (.list (rs.map rwD)) (.list (rs.map rwD))=true:=eq_self (x:=.list (rs.map rwD)) (um rs)
theorem tQ (rs:List Rw):0≤depth rs:=gk (qY rs) _
theorem wK {l out:List Stp} {rs:List Rw} {s:Int} {near:List Int} (r1:1≤rs.length) (ok:ScOk rs) (P:PN l s (depth rs) near) (hs:∀ x∈near,∀ d y,(x,d,y)∈l↔(x,d,y)∈out):kO l rs s=kO out rs s:=by
 obtain ⟨V,v0,hV,hn⟩:=P
 exact wW hs hV hn rs.length rs rfl ok (rs.length - 1) (by walk_at "l") 0 s v0 (by show (0:Int)+depth rs≤depth rs; walk_at "l")
theorem Dk {many s:Int} (s0:0≤s) (s1:s<many) (t:Tr):decide (s∈whL many t)=t s:=by
 unfold whL
 rw [Bool.eq_iff_iff,decide_eq_true_iff,List.mem_filter,lM]
 exact ⟨fun z=>z.2,fun z=>⟨⟨s0,by walk_at "l"⟩,z⟩⟩
theorem zJ {many:Int} {l out:List Stp} (h1:StIn many l) (h2:StIn many out):okD 12 (.list [.tup [.int many,.list (l.map stpD)],.tup [.int many,.list (out.map stpD)]])=true:=by
 show (okD 11 (mD many l) && (okD 11 (mD many out) && true))=true
 rw [m_ok 8 h1,m_ok 8 h2]
 rfl
theorem Du (many:Int) (l out:List Stp):eqD (.list [.tup [.int many,.list (l.map stpD)],.tup [.int many,.list (out.map stpD)]]) (.list [.tup [.int many,.list (l.map stpD)],.tup [.int many,.list (out.map stpD)]])=true :=
 eq_self (x:=.list [mD many l,mD many out]) (by
  show ((mD many l).nb && ((mD many out).nb && true))=true
  rw [nb_m,nb_m]; rfl)
theorem DQ {m m2:Md} {a b:Bool} {Q:Md→D→Prop}:fNe m (.bl a) m2 (.bl b) Q=Q .sh (.bl (!decide (a=b))):=rfl
theorem yq {ns cells:List Int} {turn many:Int} {pool names:List Str} {l l2 out:List Stp} {rs:List Rw} {s:Int} {near:List Int} {o12:Option Sl} {Q:Md→D→Prop} (m1:1≤many) (m2:many≤20) (hin:StIn many l) (hin2:StIn many out) (hz:l.length≤63) (hz2:out.length≤63) (ok:ScOk rs) (r1:1≤rs.length) (r2:rs.length≤100) (s0:0≤s) (s1:s<many) (e:kO l rs s=kO out rs s) (h:∀ m,Q m (.bl true)) :
  nF { nx:=fun _=>Q .sh .non,rt:=Q } [some (.sh (.list (ns.map .int))),some (.ow true (.list (pool.map .str))),some (.ow true (.list (names.map .str))),some (.ow true (.tup [.int many,.list (l.map stpD)])),some (.sh (.int turn)),some (.ow true (.list (cells.map .int))),some (.ow true (.list (rs.map rwD))),some (.ow true (.list (rs.map rwD))),some (.sh (.int (depth rs))),some (.sh (.int s)),some (.ow true (.list (near.map .int))),some (.ow true (.list (l2.map stpD))),o12,some (.ow true (.tup [.int many,.list (out.map stpD)])),some (.ow true (.list [.tup [.int many,.list (l.map stpD)],.tup [.int many,.list (out.map stpD)]])),none,none,none]:=by
 unfold nF
 walk_at "q"
 refine ⟨many,l,rs,s,rfl,by walk_at "l",m2,hin,by walk_at "l",ok,r1,by walk_at "l",s0,s1,?_⟩
 walk_at "q"
 refine ⟨many,out,rs,s,rfl,by walk_at "l",m2,hin2,by walk_at "l",ok,r1,by walk_at "l",s0,s1,?_⟩
 rw [e]
 walk_at "q"
 refine R.F (by decide) ?_
 walk_at "q"
 refine R.F (by decide) ?_
 walk_at "q"
 rw [DQ]
 walk_at "q"
 refine ⟨many,out,rs,rfl,by walk_at "l",m2,hin2,by walk_at "l",ok,r1,by walk_at "l",?_⟩
 walk_at "q"
 refine ⟨_,vy r1 _,?_⟩
 walk_at "q"
 refine ⟨rfl,eO _,?_⟩
 rw [jy,Dk s0 s1]
 walk_at "q"
 refine ⟨zJ hin hin2,zJ hin hin2,?_⟩
 rw [Du]
 walk_at "q"
 refine ⟨rP ok 9,rP ok 9,?_⟩
 rw [zB]
 exact h _
theorem yw {ns cells:List Int} {turn many:Int} {pool names:List Str} {l l2 out:List Stp} {rs:List Rw} {s:Int} {near:List Int} {o12:Option Sl} {Q:Md→D→Prop} (m1:1≤many) (m2:many≤20) (hin:StIn many l) (hin2:StIn many out) (hz:l.length≤63) (hz2:out.length≤63) (ok:ScOk rs) (r1:1≤rs.length) (r2:rs.length≤100) (s0:0≤s) (s1:s<many) (e:kO l rs s=kO out rs s) (h:∀ m,Q m (.bl true)) :
  jk { nx:=fun _=>Q .sh .non,rt:=Q } [some (.sh (.list (ns.map .int))),some (.ow true (.list (pool.map .str))),some (.ow true (.list (names.map .str))),some (.ow true (.tup [.int many,.list (l.map stpD)])),some (.sh (.int turn)),some (.ow true (.list (cells.map .int))),some (.ow true (.list (rs.map rwD))),some (.ow true (.list (rs.map rwD))),some (.sh (.int (depth rs))),some (.sh (.int s)),some (.ow true (.list (near.map .int))),some (.ow true (.list (l2.map stpD))),o12,some (.ow true (.tup [.int many,.list (out.map stpD)])),none,none,none,none]:=by
 unfold jk
 walk_at "q"
 exact .inl ⟨jA l,.inl ⟨jA out,yq m1 m2 hin hin2 hz hz2 ok r1 r2 s0 s1 e h⟩⟩
theorem zb {ns cells:List Int} {turn many:Int} {pool names:List Str} {l:List Stp} {rs:List Rw} {Q:Md→D→Prop} (hl:ns.length≤63) (hd:∀ n∈names,Deed n) (n1:1≤names.length) (n2:names.length≤20) (m1:1≤many) (m2:many≤20) (hin:StIn many l) (hz:l.length≤40) (ok:ScOk rs) (r1:1≤rs.length) (r2:rs.length≤100) (h:∀ m,Q m (.bl true)) {s:Int} {near:List Int} (s0:0≤s) (s1:s<many) (nl:near.length≤20) (P:PN l s (depth rs) near) :
  mW { nx:=fun _=>Q .sh .non,rt:=Q } [some (.sh (.list (ns.map .int))),some (.ow true (.list (pool.map .str))),some (.ow true (.list (names.map .str))),some (.ow true (.tup [.int many,.list (l.map stpD)])),some (.sh (.int turn)),some (.ow true (.list (cells.map .int))),some (.ow true (.list (rs.map rwD))),some (.ow true (.list (rs.map rwD))),some (.sh (.int (depth rs))),some (.sh (.int s)),some (.ow true (.list (near.map .int))),none,none,none,none,none,none,none]:=by
 unfold mW
 walk_at "q"
 refine bK (fun x=>match x with
  | .tup [.int p,.str _,.int _]=>decide (p∈near)
  | _=>false) (fun x=>x) (fun ρ=>∃ o,ρ=[o,some (.sh (.list (near.map .int)))]) _ _ _ ⟨_,rfl⟩ ?_ ?_
 ·rintro x hx ρ ⟨o,rfl⟩ N1 N2 n1 n2
  obtain ⟨⟨p,d,q⟩,ht,rfl⟩:=List.mem_map.mp hx
  have n1:decide (p∈near)=false→∀ ρ',(∃ o,ρ'=[o,some (.sh (.list (near.map .int)))])→N1 ρ':=fun z ρ' h=>n1 ρ' h z
  have n2:decide (p∈near)=true→∀ ρ',(∃ o,ρ'=[o,some (.sh (.list (near.map .int)))])→N2 ρ' (.tup [.int p,.str d,.int q]):=fun z ρ' h=>n2 ρ' h z
  unfold stpD
  walk_at "q"
  refine ⟨rfl,eO near,?_⟩
  rw [jy]
  by_cases hp:p∈near
  ·rw [if_pos (decide_eq_true hp)]
   exact ⟨.inl rfl,n2 (decide_eq_true hp) _ ⟨_,rfl⟩⟩
  ·rw [if_neg (by simpa using hp)]
   exact n1 (decide_eq_false hp) _ ⟨_,rfl⟩
 have eb:((l.map stpD).filter (fun x=>match x with
  | .tup [.int p,.str _,.int _]=>decide (p∈near)
  | _=>false)).map (fun x=>x)=(l.filter fun t=>decide (t.1∈near)).map stpD:=by
  rw [List.filter_map,List.map_id']
  rfl
 rw [eb]
 rw [n8]
 have kl:(cutG ns (some 45) (some 63)).length≤18:=by
  unfold cutG
  simp [HT.sIx]
  walk_at "l"
 generalize cutG ns (some 45) (some 63)=cs at *
 refine .inl ⟨cz ns,cs,many,names,rfl,by walk_at "l",m1,m2,n1,n2,hd,fun l3 h3 hl3=>?_⟩
 walk_at "q"
 refine dJ _ (fun i ρ=>∃ (l2:List Stp) (o12:Option Sl),StIn many l2∧l2.length≤l.length+i∧(∀ x∈near,∀ d y,(x,d,y)∈l↔(x,d,y)∈l2)∧ρ=[some (.sh (.list (ns.map .int))),some (.ow true (.list (pool.map .str))),some (.ow true (.list (names.map .str))),some (.ow true (.tup [.int many,.list (l.map stpD)])),some (.sh (.int turn)),some (.ow true (.list (cells.map .int))),some (.ow true (.list (rs.map rwD))),some (.ow true (.list (rs.map rwD))),some (.sh (.int (depth rs))),some (.sh (.int s)),some (.ow true (.list (near.map .int))),some (.ow true (.list (l2.map stpD))),o12,none,none,none,none,none]) ⟨_,_,?_,?_,?_,rfl⟩ ?_ ?_
 ·exact fun s hs=>hin s (List.mem_filter.mp hs).1
 ·exact Nat.le_trans (List.length_filter_le _ _) (Nat.le_refl _)
 ·intro x hx d y
  rw [List.mem_filter]
  exact ⟨fun z=>⟨z,decide_eq_true hx⟩,fun z=>z.1⟩
 ·rintro i x ρ hx ⟨l2,o12,i2,len2,same,rfl⟩ N hN
  have hi:=(List.getElem?_eq_some_iff.mp hx).1
  rw [List.length_map] at hi
  obtain ⟨p,d,r,rfl,ht,et⟩:=zR hx
  walk_at "q"
  refine ⟨rfl,eO near,?_⟩
  rw [jy]
  by_cases hp:p∈near
  ·refine R.F (by rw [decide_eq_true hp]; rfl) ?_
   walk_at "q"
   exact hN _ ⟨l2,_,i2,by walk_at "l",same,rfl⟩
  ·refine R.T (by rw [decide_eq_false hp]; rfl) ?_
   walk_at "q"
   rw [show l2.map stpD++[D.tup [D.int p,D.str d,D.int r]]=(l2++[((p,d,r):Stp)]).map stpD by simp [stpD]]
   refine ⟨by walk_at "l",hN _ ⟨l2++[(p,d,r)],_,fun s hs=>?_,by rw [List.length_append,List.length_singleton]; walk_at "l",fun x hx d' y=>?_,rfl⟩⟩
   ·rcases List.mem_append.mp hs with hs | hs
    ·exact i2 s hs
    ·rw [List.mem_singleton.mp hs]; exact h3 _ ht
   ·rw [same x hx d' y,List.mem_append]
    refine ⟨.inl,fun z=>z.elim id fun z=>?_⟩
    have:=List.mem_singleton.mp z
    cases this
    exact absurd hx hp
 ·rintro ρ ⟨l2,o12,i2,len2,same,rfl⟩
  rw [List.length_map] at len2
  walk_at "q"
  exact xV (l:=l2) (fun xs=>jk { nx:=fun _=>Q .sh .non,rt:=Q } [some (.sh (.list (ns.map .int))),some (.ow true (.list (pool.map .str))),some (.ow true (.list (names.map .str))),some (.ow true (.tup [.int many,.list (l.map stpD)])),some (.sh (.int turn)),some (.ow true (.list (cells.map .int))),some (.ow true (.list (rs.map rwD))),some (.ow true (.list (rs.map rwD))),some (.sh (.int (depth rs))),some (.sh (.int s)),some (.ow true (.list (near.map .int))),some (.ow true (.list (l2.map stpD))),o12,some (.ow true (.tup [.int many,.list xs])),none,none,none,none]) (by walk_at "l")
   fun out M=>yw m1 m2 hin (M.ok i2) (by walk_at "l") (by have:=M.len; walk_at "l") ok r1 r2 s0 s1 (wK r1 ok P fun x hx d y=>(same x hx d y).trans (M.2.1 _).symm) h
theorem BW {ns cells:List Int} {turn many:Int} {pool names:List Str} {l:List Stp} {rs:List Rw} {Q:Md→D→Prop} (hl:ns.length≤63) (hd:∀ n∈names,Deed n) (n1:1≤names.length) (n2:names.length≤20) (m1:1≤many) (m2:many≤20) (hin:StIn many l) (hz:l.length≤40) (ok:ScOk rs) (r1:1≤rs.length) (r2:rs.length≤100) (h:∀ m,Q m (.bl true)) :
  qu { nx:=fun _=>Q .sh .non,rt:=Q } [some (.sh (.list (ns.map .int))),some (.ow true (.list (pool.map .str))),some (.ow true (.list (names.map .str))),some (.ow true (.tup [.int many,.list (l.map stpD)])),some (.sh (.int turn)),some (.ow true (.list (cells.map .int))),some (.ow true (.list (rs.map rwD))),some (.ow true (.list (rs.map rwD))),some (.sh (.int (depth rs))),none,none,none,none,none,none,none,none,none]:=by
 unfold qu
 walk_at "q"
 refine ⟨ns,5,rfl,by decide,?_⟩
 generalize ns.getD _ 0=c5
 walk_at "q"
 have s0:=Int.emod_nonneg c5 (show many≠0 by walk_at "l")
 have s1:=Int.emod_lt_of_pos c5 (show 0<many by walk_at "l")
 generalize c5 % many=s at *
 refine ⟨by walk_at "l",many,l,s,depth rs,rfl,m1,m2,hin,by walk_at "l",s0,s1,tQ rs,fun near nl P=>?_⟩
 walk_at "q"
 exact zb hl hd n1 n2 m1 m2 hin hz ok r1 r2 h s0 s1 nl P
theorem Bl {ns cells:List Int} {turn many:Int} {pool names:List Str} {l:List Stp} {rs:List Rw} {Q:Md→D→Prop} (hl:ns.length≤63) (hd:∀ n∈names,Deed n) (n1:1≤names.length) (n2:names.length≤20) (m1:1≤many) (m2:many≤20) (hin:StIn many l) (hz:l.length≤40) (ok:ScOk rs) (r1:1≤rs.length) (r2:rs.length≤100) (h:∀ m,Q m (.bl true)) :
  qM { nx:=fun _=>Q .sh .non,rt:=Q } [some (.sh (.list (ns.map .int))),some (.ow true (.list (pool.map .str))),some (.ow true (.list (names.map .str))),some (.ow true (.tup [.int many,.list (l.map stpD)])),some (.sh (.int turn)),some (.ow true (.list (cells.map .int))),some (.ow true (.list (rs.map rwD))),none,none,none,none,none,none,none,none,none,none,none]:=by
 unfold qM
 walk_at "q"
 refine .inl ⟨sG rs,rs,rfl,ok,r1,by walk_at "l",?_⟩
 walk_at "q"
 refine R.F (by decide) ?_
 walk_at "q"
 refine R.F (by decide) ?_
 walk_at "q"
 refine R.F (decide_eq_false (by have:=tQ rs; walk_at "l")) ?_
 walk_at "q"
 refine ⟨rP ok 9,rP ok 9,?_⟩
 rw [zB]
 walk_at "q"
 exact BW hl hd n1 n2 m1 m2 hin hz ok r1 r2 h
theorem Cw {cells:List Int} {ns:List Int} {turn many:Int} {pool names:List Str} {l:List Stp} {Q:Md→D→Prop} (hl:ns.length≤63) (hp:pool.length=6) (ho:∀ n∈pool,Open n) (hd:∀ n∈names,Deed n) (n1:1≤names.length) (n2:names.length≤20) (m1:1≤many) (m2:many≤20) (hin:StIn many l) (hz:l.length≤40) (h:∀ m,Q m (.bl true)) (cl:cells.length≤63) :
  oh { nx:=fun _=>Q .sh .non,rt:=Q } [some (.sh (.list (ns.map .int))),some (.ow true (.list (pool.map .str))),some (.ow true (.list (names.map .str))),some (.ow true (.tup [.int many,.list (l.map stpD)])),some (.sh (.int turn)),some (.ow true (.list (cells.map .int))),none,none,none,none,none,none,none,none,none,none,none,none]:=by
 unfold oh
 walk_at "q"
 refine ⟨ns,3,rfl,by decide,?_⟩
 generalize ns.getD _ 0=c3
 walk_at "q"
 rw [show cells.map D.int++[D.int c3]=(cells++[c3]).map D.int by simp]
 refine ⟨by walk_at "l",.inl ⟨cz cells,by walk_at "l",.inl ⟨gG pool,cells++[c3],("*" : Str) :: pool,rfl,by simp; walk_at "l",by simp,by simp; walk_at "l",fun n hn=>?_,fun rs hr ok=>?_⟩⟩⟩
 ·rcases List.mem_cons.mp hn with rfl | hn
  ·exact .inl rfl
  ·exact .inr (ho n hn)
 rw [List.length_append,List.length_singleton] at hr
 walk_at "q"
 exact Bl hl hd n1 n2 m1 m2 hin hz ok (by walk_at "l") (by walk_at "l") h
theorem Aw (turn:Int):∃ k:Int,atI [D.int 4,D.int 8,D.int 16,D.int 19] (turn % 4)=some (.int k)∧1≤k∧k≤20:=by
 have a:=Int.emod_nonneg turn (show (4:Int)≠0 by decide)
 have b:=Int.emod_lt_of_pos turn (show (0:Int)<4 by decide)
 rcases (show turn % 4=0∨turn % 4=1∨turn % 4=2∨turn % 4=3 by walk_at "l") with e | e | e | e <;> rw [e]
 ·exact ⟨4,rfl,by decide,by decide⟩
 ·exact ⟨8,rfl,by decide,by decide⟩
 ·exact ⟨16,rfl,by decide,by decide⟩
 ·exact ⟨19,rfl,by decide,by decide⟩
theorem Bj {ns:List Int} {turn many:Int} {pool names:List Str} {l:List Stp} {Q:Md→D→Prop} (hl:ns.length≤63) (hp:pool.length=6) (ho:∀ n∈pool,Open n) (hd:∀ n∈names,Deed n) (n1:1≤names.length) (n2:names.length≤20) (m1:1≤many) (m2:many≤20) (hin:StIn many l) (hz:l.length≤40) (h:∀ m,Q m (.bl true)) :
  qD { nx:=fun _=>Q .sh .non,rt:=Q } [some (.sh (.list (ns.map .int))),some (.ow true (.list (pool.map .str))),some (.ow true (.list (names.map .str))),some (.ow true (.tup [.int many,.list (l.map stpD)])),some (.sh (.int turn)),none,none,none,none,none,none,none,none,none,none,none,none,none]:=by
 obtain ⟨w5,e5⟩:∃ w5,w5=oh:=⟨_,rfl⟩
 unfold qD
 rw [← e5]
 walk_at "q"
 obtain ⟨k,ek,k1,k2⟩:=Aw turn
 refine ⟨.int k,ek,?_⟩
 walk_at "q"
 rw [n8,e5]
 exact .inl ⟨cz ns,Cw hl hp ho hd n1 n2 m1 m2 hin hz h (Nat.le_trans (gQ _ _ _) hl)⟩
theorem Gs:∀ ds Q,sp_law ds Q→Ao { nx:=fun _=>Q .sh .non,rt:=Q } (bA 18 ds):=by
 rintro ds Q ⟨ns,rfl,hl,h⟩
 unfold Ao
 walk_at "q"
 refine ⟨ns,1,rfl,by decide,?_⟩
 generalize ns.getD _ 0=c1
 walk_at "q"
 refine ⟨ns,2,rfl,by decide,?_⟩
 generalize ns.getD _ 0=c2
 walk_at "q"
 refine ⟨c1,c2,rfl,fun pool hp ho=>?_⟩
 walk_at "q"
 rw [n8]
 have cl:=gQ pool none (some 5)
 have cm:=fun x (hx:x∈cutG pool none (some 5))=>A_ hx
 generalize cutG pool none (some 5)=some' at *
 have hd:∀ n∈(("*" : Str) :: some'),Deed n:=fun n hn=>by
  rcases List.mem_cons.mp hn with rfl | hn
  ·exact .inl rfl
  ·exact .inr (ho n (cm n hn))
 refine .inl ⟨gG pool,by rw [List.length_map]; walk_at "l",.inl ⟨gG some',ns,("*" : Str) :: some',rfl,hl,by simp,by simp; walk_at "l",hd,fun many l m1 m2 hin hz=>?_⟩⟩
 unfold mD
 walk_at "q"
 refine ⟨ns,4,rfl,by decide,?_⟩
 generalize ns.getD _ 0=turn
 walk_at "q"
 exact Bj (names:=("*" : Str) :: some') hl hp ho hd (by simp) (by simp; walk_at "l") m1 m2 hin hz h
end L2.Q.Law
namespace L2.Q.Law
open PySem PySem.Spec PyProof.Rows
def top (i:Nat):Stmt:=PySem.Challenge.pw_kinlook_k24_whole_how_far_a_scroll_looks.main.body.getD i (.Pass ⟨0,0,0,0⟩)
abbrev b8:Stmt:=top 4
abbrev cu:Stmt:=top 5
abbrev bN:Stmt:=top 11
abbrev aQ:Stmt:=top 12
abbrev cB:Stmt:=top 13
abbrev dF:Stmt:=top 15
abbrev bO:Stmt:=top 19
abbrev bj:Stmt:=top 20
abbrev cR:Stmt:=top 21
abbrev bu:Stmt:=top 22
abbrev aK:Stmt:=top 23
abbrev aO:Stmt:=top 24
abbrev bx:Stmt:=top 25
abbrev aG:Stmt:=top 26
abbrev bZ:Stmt:=top 27
abbrev dM:Stmt:=top 28
abbrev bF:Stmt:=top 29
abbrev aL:Stmt:=top 31
abbrev aN:Stmt:=top 32
abbrev aY:Stmt:=top 33
abbrev bM:Stmt:=top 34
abbrev aM:Stmt:=top 35
abbrev bc:Stmt:=top 36
abbrev aJ:Stmt:=top 37
abbrev gr:Stmt:=top 38
structure Txt (K:PySem.W.Frag) (mg:Str→Option Value):Prop where
 n_all:mg "all" = none
 n_any:mg "any" = none
 n_bool:mg "bool" = none
 n_enumerate:mg "enumerate" = none
 n_int:mg "int" = none
 n_isinstance:mg "isinstance" = none
 n_len:mg "len" = none
 n_list:mg "list" = none
 n_max:mg "max" = none
 n_min:mg "min" = none
 n_range:mg "range" = none
 n_set:mg "set" = none
 n_sorted:mg "sorted" = none
 n_str:mg "str" = none
 n_tuple:mg "tuple" = none
 g_HIDDEN:GlS mg "HIDDEN" "*"
 g_LETTERS:GlS mg "LETTERS" "abcdefghijklmnopqrstuvwxyz"
 g_MOST_LETTERS:GlI mg "MOST_LETTERS" 6
 g_MOST_ROWS:GlI mg "MOST_ROWS" 2000
 g_MOST_PARTS:GlI mg "MOST_PARTS" 200
section
variable {P:Program} {w:World} {K:PySem.W.Frag} {mg:Str→Option Value} {base:Heap}
theorem l_:FnScope ["thing"] ["thing"] (defScope b8):=⟨rfl,rfl,rfl,by decide +kernel,rfl,by decide +kernel,by decide +kernel⟩
theorem wR {f:Addr} (T:Txt K mg)  (cdv:Value) (A:Around) (outer:List PySem.Env) (s:Shared) (H:Hp) (E:XK) (hr:Room 0 (A.deeper (envOfC "is_open" (defScope b8) s.heap.objs.size f cdv))) :
  QSs (cxOf CX0 P w K mg base ["thing"] "is_open" (defScope b8) f cdv A outer s H E).nox K L0 (defBody b8) jY :=
 have nd:=l_.nd
 have hu:(A.deeper (envOfC "is_open" (defScope b8) s.heap.objs.size f cdv)).units+64<cLine:=hr.units
 (aj (cX (qt_w (gP (eF (fY (i_ T.n_isinstance (qv 0) (iY T.n_str wV)))) (fW (eF (mV lQ lQ uR uR ao (bC aV dh rfl T.n_len dw (qv 0)) (q_gi T.g_MOST_LETTERS))))))
   (au (aU q_bl))
   aW)
   (au (aU (bC kAll oO rfl T.n_all pG (dR (tn:=["sign"]) (cn:=[]) (ix:=[]) rfl (uo (CN (qv 0))) (bY.of (sc:=defScope b8) (N:=["thing"]) rfl rfl (by decide +kernel)) (fun _ _ _ _=>(aH (i:=0) (show (["sign"]:List Str).Nodup by decide +kernel) rfl (Or.inl rfl) (.inr rfl))) (fun _ _ _ _=>cU) (fun _ _ _ _=>(mQ (kIn (K:=K) hu) uM (qv 0) (q_gs T.g_LETTERS) (by rfl))))))))
theorem uE {f:Addr} {fd:FuncData} (F:Fun K "is_open" "is_open" b8 f fd) (T:Txt K mg)  : FnOk P w K mg base CX0 1 f fd ["thing"] (ak K cO) :=
 FunQ.ok F l_ rn (wR T ) vH
theorem jP:FnScope ["thing"] ["thing"] (defScope bN):=⟨rfl,rfl,rfl,by decide +kernel,rfl,by decide +kernel,by decide +kernel⟩
theorem uz {f:Addr} (T:Txt K mg)  (cdv:Value) (A:Around) (outer:List PySem.Env) (s:Shared) (H:Hp) (E:XK) (hr:Room 0 (A.deeper (envOfC "is_whole" (defScope bN) s.heap.objs.size f cdv))) :
  QSs (cxOf CX0 P w K mg base ["thing"] "is_whole" (defScope bN) f cdv A outer s H E).nox K L0 (defBody bN) g_ :=
 have nd:=jP.nd
 have hu:(A.deeper (envOfC "is_whole" (defScope bN) s.heap.objs.size f cdv)).units+64<cLine:=hr.units
 (au (aU (m8 (i_ T.n_isinstance (qv 0) (iY T.n_int vh)) (pF (Eg (i_ T.n_isinstance (qv 0) (iY T.n_bool oJ)))))))
theorem rK {f:Addr} {fd:FuncData} (F:Fun K "is_whole" "is_whole" bN f fd) (T:Txt K mg)  : FnOk P w K mg base CX0 1 f fd ["thing"] (ak K cD) :=
 FunQ.ok F jP qb (uz T ) uZ
theorem fU:FnScope ["m", "state"] ["m", "state"] (defScope aQ):=⟨rfl,rfl,rfl,by decide +kernel,rfl,by decide +kernel,by decide +kernel⟩
theorem nP {f:Addr} (T:Txt K mg)  (cdv:Value) (A:Around) (outer:List PySem.Env) (s:Shared) (H:Hp) (E:XK) (hr:Room 0 (A.deeper (envOfC "check_state" (defScope aQ) s.heap.objs.size f cdv))) :
  QSs (cxOf CX0 P w K mg base ["m", "state"] "check_state" (defScope aQ) f cdv A outer s H E).nox K L0 (defBody aQ) dU :=
 have nd:=fU.nd
 have hu:(A.deeper (envOfC "check_state" (defScope aQ) s.heap.objs.size f cdv)).units+64<cLine:=hr.units
 (au (cX (eF (mV lQ p8 uR vQ ao (qv 1) (q_ix hu (qv 0) ao)))
   qg
   aW))
theorem lq {f:Addr} {fd:FuncData} (F:Fun K "check_state" "check_state" aQ f fd) (T:Txt K mg)  : FnOk P w K mg base CX0 1 f fd ["m", "state"] (ak K bB) :=
 FunQ.ok F fU jF (nP T ) nu
theorem lY:FnScope ["m", "ways", "start", "deed", "end"] ["m"] (defScope cB):=⟨rfl,rfl,rfl,by decide +kernel,rfl,by decide +kernel,by decide +kernel⟩
theorem vD {f:Addr} (T:Txt K mg)  (cdv:Value) (A:Around) (outer:List PySem.Env) (s:Shared) (H:Hp) (E:XK) (hr:Room 0 (A.deeper (envOfC "ways_of" (defScope cB) s.heap.objs.size f cdv))) :
  QSs (cxOf CX0 P w K mg base ["m", "ways", "start", "deed", "end"] "ways_of" (defScope cB) f cdv A outer s H E).nox K L0 (defBody cB) jK :=
 have nd:=lY.nd
 have hu:(A.deeper (envOfC "ways_of" (defScope cB) s.heap.objs.size f cdv)).units+64<cLine:=hr.units
 (aj (aF (i:=1) nd rfl (Or.inl rfl) Bg)
   (aj (dq 0 (fX PassesOwn.never rfl (nR (q_ix hu (qv 0) ao)) (sX rfl (cQ (aH (i:=2) nd rfl (Or.inl rfl)) (cQ (aH (i:=3) nd rfl (Or.inl rfl)) (cQ (aH (i:=4) nd rfl (Or.inl rfl)) nq))))
   (au (dq 4 (dq 3 (dq 2 (Gy hu (pv 1) (jc (aa (qv 2) (aa (qv 3) az))) (qv 4))))))))
   (au (jV (pv 1)))))
theorem uI {f:Addr} {fd:FuncData} (F:Fun K "ways_of" "ways_of" cB f fd) (T:Txt K mg)  : FnOk P w K mg base CX0 1 f fd ["m"] (ak K cP) :=
 FunQ.ok F lY qH (vD T ) xJ
theorem rY:FnScope ["row"] ["row"] (defScope dF):=⟨rfl,rfl,rfl,by decide +kernel,rfl,by decide +kernel,by decide +kernel⟩
theorem Br {f:Addr} (T:Txt K mg)  (cdv:Value) (A:Around) (outer:List PySem.Env) (s:Shared) (H:Hp) (E:XK) (hr:Room 0 (A.deeper (envOfC "drawn" (defScope dF) s.heap.objs.size f cdv))) :
  QSs (cxOf CX0 P w K mg base ["row"] "drawn" (defScope dF) f cdv A outer s H E).nox K L0 (defBody dF) rG :=
 have nd:=rY.nd
 have hu:(A.deeper (envOfC "drawn" (defScope dF) s.heap.objs.size f cdv)).units+64<cLine:=hr.units
 (aj (cX (qt_w (gP (bz (kEq (K:=K) hu) cL (q_ix hu (qv 0) ao) cW (nomark _)) (fW (bz (kEq (K:=K) hu) cL (q_ix hu (qv 0) ao) cW (nomark _)))))
   (au (aU (c7 (aa (q_ix hu (qv 0) ao) az))))
   aW)
   (aj (cX (bz (kEq (K:=K) hu) cL (q_ix hu (qv 0) ao) cW (nomark _))
   (au (aU (c7 (aa (q_ix hu (qv 0) ao) az))))
   aW)
   (au (aU (gY fL nT rfl T.n_list j7 (q_ix hu (qv 0) ao))))))
theorem y_ {f:Addr} {fd:FuncData} (F:Fun K "drawn" "drawn" dF f fd) (T:Txt K mg)  : FnOk P w K mg base CX0 1 f fd ["row"] (ak K dY) :=
 FunQ.ok F rY vA (Br T ) Aj
theorem iV:FnScope ["ways", "truths", "row", "state", "ends"] ["ways", "truths", "row", "state"] (defScope aO):=⟨rfl,rfl,rfl,by decide +kernel,rfl,by decide +kernel,by decide +kernel⟩
theorem rJ {f:Addr} (T:Txt K mg)  (cdv:Value) (A:Around) (outer:List PySem.Env) (s:Shared) (H:Hp) (E:XK) (hr:Room 0 (A.deeper (envOfC "row_holds" (defScope aO) s.heap.objs.size f cdv))) :
  QSs (cxOf CX0 P w K mg base ["ways", "truths", "row", "state", "ends"] "row_holds" (defScope aO) f cdv A outer s H E).nox K L0 (defBody aO) gf :=
 have nd:=iV.nd
 have hu:(A.deeper (envOfC "row_holds" (defScope aO) s.heap.objs.size f cdv)).units+64<cLine:=hr.units
 (aj (cX (bz (kEq (K:=K) hu) cL (q_ix hu (qv 2) ao) cW (nomark _))
   (au (aU (Eg (q_ix hu (q_ix hu (qv 1) (q_ix hu (qv 2) ao)) (qv 3)))))
   aW)
   (aj (cX (bz (kEq (K:=K) hu) cL (q_ix hu (qv 2) ao) cW (nomark _))
   (au (aU (bC kAll oO rfl T.n_all pG (dR (tn:=["part"]) (cn:=["state", "truths"]) (ix:=[3,1]) rfl (v_ (q_ix hu (qv 2) ao)) (bY.of (sc:=defScope aO) (N:=["ways", "truths", "row", "state", "ends"]) rfl rfl (by decide +kernel)) (fun _ _ _ _=>(aH (i:=0) (show (["part", "state", "truths"]:List Str).Nodup by decide +kernel) rfl (Or.inl rfl) (.inr rfl))) (fun _ _ _ _=>cU) (fun _ _ _ _=>(q_ix hu (q_ix hu (qv 2) (qv 0)) (qv 1)))))))
   aW)
   (aj (cX (bz (kEq (K:=K) hu) cL (q_ix hu (qv 2) ao) cW (nomark _))
   (au (aU (bC kAny zO rfl T.n_any zL (dR (tn:=["part"]) (cn:=["state", "truths"]) (ix:=[3,1]) rfl (v_ (q_ix hu (qv 2) ao)) (bY.of (sc:=defScope aO) (N:=["ways", "truths", "row", "state", "ends"]) rfl rfl (by decide +kernel)) (fun _ _ _ _=>(aH (i:=0) (show (["part", "state", "truths"]:List Str).Nodup by decide +kernel) rfl (Or.inl rfl) (.inr rfl))) (fun _ _ _ _=>cU) (fun _ _ _ _=>(q_ix hu (q_ix hu (qv 2) (qv 0)) (qv 1)))))))
   aW)
   (aj (dq 3 (lZ (i:=4) (tn:=["end"]) (cn:=["row", "truths"]) (ix:=[2,1]) nd rfl (Or.inl rfl) rfl (il (Gi hu (qv 0) (jc (aa (qv 3) (aa (q_ix hu (qv 2) ao) az))) (c7 az))) (bY.of (sc:=defScope aO) (N:=["ways", "truths", "row", "state", "ends"]) rfl rfl (by decide +kernel)) (fun _ _ _ _=>(aH (i:=0) (show (["end", "row", "truths"]:List Str).Nodup by decide +kernel) rfl (Or.inl rfl) (.inr rfl))) (fun _ _ _ _=>cU) (fun _ _ _ _=>(q_ix hu (q_ix hu (qv 2) (q_ix hu (qv 1) ao)) (qv 0)))))
   (au (aU (q_if (bz (kEq (K:=K) hu) cL (q_ix hu (qv 2) ao) cW (nomark _)) (bC kAny zO rfl T.n_any zL (qv 4)) (bC kAll oO rfl T.n_all pG (qv 4)))))))))
theorem pY {f:Addr} {fd:FuncData} (F:Fun K "row_holds" "row_holds" aO f fd) (T:Txt K mg)  : FnOk P w K mg base CX0 1 f fd ["ways", "truths", "row", "state"] (ak K bU) :=
 FunQ.ok F iV mJ (rJ T ) qX
theorem eU:FnScope ["truth"] ["truth"] (defScope aG):=⟨rfl,rfl,rfl,by decide +kernel,rfl,by decide +kernel,by decide +kernel⟩
theorem k_ {f:Addr} (T:Txt K mg)  (cdv:Value) (A:Around) (outer:List PySem.Env) (s:Shared) (H:Hp) (E:XK) (hr:Room 0 (A.deeper (envOfC "states_where" (defScope aG) s.heap.objs.size f cdv))) :
  QSs (cxOf CX0 P w K mg base ["truth"] "states_where" (defScope aG) f cdv A outer s H E).nox K L0 (defBody aG) dI :=
 have nd:=eU.nd
 have hu:(A.deeper (envOfC "states_where" (defScope aG) s.heap.objs.size f cdv)).units+64<cLine:=hr.units
 (au (aU (dR (tn:=["state", "held"]) (cn:=[]) (ix:=[]) rfl (wj T.n_enumerate (qv 0)) (bY.of (sc:=defScope aG) (N:=["truth"]) rfl rfl (by decide +kernel)) (fun _ _ _ _=>(sX rfl (cQ (aH (i:=0) (show (["state", "held"]:List Str).Nodup by decide +kernel) rfl (Or.inl rfl) (.inr rfl)) (cQ (aH (i:=1) (show (["state", "held"]:List Str).Nodup by decide +kernel) rfl (Or.inl rfl) (.inr rfl)) nq)))) (fun _ _ _ _=>(qJ (Aq (qv 1)))) (fun _ _ _ _=>(qv 0)))))
theorem jG {f:Addr} {fd:FuncData} (F:Fun K "states_where" "states_where" aG f fd) (T:Txt K mg)  : FnOk P w K mg base CX0 1 f fd ["truth"] (ak K bf) :=
 FunQ.ok F eU jh (k_ T ) lF
theorem fH:FnScope ["_law_script", "_law_k"] ["_law_script", "_law_k"] (defScope aL):=⟨rfl,rfl,rfl,by decide +kernel,rfl,by decide +kernel,by decide +kernel⟩
theorem lD {f:Addr} (T:Txt K mg)  (cdv:Value) (A:Around) (outer:List PySem.Env) (s:Shared) (H:Hp) (E:XK) (hr:Room 0 (A.deeper (envOfC "_law_cell_at" (defScope aL) s.heap.objs.size f cdv))) :
  QSs (cxOf CX0 P w K mg base ["_law_script", "_law_k"] "_law_cell_at" (defScope aL) f cdv A outer s H E).nox K L0 (defBody aL) dC :=
 have nd:=fH.nd
 have hu:(A.deeper (envOfC "_law_cell_at" (defScope aL) s.heap.objs.size f cdv)).units+64<cLine:=hr.units
 (aj (cX (bz p8 vQ (qv 1) (bC aV dh rfl T.n_len dw (qv 0)) (nomark _))
   (au (aU (q_ix hu (qv 0) (qv 1))))
   aW)
   (au (aU ao)))
theorem jw {f:Addr} {fd:FuncData} (F:Fun K "_law_cell_at" "_law_cell_at" aL f fd) (T:Txt K mg)  : FnOk P w K mg base CX0 1 f fd ["_law_script", "_law_k"] (ak K aA) :=
 FunQ.ok F fH je (lD T ) lz
theorem gJ:FnScope ["_law_cell", "_law_turn", "_law_letters", "_law_size", "_law_places", "_law_k", "_law_word", "_law_at", "_law_found", "_law_sign"] ["_law_cell", "_law_turn"] (defScope aN):=⟨rfl,rfl,rfl,by decide +kernel,rfl,by decide +kernel,by decide +kernel⟩
theorem oN {f:Addr} (T:Txt K mg)  (cdv:Value) (A:Around) (outer:List PySem.Env) (s:Shared) (H:Hp) (E:XK) (hr:Room 0 (A.deeper (envOfC "_law_deeds" (defScope aN) s.heap.objs.size f cdv))) :
  QSs (cxOf CX0 P w K mg base ["_law_cell", "_law_turn", "_law_letters", "_law_size", "_law_places", "_law_k", "_law_word", "_law_at", "_law_found", "_law_sign"] "_law_deeds" (defScope aN) f cdv A outer s H E).nox K L0 (defBody aN) eY :=
 have nd:=gJ.nd
 have hu:(A.deeper (envOfC "_law_deeds" (defScope aN) s.heap.objs.size f cdv)).units+64<cLine:=hr.units
 (aj (aF (i:=2) nd rfl (Or.inr rfl) cW)
   (aj (aF (i:=3) nd rfl (Or.inl rfl) (dH ao (cI (qv 0) ao)))
   (aj (aF (i:=0) nd rfl (Or.inl rfl) (h_ (qv 0) ao))
   (aj (aF (i:=4) nd rfl (Or.inl rfl) (c7 az))
   (aj (fX PassesOwn.never rfl (eX T.n_range (qv 3)) (aH (i:=5) nd rfl (Or.inl rfl))
   (aj (iC (fD (pv 4)) (cI (qv 0) ao))
   (au (aF (i:=0) nd rfl (Or.inl rfl) (h_ (qv 0) ao)))))
   (aj (aF (i:=6) nd rfl (Or.inr rfl) (Df cW (dR (tn:=["_law_k"]) (cn:=["_law_letters"]) (ix:=[2]) rfl (il (qv 4)) (bY.of (sc:=defScope aN) (N:=["_law_cell", "_law_turn", "_law_letters", "_law_size", "_law_places", "_law_k", "_law_word", "_law_at", "_law_found", "_law_sign"]) rfl rfl (by decide +kernel)) (fun _ _ _ _=>(aH (i:=0) (show (["_law_k", "_law_letters"]:List Str).Nodup by decide +kernel) rfl (Or.inl rfl) (.inr rfl))) (fun _ _ _ _=>cU) (fun _ _ _ _=>(q_ix hu (qv 1) (qv 0))))))
   (aj (cX (bz (kEq (K:=K) hu) cL (cI (h_ (qv 1) ao) ao) ao (nomark _))
   (au (aU (dR (tn:=["_law_k"]) (cn:=["_law_word"]) (ix:=[6]) rfl (uo (Cm T.n_range ao ao)) (bY.of (sc:=defScope aN) (N:=["_law_cell", "_law_turn", "_law_letters", "_law_size", "_law_places", "_law_k", "_law_word", "_law_at", "_law_found", "_law_sign"]) rfl rfl (by decide +kernel)) (fun _ _ _ _=>(aH (i:=0) (show (["_law_k", "_law_word"]:List Str).Nodup by decide +kernel) rfl (Or.inl rfl) (.inr rfl))) (fun _ _ _ _=>cU) (fun _ _ _ _=>(gm (Dv ao (qv 1)) nY (dN (qv 0)))))))
   aW)
   (aj (aF (i:=7) nd rfl (Or.inl rfl) (cI (qv 1) (qv 3)))
   (aj (aF (i:=8) nd rfl (Or.inl rfl) (c7 az))
   (aj (fX PassesOwn.never rfl (eX T.n_range ao) (aH (i:=5) nd rfl (Or.inl rfl))
   (aj (aF (i:=9) nd rfl (Or.inl rfl) (q_ix hu (qv 2) (cI (dH (q_ix hu (qv 4) (qv 7)) (lr ao (qv 5))) ao)))
   (au (iC (fD (pv 8)) (dH (dH (gm (qv 6) nY (dN (qv 7))) (qv 9)) (gm (qv 6) (dN (dH (qv 7) ao)) nY))))))
   (au (jV (pv 8)))))))))))))
theorem nJ {f:Addr} {fd:FuncData} (F:Fun K "_law_deeds" "_law_deeds" aN f fd) (T:Txt K mg)  : FnOk P w K mg base CX0 1 f fd ["_law_cell", "_law_turn"] (ak K bL) :=
 FunQ.ok F gJ lg (oN T ) pX
theorem gD:FnScope ["_law_cells", "_law_many", "_law_deeds_here", "_law_found", "_law_k", "_law_number", "_law_deed"] ["_law_cells", "_law_many", "_law_deeds_here"] (defScope aY):=⟨rfl,rfl,rfl,by decide +kernel,rfl,by decide +kernel,by decide +kernel⟩
theorem oZ {f:Addr} (T:Txt K mg)  (cdv:Value) (A:Around) (outer:List PySem.Env) (s:Shared) (H:Hp) (E:XK) (hr:Room 0 (A.deeper (envOfC "_law_steps" (defScope aY) s.heap.objs.size f cdv))) :
  QSs (cxOf CX0 P w K mg base ["_law_cells", "_law_many", "_law_deeds_here", "_law_found", "_law_k", "_law_number", "_law_deed"] "_law_steps" (defScope aY) f cdv A outer s H E).nox K L0 (defBody aY) eZ :=
 have nd:=gD.nd
 have hu:(A.deeper (envOfC "_law_steps" (defScope aY) s.heap.objs.size f cdv)).units+64<cLine:=hr.units
 (aj (aF (i:=3) nd rfl (Or.inl rfl) (c7 az))
   (aj (fX PassesOwn.never rfl (eX T.n_range (bC aV dh rfl T.n_len dw (qv 0))) (aH (i:=4) nd rfl (Or.inl rfl))
   (aj (aF (i:=5) nd rfl (Or.inl rfl) (cI (lr (dH (cI (q_ix hu (qv 0) (qv 4)) ao) ao) (dH ao (lr ao (qv 4)))) ao))
   (aj (aF (i:=6) nd rfl (Or.inl rfl) (q_ix hu (qv 2) (cI (h_ (qv 5) (qv 1)) (bC aV dh rfl T.n_len dw (qv 2)))))
   (au (dq 6 (iC (fD (pv 3)) (jc (aa (cI (qv 5) (qv 1)) (aa (qv 6) (aa (cI (h_ (qv 5) (lr (qv 1) (bC aV dh rfl T.n_len dw (qv 2)))) (qv 1)) az))))))))))
   (au (jV (pv 3)))))
theorem oA {f:Addr} {fd:FuncData} (F:Fun K "_law_steps" "_law_steps" aY f fd) (T:Txt K mg)  : FnOk P w K mg base CX0 1 f fd ["_law_cells", "_law_many", "_law_deeds_here"] (ak K aP) :=
 FunQ.ok F gD kW (oZ T ) pZ
theorem jB:FnScope ["_law_cell", "_law_k", "_law_names", "_law_number", "_law_more", "_law_j", "_law_way", "_law_parts", "_law_i"] ["_law_cell", "_law_k", "_law_names"] (defScope bM):=⟨rfl,rfl,rfl,by decide +kernel,rfl,by decide +kernel,by decide +kernel⟩
theorem uW {f:Addr} (T:Txt K mg)  (cdv:Value) (A:Around) (outer:List PySem.Env) (s:Shared) (H:Hp) (E:XK) (hr:Room 0 (A.deeper (envOfC "_law_row" (defScope bM) s.heap.objs.size f cdv))) :
  QSs (cxOf CX0 P w K mg base ["_law_cell", "_law_k", "_law_names", "_law_number", "_law_more", "_law_j", "_law_way", "_law_parts", "_law_i"] "_law_row" (defScope bM) f cdv A outer s H E).nox K L0 (defBody bM) gZ :=
 have nd:=jB.nd
 have hu:(A.deeper (envOfC "_law_row" (defScope bM) s.heap.objs.size f cdv)).units+64<cLine:=hr.units
 (aj (aF (i:=3) nd rfl (Or.inl rfl) (cI (lr (dH (cI (qv 0) ao) ao) (dH ao (lr ao (qv 1)))) ao))
   (aj (aF (i:=4) nd rfl (Or.inl rfl) (cI (lr (qv 3) ao) ao))
   (aj (cX (bz (kEq (K:=K) hu) cL (qv 1) ao (nomark _))
   (au (aU (q_ix hu (c7 (aa (jc (aa cW (aa (jc az) az))) (aa (jc (aa cW (aa (jc az) az))) az))) (cI (qv 3) ao))))
   aW)
   (aj (aF (i:=5) nd rfl (Or.inl rfl) (cI (qv 4) (qv 1)))
   (aj (cX (bz (kEq (K:=K) hu) cL (cI (h_ (qv 3) ao) ao) ao (nomark _))
   (au (aF (i:=5) nd rfl (Or.inl rfl) (yJ (yJ (qv 1) ao) (cI (qv 4) (vB zG wF rfl T.n_min zq (qv 1) ao)))))
   aW)
   (aj (aF (i:=6) nd rfl (Or.inl rfl) (cI (qv 3) ao))
   (aj (cX (bz p8 vQ (qv 6) ao (nomark _))
   (au (rC (qm_e (q_ix hu (c7 (aa cW (aa cW az))) (h_ (qv 6) ao)) (qm_e (q_ix hu (qv 2) (cI (h_ (qv 3) ao) (bC aV dh rfl T.n_len dw (qv 2)))) (qm_v (pv 5) wL)))))
   aW)
   (aj (cX (bz (kEq (K:=K) hu) cL (qv 6) ao (nomark _))
   (au (rC (qm_e cW (qm_v (pv 5) wL))))
   aW)
   (aj (aF (i:=7) nd rfl (Or.inl rfl) (c7 az))
   (aj (fX PassesOwn.never rfl (eX T.n_range (cI (h_ (qv 3) ao) ao)) (aH (i:=8) nd rfl (Or.inl rfl))
   (aj (dq 5 (iC (fD (pv 7)) (qv 5)))
   (au (aF (i:=5) nd rfl (Or.inl rfl) (cI (dH (lr ao (qv 5)) (h_ (qv 4) (dH (qv 8) ao))) (qv 1))))))
   (au (aU (jc (aa (q_ix hu (c7 (aa cW (aa cW az))) (yJ (qv 6) ao)) (aa (gY Eh ye rfl T.n_tuple mF (qv 7)) az)))))))))))))))
theorem qP {f:Addr} {fd:FuncData} (F:Fun K "_law_row" "_law_row" bM f fd) (T:Txt K mg)  : FnOk P w K mg base CX0 1 f fd ["_law_cell", "_law_k", "_law_names"] (ak K cH) :=
 FunQ.ok F jB pO (uW T ) uq
theorem iU:FnScope ["_law_m", "_law_start", "_law_depth", "_law_near_here", "_law_ring", "_law_k"] ["_law_m", "_law_start", "_law_depth"] (defScope bc):=⟨rfl,rfl,rfl,by decide +kernel,rfl,by decide +kernel,by decide +kernel⟩
theorem q_ {f:Addr} (T:Txt K mg)  (cdv:Value) (A:Around) (outer:List PySem.Env) (s:Shared) (H:Hp) (E:XK) (hr:Room 0 (A.deeper (envOfC "_law_near" (defScope bc) s.heap.objs.size f cdv))) :
  QSs (cxOf CX0 P w K mg base ["_law_m", "_law_start", "_law_depth", "_law_near_here", "_law_ring", "_law_k"] "_law_near" (defScope bc) f cdv A outer s H E).nox K L0 (defBody bc) gj :=
 have nd:=iU.nd
 have hu:(A.deeper (envOfC "_law_near" (defScope bc) s.heap.objs.size f cdv)).units+64<cLine:=hr.units
 (aj (aF (i:=3) nd rfl (Or.inr rfl) (c7 az))
   (aj (dq 1 (aF (i:=4) nd rfl (Or.inr rfl) (c7 (aa (qv 1) az))))
   (aj (fX PassesOwn.never rfl (eX T.n_range (vB zG wF rfl T.n_min zq (qv 2) (q_ix hu (qv 0) ao))) (aH (i:=5) nd rfl (Or.inl rfl))
   (aj (aF (i:=3) nd rfl (Or.inr rfl) (dH (qv 3) (qv 4)))
   (au (aF (i:=4) nd rfl (Or.inr rfl) (uw rfl T.n_sorted rfl T.n_set (dR (tn:=["_law_p", "_law_deed", "_law_q"]) (cn:=["_law_near_here", "_law_ring"]) (ix:=[3,4]) rfl (il (q_ix hu (qv 0) ao)) (bY.of (sc:=defScope bc) (N:=["_law_m", "_law_start", "_law_depth", "_law_near_here", "_law_ring", "_law_k"]) rfl rfl (by decide +kernel)) (fun _ _ _ _=>(sX rfl (cQ (aH (i:=0) (show (["_law_p", "_law_deed", "_law_q", "_law_near_here", "_law_ring"]:List Str).Nodup by decide +kernel) rfl (Or.inl rfl) (.inr rfl)) (cQ (aH (i:=1) (show (["_law_p", "_law_deed", "_law_q", "_law_near_here", "_law_ring"]:List Str).Nodup by decide +kernel) rfl (Or.inl rfl) (.inr rfl)) (cQ (aH (i:=2) (show (["_law_p", "_law_deed", "_law_q", "_law_near_here", "_law_ring"]:List Str).Nodup by decide +kernel) rfl (Or.inl rfl) (.inr rfl)) nq))))) (fun _ _ _ _=>(qJ (qt_w (Ed (bz (kIn (K:=K) hu) uM (qv 0) (qv 4) (by rfl)) (z6 (bz (zz (K:=K) hu) uM (qv 2) (qv 3) (by rfl))))))) (fun _ _ _ _=>(qv 2))))))))
   (au (jV (pv 3))))))
theorem oU {f:Addr} {fd:FuncData} (F:Fun K "_law_near" "_law_near" bc f fd) (T:Txt K mg)  : FnOk P w K mg base CX0 1 f fd ["_law_m", "_law_start", "_law_depth"] (ak K b7) :=
 FunQ.ok F iU oF (q_ T ) qK
theorem mC:FnScope ["thing"] ["thing"] (defScope cu):=⟨rfl,rfl,rfl,by decide +kernel,rfl,by decide +kernel,by decide +kernel⟩
theorem wy {f:Addr} (T:Txt K mg) (c_is_open:Cal P w K mg base 1 "is_open" ["thing"] (ak K cO)) (cdv:Value) (A:Around) (outer:List PySem.Env) (s:Shared) (H:Hp) (E:XK) (hr:Room 1 (A.deeper (envOfC "is_deed" (defScope cu) s.heap.objs.size f cdv))) :
  QSs (cxOf CX0 P w K mg base ["thing"] "is_deed" (defScope cu) f cdv A outer s H E).nox K L0 (defBody cu) jH :=
 have nd:=mC.nd
 have hu:(A.deeper (envOfC "is_deed" (defScope cu) s.heap.objs.size f cdv)).units+64<cLine:=hr.units
 (au (aU (q_or (bR c_is_open (hr.mono (by decide)) (aa (qv 0) az)) (pF (m8 (i_ T.n_isinstance (qv 0) (iY T.n_str wV)) (pF (mQ (kEq (K:=K) hu) cL (qv 0) (q_gs T.g_HIDDEN) (nomark _))))))))
theorem uV {f:Addr} {fd:FuncData} (F:Fun K "is_deed" "is_deed" cu f fd) (T:Txt K mg) (c_is_open:Cal P w K mg base 1 "is_open" ["thing"] (ak K cO)):FnOk P w K mg base CX0 2 f fd ["thing"] (ak K cN) :=
 FunQ.ok F mC qQ (wy T c_is_open) wI
theorem jL:FnScope ["k", "thing"] ["k", "thing"] (defScope bO):=⟨rfl,rfl,rfl,by decide +kernel,rfl,by decide +kernel,by decide +kernel⟩
theorem uB {f:Addr} (T:Txt K mg) (c_is_whole:Cal P w K mg base 1 "is_whole" ["thing"] (ak K cD)) (cdv:Value) (A:Around) (outer:List PySem.Env) (s:Shared) (H:Hp) (E:XK) (hr:Room 1 (A.deeper (envOfC "is_ahead" (defScope bO) s.heap.objs.size f cdv))) :
  QSs (cxOf CX0 P w K mg base ["k", "thing"] "is_ahead" (defScope bO) f cdv A outer s H E).nox K L0 (defBody bO) iy :=
 have nd:=jL.nd
 have hu:(A.deeper (envOfC "is_ahead" (defScope bO) s.heap.objs.size f cdv)).units+64<cLine:=hr.units
 (au (aU (m8 (bR c_is_whole (hr.mono (by decide)) (aa (qv 1) az)) (pF (Bb lQ p8 uR vQ ao (qv 1) (qv 0))))))
theorem qG {f:Addr} {fd:FuncData} (F:Fun K "is_ahead" "is_ahead" bO f fd) (T:Txt K mg) (c_is_whole:Cal P w K mg base 1 "is_whole" ["thing"] (ak K cD)):FnOk P w K mg base CX0 2 f fd ["k", "thing"] (ak K a_) :=
 FunQ.ok F jL pH (uB T c_is_whole) uC
theorem iR:FnScope ["m", "scroll", "ways", "truths", "row"] ["m", "scroll"] (defScope bx):=⟨rfl,rfl,rfl,by decide +kernel,rfl,by decide +kernel,by decide +kernel⟩
theorem rH {f:Addr} (T:Txt K mg) (c_ways_of:Cal P w K mg base 1 "ways_of" ["m"] (ak K cP)) (c_row_holds:Cal P w K mg base 1 "row_holds" ["ways", "truths", "row", "state"] (ak K bU)) (cdv:Value) (A:Around) (outer:List PySem.Env) (s:Shared) (H:Hp) (E:XK) (hr:Room 1 (A.deeper (envOfC "truths_of" (defScope bx) s.heap.objs.size f cdv))) :
  QSs (cxOf CX0 P w K mg base ["m", "scroll", "ways", "truths", "row"] "truths_of" (defScope bx) f cdv A outer s H E).nox K L0 (defBody bx) gb :=
 have nd:=iR.nd
 have hu:(A.deeper (envOfC "truths_of" (defScope bx) s.heap.objs.size f cdv)).units+64<cLine:=hr.units
 (aj (aF (i:=2) nd rfl (Or.inr rfl) (bR c_ways_of (hr.mono (by decide)) (aa (qv 0) az)))
   (aj (aF (i:=3) nd rfl (Or.inr rfl) (c7 az))
   (aj (dq 1 (fX PassesOwn.never rfl (nR (qv 1)) (aH (i:=4) nd rfl (Or.inr rfl))
   (au (iC (fD (pv 3)) (dR (tn:=["state"]) (cn:=["row", "truths", "ways"]) (ix:=[4,3,2]) rfl (uo (eX T.n_range (q_ix hu (qv 0) ao))) (bY.of (sc:=defScope bx) (N:=["m", "scroll", "ways", "truths", "row"]) rfl rfl (by decide +kernel)) (fun _ _ _ _=>(aH (i:=0) (show (["state", "row", "truths", "ways"]:List Str).Nodup by decide +kernel) rfl (Or.inl rfl) (.inr rfl))) (fun _ _ _ _=>cU) (fun _ _ _ _=>(bR c_row_holds (hr.mono (by decide)) (aa (qv 3) (aa (qv 2) (aa (qv 1) (aa (qv 0) az)))))))))))
   (au (jV (pv 3))))))
theorem pM {f:Addr} {fd:FuncData} (F:Fun K "truths_of" "truths_of" bx f fd) (T:Txt K mg) (c_ways_of:Cal P w K mg base 1 "ways_of" ["m"] (ak K cP)) (c_row_holds:Cal P w K mg base 1 "row_holds" ["ways", "truths", "row", "state"] (ak K bU)):FnOk P w K mg base CX0 2 f fd ["m", "scroll"] (ak K aX) :=
 FunQ.ok F iR nQ (rH T c_ways_of c_row_holds) ql
theorem fZ:FnScope ["_law_cells", "_law_names"] ["_law_cells", "_law_names"] (defScope aM):=⟨rfl,rfl,rfl,by decide +kernel,rfl,by decide +kernel,by decide +kernel⟩
theorem mL {f:Addr} (T:Txt K mg) (c__law_row:Cal P w K mg base 1 "_law_row" ["_law_cell", "_law_k", "_law_names"] (ak K cH)) (cdv:Value) (A:Around) (outer:List PySem.Env) (s:Shared) (H:Hp) (E:XK) (hr:Room 1 (A.deeper (envOfC "_law_scroll" (defScope aM) s.heap.objs.size f cdv))) :
  QSs (cxOf CX0 P w K mg base ["_law_cells", "_law_names"] "_law_scroll" (defScope aM) f cdv A outer s H E).nox K L0 (defBody aM) d9 :=
 have nd:=fZ.nd
 have hu:(A.deeper (envOfC "_law_scroll" (defScope aM) s.heap.objs.size f cdv)).units+64<cLine:=hr.units
 (au (aU (dR (tn:=["_law_k"]) (cn:=["_law_cells", "_law_names"]) (ix:=[0,1]) rfl (uo (eX T.n_range (bC aV dh rfl T.n_len dw (qv 0)))) (bY.of (sc:=defScope aM) (N:=["_law_cells", "_law_names"]) rfl rfl (by decide +kernel)) (fun _ _ _ _=>(aH (i:=0) (show (["_law_k", "_law_cells", "_law_names"]:List Str).Nodup by decide +kernel) rfl (Or.inl rfl) (.inr rfl))) (fun _ _ _ _=>cU) (fun _ _ _ _=>(bR c__law_row (hr.mono (by decide)) (aa (q_ix hu (qv 1) (qv 0)) (aa (qv 0) (aa (qv 2) az))))))))
theorem lB {f:Addr} {fd:FuncData} (F:Fun K "_law_scroll" "_law_scroll" aM f fd) (T:Txt K mg) (c__law_row:Cal P w K mg base 1 "_law_row" ["_law_cell", "_law_k", "_law_names"] (ak K cH)):FnOk P w K mg base CX0 2 f fd ["_law_cells", "_law_names"] (ak K bD) :=
 FunQ.ok F fZ jZ (mL T c__law_row) mY
theorem fj:FnScope ["_law_script", "_law_names", "_law_first", "_law_many", "_law_steps_here", "_law_k"] ["_law_script", "_law_names"] (defScope aJ):=⟨rfl,rfl,rfl,by decide +kernel,rfl,by decide +kernel,by decide +kernel⟩
theorem lA {f:Addr} (T:Txt K mg) (c__law_cell_at:Cal P w K mg base 1 "_law_cell_at" ["_law_script", "_law_k"] (ak K aA)) (c__law_steps:Cal P w K mg base 1 "_law_steps" ["_law_cells", "_law_many", "_law_deeds_here"] (ak K aP)) (cdv:Value) (A:Around) (outer:List PySem.Env) (s:Shared) (H:Hp) (E:XK) (hr:Room 1 (A.deeper (envOfC "_law_machine" (defScope aJ) s.heap.objs.size f cdv))) :
  QSs (cxOf CX0 P w K mg base ["_law_script", "_law_names", "_law_first", "_law_many", "_law_steps_here", "_law_k"] "_law_machine" (defScope aJ) f cdv A outer s H E).nox K L0 (defBody aJ) dD :=
 have nd:=fj.nd
 have hu:(A.deeper (envOfC "_law_machine" (defScope aJ) s.heap.objs.size f cdv)).units+64<cLine:=hr.units
 (aj (aF (i:=2) nd rfl (Or.inl rfl) (bR c__law_cell_at (hr.mono (by decide)) (aa (qv 0) (aa ao az))))
   (aj (aF (i:=3) nd rfl (Or.inl rfl) (dH ao (cI (qv 2) (q_ix hu (c7 (aa ao (aa ao (aa ao az)))) (cI (h_ (qv 2) ao) ao)))))
   (aj (aF (i:=4) nd rfl (Or.inl rfl) (bR c__law_steps (hr.mono (by decide)) (aa (gm (qv 0) (dN ao) (dN ao)) (aa (qv 3) (aa (qv 1) az)))))
   (aj (cX (bz (kEq (K:=K) hu) cL (cI (h_ (qv 2) ao) ao) ao (nomark _))
   (au (fX PassesOwn.never rfl (eX T.n_range (yJ (qv 3) ao)) (aH (i:=5) nd rfl (Or.inl rfl))
   (au (dq 5 (iC (fD (pv 4)) (jc (aa (qv 5) (aa (q_ix hu (qv 1) (cI (cI (lr (lr (dH (cI (h_ (qv 2) ao) ao) ao) (dH (qv 5) ao)) ao) ao) (bC aV dh rfl T.n_len dw (qv 1)))) (aa (dH (qv 5) ao) az)))))))))
   aW)
   (au (rC (qm_v (pv 3) (qm_e (lO hu rfl T.n_sorted rfl T.n_set (qv 4)) wL))))))))
theorem jx {f:Addr} {fd:FuncData} (F:Fun K "_law_machine" "_law_machine" aJ f fd) (T:Txt K mg) (c__law_cell_at:Cal P w K mg base 1 "_law_cell_at" ["_law_script", "_law_k"] (ak K aA)) (c__law_steps:Cal P w K mg base 1 "_law_steps" ["_law_cells", "_law_many", "_law_deeds_here"] (ak K aP)):FnOk P w K mg base CX0 2 f fd ["_law_script", "_law_names"] (ak K bh) :=
 FunQ.ok F fj jg (lA T c__law_cell_at c__law_steps) kJ
theorem iW:FnScope ["k", "thing"] ["k", "thing"] (defScope bj):=⟨rfl,rfl,rfl,by decide +kernel,rfl,by decide +kernel,by decide +kernel⟩
theorem qC {f:Addr} (T:Txt K mg) (c_is_ahead:Cal P w K mg base 2 "is_ahead" ["k", "thing"] (ak K a_)) (cdv:Value) (A:Around) (outer:List PySem.Env) (s:Shared) (H:Hp) (E:XK) (hr:Room 2 (A.deeper (envOfC "are_parts" (defScope bj) s.heap.objs.size f cdv))) :
  QSs (cxOf CX0 P w K mg base ["k", "thing"] "are_parts" (defScope bj) f cdv A outer s H E).nox K L0 (defBody bj) gh :=
 have nd:=iW.nd
 have hu:(A.deeper (envOfC "are_parts" (defScope bj) s.heap.objs.size f cdv)).units+64<cLine:=hr.units
 (aj (cX (qt_w (gP (eF (fY (i_ T.n_isinstance (qv 1) (iY T.n_tuple mF)))) (fW (bz Ej Gb (bC aV dh rfl T.n_len dw (qv 1)) (q_gi T.g_MOST_PARTS) (nomark _)))))
   (au (aU q_bl))
   aW)
   (au (aU (bC kAll oO rfl T.n_all pG (dR (tn:=["part"]) (cn:=["k"]) (ix:=[0]) rfl (v_ (qv 1)) (bY.of (sc:=defScope bj) (N:=["k", "thing"]) rfl rfl (by decide +kernel)) (fun _ _ _ _=>(aH (i:=0) (show (["part", "k"]:List Str).Nodup by decide +kernel) rfl (Or.inl rfl) (.inr rfl))) (fun _ _ _ _=>cU) (fun _ _ _ _=>(bR c_is_ahead (hr.mono (by decide)) (aa (qv 1) (aa (qv 0) az)))))))))
theorem pP {f:Addr} {fd:FuncData} (F:Fun K "are_parts" "are_parts" bj f fd) (T:Txt K mg) (c_is_ahead:Cal P w K mg base 2 "is_ahead" ["k", "thing"] (ak K a_)):FnOk P w K mg base CX0 3 f fd ["k", "thing"] (ak K bV) :=
 FunQ.ok F iW m_ (qC T c_is_ahead) qF
theorem pq:FnScope ["k", "thing"] ["k", "thing"] (defScope cR):=⟨rfl,rfl,rfl,by decide +kernel,rfl,by decide +kernel,by decide +kernel⟩
theorem yW {f:Addr} (T:Txt K mg) (c_is_deed:Cal P w K mg base 2 "is_deed" ["thing"] (ak K cN)) (c_is_ahead:Cal P w K mg base 2 "is_ahead" ["k", "thing"] (ak K a_)) (c_are_parts:Cal P w K mg base 3 "are_parts" ["k", "thing"] (ak K bV)) (cdv:Value) (A:Around) (outer:List PySem.Env) (s:Shared) (H:Hp) (E:XK) (hr:Room 3 (A.deeper (envOfC "is_row" (defScope cR) s.heap.objs.size f cdv))) :
  QSs (cxOf CX0 P w K mg base ["k", "thing"] "is_row" (defScope cR) f cdv A outer s H E).nox K L0 (defBody cR) m9 :=
 have nd:=pq.nd
 have hu:(A.deeper (envOfC "is_row" (defScope cR) s.heap.objs.size f cdv)).units+64<cLine:=hr.units
 (aj (cX (qt_w (gP (eF (fY (i_ T.n_isinstance (qv 1) (iY T.n_tuple mF)))) (gP (bz (kEq (K:=K) hu) cL (bC aV dh rfl T.n_len dw (qv 1)) ao (nomark _)) (fW (eF (fY (i_ T.n_isinstance (q_ix hu (qv 1) ao) (iY T.n_str wV))))))))
   (au (aU q_bl))
   aW)
   (aj (cX (qt_w (gP (bz (kEq (K:=K) hu) cL (q_ix hu (qv 1) ao) cW (nomark _)) (fW (bz (kEq (K:=K) hu) cL (q_ix hu (qv 1) ao) cW (nomark _)))))
   (au (aU (m8 (mQ (kEq (K:=K) hu) cL (bC aV dh rfl T.n_len dw (qv 1)) ao (nomark _)) (m8 (bR c_is_deed (hr.mono (by decide)) (aa (q_ix hu (qv 1) ao) az)) (pF (bR c_is_ahead (hr.mono (by decide)) (aa (qv 0) (aa (q_ix hu (qv 1) ao) az))))))))
   aW)
   (aj (cX (bz (kEq (K:=K) hu) cL (q_ix hu (qv 1) ao) cW (nomark _))
   (au (aU (m8 (mQ (kEq (K:=K) hu) cL (bC aV dh rfl T.n_len dw (qv 1)) ao (nomark _)) (pF (bR c_is_ahead (hr.mono (by decide)) (aa (qv 0) (aa (q_ix hu (qv 1) ao) az)))))))
   aW)
   (aj (cX (qt_w (gP (bz (kEq (K:=K) hu) cL (q_ix hu (qv 1) ao) cW (nomark _)) (fW (bz (kEq (K:=K) hu) cL (q_ix hu (qv 1) ao) cW (nomark _)))))
   (au (aU (m8 (mQ (kEq (K:=K) hu) cL (bC aV dh rfl T.n_len dw (qv 1)) ao (nomark _)) (pF (bR c_are_parts (hr.mono (by decide)) (aa (qv 0) (aa (q_ix hu (qv 1) ao) az)))))))
   aW)
   (au (aU q_bl))))))
theorem xH {f:Addr} {fd:FuncData} (F:Fun K "is_row" "is_row" cR f fd) (T:Txt K mg) (c_is_deed:Cal P w K mg base 2 "is_deed" ["thing"] (ak K cN)) (c_is_ahead:Cal P w K mg base 2 "is_ahead" ["k", "thing"] (ak K a_)) (c_are_parts:Cal P w K mg base 3 "are_parts" ["k", "thing"] (ak K bV)):FnOk P w K mg base CX0 4 f fd ["k", "thing"] (ak K cY) :=
 FunQ.ok F pq ux (yW T c_is_deed c_is_ahead c_are_parts) yu
theorem iD:FnScope ["thing"] ["thing"] (defScope bu):=⟨rfl,rfl,rfl,by decide +kernel,rfl,by decide +kernel,by decide +kernel⟩
theorem qp {f:Addr} (T:Txt K mg) (c_is_row:Cal P w K mg base 4 "is_row" ["k", "thing"] (ak K cY)) (cdv:Value) (A:Around) (outer:List PySem.Env) (s:Shared) (H:Hp) (E:XK) (hr:Room 4 (A.deeper (envOfC "is_scroll" (defScope bu) s.heap.objs.size f cdv))) :
  QSs (cxOf CX0 P w K mg base ["thing"] "is_scroll" (defScope bu) f cdv A outer s H E).nox K L0 (defBody bu) gn :=
 have nd:=iD.nd
 have hu:(A.deeper (envOfC "is_scroll" (defScope bu) s.heap.objs.size f cdv)).units+64<cLine:=hr.units
 (aj (cX (qt_w (gP (eF (fY (i_ T.n_isinstance (qv 0) (iY T.n_list j7)))) (fW (eF (mV lQ lQ uR uR ao (bC aV dh rfl T.n_len dw (qv 0)) (q_gi T.g_MOST_ROWS))))))
   (au (aU q_bl))
   aW)
   (au (aU (bC kAll oO rfl T.n_all pG (dR (tn:=["k", "row"]) (cn:=[]) (ix:=[]) rfl (wj T.n_enumerate (qv 0)) (bY.of (sc:=defScope bu) (N:=["thing"]) rfl rfl (by decide +kernel)) (fun _ _ _ _=>(sX rfl (cQ (aH (i:=0) (show (["k", "row"]:List Str).Nodup by decide +kernel) rfl (Or.inl rfl) (.inr rfl)) (cQ (aH (i:=1) (show (["k", "row"]:List Str).Nodup by decide +kernel) rfl (Or.inl rfl) (.inr rfl)) nq)))) (fun _ _ _ _=>cU) (fun _ _ _ _=>(bR c_is_row (hr.mono (by decide)) (aa (qv 0) (aa (qv 1) az)))))))))
theorem pB {f:Addr} {fd:FuncData} (F:Fun K "is_scroll" "is_scroll" bu f fd) (T:Txt K mg) (c_is_row:Cal P w K mg base 4 "is_row" ["k", "thing"] (ak K cY)):FnOk P w K mg base CX0 5 f fd ["thing"] (ak K b_) :=
 FunQ.ok F iD nU (qp T c_is_row) qR
theorem fC:FnScope ["thing"] ["thing"] (defScope aK):=⟨rfl,rfl,rfl,by decide +kernel,rfl,by decide +kernel,by decide +kernel⟩
theorem kI {f:Addr} (T:Txt K mg) (c_is_scroll:Cal P w K mg base 5 "is_scroll" ["thing"] (ak K b_)) (cdv:Value) (A:Around) (outer:List PySem.Env) (s:Shared) (H:Hp) (E:XK) (hr:Room 5 (A.deeper (envOfC "check_scroll" (defScope aK) s.heap.objs.size f cdv))) :
  QSs (cxOf CX0 P w K mg base ["thing"] "check_scroll" (defScope aK) f cdv A outer s H E).nox K L0 (defBody aK) dB :=
 have nd:=fC.nd
 have hu:(A.deeper (envOfC "check_scroll" (defScope aK) s.heap.objs.size f cdv)).units+64<cLine:=hr.units
 (au (cX (eF (fY (bR c_is_scroll (hr.mono (by decide)) (aa (qv 0) az))))
   qg
   aW))
theorem j4 {f:Addr} {fd:FuncData} (F:Fun K "check_scroll" "check_scroll" aK f fd) (T:Txt K mg) (c_is_scroll:Cal P w K mg base 5 "is_scroll" ["thing"] (ak K b_)):FnOk P w K mg base CX0 6 f fd ["thing"] (ak K aB) :=
 FunQ.ok F fC jb (kI T c_is_scroll) kZ
theorem lV:FnScope ["m", "scroll"] ["m", "scroll"] (defScope bZ):=⟨rfl,rfl,rfl,by decide +kernel,rfl,by decide +kernel,by decide +kernel⟩
theorem vo {f:Addr} (T:Txt K mg) (c_check_scroll:Cal P w K mg base 6 "check_scroll" ["thing"] (ak K aB)) (c_states_where:Cal P w K mg base 1 "states_where" ["truth"] (ak K bf)) (c_truths_of:Cal P w K mg base 2 "truths_of" ["m", "scroll"] (ak K aX)) (cdv:Value) (A:Around) (outer:List PySem.Env) (s:Shared) (H:Hp) (E:XK) (hr:Room 6 (A.deeper (envOfC "held_at" (defScope bZ) s.heap.objs.size f cdv))) :
  QSs (cxOf CX0 P w K mg base ["m", "scroll"] "held_at" (defScope bZ) f cdv A outer s H E).nox K L0 (defBody bZ) ju :=
 have nd:=lV.nd
 have hu:(A.deeper (envOfC "held_at" (defScope bZ) s.heap.objs.size f cdv)).units+64<cLine:=hr.units
 (aj (mK (bR c_check_scroll (hr.mono (by decide)) (aa (qv 1) az)))
   (au (aU (dR (tn:=["truth"]) (cn:=[]) (ix:=[]) rfl (il (bR c_truths_of (hr.mono (by decide)) (aa (qv 0) (aa (qv 1) az)))) (bY.of (sc:=defScope bZ) (N:=["m", "scroll"]) rfl rfl (by decide +kernel)) (fun _ _ _ _=>(aH (i:=0) (show (["truth"]:List Str).Nodup by decide +kernel) rfl (Or.inl rfl) (.inr rfl))) (fun _ _ _ _=>cU) (fun _ _ _ _=>(bR c_states_where (hr.mono (by decide)) (aa (qv 0) az)))))))
theorem uO {f:Addr} {fd:FuncData} (F:Fun K "held_at" "held_at" bZ f fd) (T:Txt K mg) (c_check_scroll:Cal P w K mg base 6 "check_scroll" ["thing"] (ak K aB)) (c_states_where:Cal P w K mg base 1 "states_where" ["truth"] (ak K bf)) (c_truths_of:Cal P w K mg base 2 "truths_of" ["m", "scroll"] (ak K aX)):FnOk P w K mg base CX0 7 f fd ["m", "scroll"] (ak K cM) :=
 FunQ.ok F lV rM (vo T c_check_scroll c_states_where c_truths_of) wY
theorem ue:FnScope ["m", "scroll", "state"] ["m", "scroll", "state"] (defScope dM):=⟨rfl,rfl,rfl,by decide +kernel,rfl,by decide +kernel,by decide +kernel⟩
theorem Ai {f:Addr} (T:Txt K mg) (c_check_scroll:Cal P w K mg base 6 "check_scroll" ["thing"] (ak K aB)) (c_check_state:Cal P w K mg base 1 "check_state" ["m", "state"] (ak K bB)) (c_truths_of:Cal P w K mg base 2 "truths_of" ["m", "scroll"] (ak K aX)) (cdv:Value) (A:Around) (outer:List PySem.Env) (s:Shared) (H:Hp) (E:XK) (hr:Room 6 (A.deeper (envOfC "holds" (defScope dM) s.heap.objs.size f cdv))) :
  QSs (cxOf CX0 P w K mg base ["m", "scroll", "state"] "holds" (defScope dM) f cdv A outer s H E).nox K L0 (defBody dM) qw :=
 have nd:=ue.nd
 have hu:(A.deeper (envOfC "holds" (defScope dM) s.heap.objs.size f cdv)).units+64<cLine:=hr.units
 (aj (mK (bR c_check_scroll (hr.mono (by decide)) (aa (qv 1) az)))
   (aj (mK (bR c_check_state (hr.mono (by decide)) (aa (qv 0) (aa (qv 2) az))))
   (au (aU (q_ix hu (q_ix hu (bR c_truths_of (hr.mono (by decide)) (aa (qv 0) (aa (qv 1) az))) (Ck ao)) (qv 2))))))
theorem yO {f:Addr} {fd:FuncData} (F:Fun K "holds" "holds" dM f fd) (T:Txt K mg) (c_check_scroll:Cal P w K mg base 6 "check_scroll" ["thing"] (ak K aB)) (c_check_state:Cal P w K mg base 1 "check_state" ["m", "state"] (ak K bB)) (c_truths_of:Cal P w K mg base 2 "truths_of" ["m", "scroll"] (ak K aX)):FnOk P w K mg base CX0 7 f fd ["m", "scroll", "state"] (ak K di) :=
 FunQ.ok F ue u5 (Ai T c_check_scroll c_check_state c_truths_of) Am
theorem j_:FnScope ["scroll", "depths", "row", "deepest"] ["scroll"] (defScope bF):=⟨rfl,rfl,rfl,by decide +kernel,rfl,by decide +kernel,by decide +kernel⟩
theorem uK {f:Addr} (T:Txt K mg) (c_check_scroll:Cal P w K mg base 6 "check_scroll" ["thing"] (ak K aB)) (c_drawn:Cal P w K mg base 1 "drawn" ["row"] (ak K dY)) (cdv:Value) (A:Around) (outer:List PySem.Env) (s:Shared) (H:Hp) (E:XK) (hr:Room 6 (A.deeper (envOfC "depth_of" (defScope bF) s.heap.objs.size f cdv))) :
  QSs (cxOf CX0 P w K mg base ["scroll", "depths", "row", "deepest"] "depth_of" (defScope bF) f cdv A outer s H E).nox K L0 (defBody bF) iw :=
 have nd:=j_.nd
 have hu:(A.deeper (envOfC "depth_of" (defScope bF) s.heap.objs.size f cdv)).units+64<cLine:=hr.units
 (aj (mK (bR c_check_scroll (hr.mono (by decide)) (aa (qv 0) az)))
   (aj (aF (i:=1) nd rfl (Or.inr rfl) (c7 az))
   (aj (dq 0 (fX PassesOwn.never rfl (nR (qv 0)) (aH (i:=2) nd rfl (Or.inl rfl))
   (aj (aF (i:=3) nd rfl (Or.inl rfl) (Ds rfl T.n_max (dR (tn:=["part"]) (cn:=["depths"]) (ix:=[1]) rfl (il (bR c_drawn (hr.mono (by decide)) (aa (qv 2) az))) (bY.of (sc:=defScope bF) (N:=["scroll", "depths", "row", "deepest"]) rfl rfl (by decide +kernel)) (fun _ _ _ _=>(aH (i:=0) (show (["part", "depths"]:List Str).Nodup by decide +kernel) rfl (Or.inl rfl) (.inr rfl))) (fun _ _ _ _=>cU) (fun _ _ _ _=>(q_ix hu (qv 1) (qv 0)))) ao))
   (au (iC (fD (pv 1)) (q_if (qt_w (gP (bz (kEq (K:=K) hu) cL (q_ix hu (qv 2) ao) cW (nomark _)) (fW (bz (kEq (K:=K) hu) cL (q_ix hu (qv 2) ao) cW (nomark _))))) (dH (qv 3) ao) (qv 3)))))))
   (au (aU (q_ix hu (qv 1) (Ck ao)))))))
theorem qW {f:Addr} {fd:FuncData} (F:Fun K "depth_of" "depth_of" bF f fd) (T:Txt K mg) (c_check_scroll:Cal P w K mg base 6 "check_scroll" ["thing"] (ak K aB)) (c_drawn:Cal P w K mg base 1 "drawn" ["row"] (ak K dY)):FnOk P w K mg base CX0 7 f fd ["scroll"] (ak K cG) :=
 FunQ.ok F j_ oV (uK T c_check_scroll c_drawn) uN
theorem zA:FnScope ["_law_script", "_law_pool", "_law_names", "_law_m", "_law_turn", "_law_cells", "_law_scroll_here", "_law_listed", "_law_depth", "_law_state", "_law_near_here", "_law_steps_here", "_law_step", "_law_other", "_law_handed", "_law_truth", "_law_again", "_law_lists"] ["_law_script"] (defScope gr):=⟨rfl,rfl,rfl,by decide +kernel,rfl,by decide +kernel,by decide +kernel⟩
theorem Ge {f:Addr} (T:Txt K mg) (c__law_deeds:Cal P w K mg base 1 "_law_deeds" ["_law_cell", "_law_turn"] (ak K bL)) (c__law_machine:Cal P w K mg base 2 "_law_machine" ["_law_script", "_law_names"] (ak K bh)) (c__law_cell_at:Cal P w K mg base 1 "_law_cell_at" ["_law_script", "_law_k"] (ak K aA)) (c__law_scroll:Cal P w K mg base 2 "_law_scroll" ["_law_cells", "_law_names"] (ak K bD)) (c_depth_of:Cal P w K mg base 7 "depth_of" ["scroll"] (ak K cG)) (c__law_near:Cal P w K mg base 1 "_law_near" ["_law_m", "_law_start", "_law_depth"] (ak K b7)) (c__law_steps:Cal P w K mg base 1 "_law_steps" ["_law_cells", "_law_many", "_law_deeds_here"] (ak K aP)) (c_holds:Cal P w K mg base 7 "holds" ["m", "scroll", "state"] (ak K di)) (c_held_at:Cal P w K mg base 7 "held_at" ["m", "scroll"] (ak K cM)) (cdv:Value) (A:Around) (outer:List PySem.Env) (s:Shared) (H:Hp) (E:XK) (hr:Room 7 (A.deeper (envOfC "law" (defScope gr) s.heap.objs.size f cdv))) :
  QSs (cxOf CX0 P w K mg base ["_law_script", "_law_pool", "_law_names", "_law_m", "_law_turn", "_law_cells", "_law_scroll_here", "_law_listed", "_law_depth", "_law_state", "_law_near_here", "_law_steps_here", "_law_step", "_law_other", "_law_handed", "_law_truth", "_law_again", "_law_lists"] "law" (defScope gr) f cdv A outer s H E).nox K L0 (defBody gr) Ao :=
 have nd:=zA.nd
 have hu:(A.deeper (envOfC "law" (defScope gr) s.heap.objs.size f cdv)).units+64<cLine:=hr.units
 (aj (aF (i:=1) nd rfl (Or.inl rfl) (bR c__law_deeds (hr.mono (by decide)) (aa (bR c__law_cell_at (hr.mono (by decide)) (aa (qv 0) (aa ao az))) (aa (bR c__law_cell_at (hr.mono (by decide)) (aa (qv 0) (aa ao az))) az))))
   (aj (aF (i:=2) nd rfl (Or.inl rfl) (dH (c7 (aa cW az)) (gm (qv 1) nY (dN ao))))
   (aj (aF (i:=3) nd rfl (Or.inl rfl) (bR c__law_machine (hr.mono (by decide)) (aa (qv 0) (aa (qv 2) az))))
   (aj (aF (i:=4) nd rfl (Or.inl rfl) (bR c__law_cell_at (hr.mono (by decide)) (aa (qv 0) (aa ao az))))
   (aj (aF (i:=5) nd rfl (Or.inl rfl) (gm (qv 0) (dN ao) (dN (dH ao (q_ix hu (c7 (aa ao (aa ao (aa ao (aa ao az))))) (cI (qv 4) ao))))))
   (aj (aF (i:=6) nd rfl (Or.inl rfl) (bR c__law_scroll (hr.mono (by decide)) (aa (dH (qv 5) (c7 (aa (bR c__law_cell_at (hr.mono (by decide)) (aa (qv 0) (aa ao az))) az))) (aa (dH (c7 (aa cW az)) (qv 1)) az))))
   (aj (aF (i:=7) nd rfl (Or.inl rfl) (gY fL nT rfl T.n_list j7 (qv 6)))
   (aj (aF (i:=8) nd rfl (Or.inl rfl) (bR c_depth_of (hr.mono (by decide)) (aa (qv 7) az)))
   (aj (cX (qt_w (gP (eF (fY (i_ T.n_isinstance (qv 8) (iY T.n_int vh)))) (gP (fY (i_ T.n_isinstance (qv 8) (iY T.n_bool oJ))) (gP (bz p8 vQ (qv 8) ao (nomark _)) (fW (bz (kNe (K:=K) hu) CK (qv 7) (qv 6) (nomark _)))))))
   (au (aU q_bl))
   aW)
   (aj (aF (i:=9) nd rfl (Or.inl rfl) (cI (bR c__law_cell_at (hr.mono (by decide)) (aa (qv 0) (aa ao az))) (q_ix hu (qv 3) ao)))
   (aj (aF (i:=10) nd rfl (Or.inr rfl) (bR c__law_near (hr.mono (by decide)) (aa (qv 3) (aa (qv 9) (aa (qv 8) az)))))
   (aj (lZ (i:=11) (tn:=["_law_step"]) (cn:=["_law_near_here"]) (ix:=[10]) nd rfl (Or.inl rfl) rfl (il (q_ix hu (qv 3) ao)) (bY.of (sc:=defScope gr) (N:=["_law_script", "_law_pool", "_law_names", "_law_m", "_law_turn", "_law_cells", "_law_scroll_here", "_law_listed", "_law_depth", "_law_state", "_law_near_here", "_law_steps_here", "_law_step", "_law_other", "_law_handed", "_law_truth", "_law_again", "_law_lists"]) rfl rfl (by decide +kernel)) (fun _ _ _ _=>(aH (i:=0) (show (["_law_step", "_law_near_here"]:List Str).Nodup by decide +kernel) rfl (Or.inl rfl) (.inr rfl))) (fun _ _ _ _=>(qJ (bz (kIn (K:=K) hu) uM (q_ix hu (qv 0) ao) (qv 1) (by rfl)))) (fun _ _ _ _=>(qv 0)))
   (aj (fX PassesOwn.never rfl (nR (bR c__law_steps (hr.mono (by decide)) (aa (gm (qv 0) (dN ao) (dN ao)) (aa (q_ix hu (qv 3) ao) (aa (qv 2) az))))) (aH (i:=12) nd rfl (Or.inl rfl))
   (au (cX (bz (zz (K:=K) hu) uM (q_ix hu (qv 12) ao) (qv 10) (by rfl))
   (au (dq 12 (iC (fD (pv 11)) (qv 12))))
   aW)))
   (aj (aF (i:=13) nd rfl (Or.inl rfl) (jc (aa (q_ix hu (qv 3) ao) (aa (lO hu rfl T.n_sorted rfl T.n_set (qv 11)) az))))
   (aj (aF (i:=14) nd rfl (Or.inl rfl) (c7 (aa (jc (aa (q_ix hu (qv 3) ao) (aa (gY fL nT rfl T.n_list j7 (q_ix hu (qv 3) ao)) az))) (aa (jc (aa (q_ix hu (qv 13) ao) (aa (gY fL nT rfl T.n_list j7 (q_ix hu (qv 13) ao)) az))) az))))
   (aj (aF (i:=15) nd rfl (Or.inl rfl) (bR c_holds (hr.mono (by decide)) (aa (q_ix hu (qv 14) ao) (aa (qv 7) (aa (qv 9) az)))))
   (aj (aF (i:=16) nd rfl (Or.inl rfl) (bR c_holds (hr.mono (by decide)) (aa (q_ix hu (qv 14) ao) (aa (qv 7) (aa (qv 9) az)))))
   (aj (cX (qt_w (gP (eF (fY (i_ T.n_isinstance (qv 15) (iY T.n_bool oJ)))) (gP (eF (fY (i_ T.n_isinstance (qv 16) (iY T.n_bool oJ)))) (fW (bz (kNe (K:=K) hu) CK (qv 15) (qv 16) (nomark _))))))
   (au (aU q_bl))
   aW)
   (aj (aF (i:=17) nd rfl (Or.inl rfl) (bR c_held_at (hr.mono (by decide)) (aa (q_ix hu (qv 14) ao) (aa (qv 7) az))))
   (au (dq 13 (dq 3 (aU (m8 (mQ (kEq (K:=K) hu) cL (qv 15) (mQ (kIn (K:=K) hu) uM (qv 9) (q_ix hu (qv 17) (Ck ao)) (by rfl)) (nomark _)) (m8 (mQ (kEq (K:=K) hu) cL (qv 14) (c7 (aa (qv 3) (aa (qv 13) az))) (nomark _)) (pF (mQ (kEq (K:=K) hu) cL (qv 7) (qv 6) (nomark _))))))))))))))))))))))))))))
theorem ok_law {f:Addr} {fd:FuncData} (F:Fun K "law" "law" gr f fd) (T:Txt K mg) (c__law_deeds:Cal P w K mg base 1 "_law_deeds" ["_law_cell", "_law_turn"] (ak K bL)) (c__law_machine:Cal P w K mg base 2 "_law_machine" ["_law_script", "_law_names"] (ak K bh)) (c__law_cell_at:Cal P w K mg base 1 "_law_cell_at" ["_law_script", "_law_k"] (ak K aA)) (c__law_scroll:Cal P w K mg base 2 "_law_scroll" ["_law_cells", "_law_names"] (ak K bD)) (c_depth_of:Cal P w K mg base 7 "depth_of" ["scroll"] (ak K cG)) (c__law_near:Cal P w K mg base 1 "_law_near" ["_law_m", "_law_start", "_law_depth"] (ak K b7)) (c__law_steps:Cal P w K mg base 1 "_law_steps" ["_law_cells", "_law_many", "_law_deeds_here"] (ak K aP)) (c_holds:Cal P w K mg base 7 "holds" ["m", "scroll", "state"] (ak K di)) (c_held_at:Cal P w K mg base 7 "held_at" ["m", "scroll"] (ak K cM)):FnOk P w K mg base CX0 8 f fd ["_law_script"] (ak K sp_law) :=
 FunQ.ok F zA Ad (Ge T c__law_deeds c__law_machine c__law_cell_at c__law_scroll c_depth_of c__law_near c__law_steps c_holds c_held_at) Gs
end
theorem us1 {us:List Value} (h:us.length=1):∃ a0,us=[a0]:=by
 cases us with
 | nil=>simp at h
 | cons a0 us =>
 cases us with
 | nil=>exact ⟨_,rfl⟩
 | cons b us=>simp at h
theorem us2 {us:List Value} (h:us.length=2):∃ a0 a1,us=[a0,a1]:=by
 cases us with
 | nil=>simp at h
 | cons a0 us =>
 cases us with
 | nil=>simp at h
 | cons a1 us =>
 cases us with
 | nil=>exact ⟨_,_,rfl⟩
 | cons b us=>simp at h
theorem us3 {us:List Value} (h:us.length=3):∃ a0 a1 a2,us=[a0,a1,a2]:=by
 cases us with
 | nil=>simp at h
 | cons a0 us =>
 cases us with
 | nil=>simp at h
 | cons a1 us =>
 cases us with
 | nil=>simp at h
 | cons a2 us =>
 cases us with
 | nil=>exact ⟨_,_,_,rfl⟩
 | cons b us=>simp at h
theorem us4 {us:List Value} (h:us.length=4):∃ a0 a1 a2 a3,us=[a0,a1,a2,a3]:=by
 cases us with
 | nil=>simp at h
 | cons a0 us =>
 cases us with
 | nil=>simp at h
 | cons a1 us =>
 cases us with
 | nil=>simp at h
 | cons a2 us =>
 cases us with
 | nil=>simp at h
 | cons a3 us =>
 cases us with
 | nil=>exact ⟨_,_,_,_,rfl⟩
 | cons b us=>simp at h
theorem all_mk {l:PySem.W.OpenLaw} {w:World} {K:PySem.W.Frag} {h:Heap} {mg:Str→Option Value} {fa:Addr} (X:K.In h) (G:h.Ns mainGlobals mg) (hfa:mg "law" = some (.ref fa))
  {f_is_open:Addr} {od_is_open an_is_open:Option Addr} {sl_is_open:Array (Option Value)} {oc_is_open kV_is_open dc_is_open pm_is_open cd_is_open ct_is_open:Value}
  (a_is_open:PySem.W.nsIn K mainGlobals "is_open" = some (some (.ref f_is_open))) (l_is_open:K.lookup f_is_open=some ⟨oc_is_open,od_is_open,.func (PySem.W.fnOf "is_open" "is_open" (defArgs b8) (defBody b8) (defScope b8) .none kV_is_open dc_is_open pm_is_open an_is_open cd_is_open ct_is_open),sl_is_open⟩) (c_is_open:PySem.W.codeIn K cd_is_open "is_open" = true) (k_is_open:PySem.W.keepIn K (.ref f_is_open)=true)
  {f_is_deed:Addr} {od_is_deed an_is_deed:Option Addr} {sl_is_deed:Array (Option Value)} {oc_is_deed kV_is_deed dc_is_deed pm_is_deed cd_is_deed ct_is_deed:Value}
  (a_is_deed:PySem.W.nsIn K mainGlobals "is_deed" = some (some (.ref f_is_deed))) (l_is_deed:K.lookup f_is_deed=some ⟨oc_is_deed,od_is_deed,.func (PySem.W.fnOf "is_deed" "is_deed" (defArgs cu) (defBody cu) (defScope cu) .none kV_is_deed dc_is_deed pm_is_deed an_is_deed cd_is_deed ct_is_deed),sl_is_deed⟩) (c_is_deed:PySem.W.codeIn K cd_is_deed "is_deed" = true) (k_is_deed:PySem.W.keepIn K (.ref f_is_deed)=true)
  {f_is_whole:Addr} {od_is_whole an_is_whole:Option Addr} {sl_is_whole:Array (Option Value)} {oc_is_whole kV_is_whole dc_is_whole pm_is_whole cd_is_whole ct_is_whole:Value}
  (a_is_whole:PySem.W.nsIn K mainGlobals "is_whole" = some (some (.ref f_is_whole))) (l_is_whole:K.lookup f_is_whole=some ⟨oc_is_whole,od_is_whole,.func (PySem.W.fnOf "is_whole" "is_whole" (defArgs bN) (defBody bN) (defScope bN) .none kV_is_whole dc_is_whole pm_is_whole an_is_whole cd_is_whole ct_is_whole),sl_is_whole⟩) (c_is_whole:PySem.W.codeIn K cd_is_whole "is_whole" = true) (k_is_whole:PySem.W.keepIn K (.ref f_is_whole)=true)
  {f_check_state:Addr} {od_check_state an_check_state:Option Addr} {sl_check_state:Array (Option Value)} {oc_check_state kV_check_state dc_check_state pm_check_state cd_check_state ct_check_state:Value}
  (a_check_state:PySem.W.nsIn K mainGlobals "check_state" = some (some (.ref f_check_state))) (l_check_state:K.lookup f_check_state=some ⟨oc_check_state,od_check_state,.func (PySem.W.fnOf "check_state" "check_state" (defArgs aQ) (defBody aQ) (defScope aQ) .none kV_check_state dc_check_state pm_check_state an_check_state cd_check_state ct_check_state),sl_check_state⟩) (c_check_state:PySem.W.codeIn K cd_check_state "check_state" = true) (k_check_state:PySem.W.keepIn K (.ref f_check_state)=true)
  {f_ways_of:Addr} {od_ways_of an_ways_of:Option Addr} {sl_ways_of:Array (Option Value)} {oc_ways_of kV_ways_of dc_ways_of pm_ways_of cd_ways_of ct_ways_of:Value}
  (a_ways_of:PySem.W.nsIn K mainGlobals "ways_of" = some (some (.ref f_ways_of))) (l_ways_of:K.lookup f_ways_of=some ⟨oc_ways_of,od_ways_of,.func (PySem.W.fnOf "ways_of" "ways_of" (defArgs cB) (defBody cB) (defScope cB) .none kV_ways_of dc_ways_of pm_ways_of an_ways_of cd_ways_of ct_ways_of),sl_ways_of⟩) (c_ways_of:PySem.W.codeIn K cd_ways_of "ways_of" = true) (k_ways_of:PySem.W.keepIn K (.ref f_ways_of)=true)
  {f_drawn:Addr} {od_drawn an_drawn:Option Addr} {sl_drawn:Array (Option Value)} {oc_drawn kV_drawn dc_drawn pm_drawn cd_drawn ct_drawn:Value}
  (a_drawn:PySem.W.nsIn K mainGlobals "drawn" = some (some (.ref f_drawn))) (l_drawn:K.lookup f_drawn=some ⟨oc_drawn,od_drawn,.func (PySem.W.fnOf "drawn" "drawn" (defArgs dF) (defBody dF) (defScope dF) .none kV_drawn dc_drawn pm_drawn an_drawn cd_drawn ct_drawn),sl_drawn⟩) (c_drawn:PySem.W.codeIn K cd_drawn "drawn" = true) (k_drawn:PySem.W.keepIn K (.ref f_drawn)=true)
  {f_is_ahead:Addr} {od_is_ahead an_is_ahead:Option Addr} {sl_is_ahead:Array (Option Value)} {oc_is_ahead kV_is_ahead dc_is_ahead pm_is_ahead cd_is_ahead ct_is_ahead:Value}
  (a_is_ahead:PySem.W.nsIn K mainGlobals "is_ahead" = some (some (.ref f_is_ahead))) (l_is_ahead:K.lookup f_is_ahead=some ⟨oc_is_ahead,od_is_ahead,.func (PySem.W.fnOf "is_ahead" "is_ahead" (defArgs bO) (defBody bO) (defScope bO) .none kV_is_ahead dc_is_ahead pm_is_ahead an_is_ahead cd_is_ahead ct_is_ahead),sl_is_ahead⟩) (c_is_ahead:PySem.W.codeIn K cd_is_ahead "is_ahead" = true) (k_is_ahead:PySem.W.keepIn K (.ref f_is_ahead)=true)
  {f_are_parts:Addr} {od_are_parts an_are_parts:Option Addr} {sl_are_parts:Array (Option Value)} {oc_are_parts kV_are_parts dc_are_parts pm_are_parts cd_are_parts ct_are_parts:Value}
  (a_are_parts:PySem.W.nsIn K mainGlobals "are_parts" = some (some (.ref f_are_parts))) (l_are_parts:K.lookup f_are_parts=some ⟨oc_are_parts,od_are_parts,.func (PySem.W.fnOf "are_parts" "are_parts" (defArgs bj) (defBody bj) (defScope bj) .none kV_are_parts dc_are_parts pm_are_parts an_are_parts cd_are_parts ct_are_parts),sl_are_parts⟩) (c_are_parts:PySem.W.codeIn K cd_are_parts "are_parts" = true) (k_are_parts:PySem.W.keepIn K (.ref f_are_parts)=true)
  {f_is_row:Addr} {od_is_row an_is_row:Option Addr} {sl_is_row:Array (Option Value)} {oc_is_row kV_is_row dc_is_row pm_is_row cd_is_row ct_is_row:Value}
  (a_is_row:PySem.W.nsIn K mainGlobals "is_row" = some (some (.ref f_is_row))) (l_is_row:K.lookup f_is_row=some ⟨oc_is_row,od_is_row,.func (PySem.W.fnOf "is_row" "is_row" (defArgs cR) (defBody cR) (defScope cR) .none kV_is_row dc_is_row pm_is_row an_is_row cd_is_row ct_is_row),sl_is_row⟩) (c_is_row:PySem.W.codeIn K cd_is_row "is_row" = true) (k_is_row:PySem.W.keepIn K (.ref f_is_row)=true)
  {f_is_scroll:Addr} {od_is_scroll an_is_scroll:Option Addr} {sl_is_scroll:Array (Option Value)} {oc_is_scroll kV_is_scroll dc_is_scroll pm_is_scroll cd_is_scroll ct_is_scroll:Value}
  (a_is_scroll:PySem.W.nsIn K mainGlobals "is_scroll" = some (some (.ref f_is_scroll))) (l_is_scroll:K.lookup f_is_scroll=some ⟨oc_is_scroll,od_is_scroll,.func (PySem.W.fnOf "is_scroll" "is_scroll" (defArgs bu) (defBody bu) (defScope bu) .none kV_is_scroll dc_is_scroll pm_is_scroll an_is_scroll cd_is_scroll ct_is_scroll),sl_is_scroll⟩) (c_is_scroll:PySem.W.codeIn K cd_is_scroll "is_scroll" = true) (k_is_scroll:PySem.W.keepIn K (.ref f_is_scroll)=true)
  {f_check_scroll:Addr} {od_check_scroll an_check_scroll:Option Addr} {sl_check_scroll:Array (Option Value)} {oc_check_scroll kV_check_scroll dc_check_scroll pm_check_scroll cd_check_scroll ct_check_scroll:Value}
  (a_check_scroll:PySem.W.nsIn K mainGlobals "check_scroll" = some (some (.ref f_check_scroll))) (l_check_scroll:K.lookup f_check_scroll=some ⟨oc_check_scroll,od_check_scroll,.func (PySem.W.fnOf "check_scroll" "check_scroll" (defArgs aK) (defBody aK) (defScope aK) .none kV_check_scroll dc_check_scroll pm_check_scroll an_check_scroll cd_check_scroll ct_check_scroll),sl_check_scroll⟩) (c_check_scroll:PySem.W.codeIn K cd_check_scroll "check_scroll" = true) (k_check_scroll:PySem.W.keepIn K (.ref f_check_scroll)=true)
  {f_row_holds:Addr} {od_row_holds an_row_holds:Option Addr} {sl_row_holds:Array (Option Value)} {oc_row_holds kV_row_holds dc_row_holds pm_row_holds cd_row_holds ct_row_holds:Value}
  (a_row_holds:PySem.W.nsIn K mainGlobals "row_holds" = some (some (.ref f_row_holds))) (l_row_holds:K.lookup f_row_holds=some ⟨oc_row_holds,od_row_holds,.func (PySem.W.fnOf "row_holds" "row_holds" (defArgs aO) (defBody aO) (defScope aO) .none kV_row_holds dc_row_holds pm_row_holds an_row_holds cd_row_holds ct_row_holds),sl_row_holds⟩) (c_row_holds:PySem.W.codeIn K cd_row_holds "row_holds" = true) (k_row_holds:PySem.W.keepIn K (.ref f_row_holds)=true)
  {f_truths_of:Addr} {od_truths_of an_truths_of:Option Addr} {sl_truths_of:Array (Option Value)} {oc_truths_of kV_truths_of dc_truths_of pm_truths_of cd_truths_of ct_truths_of:Value}
  (a_truths_of:PySem.W.nsIn K mainGlobals "truths_of" = some (some (.ref f_truths_of))) (l_truths_of:K.lookup f_truths_of=some ⟨oc_truths_of,od_truths_of,.func (PySem.W.fnOf "truths_of" "truths_of" (defArgs bx) (defBody bx) (defScope bx) .none kV_truths_of dc_truths_of pm_truths_of an_truths_of cd_truths_of ct_truths_of),sl_truths_of⟩) (c_truths_of:PySem.W.codeIn K cd_truths_of "truths_of" = true) (k_truths_of:PySem.W.keepIn K (.ref f_truths_of)=true)
  {f_states_where:Addr} {od_states_where an_states_where:Option Addr} {sl_states_where:Array (Option Value)} {oc_states_where kV_states_where dc_states_where pm_states_where cd_states_where ct_states_where:Value}
  (a_states_where:PySem.W.nsIn K mainGlobals "states_where" = some (some (.ref f_states_where))) (l_states_where:K.lookup f_states_where=some ⟨oc_states_where,od_states_where,.func (PySem.W.fnOf "states_where" "states_where" (defArgs aG) (defBody aG) (defScope aG) .none kV_states_where dc_states_where pm_states_where an_states_where cd_states_where ct_states_where),sl_states_where⟩) (c_states_where:PySem.W.codeIn K cd_states_where "states_where" = true) (k_states_where:PySem.W.keepIn K (.ref f_states_where)=true)
  {f_held_at:Addr} {od_held_at an_held_at:Option Addr} {sl_held_at:Array (Option Value)} {oc_held_at kV_held_at dc_held_at pm_held_at cd_held_at ct_held_at:Value}
  (a_held_at:PySem.W.nsIn K mainGlobals "held_at" = some (some (.ref f_held_at))) (l_held_at:K.lookup f_held_at=some ⟨oc_held_at,od_held_at,.func (PySem.W.fnOf "held_at" "held_at" (defArgs bZ) (defBody bZ) (defScope bZ) .none kV_held_at dc_held_at pm_held_at an_held_at cd_held_at ct_held_at),sl_held_at⟩) (c_held_at:PySem.W.codeIn K cd_held_at "held_at" = true) (k_held_at:PySem.W.keepIn K (.ref f_held_at)=true)
  {f_holds:Addr} {od_holds an_holds:Option Addr} {sl_holds:Array (Option Value)} {oc_holds kV_holds dc_holds pm_holds cd_holds ct_holds:Value}
  (a_holds:PySem.W.nsIn K mainGlobals "holds" = some (some (.ref f_holds))) (l_holds:K.lookup f_holds=some ⟨oc_holds,od_holds,.func (PySem.W.fnOf "holds" "holds" (defArgs dM) (defBody dM) (defScope dM) .none kV_holds dc_holds pm_holds an_holds cd_holds ct_holds),sl_holds⟩) (c_holds:PySem.W.codeIn K cd_holds "holds" = true) (k_holds:PySem.W.keepIn K (.ref f_holds)=true)
  {f_depth_of:Addr} {od_depth_of an_depth_of:Option Addr} {sl_depth_of:Array (Option Value)} {oc_depth_of kV_depth_of dc_depth_of pm_depth_of cd_depth_of ct_depth_of:Value}
  (a_depth_of:PySem.W.nsIn K mainGlobals "depth_of" = some (some (.ref f_depth_of))) (l_depth_of:K.lookup f_depth_of=some ⟨oc_depth_of,od_depth_of,.func (PySem.W.fnOf "depth_of" "depth_of" (defArgs bF) (defBody bF) (defScope bF) .none kV_depth_of dc_depth_of pm_depth_of an_depth_of cd_depth_of ct_depth_of),sl_depth_of⟩) (c_depth_of:PySem.W.codeIn K cd_depth_of "depth_of" = true) (k_depth_of:PySem.W.keepIn K (.ref f_depth_of)=true)
  {f__law_cell_at:Addr} {od__law_cell_at an__law_cell_at:Option Addr} {sl__law_cell_at:Array (Option Value)} {oc__law_cell_at kV__law_cell_at dc__law_cell_at pm__law_cell_at cd__law_cell_at ct__law_cell_at:Value}
  (a__law_cell_at:PySem.W.nsIn K mainGlobals "_law_cell_at" = some (some (.ref f__law_cell_at))) (l__law_cell_at:K.lookup f__law_cell_at=some ⟨oc__law_cell_at,od__law_cell_at,.func (PySem.W.fnOf "_law_cell_at" "_law_cell_at" (defArgs aL) (defBody aL) (defScope aL) .none kV__law_cell_at dc__law_cell_at pm__law_cell_at an__law_cell_at cd__law_cell_at ct__law_cell_at),sl__law_cell_at⟩) (c__law_cell_at:PySem.W.codeIn K cd__law_cell_at "_law_cell_at" = true) (k__law_cell_at:PySem.W.keepIn K (.ref f__law_cell_at)=true)
  {f__law_deeds:Addr} {od__law_deeds an__law_deeds:Option Addr} {sl__law_deeds:Array (Option Value)} {oc__law_deeds kV__law_deeds dc__law_deeds pm__law_deeds cd__law_deeds ct__law_deeds:Value}
  (a__law_deeds:PySem.W.nsIn K mainGlobals "_law_deeds" = some (some (.ref f__law_deeds))) (l__law_deeds:K.lookup f__law_deeds=some ⟨oc__law_deeds,od__law_deeds,.func (PySem.W.fnOf "_law_deeds" "_law_deeds" (defArgs aN) (defBody aN) (defScope aN) .none kV__law_deeds dc__law_deeds pm__law_deeds an__law_deeds cd__law_deeds ct__law_deeds),sl__law_deeds⟩) (c__law_deeds:PySem.W.codeIn K cd__law_deeds "_law_deeds" = true) (k__law_deeds:PySem.W.keepIn K (.ref f__law_deeds)=true)
  {f__law_steps:Addr} {od__law_steps an__law_steps:Option Addr} {sl__law_steps:Array (Option Value)} {oc__law_steps kV__law_steps dc__law_steps pm__law_steps cd__law_steps ct__law_steps:Value}
  (a__law_steps:PySem.W.nsIn K mainGlobals "_law_steps" = some (some (.ref f__law_steps))) (l__law_steps:K.lookup f__law_steps=some ⟨oc__law_steps,od__law_steps,.func (PySem.W.fnOf "_law_steps" "_law_steps" (defArgs aY) (defBody aY) (defScope aY) .none kV__law_steps dc__law_steps pm__law_steps an__law_steps cd__law_steps ct__law_steps),sl__law_steps⟩) (c__law_steps:PySem.W.codeIn K cd__law_steps "_law_steps" = true) (k__law_steps:PySem.W.keepIn K (.ref f__law_steps)=true)
  {f__law_row:Addr} {od__law_row an__law_row:Option Addr} {sl__law_row:Array (Option Value)} {oc__law_row kV__law_row dc__law_row pm__law_row cd__law_row ct__law_row:Value}
  (a__law_row:PySem.W.nsIn K mainGlobals "_law_row" = some (some (.ref f__law_row))) (l__law_row:K.lookup f__law_row=some ⟨oc__law_row,od__law_row,.func (PySem.W.fnOf "_law_row" "_law_row" (defArgs bM) (defBody bM) (defScope bM) .none kV__law_row dc__law_row pm__law_row an__law_row cd__law_row ct__law_row),sl__law_row⟩) (c__law_row:PySem.W.codeIn K cd__law_row "_law_row" = true) (k__law_row:PySem.W.keepIn K (.ref f__law_row)=true)
  {f__law_scroll:Addr} {od__law_scroll an__law_scroll:Option Addr} {sl__law_scroll:Array (Option Value)} {oc__law_scroll kV__law_scroll dc__law_scroll pm__law_scroll cd__law_scroll ct__law_scroll:Value}
  (a__law_scroll:PySem.W.nsIn K mainGlobals "_law_scroll" = some (some (.ref f__law_scroll))) (l__law_scroll:K.lookup f__law_scroll=some ⟨oc__law_scroll,od__law_scroll,.func (PySem.W.fnOf "_law_scroll" "_law_scroll" (defArgs aM) (defBody aM) (defScope aM) .none kV__law_scroll dc__law_scroll pm__law_scroll an__law_scroll cd__law_scroll ct__law_scroll),sl__law_scroll⟩) (c__law_scroll:PySem.W.codeIn K cd__law_scroll "_law_scroll" = true) (k__law_scroll:PySem.W.keepIn K (.ref f__law_scroll)=true)
  {f__law_near:Addr} {od__law_near an__law_near:Option Addr} {sl__law_near:Array (Option Value)} {oc__law_near kV__law_near dc__law_near pm__law_near cd__law_near ct__law_near:Value}
  (a__law_near:PySem.W.nsIn K mainGlobals "_law_near" = some (some (.ref f__law_near))) (l__law_near:K.lookup f__law_near=some ⟨oc__law_near,od__law_near,.func (PySem.W.fnOf "_law_near" "_law_near" (defArgs bc) (defBody bc) (defScope bc) .none kV__law_near dc__law_near pm__law_near an__law_near cd__law_near ct__law_near),sl__law_near⟩) (c__law_near:PySem.W.codeIn K cd__law_near "_law_near" = true) (k__law_near:PySem.W.keepIn K (.ref f__law_near)=true)
  {f__law_machine:Addr} {od__law_machine an__law_machine:Option Addr} {sl__law_machine:Array (Option Value)} {oc__law_machine kV__law_machine dc__law_machine pm__law_machine cd__law_machine ct__law_machine:Value}
  (a__law_machine:PySem.W.nsIn K mainGlobals "_law_machine" = some (some (.ref f__law_machine))) (l__law_machine:K.lookup f__law_machine=some ⟨oc__law_machine,od__law_machine,.func (PySem.W.fnOf "_law_machine" "_law_machine" (defArgs aJ) (defBody aJ) (defScope aJ) .none kV__law_machine dc__law_machine pm__law_machine an__law_machine cd__law_machine ct__law_machine),sl__law_machine⟩) (c__law_machine:PySem.W.codeIn K cd__law_machine "_law_machine" = true) (k__law_machine:PySem.W.keepIn K (.ref f__law_machine)=true)
  {f_law:Addr} {od_law an_law:Option Addr} {sl_law:Array (Option Value)} {oc_law kV_law dc_law pm_law cd_law ct_law:Value}
  (a_law:PySem.W.nsIn K mainGlobals "law" = some (some (.ref f_law))) (l_law:K.lookup f_law=some ⟨oc_law,od_law,.func (PySem.W.fnOf "law" "law" (defArgs gr) (defBody gr) (defScope gr) .none kV_law dc_law pm_law an_law cd_law ct_law),sl_law⟩) (c_law:PySem.W.codeIn K cd_law "law" = true) (k_law:PySem.W.keepIn K (.ref f_law)=true)
  (n_all:PySem.W.nsIn K mainGlobals "all" = some none)
  (n_any:PySem.W.nsIn K mainGlobals "any" = some none)
  (n_bool:PySem.W.nsIn K mainGlobals "bool" = some none)
  (n_enumerate:PySem.W.nsIn K mainGlobals "enumerate" = some none)
  (n_int:PySem.W.nsIn K mainGlobals "int" = some none)
  (n_isinstance:PySem.W.nsIn K mainGlobals "isinstance" = some none)
  (n_len:PySem.W.nsIn K mainGlobals "len" = some none)
  (n_list:PySem.W.nsIn K mainGlobals "list" = some none)
  (n_max:PySem.W.nsIn K mainGlobals "max" = some none)
  (n_min:PySem.W.nsIn K mainGlobals "min" = some none)
  (n_range:PySem.W.nsIn K mainGlobals "range" = some none)
  (n_set:PySem.W.nsIn K mainGlobals "set" = some none)
  (n_sorted:PySem.W.nsIn K mainGlobals "sorted" = some none)
  (n_str:PySem.W.nsIn K mainGlobals "str" = some none)
  (n_tuple:PySem.W.nsIn K mainGlobals "tuple" = some none)
  {t_HIDDEN:Tok} (g_HIDDEN:PySem.W.nsIn K mainGlobals "HIDDEN" = some (some (.str "*" t_HIDDEN)))
  {t_LETTERS:Tok} (g_LETTERS:PySem.W.nsIn K mainGlobals "LETTERS" = some (some (.str "abcdefghijklmnopqrstuvwxyz" t_LETTERS)))
  {t_MOST_LETTERS:Tok} (g_MOST_LETTERS:PySem.W.nsIn K mainGlobals "MOST_LETTERS" = some (some (.int 6 t_MOST_LETTERS)))
  {t_MOST_ROWS:Tok} (g_MOST_ROWS:PySem.W.nsIn K mainGlobals "MOST_ROWS" = some (some (.int 2000 t_MOST_ROWS)))
  {t_MOST_PARTS:Tok} (g_MOST_PARTS:PySem.W.nsIn K mainGlobals "MOST_PARTS" = some (some (.int 200 t_MOST_PARTS)))
  : ∃ fd:FuncData,(∀ (s:Shared) (v:Value),BindsTo s fd ⟨[v],[]⟩ [("_law_script",v)])∧∀ base:Heap,K.In base→base.Ns mainGlobals mg→FnOk l.prog w K mg base CX0 8 fa fd ["_law_script"] (ak K sp_law):=by
 have e:=hfa.symm.trans (PySem.W.mg_of X G a_law)
 cases e
 have T:Txt K mg:=⟨PySem.W.mg_none_of X G n_all,PySem.W.mg_none_of X G n_any,PySem.W.mg_none_of X G n_bool,PySem.W.mg_none_of X G n_enumerate,PySem.W.mg_none_of X G n_int,PySem.W.mg_none_of X G n_isinstance,PySem.W.mg_none_of X G n_len,PySem.W.mg_none_of X G n_list,PySem.W.mg_none_of X G n_max,PySem.W.mg_none_of X G n_min,PySem.W.mg_none_of X G n_range,PySem.W.mg_none_of X G n_set,PySem.W.mg_none_of X G n_sorted,PySem.W.mg_none_of X G n_str,PySem.W.mg_none_of X G n_tuple,⟨_,PySem.W.mg_of X G g_HIDDEN⟩,⟨_,PySem.W.mg_of X G g_LETTERS⟩,⟨_,PySem.W.mg_of X G g_MOST_LETTERS⟩,⟨_,PySem.W.mg_of X G g_MOST_ROWS⟩,⟨_,PySem.W.mg_of X G g_MOST_PARTS⟩⟩
 have F_is_open:=fun_mk (st:=b8) l_is_open c_is_open k_is_open
 have F_is_deed:=fun_mk (st:=cu) l_is_deed c_is_deed k_is_deed
 have F_is_whole:=fun_mk (st:=bN) l_is_whole c_is_whole k_is_whole
 have F_check_state:=fun_mk (st:=aQ) l_check_state c_check_state k_check_state
 have F_ways_of:=fun_mk (st:=cB) l_ways_of c_ways_of k_ways_of
 have F_drawn:=fun_mk (st:=dF) l_drawn c_drawn k_drawn
 have F_is_ahead:=fun_mk (st:=bO) l_is_ahead c_is_ahead k_is_ahead
 have F_are_parts:=fun_mk (st:=bj) l_are_parts c_are_parts k_are_parts
 have F_is_row:=fun_mk (st:=cR) l_is_row c_is_row k_is_row
 have F_is_scroll:=fun_mk (st:=bu) l_is_scroll c_is_scroll k_is_scroll
 have F_check_scroll:=fun_mk (st:=aK) l_check_scroll c_check_scroll k_check_scroll
 have F_row_holds:=fun_mk (st:=aO) l_row_holds c_row_holds k_row_holds
 have F_truths_of:=fun_mk (st:=bx) l_truths_of c_truths_of k_truths_of
 have F_states_where:=fun_mk (st:=aG) l_states_where c_states_where k_states_where
 have F_held_at:=fun_mk (st:=bZ) l_held_at c_held_at k_held_at
 have F_holds:=fun_mk (st:=dM) l_holds c_holds k_holds
 have F_depth_of:=fun_mk (st:=bF) l_depth_of c_depth_of k_depth_of
 have F__law_cell_at:=fun_mk (st:=aL) l__law_cell_at c__law_cell_at k__law_cell_at
 have F__law_deeds:=fun_mk (st:=aN) l__law_deeds c__law_deeds k__law_deeds
 have F__law_steps:=fun_mk (st:=aY) l__law_steps c__law_steps k__law_steps
 have F__law_row:=fun_mk (st:=bM) l__law_row c__law_row k__law_row
 have F__law_scroll:=fun_mk (st:=aM) l__law_scroll c__law_scroll k__law_scroll
 have F__law_near:=fun_mk (st:=bc) l__law_near c__law_near k__law_near
 have F__law_machine:=fun_mk (st:=aJ) l__law_machine c__law_machine k__law_machine
 have F_law:=fun_mk (st:=gr) l_law c_law k_law
 refine ⟨PySem.W.fnOf "law" "law" (defArgs gr) (defBody gr) (defScope gr) .none kV_law dc_law pm_law an_law cd_law ct_law,fun s v=>.of_eq rfl,fun base _ _=>?_⟩
 have C_is_open:Cal l.prog w K mg base 1 "is_open" ["thing"] (ak K cO):=F_is_open.cal (PySem.W.mg_of X G a_is_open) (uE F_is_open T ) fun _ _ _ _ _ _ us hl=>by obtain ⟨_,rfl⟩:=us1 hl; rfl
 have C_is_whole:Cal l.prog w K mg base 1 "is_whole" ["thing"] (ak K cD):=F_is_whole.cal (PySem.W.mg_of X G a_is_whole) (rK F_is_whole T ) fun _ _ _ _ _ _ us hl=>by obtain ⟨_,rfl⟩:=us1 hl; rfl
 have C_check_state:Cal l.prog w K mg base 1 "check_state" ["m", "state"] (ak K bB):=F_check_state.cal (PySem.W.mg_of X G a_check_state) (lq F_check_state T ) fun _ _ _ _ _ _ us hl=>by obtain ⟨_,_,rfl⟩:=us2 hl; rfl
 have C_ways_of:Cal l.prog w K mg base 1 "ways_of" ["m"] (ak K cP):=F_ways_of.cal (PySem.W.mg_of X G a_ways_of) (uI F_ways_of T ) fun _ _ _ _ _ _ us hl=>by obtain ⟨_,rfl⟩:=us1 hl; rfl
 have C_drawn:Cal l.prog w K mg base 1 "drawn" ["row"] (ak K dY):=F_drawn.cal (PySem.W.mg_of X G a_drawn) (y_ F_drawn T ) fun _ _ _ _ _ _ us hl=>by obtain ⟨_,rfl⟩:=us1 hl; rfl
 have C_row_holds:Cal l.prog w K mg base 1 "row_holds" ["ways", "truths", "row", "state"] (ak K bU):=F_row_holds.cal (PySem.W.mg_of X G a_row_holds) (pY F_row_holds T ) fun _ _ _ _ _ _ us hl=>by obtain ⟨_,_,_,_,rfl⟩:=us4 hl; rfl
 have C_states_where:Cal l.prog w K mg base 1 "states_where" ["truth"] (ak K bf):=F_states_where.cal (PySem.W.mg_of X G a_states_where) (jG F_states_where T ) fun _ _ _ _ _ _ us hl=>by obtain ⟨_,rfl⟩:=us1 hl; rfl
 have C__law_cell_at:Cal l.prog w K mg base 1 "_law_cell_at" ["_law_script", "_law_k"] (ak K aA):=F__law_cell_at.cal (PySem.W.mg_of X G a__law_cell_at) (jw F__law_cell_at T ) fun _ _ _ _ _ _ us hl=>by obtain ⟨_,_,rfl⟩:=us2 hl; rfl
 have C__law_deeds:Cal l.prog w K mg base 1 "_law_deeds" ["_law_cell", "_law_turn"] (ak K bL):=F__law_deeds.cal (PySem.W.mg_of X G a__law_deeds) (nJ F__law_deeds T ) fun _ _ _ _ _ _ us hl=>by obtain ⟨_,_,rfl⟩:=us2 hl; rfl
 have C__law_steps:Cal l.prog w K mg base 1 "_law_steps" ["_law_cells", "_law_many", "_law_deeds_here"] (ak K aP):=F__law_steps.cal (PySem.W.mg_of X G a__law_steps) (oA F__law_steps T ) fun _ _ _ _ _ _ us hl=>by obtain ⟨_,_,_,rfl⟩:=us3 hl; rfl
 have C__law_row:Cal l.prog w K mg base 1 "_law_row" ["_law_cell", "_law_k", "_law_names"] (ak K cH):=F__law_row.cal (PySem.W.mg_of X G a__law_row) (qP F__law_row T ) fun _ _ _ _ _ _ us hl=>by obtain ⟨_,_,_,rfl⟩:=us3 hl; rfl
 have C__law_near:Cal l.prog w K mg base 1 "_law_near" ["_law_m", "_law_start", "_law_depth"] (ak K b7):=F__law_near.cal (PySem.W.mg_of X G a__law_near) (oU F__law_near T ) fun _ _ _ _ _ _ us hl=>by obtain ⟨_,_,_,rfl⟩:=us3 hl; rfl
 have C_is_deed:Cal l.prog w K mg base 2 "is_deed" ["thing"] (ak K cN):=F_is_deed.cal (PySem.W.mg_of X G a_is_deed) (uV F_is_deed T C_is_open) fun _ _ _ _ _ _ us hl=>by obtain ⟨_,rfl⟩:=us1 hl; rfl
 have C_is_ahead:Cal l.prog w K mg base 2 "is_ahead" ["k", "thing"] (ak K a_):=F_is_ahead.cal (PySem.W.mg_of X G a_is_ahead) (qG F_is_ahead T C_is_whole) fun _ _ _ _ _ _ us hl=>by obtain ⟨_,_,rfl⟩:=us2 hl; rfl
 have C_truths_of:Cal l.prog w K mg base 2 "truths_of" ["m", "scroll"] (ak K aX):=F_truths_of.cal (PySem.W.mg_of X G a_truths_of) (pM F_truths_of T C_ways_of C_row_holds) fun _ _ _ _ _ _ us hl=>by obtain ⟨_,_,rfl⟩:=us2 hl; rfl
 have C__law_scroll:Cal l.prog w K mg base 2 "_law_scroll" ["_law_cells", "_law_names"] (ak K bD):=F__law_scroll.cal (PySem.W.mg_of X G a__law_scroll) (lB F__law_scroll T C__law_row) fun _ _ _ _ _ _ us hl=>by obtain ⟨_,_,rfl⟩:=us2 hl; rfl
 have C__law_machine:Cal l.prog w K mg base 2 "_law_machine" ["_law_script", "_law_names"] (ak K bh):=F__law_machine.cal (PySem.W.mg_of X G a__law_machine) (jx F__law_machine T C__law_cell_at C__law_steps) fun _ _ _ _ _ _ us hl=>by obtain ⟨_,_,rfl⟩:=us2 hl; rfl
 have C_are_parts:Cal l.prog w K mg base 3 "are_parts" ["k", "thing"] (ak K bV):=F_are_parts.cal (PySem.W.mg_of X G a_are_parts) (pP F_are_parts T C_is_ahead) fun _ _ _ _ _ _ us hl=>by obtain ⟨_,_,rfl⟩:=us2 hl; rfl
 have C_is_row:Cal l.prog w K mg base 4 "is_row" ["k", "thing"] (ak K cY):=F_is_row.cal (PySem.W.mg_of X G a_is_row) (xH F_is_row T C_is_deed C_is_ahead C_are_parts) fun _ _ _ _ _ _ us hl=>by obtain ⟨_,_,rfl⟩:=us2 hl; rfl
 have C_is_scroll:Cal l.prog w K mg base 5 "is_scroll" ["thing"] (ak K b_):=F_is_scroll.cal (PySem.W.mg_of X G a_is_scroll) (pB F_is_scroll T C_is_row) fun _ _ _ _ _ _ us hl=>by obtain ⟨_,rfl⟩:=us1 hl; rfl
 have C_check_scroll:Cal l.prog w K mg base 6 "check_scroll" ["thing"] (ak K aB):=F_check_scroll.cal (PySem.W.mg_of X G a_check_scroll) (j4 F_check_scroll T C_is_scroll) fun _ _ _ _ _ _ us hl=>by obtain ⟨_,rfl⟩:=us1 hl; rfl
 have C_held_at:Cal l.prog w K mg base 7 "held_at" ["m", "scroll"] (ak K cM):=F_held_at.cal (PySem.W.mg_of X G a_held_at) (uO F_held_at T C_check_scroll C_states_where C_truths_of) fun _ _ _ _ _ _ us hl=>by obtain ⟨_,_,rfl⟩:=us2 hl; rfl
 have C_holds:Cal l.prog w K mg base 7 "holds" ["m", "scroll", "state"] (ak K di):=F_holds.cal (PySem.W.mg_of X G a_holds) (yO F_holds T C_check_scroll C_check_state C_truths_of) fun _ _ _ _ _ _ us hl=>by obtain ⟨_,_,_,rfl⟩:=us3 hl; rfl
 have C_depth_of:Cal l.prog w K mg base 7 "depth_of" ["scroll"] (ak K cG):=F_depth_of.cal (PySem.W.mg_of X G a_depth_of) (qW F_depth_of T C_check_scroll C_drawn) fun _ _ _ _ _ _ us hl=>by obtain ⟨_,rfl⟩:=us1 hl; rfl
 exact ok_law F_law T C__law_deeds C__law_machine C__law_cell_at C__law_scroll C_depth_of C__law_near C__law_steps C_holds C_held_at
theorem walk {l:PySem.W.OpenLaw} {q:Program} {loose:List Str} {XP:(Str→Option Value)→Heap→Prop} {YP:World→Heap→Prop} {d:DefRec} {K:Params→PySem.W.Frag} (hn:l.most=some 63) (hdf:d.params.defaults=[])
  (hY:∀ (w:World) (h:Heap),YP w h→(K w.params).In h)
  (F:∀ (w:World) (mg:Str→Option Value) (fa:Addr) (h:Heap),(K w.params).In h→h.Ns mainGlobals mg→mg d.name=some (.ref fa) →
   ∃ fd:FuncData,(∀ (s:Shared) (u:Value),BindsTo s fd ⟨[u],[]⟩ [("_law_script",u)])∧∀ base:Heap,(K w.params).In base→base.Ns mainGlobals mg→FnOk l.prog w (K w.params) mg base CX0 8 fa fd ["_law_script"] (ak (K w.params) sp_law)) :
  PySem.W.WalkO q loose XP YP l.row.toRowW d [] (fun f vs=>PySem.call f vs) :=
 L2.walk_of (n:=63) (k:=8) (x := "_law_script") (CX:=fun _=>CX0) (sp:=fun w=>ak (K w.params) sp_law) hn (by decide) hdf ⟨rfl,by decide,by decide⟩ hY F (fun w H a ns hl hO hS=>xZ hl hS) fun _ _ _ _ _ z=>z
end L2.Q.Law
open PySem PySem.W PyProof.Rows
set_option maxRecDepth 100000 in
set_option maxHeartbeats 0 in
theorem PySem.Challenge.cw_kinlook_k24_whole_how_far_a_scroll_looks_holds : PySem.Challenge.rw_kinlook_k24_whole_how_far_a_scroll_looks.Holds := by
 w_on; o_law; k_head; (case hw=>w_witness2)
 k_fill
 refine L2.Q.Law.walk (l:=PySem.Challenge.rw_kinlook_k24_whole_how_far_a_scroll_looks) rfl rfl (fun w h Y=>PySem.W.kIn_of Y) ?F
 case F =>
  intro w mg fa h KX G hmg
  refine' L2.Q.Law.all_mk KX G hmg ?a_is_open ?l_is_open ?c_is_open ?k_is_open ?a_is_deed ?l_is_deed ?c_is_deed ?k_is_deed ?a_is_whole ?l_is_whole ?c_is_whole ?k_is_whole ?a_check_state ?l_check_state ?c_check_state ?k_check_state ?a_ways_of ?l_ways_of ?c_ways_of ?k_ways_of ?a_drawn ?l_drawn ?c_drawn ?k_drawn ?a_is_ahead ?l_is_ahead ?c_is_ahead ?k_is_ahead ?a_are_parts ?l_are_parts ?c_are_parts ?k_are_parts ?a_is_row ?l_is_row ?c_is_row ?k_is_row ?a_is_scroll ?l_is_scroll ?c_is_scroll ?k_is_scroll ?a_check_scroll ?l_check_scroll ?c_check_scroll ?k_check_scroll ?a_row_holds ?l_row_holds ?c_row_holds ?k_row_holds ?a_truths_of ?l_truths_of ?c_truths_of ?k_truths_of ?a_states_where ?l_states_where ?c_states_where ?k_states_where ?a_held_at ?l_held_at ?c_held_at ?k_held_at ?a_holds ?l_holds ?c_holds ?k_holds ?a_depth_of ?l_depth_of ?c_depth_of ?k_depth_of ?a__law_cell_at ?l__law_cell_at ?c__law_cell_at ?k__law_cell_at ?a__law_deeds ?l__law_deeds ?c__law_deeds ?k__law_deeds ?a__law_steps ?l__law_steps ?c__law_steps ?k__law_steps ?a__law_row ?l__law_row ?c__law_row ?k__law_row ?a__law_scroll ?l__law_scroll ?c__law_scroll ?k__law_scroll ?a__law_near ?l__law_near ?c__law_near ?k__law_near ?a__law_machine ?l__law_machine ?c__law_machine ?k__law_machine ?a_law ?l_law ?c_law ?k_law ?n_all ?n_any ?n_bool ?n_enumerate ?n_int ?n_isinstance ?n_len ?n_list ?n_max ?n_min ?n_range ?n_set ?n_sorted ?n_str ?n_tuple ?g_HIDDEN ?g_LETTERS ?g_MOST_LETTERS ?g_MOST_ROWS ?g_MOST_PARTS
  (case a_is_open=>k_is)
  (case l_is_open=>k_is)
  (case c_is_open=>k_is)
  (case k_is_open=>k_is)
  (case a_is_deed=>k_is)
  (case l_is_deed=>k_is)
  (case c_is_deed=>k_is)
  (case k_is_deed=>k_is)
  (case a_is_whole=>k_is)
  (case l_is_whole=>k_is)
  (case c_is_whole=>k_is)
  (case k_is_whole=>k_is)
  (case a_check_state=>k_is)
  (case l_check_state=>k_is)
  (case c_check_state=>k_is)
  (case k_check_state=>k_is)
  (case a_ways_of=>k_is)
  (case l_ways_of=>k_is)
  (case c_ways_of=>k_is)
  (case k_ways_of=>k_is)
  (case a_drawn=>k_is)
  (case l_drawn=>k_is)
  (case c_drawn=>k_is)
  (case k_drawn=>k_is)
  (case a_is_ahead=>k_is)
  (case l_is_ahead=>k_is)
  (case c_is_ahead=>k_is)
  (case k_is_ahead=>k_is)
  (case a_are_parts=>k_is)
  (case l_are_parts=>k_is)
  (case c_are_parts=>k_is)
  (case k_are_parts=>k_is)
  (case a_is_row=>k_is)
  (case l_is_row=>k_is)
  (case c_is_row=>k_is)
  (case k_is_row=>k_is)
  (case a_is_scroll=>k_is)
  (case l_is_scroll=>k_is)
  (case c_is_scroll=>k_is)
  (case k_is_scroll=>k_is)
  (case a_check_scroll=>k_is)
  (case l_check_scroll=>k_is)
  (case c_check_scroll=>k_is)
  (case k_check_scroll=>k_is)
  (case a_row_holds=>k_is)
  (case l_row_holds=>k_is)
  (case c_row_holds=>k_is)
  (case k_row_holds=>k_is)
  (case a_truths_of=>k_is)
  (case l_truths_of=>k_is)
  (case c_truths_of=>k_is)
  (case k_truths_of=>k_is)
  (case a_states_where=>k_is)
  (case l_states_where=>k_is)
  (case c_states_where=>k_is)
  (case k_states_where=>k_is)
  (case a_held_at=>k_is)
  (case l_held_at=>k_is)
  (case c_held_at=>k_is)
  (case k_held_at=>k_is)
  (case a_holds=>k_is)
  (case l_holds=>k_is)
  (case c_holds=>k_is)
  (case k_holds=>k_is)
  (case a_depth_of=>k_is)
  (case l_depth_of=>k_is)
  (case c_depth_of=>k_is)
  (case k_depth_of=>k_is)
  (case a__law_cell_at=>k_is)
  (case l__law_cell_at=>k_is)
  (case c__law_cell_at=>k_is)
  (case k__law_cell_at=>k_is)
  (case a__law_deeds=>k_is)
  (case l__law_deeds=>k_is)
  (case c__law_deeds=>k_is)
  (case k__law_deeds=>k_is)
  (case a__law_steps=>k_is)
  (case l__law_steps=>k_is)
  (case c__law_steps=>k_is)
  (case k__law_steps=>k_is)
  (case a__law_row=>k_is)
  (case l__law_row=>k_is)
  (case c__law_row=>k_is)
  (case k__law_row=>k_is)
  (case a__law_scroll=>k_is)
  (case l__law_scroll=>k_is)
  (case c__law_scroll=>k_is)
  (case k__law_scroll=>k_is)
  (case a__law_near=>k_is)
  (case l__law_near=>k_is)
  (case c__law_near=>k_is)
  (case k__law_near=>k_is)
  (case a__law_machine=>k_is)
  (case l__law_machine=>k_is)
  (case c__law_machine=>k_is)
  (case k__law_machine=>k_is)
  (case a_law=>k_is)
  (case l_law=>k_is)
  (case c_law=>k_is)
  (case k_law=>k_is)
  (case n_all=>k_is)
  (case n_any=>k_is)
  (case n_bool=>k_is)
  (case n_enumerate=>k_is)
  (case n_int=>k_is)
  (case n_isinstance=>k_is)
  (case n_len=>k_is)
  (case n_list=>k_is)
  (case n_max=>k_is)
  (case n_min=>k_is)
  (case n_range=>k_is)
  (case n_set=>k_is)
  (case n_sorted=>k_is)
  (case n_str=>k_is)
  (case n_tuple=>k_is)
  (case g_HIDDEN=>k_is)
  (case g_LETTERS=>k_is)
  (case g_MOST_LETTERS=>k_is)
  (case g_MOST_ROWS=>k_is)
  (case g_MOST_PARTS=>k_is)
