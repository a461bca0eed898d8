import PyProof.Rows.All
import Wide.All
import OpenK.AllK
import Wide.FinOn
import Lean
import PyProof.EqAt
import PyProof.EqKinds
import PyProof.TupleCall
import PyProof.CompUse
import PyProof.NeData
import PyProof.WalksEnum
import PyProof.EnumMake
import PyProof.ZipIter
import PyProof.Rows.EnumRows
import PyProof.Rows.FactsT2
import KE.KDictList
import PyProof.Rows.SortRuns
import PyProof.Rows.SortWalk
import KE.KSortTup
import PyProof.Rows.SortStr
import PyProof.ListRange
import PyProof.StrOps2
import PyProof.StrBlock2
import PyProof.AutoIntG3
import PyProof.ListMulRight
import PyProof.Rows.ListMulArg
import PyProof.Rows.CallKwBuiltin
import PyProof.Rows.StrMul
import KE.KMinBuiltin
import PyProof.TupleKey
import PyProof.SetKind
import PyProof.Rows.SetFrom
import PyProof.DictWalks
import KE.KRevIter
import PyProof.NsDelKeeps
import PyProof.AutoSeq1
import PySem.Challenge.RW_kinlook_k13_renamed
set_option compiler.extract_closed false
local macro_rules | `(tactic| walk_at "l") => `(tactic| first | lia | omega)
local macro_rules | `(tactic| walk_at "s1") => `(tactic| solve_by_elim (maxDepth := 4) [Nat.lt_of_lt_of_le, Nat.lt_of_le_of_lt, Nat.le_trans, Nat.lt_trans, Nat.le_of_lt, Nat.le_of_not_lt])
local macro_rules | `(tactic| walk_at "s2") => `(tactic| solve_by_elim (maxDepth := 5) [Nat.lt_of_lt_of_le, Nat.lt_of_le_of_lt, Nat.le_trans, Nat.le_of_lt, Nat.le_of_not_lt, Nat.lt_of_not_le, Nat.lt_of_succ_lt, Nat.le_of_succ_le])
local macro_rules | `(tactic| walk_at "s3") => `(tactic| solve_by_elim (maxDepth := 5) [Int.lt_of_lt_of_le, Int.lt_of_le_of_lt, Int.le_trans, Int.le_of_lt, Int.not_lt.mp, Int.not_le.mp])
local macro_rules | `(tactic| walk_at "s4") => `(tactic| solve_by_elim (maxDepth := 5) [Nat.le_trans, Nat.lt_of_lt_of_le, Nat.le_of_lt, Nat.le_add_right, Nat.le_add_left, Nat.add_le_add_left, Nat.add_lt_add_left, Nat.succ_le_succ, Nat.sub_le])
theorem L2.ex2 {α β:Type _} {A B C:α→β→Prop} {G:Prop} (x:∃ a b,A a b∧B a b∧C a b) (k:∀ a b,A a b→B a b→C a b→G):G :=
 let ⟨a,b,p,q,r⟩:=x
 k a b p q r
set_option Elab.async false
set_option linter.all false
set_option maxRecDepth 100000
namespace L2
open PySem PySem.Spec PyProof.Rows
noncomputable abbrev Key:=Sum Int Str
noncomputable def keyIs:Key→Value→Bool
 | .inl k,v=>Value.isInt k v
 | .inr x,v=>Value.isStrOf x v
noncomputable def keyH (w:World):Key→Int
 | .inl k=>hashInt k
 | .inr x=>hashStr w x
theorem keyIs_shape:∀ {k:Key} {v:Value},keyIs k v=true→(∃ i t,k=Sum.inl i∧v=Value.int i t)∨(∃ x t,k=Sum.inr x∧v=Value.str x t)
 | .inl i,v,h=>by
  obtain ⟨t,e⟩:=Value.isInt_shape (k:=i) (v:=v) h
  exact .inl ⟨i,t,rfl,e⟩
 | .inr x,v,h=>by
  obtain ⟨t,e⟩:=Value.isStrOf_shape (x:=x) (v:=v) h
  exact .inr ⟨x,t,rfl,e⟩
theorem keyIs_int (i:Int) (t:Tok):keyIs (.inl i) (.int i t)=true:=by simp [keyIs,Value.isInt]
theorem keyIs_str (x:Str) (t:Tok):keyIs (.inr x) (.str x t)=true:=by simp [keyIs,Value.isStrOf]
theorem key_ll (a b:Int):decide ((Sum.inl a:Key)=Sum.inl b)=(a == b):=by
 by_cases e:a=b
 ·subst e; simp
 ·have h:¬ (Sum.inl a:Key)=Sum.inl b:=fun q=>e (Sum.inl.inj q)
  rw [decide_eq_false h]
  exact (beq_eq_false_iff_ne.mpr e).symm
theorem key_rr (a b:Str):decide ((Sum.inr a:Key)=Sum.inr b)=decide (a=b):=by
 by_cases e:a=b
 ·subst e; simp
 ·have h:¬ (Sum.inr a:Key)=Sum.inr b:=fun q=>e (Sum.inr.inj q)
  rw [decide_eq_false h,decide_eq_false e]
theorem key_lr (a:Int) (b:Str):decide ((Sum.inl a:Key)=Sum.inr b)=false:=decide_eq_false (fun q=>nomatch q)
theorem key_rl (a:Str) (b:Int):decide ((Sum.inr a:Key)=Sum.inl b)=false:=decide_eq_false (fun q=>nomatch q)
noncomputable def mixKind (prog:Program) (w:World):PySem.KeyKind prog w Key where
 is:=keyIs
 hash:=keyH w
 inj:=fun v a b ha hb=>by
  rcases keyIs_shape ha with ⟨i,t,rfl,rfl⟩ | ⟨x,t,rfl,rfl⟩
  ·rcases keyIs_shape hb with ⟨j,u,rfl,e⟩ | ⟨y,u,rfl,e⟩
   ·injection e with e1 _; rw [e1]
   ·exact nomatch e
  ·rcases keyIs_shape hb with ⟨j,u,rfl,e⟩ | ⟨y,u,rfl,e⟩
   ·exact nomatch e
   ·injection e with e1 _; rw [e1]
 byValue:=fun k v h=>by
  rcases keyIs_shape h with ⟨i,t,rfl,rfl⟩ | ⟨x,t,rfl,rfl⟩ <;> rfl
 pyHash:=fun hv h=>by
  rcases keyIs_shape hv with ⟨i,t,rfl,rfl⟩ | ⟨x,t,rfl,rfl⟩
  ·exact wpAny_pyHash_int h
  ·exact wpAny_pyHash_str h
 eqBool:=fun hu hv h=>by
  rcases keyIs_shape hu with ⟨i,t,rfl,rfl⟩ | ⟨x,t,rfl,rfl⟩
  ·rcases keyIs_shape hv with ⟨j,u,rfl,rfl⟩ | ⟨y,u,rfl,rfl⟩
   ·rw [key_ll] at h; exact wpAny_eqBool_int h
   ·rw [key_lr] at h; exact SeqAt.EqAt.int_str i t y u _ _ _ _ h
  ·rcases keyIs_shape hv with ⟨j,u,rfl,rfl⟩ | ⟨y,u,rfl,rfl⟩
   ·rw [key_rl] at h; exact SeqAt.EqAt.str_int x t j u _ _ _ _ h
   ·rw [key_rr] at h; exact wpAny_eqBool_str h
 «strs» := fun k x t v h=>by
  rcases keyIs_shape h with ⟨i,u,rfl,e⟩ | ⟨y,u,rfl,e⟩
  ·exact nomatch e
  ·injection e with e1 _
   subst e1
   cases v <;> rfl
theorem mixKind_int (prog:Program) (w:World) (i:Int) (t:Tok):(mixKind prog w).is (.inl i) (.int i t)=true:=keyIs_int i t
theorem mixKind_str (prog:Program) (w:World) (x:Str) (t:Tok):(mixKind prog w).is (.inr x) (.str x t)=true:=keyIs_str x t
end L2
namespace L2
open PySem PySem.Spec PyProof.Rows
inductive V where
 | non | bl (b:Bool) | int (i:Int) | str (x:Str) | byt (b:Array UInt8) | flt (b:UInt64) | ref (a:Addr) | ty (n:String)
 deriving DecidableEq
noncomputable def RelV:V→Value→Prop
 | .non,u=>u=Value.none
 | .bl b,u=>u=Value.bool b
 | .int i,u=>∃ t,u=Value.int i t
 | .str x,u=>∃ t,u=Value.str x t
 | .byt b,u=>∃ t,u=Value.bytes b t
 | .flt b,u=>∃ t,u=Value.float b t
 | .ref a,u=>u=Value.ref a
 | .ty n,u=>u=Value.type n
noncomputable abbrev Vals:List V→List Value→Prop:=Paired RelV
theorem Vals.length {xs:List V} {us:List Value} (r:Vals xs us):xs.length=us.length:=Paired.length r
theorem Vals.get:∀ {xs:List V} {us:List Value} {i:Nat} {x:V},Vals xs us→xs[i]? = some x→∃ u,us[i]? = some u∧RelV x u
 | _,_,_,_,.nil,e=>by simp at e
 | _,_,0,_,.cons r _,e=>by simp at e; subst e; exact ⟨_,rfl,r⟩
 | _,_,i+1,x,.cons _ t,e=>by
  obtain ⟨u,h1,h2⟩:=Vals.get (i:=i) (x:=x) t (by simpa using e)
  exact ⟨u,by simpa using h1,h2⟩
theorem Vals.append:∀ {xs ys:List V} {us ws:List Value},Vals xs us→Vals ys ws→Vals (xs++ys) (us++ws)
 | _,_,_,_,.nil,s=>s
 | _,_,_,_,.cons r t,s=>.cons r (Vals.append t s)
theorem Vals.take:∀ {xs:List V} {us:List Value} (n:Nat),Vals xs us→Vals (xs.take n) (us.take n)
 | _,_,0,_=>.nil
 | _,_,_+1,.nil=>.nil
 | _,_,n+1,.cons r t=>.cons r (Vals.take n t)
theorem Vals.drop:∀ {xs:List V} {us:List Value} (n:Nat),Vals xs us→Vals (xs.drop n) (us.drop n)
 | _,_,0,r=>r
 | _,_,_+1,.nil=>.nil
 | _,_,n+1,.cons _ t=>Vals.drop n t
noncomputable def RelO:Option V→Option Value→Prop
 | some v,some u=>RelV v u
 | none,none=>True
 | _,_=>False
noncomputable def KV {κ:Type}:List (κ × V)→List (κ × Value)→Prop:=Paired fun (p:κ × V) (q:κ × Value)=>p.1=q.1∧RelV p.2 q.2
noncomputable def kV:Key→V
 | .inl i=>.int i
 | .inr x=>.str x
inductive HO where
 /-- a list -/
 | lst (xs:List V)
 /-- a tuple (never changes) -/
 | tup (xs:List V)
 /-- a dict whose keys are ints and texts; one whose keys are tuples of ints and texts (the empty one is both) -/
 | dK (kvs:List (Key × V)) | dT (kvs:List (List Key × V))
 /-- a set of ints: its members,its size -/
 | set (S:Int→Bool) (n:Nat)
 /-- an instance of the class at C,its dict at dx,its attributes -/
 | ins (C dx:Addr) (fs:List (Str × V))
 /-- the dict of the instance at x -/
 | own (x:Addr)
 /-- the dict of an exception -/
 | xd (fs:List (Str × V))
 /-- a bound method,f of x -/
 | met (f x:Addr)
 /-- a range object lo,lo+1,.. below hi -/
 | rng (lo hi:Int)
 /-- a thing that is known to the object (the script; a dict while a loop walks it): read,never written while it is so -/
 | frz (o:Obj) (u:HO)
 /-- a code object's table -/
 | tbl (ps:Array Value)
 /-- any other thing,by what is true of its one object (a def of one's own: SetO a S n:=HO.ext fun h=>..) -/
 | ext (φ:Heap→Prop)
noncomputable abbrev Hp:=Addr→Option HO
noncomputable def upd (H:Hp) (a:Addr) (o:HO):Hp:=fun b=>if b=a then some o else H b
theorem upd_same {H:Hp} {a:Addr} {o:HO}:upd H a o a=some o:=by unfold upd; rw [if_pos rfl]
theorem upd_ne {H:Hp} {a b:Addr} {o:HO} (h:b≠a):upd H a o b=H b:=by unfold upd; rw [if_neg h]
theorem ne_of_none {H:Hp} {a b:Addr} {o:HO} (h:H a=some o) (h':H b=none):a≠b:=by
 intro e; subst e; rw [h] at h'; cases h'
section
variable (P:Program) (w:World)
noncomputable def ObjOk (H:Hp) (h:Heap) (a:Addr):HO→Prop
 | .lst xs=>xs.length≤sizeLine∧∃ (its:List Value) (n:Nat),Vals xs its∧h.get? a=some { cls:=.type "list",data:=.seq its.toArray n }
 | .tup xs=>xs.length≤sizeLine∧∃ its:List Value,Vals xs its∧IsTup h a its.toArray
 | .dK kvs=>kvs.length≤sizeLine∧(a == sysModules)=false∧∃ vs,KV kvs vs∧h.DictOf (mixKind P w) a vs
 | .dT kvs=>kvs.length≤sizeLine∧(a == sysModules)=false∧∃ xs:List (List Key × Addr × Value),
   Paired (fun (p:List Key × V) (q:List Key × Addr × Value)=>p.1=q.1∧H q.2.1=some (.tup (p.1.map kV))∧RelV p.2 q.2.2) kvs xs ∧
   ∃ o es ep,h.get? a=some o∧o.ExactDict∧o.data=.dict es ep∧es.toList=xs.map (entryOfKey (tupleKind (mixKind P w)))∧(xs.map (·.1)).Nodup
 | .set S n=>h.SetOf (intKind P w) a S n
 | .ins C dx fs=>H dx=some (.own a)∧fs.length≤1000∧dx≠a∧h.get? a=some (PySem.W.instObj C dx) ∧
   ∃ mA,h.Ns1 dx mA∧(∀ f,RelO (fs.lookup f) (mA f))∧PySem.Within mA (fs.map (·.1))
 | .own _=>∃ o,h.get? a=some o
 | .xd fs=>∃ mA,h.Ns1 a mA∧∀ f,RelO (fs.lookup f) (mA f)
 | .rng lo hi=>∃ t u v,h.get? a=some { cls:=.type "range",data:=.fields #[.int lo t,.int hi u,.int 1 v] }
 | .frz o u=>h.get? a=some o∧ObjOk H h a u
 | .tbl ps=>h.get? a=some { cls:=.none,data:=.fields ps }
 | .met f x=>h.get? a=some (PySem.W.methodObj (.ref f) (.ref x))
 | .ext φ=>φ h∧(∃ o,h.get? a=some o)∧∀ h1 h2:Heap,φ h1→(∀ o,h1.get? a=some o→h2.get? a=some o)→φ h2
noncomputable def HOk (H:Hp) (h:Heap):Prop:=∀ a o,H a=some o→ObjOk P w H h a o
end
section
variable {P:Program} {w:World} {H H':Hp} {h h':Heap} {a:Addr} {o:HO}
theorem ObjOk.lt (x:ObjOk P w H h a o):a<h.objs.size:=by
 cases o with
 | lst xs=>obtain ⟨_,_,_,_,e⟩:=x; exact Heap.lt_size e
 | tup xs=>obtain ⟨_,_,_,p⟩:=x; exact p.lt
 | dK kvs=>obtain ⟨_,_,_,_,o,_,_,e,_⟩:=x; exact Heap.lt_size e
 | dT kvs=>obtain ⟨_,_,_,_,o,_,_,e,_⟩:=x; exact Heap.lt_size e
 | set S n=>obtain ⟨o,_,_,_,e,_⟩:=x; exact Heap.lt_size e
 | ins C dx fs=>obtain ⟨_,_,_,e,_⟩:=x; exact Heap.lt_size e
 | own y=>obtain ⟨_,e⟩:=x; exact Heap.lt_size e
 | xd fs=>obtain ⟨_,⟨_,_,_,e,_⟩,_⟩:=x; exact Heap.lt_size e
 | rng lo hi=>obtain ⟨_,_,_,e⟩:=x; exact Heap.lt_size e
 | frz ob u=>obtain ⟨e,_⟩:=x; exact Heap.lt_size e
 | tbl ps=>exact Heap.lt_size (show h.get? a=some _ from x)
 | met f y=>exact Heap.lt_size (show h.get? a=some _ from x)
 | ext φ=>obtain ⟨_,⟨_,e⟩,_⟩:=x; exact Heap.lt_size e
theorem Paired.mapP {α β:Type} {F G:α→β→Prop}:∀ {l₁:List α} {l₂:List β},Paired F l₁ l₂→(∀ a b,F a b→G a b)→Paired G l₁ l₂
 | _,_,.nil,_=>.nil
 | _,_,.cons r t,f=>.cons (f _ _ r) (Paired.mapP t f)
theorem ObjOk.stay (x:ObjOk P w H h a o) (k:∀ b u,(b=a∨H b=some (.own a))→h.get? b=some u→h'.get? b=some u)
  (ho:∀ b,H b=some (.own a)→H' b=some (.own a)) (ht:∀ b xs,H b=some (.tup xs)→H' b=some (.tup xs)):ObjOk P w H' h' a o:=by
 induction o with
 | lst xs=>obtain ⟨z,its,n,r,e⟩:=x; exact ⟨z,its,n,r,k _ _ (.inl rfl) e⟩
 | tup xs=>obtain ⟨z,its,r,ob,e,c⟩:=x; exact ⟨z,its,r,ob,k _ _ (.inl rfl) e,c⟩
 | dK kvs=>obtain ⟨z,y,vs,r,ob,es,ep,e,c⟩:=x; exact ⟨z,y,vs,r,ob,es,ep,k _ _ (.inl rfl) e,c⟩
 | dT kvs =>
  obtain ⟨z,y,xs,r,ob,es,ep,e,c⟩:=x
  exact ⟨z,y,xs,Paired.mapP r fun p q z=>⟨z.1,ht _ _ z.2.1,z.2.2⟩,ob,es,ep,k _ _ (.inl rfl) e,c⟩
 | set S n=>obtain ⟨ob,es,ep,t,e,c⟩:=x; exact ⟨ob,es,ep,t,k _ _ (.inl rfl) e,c⟩
 | ins C dx fs =>
  obtain ⟨d,z,ne,e,mA,⟨od,es,ep,e2,c⟩,r⟩:=x
  exact ⟨ho _ d,z,ne,k _ _ (.inl rfl) e,mA,⟨od,es,ep,k _ _ (.inr d) e2,c⟩,r⟩
 | own y=>obtain ⟨ob,e⟩:=x; exact ⟨ob,k _ _ (.inl rfl) e⟩
 | xd fs=>obtain ⟨mA,⟨od,es,ep,e,c⟩,r⟩:=x; exact ⟨mA,⟨od,es,ep,k _ _ (.inl rfl) e,c⟩,r⟩
 | rng lo hi=>obtain ⟨t,u,v,e⟩:=x; exact ⟨t,u,v,k _ _ (.inl rfl) e⟩
 | frz ob u ih=>obtain ⟨e,q⟩:=x; exact ⟨k _ _ (.inl rfl) e,ih q⟩
 | tbl ps =>
  have e:h.get? a=some { cls:=.none,data:=.fields ps }:=x
  show h'.get? a=some { cls:=.none,data:=.fields ps }
  exact k a _ (.inl rfl) e
 | met f y =>
  have e:h.get? a=some (PySem.W.methodObj (.ref f) (.ref y)):=x
  show h'.get? a=some (PySem.W.methodObj (.ref f) (.ref y))
  exact k a _ (.inl rfl) e
 | ext φ=>obtain ⟨p,⟨o,e⟩,st⟩:=x; exact ⟨st _ _ p fun o q=>k _ _ (.inl rfl) q,⟨o,k _ _ (.inl rfl) e⟩,st⟩
theorem HOk.lt (x:HOk P w H h) (e:H a=some o):a<h.objs.size:=(x a o e).lt
theorem HOk.fresh (x:HOk P w H h) (e:h.objs.size≤a):H a=none:=by
 cases q:H a with
 | none=>rfl
 | some u=>exact absurd (Nat.lt_of_lt_of_le (x.lt q) e) (Nat.lt_irrefl _)
theorem HOk.kept (x:HOk P w H h) (k:∀ b u,h.get? b=some u→h'.get? b=some u):HOk P w H h':=fun a o e =>
 (x a o e).stay (fun b u _ q=>k b u q) (fun _ q=>q) fun _ _ q=>q
theorem HOk.laid (x:HOk P w H h) (k:∀ b u,h.get? b=some u→h'.get? b=some u) (hp:h.objs.size≤a) (new:ObjOk P w (upd H a o) h' a o):HOk P w (upd H a o) h':=fun b u e=>by
 have hn:=x.fresh hp
 by_cases hb:b=a
 ·subst hb; rw [upd_same] at e; cases e; exact new
 ·rw [upd_ne hb] at e
  exact (x b u e).stay (fun c v _ q=>k c v q) (fun c q=>by rw [upd_ne (ne_of_none q hn)]; exact q) fun c xs q=>by rw [upd_ne (ne_of_none q hn)]; exact q
end
noncomputable def Rd (H:Hp) (a:Addr) (u:HO):Prop:=H a=some u∨∃ o,H a=some (.frz o u)
theorem Rd.ok {P:Program} {w:World} {H:Hp} {h:Heap} {a:Addr} {u:HO} (r:Rd H a u) (x:HOk P w H h):ObjOk P w H h a u:=by
 rcases r with r | ⟨o,r⟩
 ·exact x a u r
 ·obtain ⟨_,q⟩:=x a _ r
  exact q
noncomputable def Mut:Option HO→Prop
 | some (.lst _)=>True
 | some (.dK _)=>True
 | some (.dT _)=>True
 | some (.set _ _)=>True
 | some (.ins _ _ _)=>True
 | some (.ext _)=>True
 | _=>False
section
variable {P:Program} {w:World} {H:Hp} {h h':Heap} {x e:Addr} {o':HO}
theorem HOk.write (ok:HOk P w H h) (mu:Mut (H x)) (he:e=x∨H e=some (.own x)) (k:∀ b u,b≠e→h.get? b=some u→h'.get? b=some u) (heo:∃ u,h'.get? e=some u)
  (new:ObjOk P w (upd H x o') h' x o'):HOk P w (upd H x o') h':=fun b u q=>by
 have nown:∀ c y,H c=some (.own y)→c≠x:=fun c y r z=>by subst z; rw [r] at mu; exact mu
 have ntup:∀ c xs,H c=some (.tup xs)→c≠x:=fun c xs r z=>by subst z; rw [r] at mu; exact mu
 by_cases hb:b=x
 ·subst hb; rw [upd_same] at q; cases q; exact new
 ·rw [upd_ne hb] at q
  by_cases hbe:b=e
  ·have q':H b=some (.own x):=by
    rcases he with z | z
    ·exact absurd (hbe.trans z) hb
    ·rw [hbe]; exact z
   rw [q] at q'; cases q'
   obtain ⟨v,hv⟩:=heo
   exact ⟨v,by rw [hbe]; exact hv⟩
  ·refine (ok b u q).stay (fun c v hc r=>k c v ?_ r) (fun c r=>by rw [upd_ne (nown c b r)]; exact r) fun c xs r=>by rw [upd_ne (ntup c xs r)]; exact r
   rcases hc with rfl | hc
   ·exact hbe
   ·rintro rfl
    rcases he with z | z
    ·exact nown c b hc z
    ·rw [hc] at z; cases z; exact hb rfl
end
structure Un (fs ex:List Addr) (H H':Hp) (h h':Heap):Prop where
 keep:∀ b o,h.get? b=some o→H b=none→b∉fs→b∉ex→h'.get? b=some o
 slot:∀ b o,h.get? b=some o→H b=none→b∈fs→b∉ex→∃ sl,h'.get? b=some { o with slots:=sl }
 free:∀ b o,h.get? b=some o→H b=none→b∉ex→H' b=none
 there:∀ b o,h.get? b=some o→b∉ex→∃ o',h'.get? b=some o'
 tups:∀ b xs,H b=some (.tup xs)→H' b=some (.tup xs)
 frzs:∀ b o u,H b=some (.frz o u)→H' b=some (.frz o u)
 tbls:∀ b ps,H b=some (.tbl ps)→∃ more,H' b=some (.tbl (ps++more))
section
variable {fs fs' ex ex':List Addr} {H H1 H2:Hp} {h h1 h2 h':Heap} {a x e:Addr} {o:HO}
theorem Un.any (u:Un fs ex H H1 h h1) {b:Addr} {ob:Obj} (q:h.get? b=some ob) (n:H b=none) (hx:b∉ex):∃ sl,h1.get? b=some { ob with slots:=sl }:=by
 by_cases hb:b∈fs
 ·exact u.slot b ob q n hb hx
 ·exact ⟨ob.slots,u.keep b ob q n hb hx⟩
theorem Un.kept (k:∀ b u,h.get? b=some u→h'.get? b=some u):Un fs ex H H h h' :=
 ⟨fun b ob q _ _ _=>k b ob q,fun b ob q _ _ _=>⟨ob.slots,k b ob q⟩,fun _ _ _ n _=>n,fun b ob q _=>⟨ob,k b ob q⟩,fun _ _ q=>q,fun _ _ _ q=>q,fun _ ps q=>⟨#[],by rw [q]; simp⟩⟩
theorem Un.refl:Un fs ex H H h h:=Un.kept fun _ _ q=>q
theorem Un.laid (k:∀ b u,h.get? b=some u→h'.get? b=some u) (hp:h.objs.size≤a) (hn:H a=none):Un fs ex H (upd H a o) h h' where
 keep:=fun b u q _ _ _=>k b u q
 slot:=fun b u q _ _ _=>⟨u.slots,k b u q⟩
 free:=fun b u q n _=>by rw [upd_ne (Nat.ne_of_lt (Nat.lt_of_lt_of_le (Heap.lt_size q) hp))]; exact n
 there:=fun b u q _=>⟨u,k b u q⟩
 tups:=fun b xs q=>by rw [upd_ne (ne_of_none q hn)]; exact q
 frzs:=fun b u xs q=>by rw [upd_ne (ne_of_none q hn)]; exact q
 tbls:=fun b ps q=>⟨#[],by rw [upd_ne (ne_of_none q hn),q]; simp⟩
theorem Un.write (mu:Mut (H x)) (he:e=x∨H e=some (.own x)) (k:∀ b u,b≠e→h.get? b=some u→h'.get? b=some u) (heo:∃ u,h'.get? e=some u):Un fs ex H (upd H x o) h h':=by
 have hx:∀ b,H b=none→b≠x:=fun b n z=>by subst z; rw [n] at mu; exact mu
 have hb:∀ b,H b=none→b≠e:=fun b n z=>by
  subst z
  rcases he with r | r
  ·exact hx b n r
  ·rw [n] at r; cases r
 have hm:∀ b u,H b=some u→¬ Mut (some u)→b≠x:=fun b u q nm z=>by subst z; rw [q] at mu; exact nm mu
 refine ⟨fun b u q n _ _=>k b u (hb b n) q,fun b u q n _ _=>⟨u.slots,k b u (hb b n) q⟩,fun b u q n _=>by rw [upd_ne (hx b n)]; exact n,fun b u q _=>?_,
  fun b xs q=>by rw [upd_ne (hm b _ q fun z=>z)]; exact q,fun b u xs q=>by rw [upd_ne (hm b _ q fun z=>z)]; exact q,fun b ps q=>⟨#[],by rw [upd_ne (hm b _ q fun z=>z),q]; simp⟩⟩
 by_cases hbe:b=e
 ·subst hbe; exact heo
 ·exact ⟨u,k b u hbe q⟩
end
noncomputable def trk (h:Heap) (H:Hp):List Addr:=(List.range h.objs.size).filter fun a=>(H a).isSome
noncomputable def hidT (h:Heap) (H:Hp):Heap:=PySem.W.hideAll h (trk h H)
theorem hidT_size (h:Heap) (H:Hp):(hidT h H).objs.size=h.objs.size:=PySem.W.hideAll_size _ _
theorem hidT_get {h:Heap} {H:Hp} {b:Addr} {o:Obj} (e:h.get? b=some o) (n:H b=none):(hidT h H).get? b=some o :=
 PySem.W.hideAll_get _ e fun hm=>by
  have q:(H b).isSome=true:=(List.mem_filter.mp hm).2
  rw [n] at q; simp at q
theorem of_hidT {h:Heap} {H:Hp} {b:Addr} {o:Obj} (e:(hidT h H).get? b=some o):h.get? b=some o∧H b=none:=by
 have e':h.get? b=some o:=PySem.W.of_hideAll (trk h H) e
 refine ⟨e',?_⟩
 cases q:H b with
 | none=>rfl
 | some x =>
  have hm:b∈trk h H:=List.mem_filter.mpr ⟨List.mem_range.mpr (Heap.lt_size e'),by simp [q]⟩
  have z:(hidT h H).get? b=none:=PySem.W.hideAll_none (trk h H) hm
  rw [z] at e; cases e
end L2
namespace L2
open PySem PySem.Spec PyProof.Rows
structure Mod (K:PySem.W.Frag) (mg:Str→Option Value) (base:Heap):Prop where
 kin:K.In base
 glob:base.Ns mainGlobals mg
 blt:∃ mb,base.Ns builtinsNs mb∧∀ x:Str,x ≠ "__name__"→mb x=bootBuiltins x
 nolimit:base.NoLimit
structure Cx where
 prog:Program
 w:World
 K:PySem.W.Frag
 mg:Str→Option Value
 base:Heap
 A:Around
 N:List Str
 s₀:Shared
 H₀:Hp
 env:Env
 outer:List Env
 stack:List Env
 ex:List Addr
 fn:Str→Bool
 calm:Bool
 pn:List (Addr × Obj)
 xe:Value→Shared→Prop
noncomputable def frs (l:List Env):List Addr:=l.filterMap (·.frame)
noncomputable abbrev Cx.fs (X:Cx):List Addr:=frs X.outer
noncomputable def Vis (sc:Scope) (x:Str):Prop:=sc.names.lookup x=some .local∨sc.names.lookup x=some .cell∨sc.names.lookup x=some .free
noncomputable def Loc (sc:Scope) (x:Str):Prop:=sc.names.lookup x=some .local∨sc.names.lookup x=some .cell
noncomputable def Look (env:Env) (h:Heap) (m:Str→Option Value) (x:Str) (u:Value):Prop :=
 (env.kindOf x=some .local∧m x=some u)∨((env.kindOf x=some .cell∨env.kindOf x=some .free)∧∃ c,env.cells.lookup x=some c∧h.IsCell c (some u))
structure Cx.Ok (X:Cx):Prop where
 mod:Mod X.K X.mg X.base
 kind:X.env.scope.kind=.function
 glob:X.env.globals=mainGlobals
 blt:X.env.builtins=builtinsNs
 above:X.s₀.heap.objs.size≤X.env.locals
 inj:∀ x y c,X.env.cells.lookup x=some c→X.env.cells.lookup y=some c→x=y
 has:∀ x,(X.env.kindOf x=some .cell∨X.env.kindOf x=some .free)→∃ c,X.env.cells.lookup x=some c
 cab:∀ x c,X.fn x=true→X.env.cells.lookup x=some c→X.s₀.heap.objs.size≤c
 hd:X.calm=true→X.A.handled=none
 frames:X.A.frames=some X.stack
 stk:X.stack=X.outer∨(X.stack=X.env :: X.outer∧X.env.frame=some X.env.locals)
 exf:∀ b∈X.ex,b≠X.env.locals∧∀ x c,X.env.cells.lookup x=some c→c≠b
 bs:∀ b o,X.base.get? b=some o→X.s₀.heap.get? b=some o∧X.H₀ b=none
 bsz:X.base.objs.size≤X.s₀.heap.objs.size
 noex:∀ b o,X.base.get? b=some o→b∉X.ex
 exfs:∀ b∈X.ex,b∉X.fs
 funs:X.s₀.heap.FunFrames X.base X.outer
 frf:∀ b∈X.fs,X.H₀ b=none
structure Inv (X:Cx) (pins:List (Addr × Obj)) (σ:List (Option V)) (H:Hp) (s:Shared):Prop where
 ok:X.Ok
 os:s.os=X.s₀.os
 bare:AllBare s.gens
 base:Un X.fs X.ex X.H₀ H X.s₀.heap s.heap
 loc:∃ m,s.heap.Ns X.env.locals m∧∀ (i:Nat) (x:Str) (v:V),X.N[i]? = some x→σ[i]? = some (some v)→Vis X.env.scope x→∃ u,RelV v u∧Look X.env s.heap m x u
 cell:∀ x c,X.env.cells.lookup x=some c→∃ v,s.heap.IsCell c v
 free:H X.env.locals=none
 freeC:∀ x c,X.env.cells.lookup x=some c→H c=none
 pin:∀ p∈X.pn++pins,s.heap.get? p.1=some p.2∧H p.1=none∧p.1≠X.env.locals∧p.1∉X.fs∧∀ v,p.2.data≠.cell v
 hok:HOk X.prog X.w H s.heap
 len:σ.length=X.N.length
section
variable {X:Cx} {pins:List (Addr × Obj)} {σ:List (Option V)} {H H':Hp} {s:Shared} {h':Heap}
theorem Cx.Ok.nofr (ok:X.Ok) {b:Addr} {o:Obj} (e:X.base.get? b=some o):b∉X.fs:=fun hb=>by
 have:=(ok.funs.mem hb).1
 rw [e] at this; cases this
theorem Inv.bs (I:Inv X pins σ H s):∀ b o,X.base.get? b=some o→s.heap.get? b=some o∧H b=none:=fun b o e =>
 ⟨I.base.keep b o (I.ok.bs b o e).1 (I.ok.bs b o e).2 (I.ok.nofr e) (I.ok.noex b o e),I.base.free b o (I.ok.bs b o e).1 (I.ok.bs b o e).2 (I.ok.noex b o e)⟩
theorem Inv.bk (I:Inv X pins σ H s):∀ b o,X.base.get? b=some o→s.heap.get? b=some o:=fun b o e=>(I.bs b o e).1
theorem Inv.mod (I:Inv X pins σ H s):Mod X.K X.mg X.base:=I.ok.mod
theorem Inv.kIn (I:Inv X pins σ H s):X.K.In s.heap:=I.ok.mod.kin.keeps I.bk
theorem Inv.lt (I:Inv X pins σ H s):X.env.locals<s.heap.objs.size:=let ⟨_,hn,_⟩:=I.loc; hn.lt
theorem Inv.sz (I:Inv X pins σ H s):X.s₀.heap.objs.size≤s.heap.objs.size:=Nat.le_trans I.ok.above (Nat.le_of_lt I.lt)
theorem Inv.nofs (I:Inv X pins σ H s) {a:Addr} (h:s.heap.objs.size≤a):a∉X.fs:=fun hb=>by
 obtain ⟨_,o,ho,_⟩:=I.ok.funs.mem hb
 exact absurd (Nat.lt_of_lt_of_le (Heap.lt_size ho) (Nat.le_trans I.sz h)) (Nat.lt_irrefl _)
theorem Inv.cne (I:Inv X pins σ H s):∀ x c,X.env.cells.lookup x=some c→c≠X.env.locals:=fun x c e z=>by
 obtain ⟨v,o,ho,hd⟩:=I.cell x c e
 obtain ⟨m,⟨o',es,ep,ho',hd',_⟩,_⟩:=I.loc
 rw [z,ho'] at ho; cases ho; rw [hd'] at hd; cases hd
theorem Inv.funs (I:Inv X pins σ H s):s.heap.FunFrames X.base X.outer:=by
 have all:∀ (l:List Env),(∀ b∈frs l,b∈X.fs)→X.s₀.heap.FunFrames X.base l→s.heap.FunFrames X.base l:=by
  intro l
  induction l with
  | nil=>intro _ _; trivial
  | cons env r ih =>
   intro hs hl
   obtain ⟨hk,⟨L,o,hf,hn,ho,hd⟩,hr⟩:=hl
   have hL:L∈X.fs:=hs L (by unfold frs; rw [List.filterMap_cons,hf]; exact List.mem_cons_self)
   obtain ⟨sl,e⟩:=I.base.slot L o ho (I.ok.frf L hL) hL fun z=>I.ok.exfs L z hL
   exact ⟨hk,⟨L,_,hf,hn,e,hd⟩,ih (fun b hb=>hs b (by unfold frs; rw [List.filterMap_cons,hf]; exact List.mem_cons_of_mem _ hb)) hr⟩
 exact all X.outer (fun _ hb=>hb) I.ok.funs
theorem Inv.stack (I:Inv X pins σ H s):s.heap.FunFrames X.base X.stack:=by
 rcases I.ok.stk with e | ⟨e,hf⟩
 ·rw [e]; exact I.funs
 ·rw [e]
  obtain ⟨m,hn,_⟩:=I.loc
  refine .cons (by rw [I.ok.kind]; decide) hf hn ?_ I.funs
  exact Heap.get?_none_of_le (Nat.le_trans I.ok.bsz I.ok.above)
theorem Inv.stkSub (I:Inv X pins σ H s):∀ b∈frs X.stack,b∈X.env.locals :: X.fs:=fun b hb=>by
 rcases I.ok.stk with e | ⟨e,hf⟩
 ·rw [e] at hb; exact List.mem_cons_of_mem _ hb
 ·rw [e] at hb
  unfold frs at hb
  rw [List.filterMap_cons,hf] at hb
  exact hb
theorem Inv.stkFree (I:Inv X pins σ H s):∀ b∈frs X.stack,H b=none:=fun b hb=>by
 rcases List.mem_cons.mp (I.stkSub b hb) with e | hb
 ·rw [e]; exact I.free
 ·obtain ⟨_,o,ho,_⟩:=I.ok.funs.mem hb
  exact I.base.free b o ho (I.ok.frf b hb) fun z=>I.ok.exfs b z hb
theorem Inv.step {g':Array GenState} {t':Nat} {d':Drawn} {ch:List Addr} (I:Inv X pins σ H s)
  (hch:∀ b∈ch,(b∈X.ex∨X.s₀.heap.objs.size≤b)∧b≠X.env.locals∧(∀ x c,X.env.cells.lookup x=some c→c≠b)∧∀ p∈X.pn++pins,p.1≠b)
  (keep:∀ b o,b≠X.env.locals→b∉X.fs→b∉ch→s.heap.get? b=some o→H b=none→h'.get? b=some o)
  (slot:∀ b o,b≠X.env.locals→b∈X.fs→b∉ch→s.heap.get? b=some o→H b=none→∃ sl,h'.get? b=some { o with slots:=sl }) (free:∀ b o,b∉ch→s.heap.get? b=some o→H b=none→H' b=none)
  (there:∀ b o,b∉ch→s.heap.get? b=some o→∃ o',h'.get? b=some o')
  (tups:∀ b xs,H b=some (.tup xs)→H' b=some (.tup xs)) (frzs:∀ b o u,H b=some (.frz o u)→H' b=some (.frz o u)) (tbls:∀ b ps,H b=some (.tbl ps)→∃ more,H' b=some (.tbl (ps++more)))
  (ns:∀ m,s.heap.Ns X.env.locals m→h'.Ns X.env.locals m) (hok:HOk X.prog X.w H' h') (hg:AllBare g') :
  Inv X pins σ H' { s with heap:=h',gens:=g',drawn:=d',toks:=t' }:=by
 have neL:∀ b o,X.s₀.heap.get? b=some o→b≠X.env.locals:=fun b o e=>Nat.ne_of_lt (Nat.lt_of_lt_of_le (Heap.lt_size e) I.ok.above)
 have neC:∀ b o,X.s₀.heap.get? b=some o→b∉X.ex→b∉ch:=fun b o e hx hb=>by
  rcases (hch b hb).1 with z | z
  ·exact hx z
  ·exact absurd (Nat.lt_of_lt_of_le (Heap.lt_size e) z) (Nat.lt_irrefl _)
 have cellK:∀ x c,X.env.cells.lookup x=some c→∀ v,s.heap.IsCell c v→h'.IsCell c v:=fun x c e v hx9=>by
  obtain ⟨o,ho,hd⟩:=hx9
  have nch:c∉ch:=fun z=>(hch c z).2.2.1 x c e rfl
  by_cases hc:c∈X.fs
  ·obtain ⟨sl,q⟩:=slot c o (I.cne x c e) hc nch ho (I.freeC x c e)
   exact ⟨_,q,hd⟩
  ·exact ⟨o,keep c o (I.cne x c e) hc nch ho (I.freeC x c e),hd⟩
 refine ⟨I.ok,I.os,hg,⟨fun b o e n hb hx=>?_,fun b o e n hb hx=>?_,fun b o e n hx=>?_,fun b o e hx=>?_,fun b xs e=>tups b xs (I.base.tups b xs e),fun b o xs e=>frzs b o xs (I.base.frzs b o xs e),fun b ps e=>?_⟩,?_,fun x c e=>?_,?_,fun x c e=>?_,fun p hp=>?_,hok,I.len⟩
 ·exact keep b o (neL b o e) hb (neC b o e hx) (I.base.keep b o e n hb hx) (I.base.free b o e n hx)
 ·obtain ⟨sl,e1⟩:=I.base.slot b o e n hb hx
  obtain ⟨sl',e2⟩:=slot b _ (neL b o e) hb (neC b o e hx) e1 (I.base.free b o e n hx)
  exact ⟨sl',e2⟩
 ·obtain ⟨o',e1⟩:=I.base.there b o e hx
  exact free b o' (neC b o e hx) e1 (I.base.free b o e n hx)
 ·obtain ⟨o',e1⟩:=I.base.there b o e hx
  exact there b o' (neC b o e hx) e1
 ·obtain ⟨m1,e1⟩:=I.base.tbls b ps e
  obtain ⟨m2,e2⟩:=tbls b _ e1
  exact ⟨m1++m2,by rw [e2,Array.append_assoc]⟩
 ·obtain ⟨m,hn,hl⟩:=I.loc
  refine ⟨m,ns m hn,fun i x v e1 e2 e3=>?_⟩
  obtain ⟨u,r,l⟩:=hl i x v e1 e2 e3
  refine ⟨u,r,?_⟩
  rcases l with l | ⟨k,c,e,z⟩
  ·exact .inl l
  ·exact .inr ⟨k,c,e,cellK x c e _ z⟩
 ·obtain ⟨v,z⟩:=I.cell x c e
  exact ⟨v,cellK x c e v z⟩
 ·obtain ⟨m,⟨o,_,_,ho,_⟩,_⟩:=I.loc
  exact free _ o (fun z=>(hch _ z).2.1 rfl) ho I.free
 ·obtain ⟨v,o,ho,hd⟩:=I.cell x c e
  exact free c o (fun z=>(hch c z).2.2.1 x c e rfl) ho (I.freeC x c e)
 ·obtain ⟨e,n,ne,nf,d⟩:=I.pin p hp
  have nch:p.1∉ch:=fun z=>(hch p.1 z).2.2.2 p hp rfl
  exact ⟨keep p.1 p.2 ne nf nch e n,free p.1 p.2 nch e n,ne,nf,d⟩
theorem Inv.un {t':Nat} (I:Inv X pins σ H s) (u:Un X.fs [] H H' s.heap h') (hok:HOk X.prog X.w H' h'):Inv X pins σ H' { s with heap:=h',toks:=t' }:=by
 obtain ⟨m,⟨o,es,ep,ho,r⟩,_⟩:=id I.loc
 obtain ⟨sl,hL⟩:=u.any ho I.free (by simp)
 exact I.step (g':=s.gens) (d':=s.drawn) (ch:=[]) (fun _ z=>nomatch z) (fun b o _ hb _ e n=>u.keep b o e n hb (by simp)) (fun b o _ hb _ e n=>u.slot b o e n hb (by simp)) (fun b o _ e n=>u.free b o e n (by simp)) (fun b o _ e=>u.there b o e (by simp)) u.tups u.frzs u.tbls (fun m' hm=>by
  obtain ⟨o',es',ep',ho',r'⟩:=hm
  rw [ho] at ho'; cases ho'
  exact ⟨_,es',ep',hL,r'⟩) hok I.bare
theorem Inv.call {g':Array GenState} {t':Nat} {d':Drawn} {ch:List Addr} (I:Inv X pins σ H s) (u:Un (frs X.stack) ch H H' s.heap h') (hok:HOk X.prog X.w H' h') (hg:AllBare g')
  (hch:∀ b∈ch,(b∈X.ex∨X.s₀.heap.objs.size≤b)∧b≠X.env.locals∧(∀ x c,X.env.cells.lookup x=some c→c≠b)∧∀ p∈X.pn++pins,p.1≠b) :
  Inv X pins σ H' { s with heap:=h',gens:=g',drawn:=d',toks:=t' }:=by
 obtain ⟨m,⟨o,es,ep,ho,r⟩,_⟩:=id I.loc
 obtain ⟨sl,hL⟩:=u.any ho I.free fun z=>(hch _ z).2.1 rfl
 exact I.step (ch:=ch) hch (fun b o hL hb hc e n=>u.keep b o e n (fun z=>(List.mem_cons.mp (I.stkSub b z)).elim hL hb) hc) (fun b o _ _ hc e n=>u.any e n hc) (fun b o hc e n=>u.free b o e n hc) (fun b o hc e=>u.there b o e hc) u.tups u.frzs u.tbls (fun m' hm=>by
  obtain ⟨o',es',ep',ho',r'⟩:=hm
  rw [ho] at ho'; cases ho'
  exact ⟨_,es',ep',hL,r'⟩) hok hg
theorem Inv.turned {t':Nat} {it:Addr} (I:Inv X pins σ H s) (k:∀ b o,b≠it→s.heap.get? b=some o→h'.get? b=some o) (hn:H it=none) (hL:it≠X.env.locals)
  (h1:it∈X.ex∨X.s₀.heap.objs.size≤it) (h2:∀ x c,X.env.cells.lookup x=some c→c≠it) (h3:∀ p∈X.pn++pins,p.1≠it):Inv X pins σ H { s with heap:=h',toks:=t' }:=by
 have nit:∀ b u,H b=some u→b≠it:=fun b u e z=>by rw [z,hn] at e; cases e
 refine I.step (g':=s.gens) (d':=s.drawn) (ch:=[it]) (fun b hb=>?_) (fun b o _ _ hc e _=>k b o (fun z=>hc (by simp [z])) e) (fun b o _ _ hc e _=>⟨o.slots,k b o (fun z=>hc (by simp [z])) e⟩) (fun _ _ _ _ n=>n)
  (fun b o hc e=>⟨o,k b o (fun z=>hc (by simp [z])) e⟩) (fun _ _ e=>e) (fun _ _ _ e=>e) (fun b ps e=>⟨#[],by rw [e]; simp⟩) (fun m hm=>?_) (fun b u e=>?_) I.bare
 ·have e:b=it:=by simpa using hb
  subst e
  exact ⟨h1,hL,h2,h3⟩
 ·obtain ⟨o,es,ep,ho,r⟩:=hm
  exact ⟨o,es,ep,k _ o (Ne.symm hL) ho,r⟩
 ·refine (I.hok b u e).stay (fun c v hc q=>k c v ?_ q) (fun _ q=>q) fun _ _ q=>q
  rcases hc with z | z
  ·rw [z]; exact nit b u e
  ·exact nit c _ z
theorem Inv.tok (I:Inv X pins σ H s) (t:Nat):Inv X pins σ H { s with toks:=t }:=I.un (h':=s.heap) (t':=t) Un.refl I.hok
theorem Inv.kept {t':Nat} (I:Inv X pins σ H s) (k:∀ b u,s.heap.get? b=some u→h'.get? b=some u):Inv X pins σ H { s with heap:=h',toks:=t' }:=I.un (Un.kept k) (I.hok.kept k)
theorem Inv.laid {a:Addr} {o:HO} {t':Nat} (I:Inv X pins σ H s) (k:∀ b u,s.heap.get? b=some u→h'.get? b=some u) (hp:s.heap.objs.size≤a) (new:ObjOk X.prog X.w (upd H a o) h' a o) :
  Inv X pins σ (upd H a o) { s with heap:=h',toks:=t' }:=I.un (Un.laid k hp (I.hok.fresh hp)) (I.hok.laid k hp new)
theorem Inv.write {x e:Addr} {o:HO} {t':Nat} (I:Inv X pins σ H s) (mu:Mut (H x)) (he:e=x∨H e=some (.own x)) (k:∀ b u,b≠e→s.heap.get? b=some u→h'.get? b=some u) (heo:∃ u,h'.get? e=some u)
  (new:ObjOk X.prog X.w (upd H x o) h' x o):Inv X pins σ (upd H x o) { s with heap:=h',toks:=t' }:=I.un (Un.write mu he k heo) (I.hok.write mu he k heo new)
theorem Inv.pins_of {pins':List (Addr × Obj)} (I:Inv X pins σ H s) (h:∀ p∈pins',s.heap.get? p.1=some p.2∧H p.1=none∧p.1≠X.env.locals∧p.1∉X.fs∧∀ v,p.2.data≠.cell v):Inv X pins' σ H s :=
 ⟨I.ok,I.os,I.bare,I.base,I.loc,I.cell,I.free,I.freeC,fun p hp=>(List.mem_append.mp hp).elim (fun z=>I.pin p (List.mem_append_left _ z)) (h p),I.hok,I.len⟩
theorem nodup_ix {N:List Str} (hN:N.Nodup) {i j:Nat} {x:Str} (a:N[i]? = some x) (b:N[j]? = some x):i=j:=by
 obtain ⟨h1,e1⟩:=List.getElem?_eq_some_iff.mp a
 obtain ⟨h2,e2⟩:=List.getElem?_eq_some_iff.mp b
 exact (List.getElem_inj hN).mp (e1.trans e2.symm)
theorem store_ok2 {M:Model} {A:Around} {E:Value→Shared→Prop} {i:Nat} {x:Str} {v:V} {u:Value} {Q:Unit→Shared→Prop} (I:Inv X pins σ H s) (hN:X.N.Nodup) (hi:X.N[i]? = some x) (hx:Loc X.env.scope x) (r:RelV v u)
  (h:∀ s',Inv X pins (σ.set i (some v)) H s'→(∃ a,Heap.SameBut a s.heap s'.heap∧(a=X.env.locals∨X.env.cells.lookup x=some a))→Q () s') (hf:X.fn x=true∨X.env.scope.names.lookup x=some .local:=by first | exact .inl rfl | exact .inr rfl | assumption):wpAny M A (storeName X.env x u) Q E s:=by
 obtain ⟨m,hn,hl⟩:=id I.loc
 have hcls:(X.env.scope.kind == .class || (X.env.scope.kind == .module && X.env.locals != X.env.globals))=false:=by rw [I.ok.kind]; rfl
 have hiσ:i<σ.length:=by rw [I.len]; exact (List.getElem?_eq_some_iff.mp hi).1
 have cne:=I.cne
 have tracked:∀ {a:Addr} {h':Heap},(∃ o,s.heap.get? a=some o∧H a=none)→Heap.SameBut a s.heap h'→HOk X.prog X.w H h':=fun {a h'} ha hs b ob e=>by
  obtain ⟨_,_,hfree⟩:=ha
  refine (I.hok b ob e).stay (fun c w' hc q=>(hs.2 c ?_).trans q) (fun _ q=>q) fun _ _ q=>q
  rintro rfl
  rcases hc with rfl | hc
  ·rw [hfree] at e; cases e
  ·rw [hfree] at hc; cases hc
 rcases hx with hk | hk
 ·refine wpAny_storeName_local hk hn (fun h' hn' hs=>?_) hcls
  obtain ⟨oL,_,_,hoL,_⟩:=id hn
  refine h _ ⟨I.ok,I.os,I.bare,⟨fun b o e n hb hx=>?_,fun b o e n hb hx=>?_,I.base.free,fun b o e hx=>?_,I.base.tups,I.base.frzs,I.base.tbls⟩,⟨_,hn',fun j y v' e1 e2 e3=>?_⟩,fun y c e=>?_,I.free,I.freeC,fun p hp=>?_,tracked ⟨oL,hoL,I.free⟩ hs,by simpa using I.len⟩ ⟨_,hs,.inl rfl⟩
  ·exact (hs.2 b (Nat.ne_of_lt (Nat.lt_of_lt_of_le (Heap.lt_size e) I.ok.above))).trans (I.base.keep b o e n hb hx)
  ·obtain ⟨sl,e1⟩:=I.base.slot b o e n hb hx
   exact ⟨sl,(hs.2 b (Nat.ne_of_lt (Nat.lt_of_lt_of_le (Heap.lt_size e) I.ok.above))).trans e1⟩
  ·obtain ⟨o',e1⟩:=I.base.there b o e hx
   exact ⟨o',(hs.2 b (Nat.ne_of_lt (Nat.lt_of_lt_of_le (Heap.lt_size e) I.ok.above))).trans e1⟩
  ·by_cases hj:j=i
   ·subst hj
    rw [hi] at e1; cases e1
    rw [List.getElem?_set_self hiσ] at e2
    cases e2
    exact ⟨u,r,.inl ⟨hk,by simp⟩⟩
   ·rw [List.getElem?_set_ne (Ne.symm hj)] at e2
    obtain ⟨u',r',q⟩:=hl j y v' e1 e2 e3
    refine ⟨u',r',?_⟩
    rcases q with ⟨k,e⟩ | ⟨k,c,e,z⟩
    ·refine .inl ⟨k,?_⟩
     have:y≠x:=fun e=>hj (nodup_ix hN e1 (e ▸ hi))
     simp [this,e]
    ·exact .inr ⟨k,c,e,z.sameBut hs (cne y c e)⟩
  ·obtain ⟨w',z⟩:=I.cell y c e
   exact ⟨w',z.sameBut hs (cne y c e)⟩
  ·obtain ⟨e,n,ne,nf,d⟩:=I.pin p hp
   exact ⟨(hs.2 p.1 ne).trans e,n,ne,nf,d⟩
 ·have hfn:X.fn x=true:=by
   rcases hf with z | z
   ·exact z
   ·rw [z] at hk; cases hk
  obtain ⟨c,hc⟩:=I.ok.has x (.inl hk)
  obtain ⟨w',z⟩:=I.cell x c hc
  refine wpAny_storeName_cell I.ok.kind hk hc z (fun h' hc' hs=>?_)
  obtain ⟨oc,hoc,hocd⟩:=id z
  refine h { s with heap:=h' } ⟨I.ok,I.os,I.bare,⟨fun b o e n hb hx=>?_,fun b o e n hb hx=>?_,I.base.free,fun b o e hx=>?_,I.base.tups,I.base.frzs,I.base.tbls⟩,⟨m,hn.sameBut hs (Ne.symm (cne x c hc)),fun j y v' e1 e2 e3=>?_⟩,fun y c' e=>?_,I.free,I.freeC,fun p hp=>?_,tracked ⟨oc,hoc,I.freeC x c hc⟩ hs,by simpa using I.len⟩ ⟨c,hs,.inr hc⟩
  ·exact (hs.2 b (Nat.ne_of_lt (Nat.lt_of_lt_of_le (Heap.lt_size e) (I.ok.cab x c hfn hc)))).trans (I.base.keep b o e n hb hx)
  ·obtain ⟨sl,e1⟩:=I.base.slot b o e n hb hx
   exact ⟨sl,(hs.2 b (Nat.ne_of_lt (Nat.lt_of_lt_of_le (Heap.lt_size e) (I.ok.cab x c hfn hc)))).trans e1⟩
  ·obtain ⟨o',e1⟩:=I.base.there b o e hx
   exact ⟨o',(hs.2 b (Nat.ne_of_lt (Nat.lt_of_lt_of_le (Heap.lt_size e) (I.ok.cab x c hfn hc)))).trans e1⟩
  ·by_cases hj:j=i
   ·subst hj
    rw [hi] at e1; cases e1
    rw [List.getElem?_set_self hiσ] at e2
    cases e2
    exact ⟨u,r,.inr ⟨.inl hk,c,hc,hc'⟩⟩
   ·rw [List.getElem?_set_ne (Ne.symm hj)] at e2
    obtain ⟨u',r',q⟩:=hl j y v' e1 e2 e3
    refine ⟨u',r',?_⟩
    rcases q with q | ⟨k,c',e,z'⟩
    ·exact .inl q
    ·refine .inr ⟨k,c',e,z'.sameBut hs ?_⟩
     rintro rfl
     exact hj (nodup_ix hN e1 (I.ok.inj _ _ _ e hc ▸ hi))
  ·by_cases hcc:c'=c
   ·subst hcc; exact ⟨_,hc'⟩
   ·obtain ⟨w2,z2⟩:=I.cell y c' e
    exact ⟨w2,z2.sameBut hs hcc⟩
  ·obtain ⟨e,n,ne,nf,d⟩:=I.pin p hp
   refine ⟨(hs.2 p.1 ?_).trans e,n,ne,nf,d⟩
   intro q
   rw [q,hoc] at e
   have q':oc=p.2:=Option.some.inj e
   exact d w' (by rw [← q']; exact hocd)
theorem store_ok {M:Model} {A:Around} {E:Value→Shared→Prop} {i:Nat} {x:Str} {v:V} {u:Value} {Q:Unit→Shared→Prop} (I:Inv X pins σ H s) (hN:X.N.Nodup) (hi:X.N[i]? = some x) (hx:Loc X.env.scope x) (r:RelV v u)
  (h:∀ s',Inv X pins (σ.set i (some v)) H s'→Q () s') (hf:X.fn x=true∨X.env.scope.names.lookup x=some .local:=by first | exact .inl rfl | exact .inr rfl | assumption):wpAny M A (storeName X.env x u) Q E s :=
 store_ok2 I hN hi hx r (fun s' I' _=>h s' I') hf
theorem Inv.call' {s':Shared} {ch:List Addr} (I:Inv X pins σ H s) (ho:s'.os=s.os) (u:Un (frs X.stack) ch H H' s.heap s'.heap) (hok:HOk X.prog X.w H' s'.heap) (hg:AllBare s'.gens)
  (hch:∀ b∈ch,(b∈X.ex∨X.s₀.heap.objs.size≤b)∧b≠X.env.locals∧(∀ x c,X.env.cells.lookup x=some c→c≠b)∧∀ p∈X.pn++pins,p.1≠b):Inv X pins σ H' s':=by
 obtain ⟨h',g',d',t',o'⟩:=s'
 have e:o'=s.os:=ho
 subst e
 exact I.call (g':=g') (t':=t') (d':=d') u hok hg hch
end
noncomputable abbrev XK:=Value→Option Addr→Hp→Prop
noncomputable abbrev St:=List (Option V)
noncomputable abbrev VK:=V→Hp→Prop
noncomputable abbrev TE:=St→Hp→VK→Prop
noncomputable abbrev TT:=St→Hp→(Bool→Hp→Prop)→Prop
noncomputable abbrev TA:=St→Hp→(List V→Hp→Prop)→Prop
structure Ends where
 nx:St→Hp→Prop
 rt:VK
 bk:St→Hp→Prop:=fun _ _=>False
 ct:St→Hp→Prop:=fun _ _=>False
noncomputable abbrev TS:=Ends→St→Hp→Prop
noncomputable def EP (X:Cx) (pins:List (Addr × Obj)) (σ:St) (Q:VK) (u:Value) (s':Shared):Prop:=∃ v H',Inv X pins σ H' s'∧RelV v u∧Q v H'
noncomputable def TP (X:Cx) (pins:List (Addr × Obj)) (σ:St) (Q:Bool→Hp→Prop) (b:Bool) (s':Shared):Prop:=∃ H',Inv X pins σ H' s'∧Q b H'
noncomputable def AP (X:Cx) (pins:List (Addr × Obj)) (σ:St) (Q:List V→Hp→Prop) (us:List Value) (s':Shared):Prop:=∃ vs H',Inv X pins σ H' s'∧Vals vs us∧Q vs H'
noncomputable def SP (X:Cx) (pins:List (Addr × Obj)) (D:Ends) (f:Flow) (s':Shared):Prop :=
 match f with
 | .next=>∃ σ' H',Inv X pins σ' H' s'∧D.nx σ' H'
 | .brk=>∃ σ' H',Inv X pins σ' H' s'∧D.bk σ' H'
 | .cont=>∃ σ' H',Inv X pins σ' H' s'∧D.ct σ' H'
 | .ret u=>∃ v σ' H',Inv X pins σ' H' s'∧RelV v u∧D.rt v H'
noncomputable def PE (X:Cx) (e:Expr) (t:TE):Prop :=
 ∀ (pins:List (Addr × Obj)) (s:Shared) (σ:St) (H:Hp) (Q:VK),Inv X pins σ H s→t σ H Q→wpAny (model X.prog X.w) X.A (eval e X.env) (EP X pins σ Q) X.xe s
noncomputable def PT (X:Cx) (e:Expr) (t:TT):Prop :=
 ∀ (pins:List (Addr × Obj)) (s:Shared) (σ:St) (H:Hp) (Q:Bool→Hp→Prop),Inv X pins σ H s→t σ H Q→wpAny (model X.prog X.w) X.A (isTrue e X.env (eval e X.env)) (TP X pins σ Q) X.xe s
noncomputable def PW (X:Cx) (e:Expr) (t:TT):Prop :=
 ∀ (whole:Sem Value) (pins:List (Addr × Obj)) (s:Shared) (σ:St) (H:Hp) (Q:Bool→Hp→Prop),Inv X pins σ H s→t σ H Q→wpAny (model X.prog X.w) X.A (isTrue e X.env whole) (TP X pins σ Q) X.xe s
noncomputable def PA (X:Cx) (es:List Expr) (t:TA):Prop :=
 ∀ (pos:Pos) (pins:List (Addr × Obj)) (s:Shared) (σ:St) (H:Hp) (Q:List V→Hp→Prop),Inv X pins σ H s→t σ H Q→wpAny (model X.prog X.w) X.A (spliced (backTo pos (starEach es X.env))) (AP X pins σ Q) X.xe s
noncomputable def PS (X:Cx) (st:Stmt) (t:TS):Prop :=
 ∀ (pins:List (Addr × Obj)) (s:Shared) (σ:St) (H:Hp) (D:Ends),Inv X pins σ H s→t D σ H→wpAny (model X.prog X.w) X.A (exec st X.env) (SP X pins D) X.xe s
noncomputable def PSs (X:Cx) (st:List Stmt) (t:TS):Prop :=
 ∀ (pins:List (Addr × Obj)) (s:Shared) (σ:St) (H:Hp) (D:Ends),Inv X pins σ H s→t D σ H→wpAny (model X.prog X.w) X.A (execs st X.env) (SP X pins D) X.xe s
theorem thn {α:Type} {t:Sem α} {Q Q':α→Shared→Prop} {M:Model} {A:Around} {E:Value→Shared→Prop} {s:Shared} (h:wpAny M A t Q E s) (hQ:∀ a s,Q a s→Q' a s):wpAny M A t Q' E s:=wpAny_mono h hQ fun _ _ x=>x
end L2
namespace L2
open PySem PySem.Spec PyProof.Rows
section
variable {X:Cx}
noncomputable def tVar (i:Nat):TE:=fun σ H Q=>∃ v,σ[i]? = some (some v)∧Q v H
noncomputable def tC (v:V):TE:=fun _ H Q=>Q v H
theorem pe_var {i:Nat} {x:Str} {pos:Pos} (hN:X.N[i]? = some x) (hv:Vis X.env.scope x) (hd:(x == ("__debug__" : Str))=false:=by decide) (hcd:(x == ("__classdict__" : Str))=false:=by decide):PE X (.Name x pos) (tVar i):=by
 intro pins s σ H Q I h
 obtain ⟨v,e,h⟩:=h
 obtain ⟨m,hn,hl⟩:=I.loc
 obtain ⟨u,r,l⟩:=hl i x v hN e hv
 have fin:EP X pins σ Q u s:=⟨v,H,I,r,h⟩
 rcases l with ⟨hk,hm⟩ | ⟨hk,c,hc,hcell⟩
 ·exact wpAny_Name (wpAny_loadName_local I.ok.kind hk hn hm fin) hd
 ·rcases hk with hk | hk
  ·exact wpAny_Name (wpAny_loadName_cell I.ok.kind hk hc hcell fin) hd
  ·exact wpAny_Name (wpAny_loadName_free I.ok.kind hk hc hcell fin hcd) hd
theorem pe_int {i j pos}:PE X (.Constant (.int i) j pos) (tC (.int i)):=fun _ _ _ H _ I h=>wpAny_Constant_int ⟨.int i,H,I.tok _,⟨_,rfl⟩,h⟩
theorem pe_bl {b j pos}:PE X (.Constant (.bool b) j pos) (tC (.bl b)):=fun _ _ _ H _ I h=>Constant_bool ⟨.bl b,H,I,rfl,h⟩
theorem pe_str {x j pos}:PE X (.Constant (.str x) j pos) (tC (.str x)):=fun _ _ _ H _ I h=>Calls.Constant_str ⟨.str x,H,I.tok _,⟨_,rfl⟩,h⟩
noncomputable def Gl (X:Cx) (x:Str):Prop:=X.env.kindOf x=some .globalImplicit
theorem ld_glob {E:Value→Shared→Prop} {pins:List (Addr × Obj)} {s:Shared} {σ:St} {H:Hp} {x:Str} {u:Value} {pos:Pos} {Q:Value→Shared→Prop} (I:Inv X pins σ H s) (hg:Gl X x) (hm:X.mg x=some u) (h:Q u s)
  (hd:(x == ("__debug__" : Str))=false:=by decide):wpAny (model X.prog X.w) X.A (eval (.Name x pos) X.env) Q E s :=
 Calls.Name_function_global I.ok.kind hg (Calls.loadGlobal_global (by rw [I.ok.glob]; exact I.mod.glob.keeps I.bk) hm h) hd
theorem ld_blt {E:Value→Shared→Prop} {pins:List (Addr × Obj)} {s:Shared} {σ:St} {H:Hp} {x:Str} {u:Value} {pos:Pos} {Q:Value→Shared→Prop} (I:Inv X pins σ H s) (hg:Gl X x) (hm:X.mg x=none) (hv:bootBuiltins x=some u) (h:Q u s)
  (hn:x ≠ "__name__" := by decide) (hd:(x == ("__debug__" : Str))=false:=by decide):wpAny (model X.prog X.w) X.A (eval (.Name x pos) X.env) Q E s:=by
 obtain ⟨mb,h1,h2⟩:=I.mod.blt
 exact Calls.Name_function_global I.ok.kind hg (Calls.loadGlobal_builtin (by rw [I.ok.glob]; exact I.mod.glob.keeps I.bk) hm (by rw [I.ok.blt]; exact h1.keeps I.bk) ((h2 x hn).trans hv) h) hd
theorem pe_glob {x:Str} {v:V} {u:Value} {pos:Pos} (hg:Gl X x) (hm:X.mg x=some u) (r:RelV v u) (hd:(x == ("__debug__" : Str))=false:=by decide):PE X (.Name x pos) (tC v) :=
 fun _ _ _ H _ I h=>ld_glob I hg hm ⟨v,H,I,r,h⟩ hd
theorem pe_bltn {x:Str} {v:V} {u:Value} {pos:Pos} (hg:Gl X x) (hm:X.mg x=none) (hv:bootBuiltins x=some u) (r:RelV v u) (hn:x ≠ "__name__" := by decide) (hd:(x == ("__debug__" : Str))=false:=by decide):PE X (.Name x pos) (tC v) :=
 fun _ _ _ H _ I h=>ld_blt I hg hm hv ⟨v,H,I,r,h⟩ hn hd
variable {a b:Expr} {ta tb:TE} {pos:Pos}
noncomputable def tB (t:TE):TT:=fun σ H Q=>t σ H fun x H1=>∃ c,x=.bl c∧Q c H1
theorem pt_val {e:Expr} {t:TE} (h:PE X e t) (he:∀ whole,isTrue e X.env whole=(do let v ← whole; standAt e.pos; holding [v] (truthy v)):=by intro _; rfl):PT X e (tB t):=by
 intro pins s σ H Q I hw
 refine isTrue_plain (thn (h pins s σ H _ I hw) fun v s1 hx5=>L2.ex2 hx5 fun x H1 I1 r1 q1=>?_) (he _)
 obtain ⟨d,rfl,q⟩:=q1
 cases r1
 exact wpAny_truthy_bool ⟨H1,I1,q⟩
variable {tA tB':TT} {rest:List Expr}
noncomputable def tOr (t u:TT):TT:=fun σ H Q=>t σ H fun c H1=>if c=true then Q true H1 else u σ H1 Q
noncomputable def tNot (t:TT):TT:=fun σ H Q=>t σ H fun c H1=>Q (!c) H1
theorem pw_or1 (ha:PT X a tA):PW X (.BoolOp .Or [a] pos) tA:=by
 intro wh pins s σ H Q I h
 refine isTrue_or (thn (ha pins s σ H Q I h) fun c s1 e=>?_)
 cases c with
 | false=>exact isTrue_or_nil e
 | true=>exact e
theorem pw_or (ha:PT X a tA) (hb:PW X (.BoolOp .Or (b :: rest) pos) tB'):PW X (.BoolOp .Or (a :: b :: rest) pos) (tOr tA tB'):=by
 intro wh pins s σ H Q I h
 refine isTrue_or (thn (ha pins s σ H _ I h) fun c s1 hx9=>?_)
 obtain ⟨H1,I1,q1⟩:=hx9
 cases c with
 | true=>exact ⟨H1,I1,q1⟩
 | false=>exact hb wh pins s1 σ H1 Q I1 q1
theorem pt_not (ha:PT X a tA):PT X (.UnaryOp .Not a pos) (tNot tA):=by
 intro pins s σ H Q I h
 exact isTrue_not (ha pins s σ H (fun c H1=>Q (!c) H1) I h)
noncomputable def tAndV (ta tb:TE):TE:=fun σ H Q=>ta σ H fun x H1=>∃ c,x=.bl c∧if c=true then tb σ H1 Q else Q (.bl false) H1
noncomputable def tNotV (ta:TE):TE:=fun σ H Q=>ta σ H fun x H1=>∃ c,x=.bl c∧Q (.bl (!c)) H1
theorem pe_one {op} {t:TE} (h:PE X a t):PE X (.BoolOp op [a] pos) t:=fun pins s σ H Q I hw=>BoolOp_one (h pins s σ H Q I hw)
theorem pe_and (ha:PE X a ta) (hb:PE X (.BoolOp .And (b :: rest) pos) tb):PE X (.BoolOp .And (a :: b :: rest) pos) (tAndV ta tb):=by
 intro pins s σ H Q I h
 refine BoolOp_and (thn (ha pins s σ H _ I h) fun v s1 hx5=>L2.ex2 hx5 fun x H1 I1 r1 q1=>?_)
 obtain ⟨c,rfl,q1⟩:=q1
 cases r1
 refine wpAny_truthy_bool ?_
 cases c with
 | true=>exact hb pins s1 σ H1 Q I1 q1
 | false=>exact ⟨.bl false,H1,I1,rfl,q1⟩
theorem pe_not (ha:PE X a ta):PE X (.UnaryOp .Not a pos) (tNotV ta):=by
 intro pins s σ H Q I h
 refine UnaryOp_ (thn (ha pins s σ H _ I h) fun v s1 hx5=>L2.ex2 hx5 fun x H1 I1 r1 q1=>?_)
 obtain ⟨c,rfl,q1⟩:=q1
 cases r1
 exact not_of (wpAny_truthy_bool ⟨.bl (!c),H1,I1,rfl,q1⟩)
end
end L2
namespace L2
open PySem PySem.Spec PyProof.Rows
noncomputable def SqL (K:PySem.W.Frag) (H:Hp) (a:Addr) (xs:List V):Prop :=
 Rd H a (.lst xs) ∨
  ∃ (o:Obj) (its:Array Value) (n:Nat),K.lookup a=some o∧o.cls=.type "list"∧o.dict=none∧o.data=.seq its n∧its.size≤sizeLine∧Vals xs its.toList
noncomputable def SqT (K:PySem.W.Frag) (H:Hp) (a:Addr) (xs:List V):Prop :=
 Rd H a (.tup xs) ∨
  ∃ (o:Obj) (its:Array Value) (n:Nat),K.lookup a=some o∧o.cls=.type "tuple"∧o.data=.seq its n∧its.size≤sizeLine∧Vals xs its.toList
noncomputable def absV:Value→Option V
 | .none=>some .non
 | .bool b=>some (.bl b)
 | .int i _=>some (.int i)
 | .str x _=>some (.str x)
 | .bytes b _=>some (.byt b)
 | .float b _=>some (.flt b)
 | .ref a=>some (.ref a)
 | .type n=>some (.ty n)
 | _=>none
theorem RelV.abs {x:V} {u:Value} (r:RelV x u):absV u=some x:=by
 cases x with
 | non=>cases r; rfl
 | bl _=>cases r; rfl
 | int _=>obtain ⟨t,rfl⟩:=r; rfl
 | str _=>obtain ⟨t,rfl⟩:=r; rfl
 | byt _=>obtain ⟨t,rfl⟩:=r; rfl
 | flt _=>obtain ⟨t,rfl⟩:=r; rfl
 | ref _=>cases r; rfl
 | ty _=>cases r; rfl
theorem RelV.inj {x y:V} {u:Value} (r:RelV x u) (q:RelV y u):x=y:=Option.some.inj (r.abs.symm.trans q.abs)
theorem Vals.inj:∀ {xs ys:List V} {us:List Value},Vals xs us→Vals ys us→xs=ys
 | _,_,_,.nil,.nil=>rfl
 | _,_,_,.cons r t,.cons r' t'=>by rw [r.inj r',Vals.inj t t']
section
variable {X:Cx} {pins:List (Addr × Obj)} {σ:St} {H:Hp} {s:Shared} {a:Addr} {xs ys:List V}
theorem Inv.list (I:Inv X pins σ H s) (h:SqL X.K H a xs):∃ its:List Value,Vals xs its∧PlainL s.heap a its.toArray∧xs.length≤sizeLine:=by
 rcases h with h | ⟨o,its,n,hk,hc,hd,hs,hz,r⟩
 ·obtain ⟨z,its,n,r,e⟩:=h.ok I.hok
  exact ⟨its,r,⟨_,n,e,rfl,rfl,rfl⟩,z⟩
 ·refine ⟨its.toList,r,⟨o,n,I.kIn a o hk,hc,hd,by simpa using hs⟩,?_⟩
  have e:=r.length
  simp only [Array.length_toList] at e
  walk_at "l"
theorem Inv.tuple (I:Inv X pins σ H s) (h:SqT X.K H a xs):∃ its:List Value,Vals xs its∧IsTup s.heap a its.toArray∧xs.length≤sizeLine:=by
 rcases h with h | ⟨o,its,n,hk,hc,hs,hz,r⟩
 ·obtain ⟨z,its,r,p⟩:=h.ok I.hok
  exact ⟨its,r,p,z⟩
 ·refine ⟨its.toList,r,⟨o,I.kIn a o hk,hc,n,by simpa using hs⟩,?_⟩
  have e:=r.length
  simp only [Array.length_toList] at e
  walk_at "l"
theorem Inv.list_inj (I:Inv X pins σ H s) (h:SqL X.K H a xs) (h':SqL X.K H a ys):xs=ys:=by
 obtain ⟨its,r,⟨o,n,e,_,_,d⟩,_⟩:=I.list h
 obtain ⟨its',r',⟨o',n',e',_,_,d'⟩,_⟩:=I.list h'
 rw [e] at e'; cases e'
 rw [d] at d'
 injection d' with d1 _
 have:its=its':=by simpa using congrArg Array.toList d1
 subst this
 exact r.inj r'
end
noncomputable abbrev Cx.wish (X:Cx) (E:Value→Shared→Prop):Cx:={ X with xe:=E }
noncomputable abbrev Cx.nox (X:Cx):Cx:=X.wish fun _ _=>False
theorem Cx.Ok.wish {X:Cx} (ok:X.Ok) (E:Value→Shared→Prop):(X.wish E).Ok :=
 ⟨ok.mod,ok.kind,ok.glob,ok.blt,ok.above,ok.inj,ok.has,ok.cab,ok.hd,ok.frames,ok.stk,ok.exf,ok.bs,ok.bsz,ok.noex,ok.exfs,ok.funs,ok.frf⟩
theorem Cx.Ok.unwish {X:Cx} {E:Value→Shared→Prop} (ok:(X.wish E).Ok):X.Ok :=
 ⟨ok.mod,ok.kind,ok.glob,ok.blt,ok.above,ok.inj,ok.has,ok.cab,ok.hd,ok.frames,ok.stk,ok.exf,ok.bs,ok.bsz,ok.noex,ok.exfs,ok.funs,ok.frf⟩
section
variable {X:Cx} {pins:List (Addr × Obj)} {σ:St} {H:Hp} {s:Shared} {E:Value→Shared→Prop}
theorem Inv.wish (I:Inv X pins σ H s) (E:Value→Shared→Prop):Inv (X.wish E) pins σ H s:=⟨I.ok.wish E,I.os,I.bare,I.base,I.loc,I.cell,I.free,I.freeC,I.pin,I.hok,I.len⟩
theorem Inv.unwish (I:Inv (X.wish E) pins σ H s):Inv X pins σ H s:=⟨I.ok.unwish,I.os,I.bare,I.base,I.loc,I.cell,I.free,I.freeC,I.pin,I.hok,I.len⟩
theorem SP.unwish {D:Ends} {f:Flow} {s':Shared} (h:SP (X.wish E) pins D f s'):SP X pins D f s':=by
 cases f with
 | next=>obtain ⟨σ',H',I,q⟩:=h; exact ⟨σ',H',I.unwish,q⟩
 | brk=>obtain ⟨σ',H',I,q⟩:=h; exact ⟨σ',H',I.unwish,q⟩
 | cont=>obtain ⟨σ',H',I,q⟩:=h; exact ⟨σ',H',I.unwish,q⟩
 | ret u=>obtain ⟨v,σ',H',I,r,q⟩:=h; exact ⟨v,σ',H',I.unwish,r,q⟩
theorem PSs.nox {st:List Stmt} {t:TS} (h:PSs X.nox st t):PSs X st t:=fun pins s σ H D I hw =>
 wpAny_mono (h pins s σ H D (I.wish _) hw) (fun _ _ q=>q.unwish) fun _ _ z=>False.elim z
end
section
variable {X:Cx} {st:Stmt} {rest:List Stmt} {t u:TS} {e:Expr} {te:TE} {pos:Pos}
noncomputable def tNext:TS:=fun D σ H=>D.nx σ H
noncomputable def tSeq (t u:TS):TS:=fun D σ H=>t { D with nx:=u D } σ H
theorem pss_nil:PSs X [] tNext:=fun _ _ σ H _ I h=>wpAny_execs_nil ⟨σ,H,I,h⟩
theorem pss_cons (h1:PS X st t) (h2:PSs X rest u):PSs X (st :: rest) (tSeq t u):=by
 intro pins s σ H D I h
 refine wpAny_execs_cons (thn (h1 pins s σ H { D with nx:=u D } I h) fun f s1 q=>?_)
 cases f with
 | next =>
  obtain ⟨σ',H',I',q⟩:=q
  exact h2 pins s1 σ' H' D I' q
 | ret v=>exact q
 | brk=>exact q
 | cont=>exact q
theorem pss_one (h1:PS X st t):PSs X [st] t:=by
 intro pins s σ H D I h
 refine wpAny_execs_cons (thn (h1 pins s σ H D I h) fun f s1 q=>?_)
 cases f with
 | next=>exact wpAny_execs_nil q
 | ret v=>exact q
 | brk=>exact q
 | cont=>exact q
theorem Inv.quiet {pins:List (Addr × Obj)} {σ:St} {H:Hp} {s:Shared} (I:Inv X pins σ H s):interactive X.env=false:=by simp [interactive,I.ok.kind]
noncomputable def tDrop (te:TE):TS:=fun D σ H=>te σ H fun _ H1=>D.nx σ H1
theorem ps_expr (he:PE X e te) (hs:swapsWith e none pos.line X.env=pure false:=by rfl):PS X (.Expr e pos) (tDrop te):=by
 intro pins s σ H D I h
 exact wpAny_Expr_any (thn (he pins s σ H _ I h) fun v s1 hx5=>L2.ex2 hx5 fun x H1 I1 r1 q1=>⟨σ,H1,I1,q1⟩) I.quiet hs
noncomputable def tRet (te:TE):TS:=fun D σ H=>te σ H D.rt
theorem ps_ret (he:PE X e te):PS X (.Return (some e) pos) (tRet te):=by
 intro pins s σ H D I h
 exact wpAny_Return_some (thn (he pins s σ H _ I h) fun v s1 hx5=>L2.ex2 hx5 fun x H1 I1 r1 q1=>⟨x,σ,H1,I1,r1,q1⟩)
noncomputable def tIfS (c:TT) (t u:TS):TS:=fun D σ H=>c σ H fun b H1=>if b=true then t D σ H1 else u D σ H1
theorem ps_if {c:Expr} {a b:List Stmt} {tc:TT} (hc:PT X c tc) (ha:PSs X a t) (hb:PSs X b u):PS X (.If c a b pos) (tIfS tc t u):=by
 intro pins s σ H D I h
 refine wpAny_If (thn (hc pins s σ H _ I h) fun d s1 hx9=>?_)
 obtain ⟨H1,I1,q1⟩:=hx9
 cases d with
 | true=>exact ha pins s1 σ H1 D I1 q1
 | false=>exact hb pins s1 σ H1 D I1 q1
end
noncomputable abbrev TG:=V→St→Hp→(St→Hp→Prop)→Prop
noncomputable abbrev TGs:=List V→St→Hp→(St→Hp→Prop)→Prop
noncomputable def PG (X:Cx) (target:Expr) (t:TG):Prop :=
 ∀ (pins:List (Addr × Obj)) (s:Shared) (σ:St) (H:Hp) (v:V) (u:Value) (Q:St→Hp→Prop),Inv X pins σ H s→RelV v u→t v σ H Q →
  wpAny (model X.prog X.w) X.A (assign target X.env u) (fun _ s'=>∃ σ' H',Inv X pins σ' H' s'∧Q σ' H') X.xe s
noncomputable def PGs (X:Cx) (ts:List Expr) (t:TGs):Prop :=
 ∀ (pins:List (Addr × Obj)) (s:Shared) (σ:St) (H:Hp) (vs:List V) (us:List Value) (Q:St→Hp→Prop),Inv X pins σ H s→Vals vs us→t vs σ H Q →
  wpAny (model X.prog X.w) X.A (assignInOrder ((assignEach ts X.env).map (·.2)) us) (fun _ s'=>∃ σ' H',Inv X pins σ' H' s'∧Q σ' H') X.xe s
section
variable {X:Cx} {pos:Pos}
noncomputable def gName (i:Nat):TG:=fun v σ H Q=>Q (σ.set i (some v)) H
theorem pg_name {i:Nat} {x:Str} (hN:X.N.Nodup) (hi:X.N[i]? = some x) (hx:Loc X.env.scope x) (hf:X.fn x=true∨X.env.scope.names.lookup x=some .local:=by first | exact .inl rfl | exact .inr rfl | assumption):PG X (.Name x pos) (gName i):=by
 intro pins s σ H v u Q I r h
 exact wpAny_assign_Name (store_ok I hN hi hx r (fun s' I'=>⟨_,H,I',h⟩) hf)
noncomputable def gNil:TGs:=fun vs σ H Q=>vs=[]∧Q σ H
noncomputable def gCons (t:TG) (u:TGs):TGs:=fun vs σ H Q=>∃ v r,vs=v :: r∧t v σ H fun σ' H'=>u r σ' H' Q
theorem pgs_nil:PGs X [] gNil:=by
 intro pins s σ H vs us Q I r h
 obtain ⟨e,h⟩:=h
 subst e
 cases r
 exact assignInOrder_nil ⟨σ,H,I,h⟩
theorem pgs_cons {e:Expr} {es:List Expr} {t:TG} {u:TGs} (h1:PG X e t) (h2:PGs X es u)
  (hs:(assignEach (e :: es) X.env).map (·.2)=assign e X.env :: (assignEach es X.env).map (·.2):=by rfl):PGs X (e :: es) (gCons t u):=by
 intro pins s σ H vs us Q I r h
 obtain ⟨v,vr,e1,h⟩:=h
 subst e1
 cases r with
 | cons r rr =>
  rw [hs]
  refine assignInOrder_cons (thn (h1 pins s σ H _ _ _ I r h) fun _ s1 hx9=>?_)
  obtain ⟨σ1,H1,I1,q1⟩:=hx9
  exact h2 pins s1 σ1 H1 _ _ Q I1 rr q1
noncomputable def gTup (K:PySem.W.Frag) (n:Nat) (t:TGs):TG:=fun v σ H Q=>∃ a xs,v=.ref a∧SqT K H a xs∧xs.length=n∧t xs σ H Q
theorem pg_tup {es:List Expr} {k:Nat} {t:TGs} {n:Nat} (hc:X.calm=true) (h:PGs X es t)
  (hn:(assignEach es X.env).length=n:=by rfl) (hst:(assignEach es X.env).findIdx? (·.1)=none:=by rfl):PG X (.Tuple es k pos) (gTup X.K n t):=by
 intro pins s σ H v u Q I r hw
 obtain ⟨a,xs,e1,hq,hl,hw⟩:=hw
 subst e1
 cases r
 obtain ⟨its,rv,ht,hz⟩:=I.tuple hq
 refine assign_Tuple_tuple (I.ok.hd hc) ht (by simp [hn,← hl,rv.length]) hst fun h' hx=>?_
 have I1:Inv X pins σ H { s with heap:=h' }:=I.kept (t':=s.toks) fun b o e=>hx b o (Nat.ne_of_lt (Heap.lt_size e)) e
 exact h pins _ σ H xs _ Q I1 (by simpa using rv) hw
noncomputable def tAsg (te:TE) (g:TG):TS:=fun D σ H=>te σ H fun x H1=>g x σ H1 D.nx
theorem ps_set {i:Nat} {x:Str} {e:Expr} {te:TE} {pos':Pos} (hN:X.N.Nodup) (hi:X.N[i]? = some x) (hx:Loc X.env.scope x) (he:PE X e te) (hs:swapsWith e (some (.Name x pos')) pos.line X.env=pure false:=by rfl) (hf:X.fn x=true∨X.env.scope.names.lookup x=some .local:=by first | exact .inl rfl | exact .inr rfl | assumption) :
  PS X (.Assign [.Name x pos'] e pos) (tAsg te (gName i)):=by
 intro pins s σ H D I h
 refine wpAny_Assign_Name (thn (he pins s σ H _ I h) fun v s1 hx5=>L2.ex2 hx5 fun y H1 I1 r1 q1=>?_) hs
 exact store_ok I1 hN hi hx r1 (fun s2 I2=>⟨_,H1,I2,q1⟩) hf
end
section
variable {X:Cx} {pos:Pos}
end
structure It where
 go:Nat→Hp→Prop
 yld:Nat→Hp→V→Hp→Prop
 stop:Nat→Hp→Prop
noncomputable def FpOk (X:Cx) (pins:List (Addr × Obj)) (H:Hp) (b:Addr):Prop :=
 H b=none∧b≠X.env.locals∧b∉X.fs∧(b∈X.ex∨X.s₀.heap.objs.size≤b)∧(∀ x c,X.env.cells.lookup x=some c→c≠b)∧∀ p∈X.pn++pins,p.1≠b
theorem Inv.fpOk {X:Cx} {pins:List (Addr × Obj)} {σ:St} {H H':Hp} {s:Shared} {b:Addr} (I:Inv X pins σ H s) (hb:s.heap.objs.size≤b) (hn:H' b=none):FpOk X pins H' b:=by
 refine ⟨hn,Nat.ne_of_gt (Nat.lt_of_lt_of_le I.lt hb),I.nofs hb,.inr (Nat.le_trans I.sz hb),fun x c e z=>?_,fun p hp z=>?_⟩
 ·obtain ⟨v,q⟩:=I.cell x c e
  exact absurd (Nat.lt_of_lt_of_le q.lt (by rw [z]; exact hb)) (Nat.lt_irrefl _)
 ·exact absurd (Nat.lt_of_lt_of_le (Heap.lt_size (I.pin p hp).1) (by rw [z]; exact hb)) (Nat.lt_irrefl _)
structure Turn (P:Program) (w:World) (K:PySem.W.Frag) (tg:Expr) (J:It) (fp:List Addr) (it:Addr) (tn:Nat→Heap→Prop):Prop where
 mem:it∈fp
 obj:∀ i h,tn i h→∀ b∈fp,∃ o,h.get? b=some o∧∀ v,o.data≠.cell v
 keep:∀ i h h',tn i h→(∀ b∈fp,∀ o,h.get? b=some o→h'.get? b=some o)→tn i h'
 item:∀ (X:Cx),X.prog=P→X.w=w→X.K=K→X.calm=true→∀ (i:Nat) (pins:List (Addr × Obj)) (s:Shared) (σ:St) (H:Hp) (E:Value→Shared→Prop),Inv X pins σ H s→(∀ b∈fp,FpOk X pins H b)→tn i s.heap→J.go i H →
  wpAny (model P w) X.A (pyNext (.ref it)) (fun r s1=>∃ u,r=some u ∧
   wpAny (model P w) X.A (letOwnedTupleGo tg (.ref it) u) (fun _ s2=>∃ x H',Inv X pins σ H' s2∧RelV x u∧J.yld i H x H'∧tn (i+1) s2.heap∧∀ b∈fp,H' b=none) E s1) E s
 done:∀ (X:Cx),X.prog=P→X.w=w→X.K=K→X.calm=true→∀ (i:Nat) (pins:List (Addr × Obj)) (s:Shared) (σ:St) (H:Hp) (E:Value→Shared→Prop),Inv X pins σ H s→(∀ b∈fp,FpOk X pins H b)→tn i s.heap→J.stop i H →
  wpAny (model P w) X.A (pyNext (.ref it)) (fun r s1=>r=none∧Inv X pins σ H s1) E s
 self:∀ (A:Around) (i:Nat) (s:Shared) (Q:Value→Shared→Prop) (E:Value→Shared→Prop),tn i s.heap→Q (.ref it) s→wpAny (model P w) A (pyIter (.ref it)) Q E s
noncomputable abbrev TI:=St→Hp→(It→Hp→Prop)→Prop
noncomputable def PIE (X:Cx) (pins:List (Addr × Obj)) (σ:St) (tg:Expr) (R:It→Hp→Prop) (itv:Value) (s2:Shared):Prop :=
 ∃ (it:Addr) (fp:List Addr) (tn:Nat→Heap→Prop) (J:It) (H':Hp),itv=.ref it∧Inv X pins σ H' s2∧Turn X.prog X.w X.K tg J fp it tn∧tn 0 s2.heap∧(∀ b∈fp,FpOk X pins H' b)∧R J H'
noncomputable def PI (X:Cx) (tg iter:Expr) (wi:TI):Prop :=
 ∀ (pins:List (Addr × Obj)) (s:Shared) (σ:St) (H:Hp) (R:It→Hp→Prop),Inv X pins σ H s→wi σ H R →
  wpAny (model X.prog X.w) X.A (eval iter X.env) (fun v s1=>wpAny (model X.prog X.w) X.A (pyIter v) (PIE X pins σ tg R) X.xe s1) X.xe s
theorem go_of {M:Model} {A:Around} {E:Value→Shared→Prop} {s:Shared} {tg:Expr} {it:Addr} {u:Value} {o:Obj} {n:String} {vs:Array Value} {Q:Unit→Shared→Prop} (ho:s.heap.get? it=some o) (hc:o.cls=.type n) (hd:o.data=.fields vs)
  (hn:["enumerate", "zip", "dict_itemiterator", "dict_reverseitemiterator", "odict_iterator", "itertools.zip_longest", "itertools.pairwise"].contains n=false) (hQ:Q () s):wpAny M A (letOwnedTupleGo tg (.ref it) u) Q E s:=by
 unfold letOwnedTupleGo
 cases tg <;> first
  | exact wpAny_pure hQ
  | (cases u <;> first
     | exact wpAny_pure hQ
     | (refine wpAny_bind (wpAny_load ho ?_)
        rw [hc,hd]
        show wpAny M A (if (["enumerate", "zip", "dict_itemiterator", "dict_reverseitemiterator", "odict_iterator", "itertools.zip_longest", "itertools.pairwise"].contains n && vs[0]? == some (rawInt _))=true then _ else _) Q E s
        rw [if_neg (by intro h; rw [hn,Bool.false_and] at h; cases h)]
        exact wpAny_pure hQ))
noncomputable def Itl (K:PySem.W.Frag) (a:Addr):It :=
 ⟨fun i H=>∃ xs x,SqL K H a xs∧xs[i]? = some x,fun i H x H'=>H'=H∧∀ xs,SqL K H a xs→xs[i]? = some x,fun i H=>∃ xs,SqL K H a xs∧xs.length≤i⟩
noncomputable def Itr (lo:Int) (n:Nat):It:=⟨fun i _=>i<n,fun i H x H'=>H'=H∧x=.int (lo+i),fun i _=>n≤i⟩
theorem turn_list {P:Program} {w:World} {K:PySem.W.Frag} {tg:Expr} (a it:Addr):Turn P w K tg (Itl K a) [it] it (fun i h=>h.IsListIter it a i) where
 mem:=by simp
 obj:=fun i h st b hb=>by
  have e:b=it:=by simpa using hb
  subst e
  obtain ⟨o,e,c,d⟩:=st
  exact ⟨o,e,fun v z=>by rw [d] at z; cases z⟩
 keep:=fun i h h' st k=>st.at fun o e=>k it (by simp) o e
 item:=by
  intro X hP hw hK hc i pins s σ H E I hf st hg
  subst hP hw hK
  obtain ⟨xs,x,hq,hx⟩:=hg
  obtain ⟨its,rv,p,hz⟩:=I.list hq
  obtain ⟨u,hu,ru⟩:=rv.get hx
  obtain ⟨f0,f1,f2,f3,f4,f5⟩:=hf it (by simp)
  refine wpAny_pyNext_list_item st p.isList (x:=u) (by simpa using hu) fun h' st' sb=>?_
  have I1:Inv X pins σ H { s with heap:=h' }:=I.turned (t':=s.toks) (fun b o hb e=>(sb.2 b hb).trans e) f0 f1 f3 f4 f5
  obtain ⟨o,e,c,d⟩:=id st'
  exact ⟨u,rfl,go_of (s:={ s with heap:=h' }) e c d (by decide) ⟨x,H,I1,ru,⟨rfl,fun ys hy=>by rw [I.list_inj hy hq]; exact hx⟩,st',fun b hb=>(hf b hb).1⟩⟩
 done:=by
  intro X hP hw hK hc i pins s σ H E I hf st hg
  subst hP hw hK
  obtain ⟨xs,hq,hx⟩:=hg
  obtain ⟨its,rv,p,hz⟩:=I.list hq
  obtain ⟨f0,f1,f2,f3,f4,f5⟩:=hf it (by simp)
  have hl:=rv.length
  exact wpAny_pyNext_list_end (I.ok.hd hc) st p.isList (by simp; walk_at "l") fun h' eb=>⟨rfl,I.turned (t':=s.toks) (fun b o hb e=>eb b o hb e) f0 f1 f3 f4 f5⟩
 self:=fun _ _ _ _ _ st h=>wpAny_pyIter_listiter st h
theorem turn_range {P:Program} {w:World} {K:PySem.W.Frag} {tg:Expr} (it:Addr) (lo:Int) (n:Nat):Turn P w K tg (Itr lo n) [it] it (fun i h=>IsRangeIter h it (lo+(i:Nat) * 1) ((n:Int) - (i:Nat)) 1) where
 mem:=by simp
 obj:=fun i h st b hb=>by
  have e:b=it:=by simpa using hb
  subst e
  exact ⟨_,st,fun v z=>by
   have z':Data.fields _=Data.cell v:=z
   cases z'⟩
 keep:=fun i h h' st k=>k it (by simp) _ st
 item:=by
  intro X hP hw hK hc i pins s σ H E I hf st hg
  subst hP hw hK
  obtain ⟨f0,f1,f2,f3,f4,f5⟩:=hf it (by simp)
  have W:=Walks.range (prog:=X.prog) (w:=X.w) (I.ok.hd hc) it lo 1 n
  refine W.item i s _ _ hg st fun v h' tk hv st' kk=>?_
  obtain ⟨t,rfl⟩:=hv
  have I1:Inv X pins σ H { s with heap:=h',toks:=tk }:=I.turned (fun b o hb e=>kk b o (by simpa using hb) e) f0 f1 f3 f4 f5
  refine ⟨_,rfl,go_of (s:={ s with heap:=h',toks:=tk }) (n := "range_iterator") st' rfl rfl (by decide) ⟨.int (lo+i),H,I1,⟨t,?_⟩,⟨rfl,rfl⟩,st',fun b hb=>(hf b hb).1⟩⟩
  rw [Int.mul_one]
 done:=by
  intro X hP hw hK hc i pins s σ H E I hf st hg
  subst hP hw hK
  obtain ⟨f0,f1,f2,f3,f4,f5⟩:=hf it (by simp)
  exact wpAny_pyNext_range_end (I.ok.hd hc) st (by have:n≤i:=hg; walk_at "l") fun h' eb=>⟨rfl,I.turned (t':=s.toks) (fun b o hb e=>eb b o hb e) f0 f1 f3 f4 f5⟩
 self:=fun _ _ _ _ _ st h=>wpAny_pyIter_rangeiter st h
end L2
namespace L2
open PySem PySem.Spec PyProof.Rows
section
variable {X:Cx} {tg:Expr}
noncomputable def iList (K:PySem.W.Frag) (tl:TE):TI:=fun σ H R=>tl σ H fun x H1=>∃ a,x=.ref a∧(∃ xs,SqL K H1 a xs)∧R (Itl K a) H1
theorem pi_list {l:Expr} {tl:TE} (hl:PE X l tl):PI X tg l (iList X.K tl):=by
 intro pins s σ H R I h
 refine thn (hl pins s σ H _ I h) fun v s1 hx5=>L2.ex2 hx5 fun x H1 I1 r1 q1=>?_
 obtain ⟨a,e,⟨xs,hq⟩,q⟩:=q1
 subst e
 cases r1
 obtain ⟨its,rv,p,hz⟩:=I1.list hq
 refine wpAny_pyIter_list p.isList ?_
 refine ⟨s1.heap.objs.size,[s1.heap.objs.size],_,_,H1,rfl,I1.kept (t':=s1.toks) fun b o e=>Heap.get?_push_of_some _ e,turn_list a _,⟨_,Heap.get?_push_size _ rfl,rfl,rfl⟩,fun b hb=>?_,q⟩
 have e:b=s1.heap.objs.size:=by simpa using hb
 subst e
 exact I1.fpOk (Nat.le_refl _) (I1.hok.fresh (Nat.le_refl _))
theorem range_it {pins:List (Addr × Obj)} {σ:St} {H:Hp} {s:Shared} {R:It→Hp→Prop} {E:Value→Shared→Prop} {lo hi:Int} {t u v:Tok} {tk:Nat} (I:Inv X pins σ H s) (h1:-(2 ^ 62)≤lo) (h2:lo<2 ^ 62) (h3:-(2 ^ 62)≤hi) (h4:hi<2 ^ 62)
  (q:R (Itr lo (hi - lo).toNat) H):wpAny (model X.prog X.w) X.A (pyIter (.ref s.heap.objs.size)) (PIE X pins σ tg R) E { s with heap:=s.heap.push { cls:=.type "range",data:=.fields #[.int lo t,.int hi u,.int 1 v] },toks:=tk }:=by
 refine wpAny_pyIter_range (IsRange.new ..) (small_one h1 h2 h3 h4) ?_
 have I1:Inv X pins σ H { s with heap:=s.heap.push { cls:=.type "range",data:=.fields #[.int lo t,.int hi u,.int 1 v] },toks:=tk }:=I.kept fun b o e=>Heap.get?_push_of_some _ e
 refine ⟨(s.heap.push { cls:=.type "range",data:=.fields #[.int lo t,.int hi u,.int 1 v] }).objs.size,[(s.heap.push { cls:=.type "range",data:=.fields #[.int lo t,.int hi u,.int 1 v] }).objs.size],_,_,H,rfl,
  I1.kept (t':=tk) fun b o e=>Heap.get?_push_of_some _ e,turn_range _ lo (hi - lo).toNat,?_,fun b hb=>?_,q⟩
 ·have e1:lo+((0:Nat):Int) * 1=lo:=by simp
  have e2:(((hi - lo).toNat:Nat):Int) - ((0:Nat):Int)=Builtin.Range.rangeSize lo hi 1:=by rw [rangeSize_one]; split <;> walk_at "l"
  show IsRangeIter _ _ (lo+((0:Nat):Int) * 1) ((((hi - lo).toNat:Nat):Int) - ((0:Nat):Int)) 1
  rw [e1,e2]
  exact Heap.get?_push_size _ rfl
 ·have e:b=(s.heap.push { cls:=.type "range",data:=.fields #[.int lo t,.int hi u,.int 1 v] }).objs.size:=by simpa using hb
  subst e
  exact I1.fpOk (Nat.le_refl _) (I1.hok.fresh (Nat.le_refl _))
noncomputable def iRng1 (ta:TA):TI:=fun σ H R=>ta σ H fun vs H1=>∃ j:Int,vs=[.int j]∧-(2 ^ 62)≤j∧j<2 ^ 62∧R (Itr 0 j.toNat) H1
noncomputable def iRng2 (ta:TA):TI:=fun σ H R=>ta σ H fun vs H1=>∃ i j:Int,vs=[.int i,.int j]∧(-(2 ^ 62)≤i∧i<2 ^ 62∧-(2 ^ 62)≤j∧j<2 ^ 62)∧R (Itr i (j - i).toNat) H1
theorem pi_range1 {a:Expr} {ta:TA} {p pos:Pos} (hg:Gl X "range") (hm:X.mg "range" = none) (ha:PA X [a] ta) (hs:starEach [a] X.env=[(false,eval a X.env)]:=by rfl):PI X tg (.Call (.Name "range" p) [a] [] pos) (iRng1 ta):=by
 intro pins s σ H R I h
 refine Call_ (ld_blt I hg hm boot_range (PyProof.Rows.callWith_type1 (thn (ha pos pins s σ H _ I h) fun us s1 hx5=>L2.ex2 hx5 fun vs H1 I1 r1 q1=>?_) hs rfl))
 obtain ⟨j,e,q1,q2,q⟩:=q1
 subst e
 cases r1 with
 | cons r rr =>
  cases rr
  obtain ⟨t,rfl⟩:=r
  exact call_range_1 (range_it I1 (by decide) (by decide) q1 q2 (by simpa using q))
theorem pi_range2 {a b:Expr} {ta:TA} {p pos:Pos} (hg:Gl X "range") (hm:X.mg "range" = none) (ha:PA X [a,b] ta) (hs:starEach [a,b] X.env=[(false,eval a X.env),(false,eval b X.env)]:=by rfl) (hs2:starEach [b] X.env=[(false,eval b X.env)]:=by rfl) :
  PI X tg (.Call (.Name "range" p) [a,b] [] pos) (iRng2 ta):=by
 intro pins s σ H R I h
 refine Call_ (ld_blt I hg hm boot_range (PyProof.Rows.callWith_type1 (thn (ha pos pins s σ H _ I h) fun us s1 hx5=>L2.ex2 hx5 fun vs H1 I1 r1 q1=>?_) (by rw [hs,hs2]) (by rw [hs2]; rfl)))
 obtain ⟨i,j,e,⟨q1,q2,q3,q4⟩,q⟩:=q1
 subst e
 cases r1 with
 | cons r rr =>
  cases rr with
  | cons r' rr =>
   cases rr
   obtain ⟨t,rfl⟩:=r
   obtain ⟨t',rfl⟩:=r'
   exact call_range_2 (range_it I1 q1 q2 q3 q4 q)
noncomputable def tFor (wi:TI) (g:TG) (tb:TS):TS:=fun D σ H=>wi σ H fun J H1=>∃ W:Nat→Nat→St→Hp→Prop,(∃ m,W 0 m σ H1)∧∀ i m σ H,W i m σ H →
 (J.stop i H∧D.nx σ H)∨(J.go i H∧∃ N:St→Hp→Prop,(∀ σ' H',N σ' H'→∃ m',m'<m∧W (i+1) m' σ' H')∧∀ x H',J.yld i H x H'→g x σ H' fun σ2 H2=>tb { D with nx:=N,ct:=N,bk:=D.nx } σ2 H2)
noncomputable def pinsAt (fp:List Addr) (h:Heap):List (Addr × Obj):=fp.filterMap fun b=>(h.get? b).map fun o=>(b,o)
theorem mem_pinsAt {fp:List Addr} {h:Heap} {b:Addr} {o:Obj} (hb:b∈fp) (e:h.get? b=some o):(b,o)∈pinsAt fp h:=List.mem_filterMap.mpr ⟨b,hb,by rw [e]; rfl⟩
theorem of_pinsAt {fp:List Addr} {h:Heap} {p:Addr × Obj} (hp:p∈pinsAt fp h):p.1∈fp∧h.get? p.1=some p.2:=by
 obtain ⟨b,hb,e⟩:=List.mem_filterMap.mp hp
 cases q:h.get? b with
 | none=>rw [q] at e; cases e
 | some o =>
  rw [q] at e
  have e':(b,o)=p:=Option.some.inj e
  subst e'
  exact ⟨hb,q⟩
theorem Inv.pinned {pins:List (Addr × Obj)} {σ:St} {H:Hp} {s:Shared} {fp:List Addr} (I:Inv X pins σ H s) (hf:∀ b∈fp,FpOk X pins H b) (ho:∀ b∈fp,∃ o,s.heap.get? b=some o∧∀ v,o.data≠.cell v):Inv X (pins++pinsAt fp s.heap) σ H s :=
 I.pins_of fun p hp=>(List.mem_append.mp hp).elim (fun z=>I.pin p (List.mem_append_right _ z)) fun z=>by
  obtain ⟨hb,e⟩:=of_pinsAt z
  obtain ⟨f0,f1,f2,_⟩:=hf p.1 hb
  obtain ⟨o,e',d⟩:=ho p.1 hb
  rw [e] at e'; cases e'
  exact ⟨e,f0,f1,f2,d⟩
theorem Inv.unpinned {pins pl:List (Addr × Obj)} {σ:St} {H:Hp} {s:Shared} (I:Inv X (pins++pl) σ H s):Inv X pins σ H s:=I.pins_of fun p hp=>I.pin p (List.mem_append_right _ (List.mem_append_left _ hp))
theorem ps_for {iter:Expr} {body:List Stmt} {wi:TI} {g:TG} {tb:TS} {pos:Pos} (hp:PassesOwn (model X.prog X.w) X.A X.env X.xe) (hc:X.calm=true) (hi:PI X tg iter wi) (hg:PG X tg g) (hb:PSs X body tb)
  (hs:∀ x,foldedSetIterable iter X.env x=pure x:=by intro _; rfl):PS X (.For tg iter body [] pos) (tFor wi g tb):=by
 intro pins s σ H D I h
 refine wpAny_For (thn (hi pins s σ H _ I h) fun v s1 h1=>thn h1 fun itv s2 h2=>?_) hs
 obtain ⟨it,fp,tn,J,H2,e,I2,T,st2,f2,W,⟨m0,w0⟩,turn⟩:=h2
 subst e
 -- what stays true of the iterator's objects through the loop
 have stat:∀ {H':Hp},(∀ b∈fp,H' b=none)→∀ b∈fp,FpOk X pins H' b:=fun hn b hb=>⟨hn b hb,(f2 b hb).2⟩
 refine codeAny_forLoop_any (fun n s'=>∃ i σ' H',Inv X pins σ' H' s'∧tn i s'.heap∧(∀ b∈fp,H' b=none)∧W i n σ' H') ?_ m0 ⟨0,σ,H2,I2,st2,fun b hb=>(f2 b hb).1,w0⟩
 rintro n s3 ⟨i,σ3,H3,I3,st3,fr3,w3⟩
 rcases turn i n σ3 H3 w3 with ⟨stop,qn⟩ | ⟨go,N,hN,step⟩
 ·refine wpAny_passesOwn hp (thn (T.done X rfl rfl rfl hc i pins s3 σ3 H3 X.xe I3 (stat fr3) st3 stop) fun r s4 hx9=>?_)
  obtain ⟨hr,I4⟩:=hx9
  subst hr
  exact wpAny_execs_nil ⟨σ3,H3,I4,qn⟩
 ·refine wpAny_passesOwn hp (thn (T.item X rfl rfl rfl hc i pins s3 σ3 H3 X.xe I3 (stat fr3) st3 go) fun r s4 hx9=>?_)
  obtain ⟨u,hr,h4⟩:=hx9
  subst hr
  refine wpAny_passesOwn hp (thn h4 fun _ s5 hx9=>?_)
  obtain ⟨x,H5,I5,r5,y5,st5,fr5⟩:=hx9
  have I5':=I5.pinned (stat fr5) (T.obj _ _ st5)
  refine wpAny_passesOwn hp (thn (hg _ s5 σ3 H5 x u _ I5' r5 (step x H5 y5)) fun _ s6 hx9=>?_)
  obtain ⟨σ6,H6,I6,q6⟩:=hx9
  refine wpAny_passesOwn hp (thn (hb _ s6 σ6 H6 _ I6 q6) fun f s7 q7=>?_)
  have again:∀ {σ7:St} {H7:Hp},Inv X (pins++pinsAt fp s5.heap) σ7 H7 s7→N σ7 H7→∃ m,m<n∧∃ i σ' H',Inv X pins σ' H' s7∧tn i s7.heap∧(∀ b∈fp,H' b=none)∧W i m σ' H':=fun {σ7 H7} I7 n7=>by
   obtain ⟨m',hm,w7⟩:=hN σ7 H7 n7
   refine ⟨m',hm,i+1,σ7,H7,I7.unpinned,T.keep _ _ _ st5 fun b hb o e=>(I7.pin (b,o) (List.mem_append_right _ (List.mem_append_right _ (mem_pinsAt hb e)))).1,fun b hb=>?_,w7⟩
   obtain ⟨o,e,d⟩:=T.obj _ _ st5 b hb
   exact (I7.pin (b,o) (List.mem_append_right _ (List.mem_append_right _ (mem_pinsAt hb e)))).2.1
  cases f with
  | next=>obtain ⟨σ7,H7,I7,n7⟩:=q7; exact again I7 n7
  | cont=>obtain ⟨σ7,H7,I7,n7⟩:=q7; exact again I7 n7
  | brk=>obtain ⟨σ7,H7,I7,q7⟩:=q7; exact ⟨σ7,H7,I7.unpinned,q7⟩
  | ret v=>obtain ⟨x7,σ7,H7,I7,r7,q7⟩:=q7; exact ⟨x7,σ7,H7,I7.unpinned,r7,q7⟩
end
end L2
namespace L2
open PySem PySem.Spec PyProof.Rows
noncomputable abbrev R2:=V→V→Hp→VK→Prop
noncomputable def OpR (X:Cx) (f:Value→Value→Sem Value) (r:R2):Prop :=
 ∀ (pins:List (Addr × Obj)) (s:Shared) (σ:St) (H:Hp) (x y:V) (v u:Value) (Q:VK),Inv X pins σ H s→RelV x v→RelV y u→r x y H Q →
  wpAny (model X.prog X.w) X.A (f v u) (EP X pins σ Q) X.xe s
noncomputable def CallR (X:Cx) (f:Value) (r:List V→Hp→VK→Prop):Prop :=
 ∀ (pins:List (Addr × Obj)) (s:Shared) (σ:St) (H:Hp) (xs:List V) (us:List Value) (Q:VK),Inv X pins σ H s→Vals xs us→r xs H Q →
  wpAny (model X.prog X.w) X.A (call f us) (EP X pins σ Q) X.xe s
noncomputable def tOp (r:R2) (ta tb:TE):TE:=fun σ H Q=>ta σ H fun x H1=>tb σ H1 fun y H2=>r x y H2 Q
noncomputable def tUn (r:V→Hp→VK→Prop) (ta:TE):TE:=fun σ H Q=>ta σ H fun x H1=>r x H1 Q
noncomputable def rI (C:Int→Int→Prop) (g:Int→Int→V):R2:=fun x y H Q=>∃ i j,x=.int i∧y=.int j∧C i j∧Q (g i j) H
noncomputable def rI0 (g:Int→Int→V):R2:=fun x y H Q=>∃ i j,x=.int i∧y=.int j∧Q (g i j) H
section
variable {X:Cx} {a b c:Expr} {ta tb tc:TE} {pos:Pos}
theorem binT (ha:PE X a ta) (hb:PE X b tb) {pins:List (Addr × Obj)} {s:Shared} {σ:St} {H:Hp} {R:V→V→Hp→Prop} (I:Inv X pins σ H s)
  (h:ta σ H fun x H1=>tb σ H1 fun y H2=>R x y H2) {Q:Value→Shared→Prop} {f:Value→Value→Sem Value}
  (hf:∀ v u s2 x y H2,Inv X pins σ H2 s2→RelV x v→RelV y u→R x y H2→wpAny (model X.prog X.w) X.A (f v u) Q X.xe s2) :
  wpAny (model X.prog X.w) X.A (eval a X.env) (fun v s₁=>wpAny (model X.prog X.w) X.A (eval b X.env) (fun u s₂=>wpAny (model X.prog X.w) X.A (f v u) Q X.xe s₂) X.xe s₁) X.xe s:=by
 refine thn (ha pins s σ H _ I h) fun v s1 hx5=>L2.ex2 hx5 fun x H1 I1 r1 q1=>?_
 refine thn (hb pins s1 σ H1 _ I1 q1) fun u s2 hx5=>L2.ex2 hx5 fun y H2 I2 r2 q2=>?_
 exact hf v u s2 x y H2 I2 r1 r2 q2
theorem pe_op {op:Operator} {r:R2} (ho:OpR X (binaryOp op) r) (ha:PE X a ta) (hb:PE X b tb):PE X (.BinOp a op b pos) (tOp r ta tb):=by
 intro pins s σ H Q I h
 exact wpAny_BinOp (binT ha hb I h fun v u s2 x y H2 I2 rx ry q=>ho pins s2 σ H2 x y v u Q I2 rx ry q)
theorem opI {f:Value→Value→Sem Value} {C:Int→Int→Prop} {g:Int→Int→Int}
  (rule:∀ (i j:Int) (t u:Tok) (s:Shared) (Q:Value→Shared→Prop) (E:Value→Shared→Prop),C i j→Q (.int (g i j) s.toks) { s with toks:=s.toks+1 }→wpAny (model X.prog X.w) X.A (f (.int i t) (.int j u)) Q E s) :
  OpR X f (rI C fun i j=>.int (g i j)):=by
 intro pins s σ H x y v u Q I rx ry h
 obtain ⟨i,j,rfl,rfl,hc,q⟩:=h
 obtain ⟨t,rfl⟩:=rx
 obtain ⟨t',rfl⟩:=ry
 exact rule i j t t' s _ _ hc ⟨.int (g i j),H,I.tok _,⟨_,rfl⟩,q⟩
theorem opI0 {f:Value→Value→Sem Value} {g:Int→Int→Int}
  (rule:∀ (i j:Int) (t u:Tok) (s:Shared) (Q:Value→Shared→Prop) (E:Value→Shared→Prop),Q (.int (g i j) s.toks) { s with toks:=s.toks+1 }→wpAny (model X.prog X.w) X.A (f (.int i t) (.int j u)) Q E s) :
  OpR X f (rI0 fun i j=>.int (g i j)):=by
 intro pins s σ H x y v u Q I rx ry h
 obtain ⟨i,j,rfl,rfl,q⟩:=h
 obtain ⟨t,rfl⟩:=rx
 obtain ⟨t',rfl⟩:=ry
 exact rule i j t t' s _ _ ⟨.int (g i j),H,I.tok _,⟨_,rfl⟩,q⟩
theorem opB0 {f:Value→Value→Sem Value} {g:Int→Int→Bool}
  (rule:∀ (i j:Int) (t u:Tok) (s:Shared) (Q:Value→Shared→Prop) (E:Value→Shared→Prop),Q (.bool (g i j)) s→wpAny (model X.prog X.w) X.A (f (.int i t) (.int j u)) Q E s) :
  OpR X f (rI0 fun i j=>.bl (g i j)):=by
 intro pins s σ H x y v u Q I rx ry h
 obtain ⟨i,j,rfl,rfl,q⟩:=h
 obtain ⟨t,rfl⟩:=rx
 obtain ⟨t',rfl⟩:=ry
 exact rule i j t t' s _ _ ⟨.bl (g i j),H,I,rfl,q⟩
noncomputable def CDiv (i j:Int):Prop:=0<j∧j<1073741824
noncomputable def CMul (i j:Int):Prop:=(-(2 ^ 64)<i∧i<2 ^ 64)∨(-(2 ^ 64)<j∧j<2 ^ 64)
theorem CMul.ok {i j:Int} (h:CMul i j):IntMulOk i j:=by
 rcases h with ⟨h1,h2⟩ | ⟨h1,h2⟩
 ·exact .of_left (intBits_le_64 h1 h2)
 ·exact .of_right (intBits_le_64 h1 h2)
theorem op_add:OpR X (binaryOp .Add) (rI0 fun i j=>.int (i+j)):=opI0 fun _ _ _ _ _ _ _ q=>add_int q
theorem op_mul:OpR X (binaryOp .Mult) (rI CMul fun i j=>.int (i * j)):=opI fun _ _ _ _ _ _ _ hc q=>mul_int q hc.ok
theorem op_fdiv:OpR X (binaryOp .FloorDiv) (rI CDiv fun i j=>.int (i / j)):=opI fun i j _ _ _ _ _ hc q=>by
 have h1:(0:Int)<j:=hc.1
 have h2:j<1073741824:=hc.2
 exact floordiv_int (by walk_at "l") (by rw [Int.fdiv_eq_ediv_of_nonneg i (by exact Int.le_of_lt ‹_›)]; exact q) (.inl (PyProof.noPylong_small (by walk_at "l")))
theorem op_mod:OpR X (binaryOp .Mod) (rI (fun _ j=>0<j) fun i j=>.int (i % j)):=opI fun i j _ _ _ _ _ hc q=>by
 have h1:(0:Int)<j:=hc
 exact mod_int' (by walk_at "l") (by rw [Int.fmod_eq_emod_of_nonneg i (by exact Int.le_of_lt ‹_›)]; exact q)
end
noncomputable def scal:V→V→Bool
 | .non,.non=>true | .non,.int _=>true | .int _,.non=>true | .non,.bl _=>true | .bl _,.non=>true | .non,.str _=>true | .str _,.non=>true
 | .int _,.int _=>true | .bl _,.bl _=>true | .str _,.str _=>true | .byt _,.byt _=>true
 | .int _,.str _=>true | .str _,.int _=>true | .bl _,.str _=>true | .str _,.bl _=>true
 | _,_=>false
noncomputable def rEq:R2:=fun x y H Q=>scal x y=true∧Q (.bl (decide (x=y))) H
noncomputable def rNe:R2:=fun x y H Q=>scal x y=true∧Q (.bl (!decide (x=y))) H
theorem dec_int {i j:Int}:decide (V.int i=V.int j)=(i == j):=by
 rw [Bool.eq_iff_iff]
 simp
theorem dec_bl {i j:Bool}:decide (V.bl i=V.bl j)=(i == j):=by
 rw [Bool.eq_iff_iff]
 simp
theorem dec_str {i j:Str}:decide (V.str i=V.str j)=(i == j):=by
 rw [Bool.eq_iff_iff]
 simp
theorem dec_byt {i j:Array UInt8}:decide (V.byt i=V.byt j)=(i.toList == j.toList):=by
 rw [Bool.eq_iff_iff]
 cases i
 cases j
 simp
section
variable {X:Cx} {a b c:Expr} {ta tb tc:TE} {pos:Pos}
theorem fin_bl {pins:List (Addr × Obj)} {σ:St} {H:Hp} {s:Shared} {Q:VK} {k k':Bool} (I:Inv X pins σ H s) (q:Q (.bl k) H) (e:k=k'):EP X pins σ Q (.bool k') s:=by
 subst e
 exact ⟨.bl k,H,I,rfl,q⟩
theorem op_eq:OpR X (compareOp .Eq) rEq:=by
 intro pins s σ H x y v u Q I rx ry h
 obtain ⟨hs,q⟩:=h
 cases x with
 | non =>
  cases rx
  cases y with
  | non=>cases ry; exact PySem.EqNone.eq_none_none (fin_bl I q (by simp))
  | bl j=>cases ry; exact PySem.EqNone.eq_none_bool (fin_bl I q (by simp))
  | int j=>obtain ⟨t',rfl⟩:=ry; exact PySem.EqNone.eq_none_int (fin_bl I q (by simp))
  | str j=>obtain ⟨t',rfl⟩:=ry; exact PySem.EqNone.eq_none_str (fin_bl I q (by simp))
  | _=>exact absurd (show false=true from hs) Bool.false_ne_true
 | bl i =>
  cases rx
  cases y with
  | non=>cases ry; exact PySem.EqNone.eq_bool_none (fin_bl I q (by simp))
  | bl j=>cases ry; exact eq_bool (fin_bl I q dec_bl)
  | str j=>obtain ⟨t',rfl⟩:=ry; exact PySem.EqMixed.eq_bool_str (fin_bl I q (by simp))
  | _=>exact absurd (show false=true from hs) Bool.false_ne_true
 | int i =>
  obtain ⟨t,rfl⟩:=rx
  cases y with
  | non=>cases ry; exact PySem.EqNone.eq_int_none (fin_bl I q (by simp))
  | int j=>obtain ⟨t',rfl⟩:=ry; exact eq_int (fin_bl I q dec_int)
  | str j=>obtain ⟨t',rfl⟩:=ry; exact PySem.EqMixed.eq_int_str (fin_bl I q (by simp))
  | _=>exact absurd (show false=true from hs) Bool.false_ne_true
 | str i =>
  obtain ⟨t,rfl⟩:=rx
  cases y with
  | non=>cases ry; exact PySem.EqNone.eq_str_none (fin_bl I q (by simp))
  | bl j=>cases ry; exact PySem.EqMixed.eq_str_bool (fin_bl I q (by simp))
  | int j=>obtain ⟨t',rfl⟩:=ry; exact PySem.EqMixed.eq_str_int (fin_bl I q (by simp))
  | str j=>obtain ⟨t',rfl⟩:=ry; exact eq_str (fin_bl I q dec_str)
  | _=>exact absurd (show false=true from hs) Bool.false_ne_true
 | byt i =>
  obtain ⟨t,rfl⟩:=rx
  cases y with
  | byt j=>obtain ⟨t',rfl⟩:=ry; exact PySem.W.eq_bytes (fin_bl I q dec_byt)
  | _=>exact absurd (show false=true from hs) Bool.false_ne_true
 | _=>cases y <;> exact absurd (show false=true from hs) Bool.false_ne_true
theorem op_ne:OpR X (compareOp .NotEq) rNe:=by
 intro pins s σ H x y v u Q I rx ry h
 obtain ⟨hs,q⟩:=h
 cases x with
 | non =>
  cases rx
  cases y with
  | non=>cases ry; exact PySem.EqNone.ne_none_none (fin_bl I q (by simp))
  | bl j=>cases ry; exact PySem.EqNone.ne_none_bool (fin_bl I q (by simp))
  | int j=>obtain ⟨t',rfl⟩:=ry; exact PySem.EqNone.ne_none_int (fin_bl I q (by simp))
  | str j=>obtain ⟨t',rfl⟩:=ry; exact PySem.EqNone.ne_none_str (fin_bl I q (by simp))
  | _=>exact absurd (show false=true from hs) Bool.false_ne_true
 | bl i =>
  cases rx
  cases y with
  | non=>cases ry; exact PySem.EqNone.ne_bool_none (fin_bl I q (by simp))
  | bl j=>cases ry; exact ne_bool (fin_bl I q (congrArg not dec_bl))
  | str j=>obtain ⟨t',rfl⟩:=ry; exact PySem.EqMixed.ne_bool_str (fin_bl I q (by simp))
  | _=>exact absurd (show false=true from hs) Bool.false_ne_true
 | int i =>
  obtain ⟨t,rfl⟩:=rx
  cases y with
  | non=>cases ry; exact PySem.EqNone.ne_int_none (fin_bl I q (by simp))
  | int j=>obtain ⟨t',rfl⟩:=ry; exact ne_int (fin_bl I q (congrArg not dec_int))
  | str j=>obtain ⟨t',rfl⟩:=ry; exact PySem.EqMixed.ne_int_str (fin_bl I q (by simp))
  | _=>exact absurd (show false=true from hs) Bool.false_ne_true
 | str i =>
  obtain ⟨t,rfl⟩:=rx
  cases y with
  | non=>cases ry; exact PySem.EqNone.ne_str_none (fin_bl I q (by simp))
  | bl j=>cases ry; exact PySem.EqMixed.ne_str_bool (fin_bl I q (by simp))
  | int j=>obtain ⟨t',rfl⟩:=ry; exact PySem.EqMixed.ne_str_int (fin_bl I q (by simp))
  | str j=>obtain ⟨t',rfl⟩:=ry; exact ne_str (fin_bl I q (congrArg not dec_str))
  | _=>exact absurd (show false=true from hs) Bool.false_ne_true
 | byt i =>
  obtain ⟨t,rfl⟩:=rx
  cases y with
  | byt j=>obtain ⟨t',rfl⟩:=ry; exact PySem.W.ne_bytes (fin_bl I q (congrArg not dec_byt))
  | _=>exact absurd (show false=true from hs) Bool.false_ne_true
 | _=>cases y <;> exact absurd (show false=true from hs) Bool.false_ne_true
theorem op_lt:OpR X (compareOp .Lt) (rI0 fun i j=>.bl (decide (i<j))):=opB0 fun _ _ _ _ _ _ _ q=>lt_int q
theorem op_le:OpR X (compareOp .LtE) (rI0 fun i j=>.bl (decide (i≤j))):=opB0 fun _ _ _ _ _ _ _ q=>le_int q
theorem op_lt_str:OpR X (compareOp .Lt) (fun x y H Q=>∃ i j,x=.str i∧y=.str j∧Q (.bl (decide (i.cps.toList<j.cps.toList))) H):=by
 intro pins s σ H x y v u Q I rx ry h
 obtain ⟨i,j,rfl,rfl,q⟩:=h
 obtain ⟨t,rfl⟩:=rx
 obtain ⟨t',rfl⟩:=ry
 exact lt_str (fin_bl I q rfl)
theorem op_in_str:OpR X (compareOp .In) (fun x y H Q=>∃ i j,x=.str i∧y=.str j∧Q (.bl (!(Builtin.Str.occurrences j i 0 j.length 1).isEmpty)) H):=by
 intro pins s σ H x y v u Q I rx ry h
 obtain ⟨i,j,rfl,rfl,q⟩:=h
 obtain ⟨t,rfl⟩:=rx
 obtain ⟨t',rfl⟩:=ry
 exact in_str (fin_bl I q rfl)
theorem OpR.or {f:Value→Value→Sem Value} {r r':R2} (h:OpR X f r) (h':OpR X f r'):OpR X f (fun x y H Q=>r x y H Q∨r' x y H Q):=by
 intro pins s σ H x y v u Q I rx ry q
 rcases q with q | q
 ·exact h pins s σ H x y v u Q I rx ry q
 ·exact h' pins s σ H x y v u Q I rx ry q
theorem nomark (b:Expr) {op:CmpOp} (h:op≠.In:=by decide) (h2:op≠.NotIn:=by decide):behindInMarks op b=false:=by
 have e1:(op == CmpOp.In)=false:=by cases op <;> first | rfl | exact absurd rfl h
 have e2:(op == CmpOp.NotIn)=false:=by cases op <;> first | rfl | exact absurd rfl h2
 cases b <;> simp [behindInMarks,e1,e2]
theorem pe_cmpR {op:CmpOp} {r:R2} (ho:OpR X (compareOp op) r) (ha:PE X a ta) (hb:PE X b tb) (hm:behindInMarks op b=false):PE X (.Compare a [op] [b] pos) (tOp r ta tb):=by
 intro pins s σ H Q I h
 exact wpAny_Compare1 (binT ha hb I h fun v u s2 x y H2 I2 rx ry q=>ho pins s2 σ H2 x y v u Q I2 rx ry q) hm
noncomputable def tTest (t:TE):TT:=fun σ H Q=>t σ H fun x H'=>∃ k,x=.bl k∧Q k H'
theorem pt_cmpR {op:CmpOp} {r:R2} (ho:OpR X (compareOp op) r) (ha:PE X a ta) (hb:PE X b tb) (hm:behindInMarks op b=false):PT X (.Compare a [op] [b] pos) (tTest (tOp r ta tb)):=by
 intro pins s σ H Q I h
 refine wpAny_isTrue_Compare1 (thn (ha pins s σ H _ I h) fun v s1 hx5=>L2.ex2 hx5 fun x H1 I1 r1 q1=>thn (hb pins s1 σ H1 _ I1 q1) fun u s2 hx5=>L2.ex2 hx5 fun y H2 I2 r2 q2 =>
  thn (ho pins s2 σ H2 x y v u _ I2 r1 r2 q2) fun c s3 ⟨z,H3,I3,r3,k,e,q3⟩=>?_) hm
 subst e
 cases r3
 exact wpAny_truthy_bool ⟨H3,I3,q3⟩
noncomputable def tChain (r r':R2) (ta tb tc:TE):TE:=fun σ H Q=>ta σ H fun x H1=>tb σ H1 fun y H2=>r x y H2 fun z H3=>∃ k,z=.bl k ∧
 (if k=true then tc σ H3 fun w' H4=>r' y w' H4 Q else Q (.bl false) H3)
theorem pt_chain {op op':CmpOp} {r r':R2} (ho:OpR X (compareOp op) r) (ho':OpR X (compareOp op') r') (ha:PE X a ta) (hb:PE X b tb) (hc:PE X c tc)
  (hm:lastMarks [op,op'] [b,c]=false:=by with_unfolding_all rfl):PT X (.Compare a [op,op'] [b,c] pos) (tTest (tChain r r' ta tb tc)):=by
 intro pins s σ H Q I h
 refine isTrue_chain (thn (ha pins s σ H _ I h) fun v s1 hx5=>L2.ex2 hx5 fun x H1 I1 r1 q1=>test_link (thn (hb pins s1 σ H1 _ I1 q1) fun u s2 hx5=>L2.ex2 hx5 fun y H2 I2 r2 q2 =>
  thn (ho pins s2 σ H2 x y v u _ I2 r1 r2 q2) fun d s3 ⟨z,H3,I3,r3,k,e,q3⟩=>?_)) hm
 subst e
 cases r3
 refine wpAny_truthy_bool ?_
 cases k with
 | false =>
  obtain ⟨k',e',q'⟩:=q3
  cases e'
  exact ite_ff ⟨H3,I3,q'⟩
 | true =>
  refine ite_tt (test_last (thn (hc pins s3 σ H3 _ I3 q3) fun w' s4 ⟨z',H4,I4,r4,q4⟩=>thn (ho' pins s4 σ H4 y z' u w' _ I4 r2 r4 q4) fun d' s5 hx9=>?_))
  obtain ⟨z2,H5,I5,r5,k2,e2,q5⟩:=hx9
  subst e2
  cases r5
  exact wpAny_truthy_bool ⟨H5,I5,q5⟩
theorem line63:(sizeLine:Nat)<2 ^ 63:=by rw [sizeLine_eq]; decide
theorem op_add_str:OpR X (binaryOp .Add) (fun x y H Q=>∃ i j,x=.str i∧y=.str j∧i.length+j.length≤sizeLine∧Q (.str (i++j)) H):=by
 intro pins s σ H x y v u Q I rx ry h
 obtain ⟨i,j,rfl,rfl,hz,q⟩:=h
 obtain ⟨t,rfl⟩:=rx
 obtain ⟨t',rfl⟩:=ry
 exact add_str (fun t' tk=>⟨.str (i++j),H,I.tok _,⟨_,rfl⟩,q⟩) hz
theorem vals1 {x:V} {us:List Value} (r:Vals [x] us):∃ u,us=[u]∧RelV x u:=by
 cases r with
 | cons r1 r2=>cases r2; exact ⟨_,rfl,r1⟩
noncomputable def LenV (K:PySem.W.Frag) (x:V) (H:Hp) (n:Nat):Prop :=
 match x with
 | .str y=>y.length≤sizeLine∧n=y.length
 | .byt y=>y.size≤sizeLine∧n=y.size
 | .ref p=>(∃ xs,SqL K H p xs∧n=xs.length)∨∃ xs,SqT K H p xs∧n=xs.length
 | _=>False
theorem call_len:CallR X (.builtin "len") (fun xs H Q=>∃ x n,xs=[x]∧LenV X.K x H n∧Q (.int n) H):=by
 intro pins s σ H xs us Q I r h
 obtain ⟨x,n,rfl,e,q⟩:=h
 obtain ⟨u,rfl,rx⟩:=vals1 r
 have hl:=line63
 have hs:sizeLine=16777216:=sizeLine_eq
 cases x with
 | str y =>
  obtain ⟨t,rfl⟩:=rx
  obtain ⟨hy,e'⟩:y.length≤sizeLine∧n=y.length:=e
  subst e'
  exact len_str (by walk_at "l") ⟨.int _,H,I.tok _,⟨_,rfl⟩,q⟩
 | byt y =>
  obtain ⟨t,rfl⟩:=rx
  obtain ⟨hy,e'⟩:y.size≤sizeLine∧n=y.size:=e
  subst e'
  exact PySem.W.len_bytes (by walk_at "s4") ⟨.int _,H,I.tok _,⟨_,rfl⟩,q⟩
 | ref p =>
  cases rx
  have e':(∃ xs,SqL X.K H p xs∧n=xs.length)∨∃ xs,SqT X.K H p xs∧n=xs.length:=e
  rcases e' with ⟨xs,hx,e'⟩ | ⟨xs,hx,e'⟩
  ·subst e'
   obtain ⟨its,r',pl,hz⟩:=I.list hx
   have hlen:=r'.length
   exact Calls.call_len_list pl.isList (by simp only [List.size_toArray]; walk_at "l") ⟨.int xs.length,H,I.tok _,⟨_,by simp only [List.size_toArray]; rw [hlen]⟩,q⟩
  ·subst e'
   obtain ⟨its,r',pl,hz⟩:=I.tuple hx
   have hlen:=r'.length
   exact len_tuple pl (by simp only [List.size_toArray]; walk_at "l") ⟨.int xs.length,H,I.tok _,⟨_,by simp only [List.size_toArray]; rw [hlen]⟩,q⟩
 | _=>exact (show False from e).elim
end
end L2
namespace L2
open PySem PySem.Spec PyProof.Rows
structure ObjM (h:Heap) (x dx C:Addr) (mA:Str→Option Value):Prop where
 obj:h.get? x=some (PySem.W.instObj C dx)
 ns:h.Ns1 dx mA
 ne:dx≠x
theorem lookIn_ns {h:Heap} {dx:Addr} {mA:Str→Option Value} (n:h.Ns1 dx mA):∃ od,h.get? dx=some od∧∀ name,PySem.W.lookIn name od=some (mA name):=by
 obtain ⟨o,es,ep,ho,hd,hk,_,hm⟩:=n
 refine ⟨o,ho,fun name=>?_⟩
 have e:=hm name
 unfold nsFind findBy at e
 rw [← Array.find?_toList] at e
 unfold PySem.W.lookIn
 rw [hd]
 dsimp only
 split
 ·rename_i y q
  rw [q] at e
  exact congrArg some e
 ·rename_i q
  rw [q] at e
  have a:es.toList.any (·.refKey)=false:=by
   rw [List.any_eq_false]
   intro y hy
   obtain ⟨z,t,hkey⟩:=hk y (Array.mem_toList_iff.mp hy)
   simp [DictEntry.refKey,hkey]
  have a':¬ es.toList.any (·.refKey)=true:=by rw [a]; exact Bool.false_ne_true
  rw [if_neg a']
  exact congrArg some e
theorem ObjM.look {h:Heap} {x dx C:Addr} {mA:Str→Option Value} (I:ObjM h x dx C mA):∃ od,PySem.W.InstAt h x (PySem.W.instObj C dx) C (some od)∧∀ name,PySem.W.lookIn name od=some (mA name) :=
 let ⟨od,ho,hl⟩:=lookIn_ns I.ns
 ⟨od,⟨I.obj,rfl,rfl,ho⟩,hl⟩
section
variable {prog:Program} {w:World} {A:Around} {E:Value→Shared→Prop} {s:Shared} {K:PySem.W.Frag} {x dx C f:Addr} {mA:Str→Option Value} {name:Str} {v:Value}
end
theorem RelO.some_of {v:V} {o:Option Value} (r:RelO (some v) o):∃ u,o=some u∧RelV v u:=by
 cases o with
 | none=>exact (show False from r).elim
 | some u=>exact ⟨u,rfl,r⟩
section
variable {P:Program} {w:World} {H H':Hp} {h h':Heap} {a C dx:Addr} {fs fs':List (Str × V)}
theorem ins_get (hok:HOk P w H h) (e:H a=some (.ins C dx fs)):∃ mA,ObjM h a dx C mA∧(∀ f,RelO (fs.lookup f) (mA f))∧PySem.Within mA (fs.map (·.1))∧fs.length≤1000∧H dx=some (.own a):=by
 obtain ⟨d,z,ne,ob,mA,n,r,q⟩:=(show ObjOk P w H h a (.ins C dx fs) from hok a _ e)
 exact ⟨mA,⟨ob,n,ne⟩,r,q,z,d⟩
end
structure Cls (K:PySem.W.Frag) (C:Addr):Prop where
 pg:PySem.W.plainGet K C Str.empty=true
 hd:PySem.W.hasDictIn K C=true
 po:PySem.W.plainOver K C=true
 sa:PySem.W.findIn K (.ref C) "__setattr__" = some (some (.builtin "object.__setattr__"))
theorem Cls.get {K:PySem.W.Frag} {C:Addr} (c:Cls K C) (f:Str):PySem.W.plainGet K C f=true:=c.pg
section
variable {X:Cx} {pins:List (Addr × Obj)} {σ:St} {H:Hp} {s:Shared} {a C dx:Addr} {fs:List (Str × V)} {f:Str} {v:V} {A:Around} {E:Value→Shared→Prop}
end
section
variable {X:Cx} {o e value:Expr} {f:Str} {pos pos' tpos:Pos} {ta tv:TE}
end
section
variable {X:Cx} {pins:List (Addr × Obj)} {σ:St} {H:Hp} {s:Shared} {A:Around} {E:Value→Shared→Prop} {Q:Value→Shared→Prop} {c:Value} {b:Bool}
inductive TyOf (K:PySem.W.Frag) (H:Hp):V→Value→Prop where
 | non:TyOf K H .non (.type "NoneType")
 | bl (x:Bool):TyOf K H (.bl x) (.type "bool")
 | int (i:Int):TyOf K H (.int i) (.type "int")
 | str (x:Str):TyOf K H (.str x) (.type "str")
 | flt (x:UInt64):TyOf K H (.flt x) (.type "float")
 | lst {a:Addr} {xs:List V} (e:H a=some (.lst xs)):TyOf K H (.ref a) (.type "list")
 | frz {a:Addr} {o:Obj} {xs:List V} (e:H a=some (.frz o (.lst xs))):TyOf K H (.ref a) (.type "list")
 | tup {a:Addr} {xs:List V} (e:H a=some (.tup xs)):TyOf K H (.ref a) (.type "tuple")
 | dK {a:Addr} {kvs:List (Key × V)} (e:H a=some (.dK kvs)):TyOf K H (.ref a) (.type "dict")
 | dT {a:Addr} {kvs:List (List Key × V)} (e:H a=some (.dT kvs)):TyOf K H (.ref a) (.type "dict")
 | ins {a C dx:Addr} {fs:List (Str × V)} (e:H a=some (.ins C dx fs)) (cl:Cls K C) (ha:PySem.W.findIn K (.ref C) "__class__" = some (some (.builtin "object.__class__")))
   (hn:PySem.W.specialIn K (.builtin "object.__class__") "__get__" = some (some (.builtin "getset_descriptor.__get__"))) (htk:PySem.W.takesIn K (.builtin "object.__class__")=some true)
   (hm:PySem.W.mroIn K C (.type "object")=some true):TyOf K H (.ref a) (.ref C)
theorem isinst_ok {x:V} {u t:Value} (I:Inv X pins σ H s) (rx:RelV x u) (ty:TyOf X.K H x t) (e:PySem.W.kitOne X.K t c=some b) (h:∀ tk,Q (.bool b) { s with toks:=tk }) :
  wpAny (model X.prog X.w) A (call (.builtin "isinstance") [u,c]) Q E s:=by
 cases ty with
 | non=>cases (show u=Value.none from rx); exact PySem.W.kia_one PySem.W.kitx_none I.kIn True.intro e (fun z=>nomatch z) h
 | bl y=>cases (show u=Value.bool y from rx); exact PySem.W.kia_one PySem.W.kitx_bool I.kIn True.intro e (fun z=>nomatch z) h
 | int i=>obtain ⟨t,q⟩:=(show ∃ t,u=Value.int i t from rx); cases q; exact PySem.W.kia_one PySem.W.kitx_int I.kIn True.intro e (fun z=>nomatch z) h
 | str y=>obtain ⟨t,q⟩:=(show ∃ t,u=Value.str y t from rx); cases q; exact PySem.W.kia_one PySem.W.kitx_str I.kIn True.intro e (fun z=>nomatch z) h
 | flt y=>obtain ⟨t,q⟩:=(show ∃ t,u=Value.float y t from rx); cases q; exact PySem.W.kia_one PySem.W.kitx_float I.kIn True.intro e (fun z=>nomatch z) h
 | @lst a xs ea =>
  cases (show u=Value.ref a from rx)
  obtain ⟨_,_,n,_,h1⟩:=(show ObjOk X.prog X.w H s.heap a (.lst xs) from I.hok a _ ea)
  exact PySem.W.kia_one PySem.W.kitx_list I.kIn ⟨_,h1,rfl⟩ e (fun z=>nomatch z) h
 | @frz a ob xs ea =>
  cases (show u=Value.ref a from rx)
  obtain ⟨_,_,_,n,_,h1⟩:=(show ObjOk X.prog X.w H s.heap a (.frz ob (.lst xs)) from I.hok a _ ea)
  exact PySem.W.kia_one PySem.W.kitx_list I.kIn ⟨_,h1,rfl⟩ e (fun z=>nomatch z) h
 | @tup a xs ea =>
  cases (show u=Value.ref a from rx)
  obtain ⟨_,_,_,p⟩:=(show ObjOk X.prog X.w H s.heap a (.tup xs) from I.hok a _ ea)
  obtain ⟨o,h1,h2,_⟩:=p
  exact PySem.W.kia_one PySem.W.kitx_tuple I.kIn ⟨o,h1,h2⟩ e (fun z=>nomatch z) h
 | @dK a kvs ea =>
  cases (show u=Value.ref a from rx)
  obtain ⟨_,_,vs,_,p⟩:=(show ObjOk X.prog X.w H s.heap a (.dK kvs) from I.hok a _ ea)
  obtain ⟨o,es,ep,h1,h2,_⟩:=p
  exact PySem.W.kia_one PySem.W.kitx_dict I.kIn ⟨o,h1,h2.1⟩ e (fun z=>nomatch z) h
 | @dT a kvs ea =>
  cases (show u=Value.ref a from rx)
  obtain ⟨_,_,xs,_,o,es,ep,h1,h2,_⟩:=(show ObjOk X.prog X.w H s.heap a (.dT kvs) from I.hok a _ ea)
  exact PySem.W.kia_one PySem.W.kitx_dict I.kIn ⟨o,h1,h2.1⟩ e (fun z=>nomatch z) h
 | @ins a C dx fs ea cl ha hn htk hm =>
  cases (show u=Value.ref a from rx)
  obtain ⟨mA,O,_⟩:=ins_get I.hok ea
  obtain ⟨od,J,_⟩:=O.look
  exact PySem.W.kia_one (PySem.W.kitx_own (cl.get _) cl.hd ha hn htk hm) I.kIn J e (fun z=>nomatch z) h
end
end L2
namespace L2
open PySem PySem.Spec PyProof.Rows
structure Room (k:Nat) (A:Around):Prop where
 hd:A.handled=none
 dp:A.depth+3 * k+5<recursionLimit
 un:A.units+16 * k+200<cLine
theorem Room.mono {j k:Nat} {A:Around} (r:Room k A) (h:j≤k):Room j A:=⟨r.hd,by have:=r.dp; walk_at "l",by have:=r.un; walk_at "l"⟩
theorem Room.deeper {k:Nat} {A:Around} (r:Room (k+1) A) (env:Env):Room k (A.deeper env) :=
 ⟨r.hd,by have:=r.dp; show A.depth+1+3 * k+5<_; walk_at "l",by have:=r.un; show A.units+3+16 * k+200<_; walk_at "l"⟩
theorem Room.depth {k:Nat} {A:Around} (r:Room k A):A.depth<recursionLimit:=by have:=r.dp; walk_at "l"
theorem Room.units {k:Nat} {A:Around} (r:Room k A):A.units+64<cLine:=by have:=r.un; walk_at "l"
noncomputable def tNil:TA:=fun _ H Q=>Q [] H
noncomputable def tCons (ta:TE) (tr:TA):TA:=fun σ H Q=>ta σ H fun x H1=>tr σ H1 fun xs H2=>Q (x :: xs) H2
section
variable {X:Cx} {e:Expr} {es:List Expr} {te:TE} {t:TA} {pos:Pos}
theorem pa_nil:PA X [] tNil:=fun _ _ _ _ H Q I h=>Calls.spliced_nil ⟨[],H,I,.nil,h⟩
theorem pa_cons (ha:PE X e te) (hr:PA X es t) (hs:starEach (e :: es) X.env=(false,eval e X.env) :: starEach es X.env:=by rfl):PA X (e :: es) (tCons te t):=by
 intro pos pins s σ H Q I h
 rw [hs]
 show wpAny _ _ (spliced ((false,eval e X.env) :: backTo pos (starEach es X.env))) _ _ s
 refine Calls.spliced_cons (thn (ha pins s σ H _ I h) fun u s1 hx5=>L2.ex2 hx5 fun x H1 I1 r1 q1=>?_)
 exact thn (hr pos pins s1 σ H1 _ I1 q1) fun us s2 hx5=>L2.ex2 hx5 fun xs H2 I2 r2 q2=>⟨x :: xs,H2,I2,.cons r1 r2,q2⟩
noncomputable def tTup (t:TA):TE:=fun σ H Q=>t σ H fun xs H1=>xs.length≤sizeLine∧∀ p,H1 p=none→Q (.ref p) (upd H1 p (.tup xs))
noncomputable def tLst (t:TA):TE:=fun σ H Q=>t σ H fun xs H1=>xs.length≤sizeLine∧∀ p,H1 p=none→Q (.ref p) (upd H1 p (.lst xs))
theorem pe_tup {x1} (h:PA X es t):PE X (.Tuple es x1 pos) (tTup t):=by
 intro pins s σ H Q I hq
 refine wpAny_Tuple_spliced (thn (h pos pins s σ H _ I hq) fun us s1 ⟨xs,H1,I1,r,z,q⟩=>⟨by rw [← r.length]; exact z,?_⟩)
 have hf:H1 s1.heap.objs.size=none:=I1.hok.fresh (Nat.le_refl _)
 refine ⟨.ref s1.heap.objs.size,upd H1 s1.heap.objs.size (.tup xs),I1.laid (t':=s1.toks) (fun b u e=>Heap.get?_push_of_some _ e) (Nat.le_refl _) ?_,rfl,q _ hf⟩
 exact ⟨z,us,r,⟨_,Heap.get?_push_size _ rfl,rfl,_,rfl⟩⟩
theorem pe_lst (h:PA X es t):PE X (.List es pos) (tLst t):=by
 intro pins s σ H Q I hq
 refine wpAny_List_spliced (thn (h pos pins s σ H _ I hq) fun us s1 ⟨xs,H1,I1,r,z,q⟩=>⟨by rw [← r.length]; exact z,?_⟩)
 have hf:H1 s1.heap.objs.size=none:=I1.hok.fresh (Nat.le_refl _)
 refine ⟨.ref s1.heap.objs.size,upd H1 s1.heap.objs.size (.lst xs),I1.laid (t':=s1.toks) (fun b u e=>Heap.get?_push_of_some _ e) (Nat.le_refl _) ?_,rfl,q _ hf⟩
 exact ⟨z,us,0,r,Heap.get?_push_size _ rfl⟩
end
noncomputable abbrev Sp:=List V→Hp→VK→XK→Prop
noncomputable abbrev CXT:=List Env→Hp→Shared→XK→Value→Shared→Prop
structure Env0 (P:Program) (w:World) (K:PySem.W.Frag) (mg:Str→Option Value) (base:Heap) (A:Around) (outer:List Env) (s:Shared) (H:Hp):Prop where
 frames:A.frames=some outer
 mod:Mod K mg base
 bs:∀ b o,base.get? b=some o→s.heap.get? b=some o∧H b=none
 bsz:base.objs.size≤s.heap.objs.size
 funs:s.heap.FunFrames base outer
 frf:∀ b∈frs outer,H b=none
 hok:HOk P w H s.heap
 bare:AllBare s.gens
noncomputable def CE (outer:List Env) (P:Program) (w:World) (H:Hp) (s:Shared) (Q:VK) (u:Value) (s':Shared):Prop :=
 ∃ v H',s'.os=s.os∧AllBare s'.gens∧Un (frs outer) [] H H' s.heap s'.heap∧HOk P w H' s'.heap∧RelV v u∧Q v H'
noncomputable def CR (CX:CXT) (outer:List Env) (P:Program) (w:World) (H:Hp) (s:Shared) (Q:VK) (E:XK) (r:Result) (s':Shared):Prop :=
 match r with
 | .ok (.ret u)=>CE outer P w H s Q u s'
 | .ok _=>False
 | .error e=>CX outer H s E e s'
structure FnOk (P:Program) (w:World) (K:PySem.W.Frag) (mg:Str→Option Value) (base:Heap) (CX:CXT) (k:Nat) (f:Addr) (fd:FuncData) (ps:List Str) (sp:Sp):Prop where
 len:∀ vs H Q E,sp vs H Q E→vs.length=ps.length
 run:∀ (A:Around) (outer:List Env) (s:Shared) (H:Hp) (args:Args) (us:List Value) (vs:List V) (Q:VK) (E:XK),Room k A→Env0 P w K mg base A outer s H→BindsTo s fd args (ps.zip us)→Vals vs us→sp vs H Q E →
  codeAny (model P w) A (.call (.ref f) args) (CR CX outer P w H s Q E) s
section
variable {X:Cx} {pins:List (Addr × Obj)} {σ:St} {H:Hp} {s s':Shared}
theorem Inv.env0 (I:Inv X pins σ H s):Env0 X.prog X.w X.K X.mg X.base X.A X.stack s H :=
 ⟨I.ok.frames,I.ok.mod,I.bs,Nat.le_trans I.ok.bsz I.sz,I.stack,I.stkFree,I.hok,I.bare⟩
theorem Inv.after {Q:VK} {u:Value} (I:Inv X pins σ H s) (h:CE X.stack X.prog X.w H s Q u s'):EP X pins σ Q u s':=by
 obtain ⟨v,H',os,bare,un,hok,r,q⟩:=h
 obtain ⟨hh,g,d,t,os'⟩:=s'
 obtain rfl:os'=s.os:=os
 exact ⟨v,H',I.call (h':=hh) (g':=g) (d':=d) (t':=t) (ch:=[]) un hok bare (fun b z=>absurd z (by simp)),r,q⟩
end
noncomputable def tCall (sp:Sp) (dvs:List V) (E:XK) (t:TA):TE:=fun σ H Q=>t σ H fun vs H1=>sp (vs++dvs) H1 Q E
noncomputable def Binds (K:PySem.W.Frag) (fd:FuncData) (ps:List Str) (ds:List Value):Prop :=
 ∀ (s:Shared) (us:List Value),K.In s.heap→(us++ds).length=ps.length→BindsTo s fd ⟨us,[]⟩ (ps.zip (us++ds))
theorem Binds.all {K:PySem.W.Frag} {fd:FuncData} {ps:List Str} (h:∀ us:List Value,us.length=ps.length→bindArgs fd ⟨us,[]⟩=pure (ps.zip us)):Binds K fd ps []:=fun s us _ hl=>by
 rw [List.append_nil] at hl ⊢
 exact .of_eq (h us hl)
noncomputable def Passes (CX:CXT) (X:Cx) (E:XK):Prop:=∀ (pins:List (Addr × Obj)) (σ:St) (H:Hp) (s:Shared) (e:Value) (s':Shared),Inv X pins σ H s→CX X.stack H s E e s'→X.xe e s'
section
variable {X:Cx} {CX:CXT} {k:Nat} {f C:Addr} {fd:FuncData} {ps:List Str} {sp:Sp} {dvs:List V} {ds:List Value} {E:XK} {x m:Str} {p pos apos:Pos} {e o:Expr} {es:List Expr} {ta:TE} {t:TA}
theorem run_fn {pins:List (Addr × Obj)} {σ:St} {H:Hp} {s:Shared} {Q:VK} {us:List Value} {vs:List V} (F:FnOk X.prog X.w X.K X.mg X.base CX k f fd ps sp) (hr:Room k X.A) (hb:Binds X.K fd ps ds) (hd:Vals dvs ds) (hx:Passes CX X E)
  (I:Inv X pins σ H s) (r:Vals vs us) (h:sp (vs++dvs) H Q E):wpAny (model X.prog X.w) X.A (call (.ref f) us) (EP X pins σ Q) X.xe s:=by
 have r2:Vals (vs++dvs) (us++ds):=r.append hd
 have hl:(us++ds).length=ps.length:=by rw [← r2.length]; exact F.len _ _ _ _ h
 refine wpAny_call (codeAny_mono (F.run X.A X.stack s H ⟨us,[]⟩ (us++ds) (vs++dvs) Q E hr I.env0 (hb s us I.kIn hl) r2 h) fun r s' hq=>?_)
 cases r with
 | error e=>exact hx pins σ H s e s' I hq
 | ok fl =>
  cases fl with
  | ret u=>exact I.after hq
  | next=>exact False.elim hq
  | brk=>exact False.elim hq
  | cont=>exact False.elim hq
theorem pe_call (F:FnOk X.prog X.w X.K X.mg X.base CX k f fd ps sp) (hr:Room k X.A) (hg:Gl X x) (hm:X.mg x=some (.ref f)) (hk:PySem.W.keepIn X.K (.ref f)=true) (hb:Binds X.K fd ps ds) (hd:Vals dvs ds) (hx:Passes CX X E)
  (ha:PA X (e :: es) t) (hdb:(x == ("__debug__" : Str))=false:=by decide) (he:starEach (e :: es) X.env=(false,eval e X.env) :: starEach es X.env:=by rfl) (hpl:(backTo pos (starEach es X.env)).any (·.1)=false:=by rfl) :
  PE X (.Call (.Name x p) (e :: es) [] pos) (tCall sp dvs E t):=by
 intro pins s σ H Q I h
 refine wpAny_Call_Name_kw (ld_glob I hg hm ?_ hdb)
 refine PySem.W.callWith_K (h₀:=X.base) I.ok.mod.kin hk (thn (ha pos pins s σ H _ I h) fun us s1 hx5=>L2.ex2 hx5 fun vs H1 I1 r q=>⟨I1.kIn,?_⟩) he hpl
 exact run_fn F hr hb hd hx I1 r q
end
section
variable {X:Cx} {CX:CXT} {k:Nat} {f C:Addr} {fd:FuncData} {ps ks:List Str} {sp:Sp} {E:XK} {x m:Str} {p pos apos kpos:Pos} {e o:Expr} {es:List Expr} {kws:List Keyword} {te ta:TE} {t tk:TA} {nm:Option Str}
variable {g:List Value→List Value→List Value} {gV:List V→List V→List V}
end
structure FnScope (N P:List Str) (sc:Scope):Prop where
 kind:sc.kind=.function
 co:sc.isCoroutine=false
 gen:sc.isGenerator=false
 nd:N.Nodup
 pre:N.take P.length=P
 par:∀ x∈P,sc.names.lookup x=some .local∨sc.names.lookup x=some .cell
 nofree:∀ y∈sc.names,y.2≠.free
theorem bindL_out {kindOf:Str→Option NameKind} {x:Str}:∀ {binds:List (Str × Value)} {m:Str→Option Value},(∀ v,(x,v)∉binds)→bindL kindOf binds m x=m x
 | [],_,_=>rfl
 | (n,v) :: r,m,h=>by
  unfold bindL
  rw [bindL_out fun w hw=>h w (List.mem_cons_of_mem _ hw)]
  split
  ·have:x≠n:=by rintro rfl; exact h v List.mem_cons_self
   simp [this]
  ·rfl
theorem bindC_out {kindOf:Str→Option NameKind} {x:Str}:∀ {binds:List (Str × Value)} {m:Str→Option Value},(∀ v,(x,v)∉binds)→bindC kindOf binds m x=m x
 | [],_,_=>rfl
 | (n,v) :: r,m,h=>by
  unfold bindC
  rw [bindC_out fun w hw=>h w (List.mem_cons_of_mem _ hw)]
  split
  ·rfl
  ·have:x≠n:=by rintro rfl; exact h v List.mem_cons_self
   simp [this]
theorem bindL_get {kindOf:Str→Option NameKind} {x:Str} {v:Value}:∀ {P:List Str} {vs:List Value} {i:Nat} {m:Str→Option Value},P.Nodup→P[i]? = some x→vs[i]? = some v→kindOf x=some .local →
  bindL kindOf (P.zip vs) m x=some v
 | [],_,_,_,_,h,_,_=>by simp at h
 | _ :: _,[],_,_,_,_,h,_=>by simp at h
 | p :: P,w :: vs,0,m,nd,h1,h2,hk=>by
  simp at h1 h2; subst h1; subst h2
  show bindL kindOf ((p,w) :: P.zip vs) m p=_
  unfold bindL
  rw [bindL_out fun v hv=>(List.nodup_cons.mp nd).1 (List.of_mem_zip hv).1,if_pos hk]
  simp
 | p :: P,w :: vs,i+1,m,nd,h1,h2,hk=>by
  show bindL kindOf ((p,w) :: P.zip vs) m x=_
  unfold bindL
  exact bindL_get (i:=i) (List.nodup_cons.mp nd).2 (by simpa using h1) (by simpa using h2) hk
theorem bindC_get {kindOf:Str→Option NameKind} {x:Str} {v:Value}:∀ {P:List Str} {vs:List Value} {i:Nat} {m:Str→Option Value},P.Nodup→P[i]? = some x→vs[i]? = some v→kindOf x≠some .local →
  bindC kindOf (P.zip vs) m x=some v
 | [],_,_,_,_,h,_,_=>by simp at h
 | _ :: _,[],_,_,_,_,h,_=>by simp at h
 | p :: P,w :: vs,0,m,nd,h1,h2,hk=>by
  simp at h1 h2; subst h1; subst h2
  show bindC kindOf ((p,w) :: P.zip vs) m p=_
  unfold bindC
  rw [bindC_out fun v hv=>(List.nodup_cons.mp nd).1 (List.of_mem_zip hv).1,if_neg hk]
  simp
 | p :: P,w :: vs,i+1,m,nd,h1,h2,hk=>by
  show bindC kindOf ((p,w) :: P.zip vs) m x=_
  unfold bindC
  exact bindC_get (i:=i) (List.nodup_cons.mp nd).2 (by simpa using h1) (by simpa using h2) hk
noncomputable def start (N:List Str) (vs:List V):St:=vs.map some++List.replicate (N.length - vs.length) none
noncomputable def cxOf (CX:CXT) (P:Program) (w:World) (K:PySem.W.Frag) (mg:Str→Option Value) (base:Heap) (N:List Str) (qual:Str) (scope:Scope) (f:Addr) (cd:Value) (A:Around) (outer:List Env) (s:Shared) (H:Hp) (E:XK):Cx where
 prog:=P
 w:=w
 K:=K
 mg:=mg
 base:=base
 A:=A.deeper (envOfC qual scope s.heap.objs.size f cd)
 N:=N
 s₀:=s
 H₀:=H
 env:=envOfC qual scope s.heap.objs.size f cd
 outer:=outer
 stack:=envOfC qual scope s.heap.objs.size f cd :: outer
 ex:=[]
 calm:=true
 fn:=fun _=>true
 pn:=[]
 xe:=fun e s'=>wpAny (model P w) (A.deeper (envOfC qual scope s.heap.objs.size f cd)) (leaving (envOfC qual scope s.heap.objs.size f cd) e) (fun _ s''=>CX outer H s E e s'') (fun e' s''=>CX outer H s E e' s'') s'
theorem cell_has {sc:Scope} {n:Nat} {x:Str} (h:sc.names.lookup x=some .cell):∃ c,(cellsFrom n sc.names []).lookup x=some c:=by
 have q:=PySem.W.cellsFrom_some sc.names n [] (.inl h)
 exact Option.isSome_iff_exists.mp q
theorem inv_start {CX:CXT} {P:Program} {w:World} {K:PySem.W.Frag} {mg:Str→Option Value} {base:Heap} {N ps:List Str} {qual:Str} {scope:Scope} {f:Addr} {cd:Value} {A:Around} {outer:List Env} {s s1:Shared} {H:Hp} {E:XK} {us:List Value} {vs:List V}
  (S:FnScope N ps scope) (hd:A.handled=none) (e0:Env0 P w K mg base A outer s H) (hl:vs.length=ps.length) (r:Vals vs us)
  (x:InCallC s s.heap.objs.size (bindL (envOfC qual scope s.heap.objs.size f cd).kindOf (ps.zip us) fun _=>none) (cellsFrom (s.heap.objs.size+1) scope.names []) (bindC (envOfC qual scope s.heap.objs.size f cd).kindOf (ps.zip us) fun _=>none) s1) :
  Inv (cxOf CX P w K mg base N qual scope f cd A outer s H E) [] (start N vs) H s1:=by
 have hpl:ps.length≤N.length:=by have:=congrArg List.length S.pre; rw [List.length_take] at this; walk_at "l"
 obtain ⟨h1,tk,rfl,hk⟩:=x.done
 have noA:∀ b:Addr,b∉(cxOf CX P w K mg base N qual scope f cd A outer s H E).ex:=fun b z=>absurd (show b∈([]:List Addr) from z) (by simp)
 refine ⟨⟨e0.mod,S.kind,rfl,rfl,Nat.le_refl _,fun y z c h1 h2=>?_,fun y hy=>?_,fun y c _ h=>?_,fun _=>hd,Around.frames_deeper e0.frames,.inr ⟨rfl,rfl⟩,fun b z=>absurd z (noA b),e0.bs,e0.bsz,fun b _ _=>noA b,fun b z=>absurd z (noA b),e0.funs,e0.frf⟩,
  rfl,e0.bare,Un.kept hk,⟨_,x.toInCall.ns,fun i y v h1 h2 h3=>?_⟩,fun y c h=>⟨_,x.cell y c h⟩,e0.hok.fresh (Nat.le_refl _),fun y c h=>?_,fun p hp=>absurd (show p∈([]:List (Addr × Obj)) from hp) (by simp),e0.hok.kept hk,?_⟩
 ·exact name_of_addr x.apart (PySem.mem_of_lookup h1) (PySem.mem_of_lookup h2)
 ·have hy:scope.names.lookup y=some .cell∨scope.names.lookup y=some .free:=hy
  rcases hy with hy | hy
  ·exact cell_has hy
  ·exact absurd rfl (S.nofree _ (PySem.mem_of_lookup hy))
 ·exact Nat.le_of_lt (x.above y c (PySem.mem_of_lookup h))
 ·have hi:i<vs.length:=by
   unfold start at h2
   by_cases hi:i<vs.length
   ·exact hi
   ·rw [List.getElem?_append_right (by simpa using hi)] at h2
    rw [List.getElem?_replicate] at h2
    split at h2 <;> cases h2
  have ha:vs[i]? = some v:=by
   unfold start at h2
   rw [List.getElem?_append_left (by simpa using hi),List.getElem?_map] at h2
   cases e:vs[i]? with
   | none=>rw [e] at h2; cases h2
   | some a=>rw [e] at h2; cases h2; rfl
  obtain ⟨u,hu,rv⟩:=r.get ha
  have hp:ps[i]? = some y:=by
   rw [← S.pre,List.getElem?_take_of_lt (by walk_at "l")]; exact h1
  have ndP:ps.Nodup:=by rw [← S.pre]; exact S.nd.sublist (List.take_sublist _ _)
  refine ⟨u,rv,?_⟩
  rcases S.par y (List.mem_of_getElem? hp) with k | k
  ·exact .inl ⟨k,bindL_get ndP hp hu k⟩
  ·obtain ⟨c,e⟩:=cell_has (n:=s.heap.objs.size+1) k
   refine .inr ⟨.inl k,c,e,?_⟩
   have q:=x.cell y c e
   rw [bindC_get ndP hp hu (by show scope.names.lookup y≠_; rw [k]; decide)] at q
   exact q
 ·exact e0.hok.fresh (Nat.le_of_lt (x.above y c (PySem.mem_of_lookup h)))
 ·unfold start
  show _=N.length
  rw [List.length_append,List.length_map,List.length_replicate]
  walk_at "l"
theorem fn_of {CX:CXT} {P:Program} {w:World} {K:PySem.W.Frag} {mg:Str→Option Value} {base:Heap} {k:Nat} {f:Addr} {name qual:Str} {params:Arguments} {body:List Stmt} {scope:Scope} {dV kV doc pm cdv ct oc:Value} {an od:Option Addr}
  {osl:Array (Option Value)} {N ps:List Str} {sp:Sp} (lk:K.lookup f=some ⟨oc,od,.func (PySem.W.fnOf name qual params body scope dV kV doc pm an cdv ct),osl⟩) (hcd:PySem.W.codeIn K cdv qual=true) (S:FnScope N ps scope)
  (len:∀ vs H Q E,sp vs H Q E→vs.length=ps.length)
  (hbody:∀ (A:Around) (outer:List Env) (s:Shared) (H:Hp) (vs:List V) (Q:VK) (E:XK),Room k (A.deeper (envOfC qual scope s.heap.objs.size f cdv))→sp vs H Q E →
   ∃ t,PSs (cxOf CX P w K mg base N qual scope f cdv A outer s H E) body t∧t { nx:=fun _ H'=>Q .non H',rt:=Q } (start N vs) H) :
  FnOk P w K mg base CX (k+1) f (PySem.W.fnOf name qual params body scope dV kV doc pm an cdv ct) ps sp:=by
 refine ⟨len,fun A outer s H args us vs Q E hr e0 hb r hsp=>?_⟩
 have hl:=len _ _ _ _ hsp
 have KX:K.In s.heap:=e0.mod.kin.keeps fun b o e=>(e0.bs b o e).1
 have lim:s.heap.NoLimit:=e0.mod.nolimit.keeps fun b o e=>(e0.bs b o e).1
 have hkind:∀ y∈ps.zip us,scope.names.lookup y.1=some .local∨(scope.names.lookup y.1=some .cell∧((cellsFrom (s.heap.objs.size+1) scope.names []).lookup y.1).isSome=true):=fun ⟨n,v⟩ hy=>by
  rcases S.par n (List.of_mem_zip hy).1 with q | q
  ·exact .inl q
  ·exact .inr ⟨q,PySem.W.cellsFrom_some _ _ _ (.inl q)⟩
 refine codeAny_call_function hr.depth (KX _ _ lk) rfl S.co S.gen rfl (PySem.W.codeRec_of KX hcd) (hb _ _ _ _ ?_)
 refine wpAny_newFunctionEnv_cells S.kind hkind fun env he s1 x=>?_
 subst he
 refine ⟨lim.keeps x.toInCall.keep,codeAny_func ?_⟩
 obtain ⟨t,ht,hq⟩:=hbody A outer s H vs Q E (hr.deeper _) hsp
 have I:Inv (cxOf CX P w K mg base N qual scope f cdv A outer s H E) [] (start N vs) H s1:=inv_start S hr.hd e0 hl r x
 refine wpAny_mono (ht [] s1 (start N vs) H _ I hq) (fun fl s' hs=>?_) fun e s' hs=>hs
 have fin:∀ {σ':St} {H':Hp} {v:V} {u:Value},Inv (cxOf CX P w K mg base N qual scope f cdv A outer s H E) [] σ' H' s'→RelV v u→Q v H'→CE outer P w H s Q u s' :=
  fun {σ' H' v u} J rv q=>⟨v,H',J.os,J.bare,J.base,J.hok,rv,q⟩
 cases fl with
 | ret u =>
  obtain ⟨v,σ',H',J,rv,q⟩:=hs
  exact fin J rv q
 | next =>
  obtain ⟨σ',H',J,q⟩:=hs
  exact fin (v:=V.non) (u:=Value.none) J rfl q
 | brk =>
  obtain ⟨_,_,_,q⟩:=hs
  exact False.elim q
 | cont =>
  obtain ⟨_,_,_,q⟩:=hs
  exact False.elim q
end L2
namespace L2
open PySem PySem.Spec PyProof.Rows
section
variable {X:Cx} {x:Str} {p pos:Pos} {e:Expr} {es:List Expr} {t:TA} {id T:String} {r:List V→Hp→VK→Prop}
noncomputable def tCB (r:List V→Hp→VK→Prop) (t:TA):TE:=fun σ H Q=>t σ H fun vs H1=>r vs H1 Q
theorem pe_callB (hc:CallR X (.builtin id) r) (hg:Gl X x) (hm:X.mg x=none) (hv:bootBuiltins x=some (.builtin id)) (ha:PA X (e :: es) t) (hn:x ≠ "__name__" := by decide) (hdb:(x == ("__debug__" : Str))=false:=by decide)
  (he:starEach (e :: es) X.env=(false,eval e X.env) :: starEach es X.env:=by rfl) (hpl:(backTo pos (starEach es X.env)).any (·.1)=false:=by rfl):PE X (.Call (.Name x p) (e :: es) [] pos) (tCB r t):=by
 intro pins s σ H Q I h
 refine wpAny_Call_Name_kw (ld_blt I hg hm hv ?_ hn hdb)
 exact PyProof.Rows.callWith_builtin1 (thn (ha pos pins s σ H _ I h) fun us s1 hx5=>L2.ex2 hx5 fun vs H1 I1 r1 q1=>hc pins s1 σ H1 vs us Q I1 r1 q1) he hpl
theorem pe_callTy (hc:CallR X (.type T) r) (hg:Gl X x) (hm:X.mg x=none) (hv:bootBuiltins x=some (.type T)) (ha:PA X (e :: es) t) (hn:x ≠ "__name__" := by decide) (hdb:(x == ("__debug__" : Str))=false:=by decide)
  (he:starEach (e :: es) X.env=(false,eval e X.env) :: starEach es X.env:=by rfl) (hpl:(backTo pos (starEach es X.env)).any (·.1)=false:=by rfl):PE X (.Call (.Name x p) (e :: es) [] pos) (tCB r t):=by
 intro pins s σ H Q I h
 refine wpAny_Call_Name_kw (ld_blt I hg hm hv ?_ hn hdb)
 exact PyProof.Rows.callWith_type1 (thn (ha pos pins s σ H _ I h) fun us s1 hx5=>L2.ex2 hx5 fun vs H1 I1 r1 q1=>hc pins s1 σ H1 vs us Q I1 r1 q1) he hpl
end
end L2
namespace HT
open PySem PyProof.Rows
section
open PySem.SeqAt
open PySem.AutoSeq1 (wpAny_loadPart')
open PySem.MeetsSeq PySem.MeetsSeq2 PySem.MeetsSeq3
end
section
variable {prog:Program} {w:World} {A:Around} {E:Value→Shared→Prop} {s:Shared}
theorem cat_tup {t b:Addr} {vs ws:List Value} {Q:Value→Shared→Prop} (ht:IsTup s.heap t vs.toArray) (hb:IsTup s.heap b ws.toArray) (hv:vs≠[])
  (h1:ws=[]→Q (.ref t) s) (h2:ws≠[]→Q (.ref s.heap.objs.size) { s with heap:=s.heap.push { cls:=.type "tuple",data:=.seq (vs++ws).toArray } })
  (hsz:vs.length+ws.length≤sizeLine):wpAny (model prog w) A (binaryOp .Add (.ref t) (.ref b)) Q E s:=by
 obtain ⟨⟨cls,dd,data,sl⟩,ho,hc,n,hd⟩:=id ht
 obtain ⟨⟨cls2,dd2,data2,sl2⟩,ho2,hc2,n2,hd2⟩:=id hb
 simp only at hc hd hc2 hd2
 subst hc hd hc2 hd2
 have e:vs.toArray++ws.toArray=(vs++ws).toArray:=by simp
 by_cases hw:ws=[]
 ·exact concat_meets ⟨_,ho,rfl⟩ ⟨_,ho2,rfl⟩ noFill_tuple_add seq_tuple_add PySem.F.slot_tuple_add PySem.F.entry_tuple_add (PySem.F.args_tuple_add_2 _ _)
   (tuple_addW1 t b vs.toArray ws.toArray n n2 dd dd2 sl sl2 (by simpa using hv) (by simp [hw])) ⟨ho,ho2,h1 hw⟩
 ·refine concat_meets ⟨_,ho,rfl⟩ ⟨_,ho2,rfl⟩ noFill_tuple_add seq_tuple_add PySem.F.slot_tuple_add PySem.F.entry_tuple_add (PySem.F.args_tuple_add_2 _ _)
   (tuple_addW2 t b vs.toArray ws.toArray n n2 dd dd2 sl sl2 (by simpa using hv) (by simpa using hw) (by rw [List.size_toArray,List.size_toArray]; exact hsz)) ⟨ho,ho2,?_⟩
  rw [e]
  exact h2 hw
noncomputable def sIx (n d:Nat):Option Int→Nat
 | none=>d
 | some v=>if v<0 then (v+(n:Int)).toNat else min v.toNat n
theorem sIx_le (n d:Nat) (hd:d≤n) (o:Option Int):sIx n d o≤n:=by
 cases o with
 | none=>exact hd
 | some v =>
  show (if v<0 then (v+(n:Int)).toNat else min v.toNat n)≤n
  by_cases hv:v<0
  ·rw [if_pos hv]; walk_at "l"
  ·rw [if_neg hv]; exact Nat.min_le_right _ _
theorem clip_eq (v:Int) (n d:Nat):(if v<0 then max (v+(n:Int)) 0 else min v (n:Int))=((sIx n d (some v):Nat):Int):=by
 show (if v<0 then max (v+(n:Int)) 0 else min v (n:Int))=(((if v<0 then (v+(n:Int)).toNat else min v.toNat n):Nat):Int)
 by_cases hv:v<0
 ·simp only [if_pos hv]; walk_at "l"
 ·simp only [if_neg hv]; walk_at "l"
theorem adjust_gen (lo hi:Option Int) (n:Nat):Builtin.Slice.sliceAdjust lo hi 1 (n:Int)=(((sIx n 0 lo:Nat):Int),((sIx n n hi:Nat):Int)):=by
 have h1:¬ ((1:Int)<0):=by decide
 unfold Builtin.Slice.sliceAdjust
 simp only [h1,if_false]
 refine Prod.ext ?_ ?_
 ·cases lo with
  | none=>rfl
  | some v=>exact clip_eq v n 0
 ·cases hi with
  | none=>rfl
  | some v=>exact clip_eq v n n
theorem places_gen (i j:Nat):Builtin.Slice.slicePlaces (i:Int) (j:Int) 1=j - i:=by
 unfold Builtin.Slice.slicePlaces
 have h1:(1:Int)>0:=by exact Int.le_refl _
 simp only [h1,if_true,Int.ediv_one]
 split <;> walk_at "l"
theorem slicePart_ {v:Value} {o:Option Int} {Q:Option Int→Shared→Prop} (p:IsPart v o) (h:Q o s):wpAny (model prog w) A (Builtin.Slice.slicePartIndex v) Q E s:=by
 cases p with
 | none=>exact slicePart_none h
 | int i t=>exact slicePart_int h
theorem sliceApplied_gen {sl:Addr} {vl vu:Value} {lo hi:Option Int} {n:Nat} {Q:Int × Int × Nat→Shared→Prop} (hs:s.heap.IsSliceOf sl vl vu .none) (pl:IsPart vl lo) (pu:IsPart vu hi)
  (h:Q (((sIx n 0 lo:Nat):Int),1,sIx n n hi - sIx n 0 lo) s):wpAny (model prog w) A (Builtin.Slice.sliceApplied (.ref sl) (pure (n:Int))) Q E s:=by
 obtain ⟨os,hos,hcs,hds⟩:=id hs
 unfold Builtin.Slice.sliceApplied Builtin.Slice.sliceFields
 refine wpAny_bind (wpAny_bind (wpAny_field hos hds (x:=vl) rfl (wpAny_bind (wpAny_field hos hds (x:=vu) rfl (wpAny_bind (wpAny_field hos hds (x:=.none) rfl (wpAny_pure ?_)))))))
 refine wpAny_bind (slicePart_none ?_)
 show wpAny _ _ (if ((1:Int) == 0)=true then _ else _) _ _ s
 rw [if_neg (by decide)]
 refine wpAny_bind (slicePart_ pl (wpAny_bind (slicePart_ pu (wpAny_bind (wpAny_pure ?_)))))
 show wpAny _ _ (match Builtin.Slice.sliceAdjust lo hi 1 (n:Int) with | (lo,hi)=>pure (lo,(1:Int),Builtin.Slice.slicePlaces lo hi 1)) _ _ s
 rw [adjust_gen lo hi n]
 show wpAny _ _ (pure (((sIx n 0 lo:Nat):Int),(1:Int),Builtin.Slice.slicePlaces ((sIx n 0 lo:Nat):Int) ((sIx n n hi:Nat):Int) 1)) _ _ s
 rw [places_gen]
 exact wpAny_pure h
theorem pick_gen (xs:Array Value) (i k:Nat):((List.range k).filterMap fun (m:Nat)=>xs[((i:Int)+(m:Int) * 1).toNat]?).toArray=((xs.toList.drop i).take k).toArray:=by
 have e:(fun (m:Nat)=>xs[((i:Int)+(m:Int) * 1).toNat]?)=fun m=>xs[i+m]? := by
  funext m
  have:((i:Int)+(m:Int) * 1).toNat=i+m:=by exact (Nat.add_assoc ..).symm
  rw [this]
 rw [e]
 have:=pick_run xs i k
 rw [List.filterMap_map] at this
 have e2:((fun x=>xs[x]?) ∘ fun x=>i+x)=fun m=>xs[i+m]? := rfl
 rw [e2] at this
 rw [this]
theorem getItem_tuple_cut {t sl:Addr} {items:Array Value} {vl vu:Value} {lo hi:Option Int} {Q:Value→Shared→Prop} (ht:IsTup s.heap t items) (hs:s.heap.IsSliceOf sl vl vu .none) (pl:IsPart vl lo) (pu:IsPart vu hi)
  (hw:¬ (sIx items.size 0 lo=0∧sIx items.size items.size hi=items.size))
  (h:Q (.ref s.heap.objs.size) { s with heap:=s.heap.push { cls:=.type "tuple",data:=.seq ((items.toList.drop (sIx items.size 0 lo)).take (sIx items.size items.size hi - sIx items.size 0 lo)).toArray } })
  (hsz:items.size≤sizeLine):wpAny (model prog w) A (getItem (.ref t) (.ref sl)) Q E s:=by
 have htake:sizeOk (.seq ((items.toList.drop (sIx items.size 0 lo)).take (sIx items.size items.size hi - sIx items.size 0 lo)).toArray):=by
  show ((items.toList.drop (sIx items.size 0 lo)).take (sIx items.size items.size hi - sIx items.size 0 lo)).toArray.size≤sizeLine
  rw [List.size_toArray,List.length_take,List.length_drop,Array.length_toList]
  walk_at "l"
 have hj:sIx items.size items.size hi≤items.size:=sIx_le _ _ (Nat.le_refl _) hi
 obtain ⟨os,hos,hcs,hds⟩:=id hs
 have hTs:s.TypeIs (.ref sl) "slice" := ⟨os,hos,hcs⟩
 unfold getItem
 try with_reducible refine wpAny_holding ?_
 first | refine wpAny_bind (wpAny_pure ?_) | skip
 refine wpAny_bind (wpAny_sequenceKey ht.typeIs (by decide) ?_)
 refine wpAny_bind (wpAny_callSpecial?_slot (name:=Str.ofString "__getitem__") ht.typeIs PyProof.Rows.slot_tuple_getitem
  (wpAny_call_entry PyProof.Rows.slot_tuple_getitem ht.typeIs entry_tuple_getitem ?_ (args_tuple_getitem _ _)))
 show wpAny _ _ (Builtin.Tuple.tupleItemsOf (.ref t) >>= _) _ _ s
 refine wpAny_bind (tupleItemsOf_ ht ?_)
 refine wpAny_bind (wpAny_typeOf hTs ?_)
 rw [if_pos (by decide)]
 refine wpAny_bind (sliceApplied_gen hs pl pu ?_)
 have hno:¬ ((((sIx items.size 0 lo:Nat):Int) == 0 && (1:Int) == 1 && (sIx items.size items.size hi - sIx items.size 0 lo) == items.size)=true):=by
  intro q
  rw [Bool.and_eq_true,Bool.and_eq_true] at q
  have q1:((sIx items.size 0 lo:Nat):Int)=0:=eq_of_beq q.1.1
  have q2:sIx items.size items.size hi - sIx items.size 0 lo=items.size:=eq_of_beq q.2
  exact hw ⟨by walk_at "l",by walk_at "l"⟩
 show wpAny _ _ (if (((sIx items.size 0 lo:Nat):Int) == 0 && (1:Int) == 1 && (sIx items.size items.size hi - sIx items.size 0 lo) == items.size)=true then _ else _) _ _ s
 rw [if_neg hno,pick_gen]
 first
  | exact wpAny_bind (m:=Builtin.Tuple.tupleExact _) (wpAny_newObj_type (wpAny_pure ⟨_,rfl,wpAny_pure h⟩) htake)
  | exact wpAny_bind (m:=Builtin.Tuple.tupleExact _) (wpAny_newObj_type (wpAny_bind (wpAny_pure (wpAny_pure ⟨_,rfl,wpAny_pure h⟩))) htake)
  | exact wpAny_bind (wpAny_bind (m:=Builtin.Tuple.tupleExact _) (wpAny_newObj_type (wpAny_pure (wpAny_pure ⟨_,rfl,wpAny_pure h⟩)) htake))
  | exact wpAny_bind (wpAny_bind (m:=Builtin.Tuple.tupleExact _) (wpAny_newObj_type (wpAny_pure ⟨_,rfl,wpAny_pure h⟩) htake))
end
end HT
namespace L2
open PySem PySem.Spec PyProof.Rows
noncomputable abbrev TO:=St→Hp→(Option Int→Hp→Prop)→Prop
noncomputable def PO (X:Cx) (e:Option Expr) (t:TO):Prop :=
 ∀ (pins:List (Addr × Obj)) (s:Shared) (σ:St) (H:Hp) (Q:Option Int→Hp→Prop),Inv X pins σ H s→t σ H Q →
  wpAny (model X.prog X.w) X.A (evalPart e X.env) (fun u s'=>∃ o H',Inv X pins σ H' s'∧IsPart u o∧Q o H') X.xe s
noncomputable def tNoPart:TO:=fun _ H Q=>Q none H
noncomputable def tPart (t:TE):TO:=fun σ H Q=>t σ H fun x H1=>∃ i,x=.int i∧Q (some i) H1
section
variable {X:Cx} {e:Expr} {te:TE} {lo hi:Option Expr} {tl th:TO} {pos p2:Pos}
theorem po_none:PO X none tNoPart:=by
 intro pins s σ H Q I h
 rw [evalPart_none]
 exact wpAny_pure ⟨none,H,I,.none,h⟩
theorem po_some (h:PE X e te):PO X (some e) (tPart te):=by
 intro pins s σ H Q I hw
 rw [evalPart_some]
 refine thn (h pins s σ H _ I hw) fun u s1 hx5=>L2.ex2 hx5 fun x H1 I1 r1 q1=>?_
 obtain ⟨i,rfl,q⟩:=q1
 obtain ⟨t,rfl⟩:=r1
 exact ⟨some i,H1,I1,.int i t,q⟩
noncomputable def SlR (X:Cx) (r:V→Option Int→Option Int→Hp→VK→Prop):Prop :=
 ∀ (pins:List (Addr × Obj)) (s:Shared) (σ:St) (H:Hp) (x:V) (v vl vu:Value) (lo hi:Option Int) (sl:Addr) (Q:VK),Inv X pins σ H s→RelV x v→s.heap.IsSliceOf sl vl vu .none→IsPart vl lo→IsPart vu hi→r x lo hi H Q →
  ∃ T id,typeLookup (.type T) "__getitem__" = pure (some (.builtin id))∧s.TypeIs v T∧wpAny (model X.prog X.w) X.A (getItem v (.ref sl)) (EP X pins σ Q) X.xe s
noncomputable def tSl (r:V→Option Int→Option Int→Hp→VK→Prop) (te:TE) (tl th:TO):TE:=fun σ H Q=>te σ H fun x H1=>tl σ H1 fun l H2=>th σ H2 fun u H3=>r x l u H3 Q
theorem pe_slice {r:V→Option Int→Option Int→Hp→VK→Prop} (hr:SlR X r) (he:PE X e te) (hl:PO X lo tl) (hu:PO X hi th):PE X (.Subscript e (.Slice lo hi none p2) pos) (tSl r te tl th):=by
 intro pins s σ H Q I h
 refine Subscript_ (thn (he pins s σ H _ I h) fun v s1 hx5=>L2.ex2 hx5 fun x H1 I1 r1 q1=>?_)
 refine wpAny_Slice (thn (hl pins s1 σ H1 _ I1 q1) fun vl s2 hx5=>L2.ex2 hx5 fun l H2 I2 pl q2=>thn (hu pins s2 σ H2 _ I2 q2) fun vu s3 hx5=>L2.ex2 hx5 fun u H3 I3 pu q3=>?_)
 rw [evalPart_none]
 refine wpAny_pure ?_
 have I4:Inv X pins σ H3 { s3 with heap:=s3.heap.push { cls:=.type "slice",data:=.fields #[vl,vu,.none] } }:=I3.kept (t':=s3.toks) fun b ob q=>Heap.get?_push_of_some _ q
 obtain ⟨T,id,hT,ht,hg⟩:=hr pins { s3 with heap:=s3.heap.push { cls:=.type "slice",data:=.fields #[vl,vu,.none] } } σ H3 x v vl vu l u s3.heap.objs.size Q I4 r1 (Heap.IsSliceOf.new ..) pl pu q3
 show wpAny (model X.prog X.w) X.A (subscriptTail e (.Slice lo hi none p2) v (.ref s3.heap.objs.size)) (EP X pins σ Q) X.xe { s3 with heap:=s3.heap.push { cls:=.type "slice",data:=.fields #[vl,vu,.none] } }
 exact tail_any (ops:=[.ref s3.heap.objs.size,v]) ht hT hg (by with_unfolding_all rfl)
noncomputable def cutV (xs:List V) (lo hi:Option Int):List V:=(xs.drop (HT.sIx xs.length 0 lo)).take (HT.sIx xs.length xs.length hi - HT.sIx xs.length 0 lo)
theorem cutV_length (xs:List V) (lo hi:Option Int):(cutV xs lo hi).length≤xs.length:=by
 unfold cutV
 rw [List.length_take,List.length_drop]
 walk_at "l"
noncomputable def rSlT (K:PySem.W.Frag):V→Option Int→Option Int→Hp→VK→Prop:=fun x lo hi H Q=>∃ a xs,x=.ref a∧SqT K H a xs ∧
 ¬ (HT.sIx xs.length 0 lo=0∧HT.sIx xs.length xs.length hi=xs.length)∧∀ p,H p=none→Q (.ref p) (upd H p (.tup (cutV xs lo hi)))
theorem sl_tup:SlR X (rSlT X.K):=by
 intro pins s σ H x v vl vu lo hi sl Q I rx hs pl pu h
 obtain ⟨a,xs,rfl,hx,hw,q⟩:=h
 cases rx
 obtain ⟨its,r,ht,hz⟩:=I.tuple hx
 have hlen:its.toArray.size=xs.length:=by rw [List.size_toArray]; exact r.length.symm
 refine ⟨"tuple",_,PyProof.Rows.slot_tuple_getitem.lookup,ht.typeIs,?_⟩
 refine HT.getItem_tuple_cut ht hs pl pu (by rw [hlen]; exact hw) ?_ (by rw [hlen]; exact hz)
 rw [hlen]
 refine ⟨.ref s.heap.objs.size,_,I.laid (t':=s.toks) (o:=.tup (cutV xs lo hi)) (fun b ob q=>Heap.get?_push_of_some _ q) (Nat.le_refl _) ?_,rfl,q _ (I.hok.fresh (Nat.le_refl _))⟩
 exact ⟨Nat.le_trans (cutV_length xs lo hi) hz,_,(r.drop (HT.sIx xs.length 0 lo)).take (HT.sIx xs.length xs.length hi - HT.sIx xs.length 0 lo),IsTup.new _ _⟩
noncomputable def rCatT (K:PySem.W.Frag):R2:=fun x y H Q=>∃ a b xs ys,x=.ref a∧y=.ref b∧SqT K H a xs∧SqT K H b ys∧xs≠[]∧xs.length+ys.length≤sizeLine ∧
 (ys=[]→Q (.ref a) H)∧(ys≠[]→∀ p,H p=none→Q (.ref p) (upd H p (.tup (xs++ys))))
theorem Vals.nil_iff {xs:List V} {us:List Value} (r:Vals xs us):us=[]↔xs=[]:=by
 cases r with
 | nil=>simp
 | cons _ _=>simp
theorem op_catT:OpR X (binaryOp .Add) (rCatT X.K):=by
 intro pins s σ H x y v u Q I rx ry h
 obtain ⟨a,b,xs,ys,rfl,rfl,ha,hb,hx,hz,q1,q2⟩:=h
 cases rx
 cases ry
 obtain ⟨its,r1,p1,_⟩:=I.tuple ha
 obtain ⟨its2,r2,p2,_⟩:=I.tuple hb
 refine HT.cat_tup p1 p2 (fun z=>hx (r1.nil_iff.mp z)) (fun z=>⟨.ref a,H,I,rfl,q1 (r2.nil_iff.mp z)⟩) (fun z=>?_) (by rw [← r1.length,← r2.length]; exact hz)
 refine ⟨.ref s.heap.objs.size,_,I.laid (t':=s.toks) (o:=.tup (xs++ys)) (fun b ob q=>Heap.get?_push_of_some _ q) (Nat.le_refl _) ?_,rfl,q2 (fun w=>z (r2.nil_iff.mpr w)) _ (I.hok.fresh (Nat.le_refl _))⟩
 exact ⟨by rw [List.length_append]; exact hz,_,r1.append r2,IsTup.new _ _⟩
end
end L2
namespace L2
open PySem PySem.Spec PyProof.Rows
noncomputable def ixN (n:Nat) (i:Int):Option Nat:=if 0≤i then (if i<n then some i.toNat else none) else if -(n:Int)≤i then some (i+n).toNat else none
noncomputable def atI {α:Type} (xs:List α) (i:Int):Option α:=(ixN xs.length i).bind fun j=>xs[j]?
theorem ixN_seq {n:Nat} {i:Int} {j:Nat} (h:ixN n i=some j):seqIndex? i n=some j∧j<n∧-(n:Int)≤i∧i<n:=by
 unfold ixN at h
 by_cases h0:0≤i
 ·rw [if_pos h0] at h
  by_cases h1:i<n
  ·rw [if_pos h1] at h
   have e:i.toNat=j:=Option.some.inj h
   exact ⟨by rw [seqIndex_of h0 h1,e],by walk_at "l",by walk_at "l",h1⟩
  ·rw [if_neg h1] at h; cases h
 ·rw [if_neg h0] at h
  by_cases h1:-(n:Int)≤i
  ·rw [if_pos h1] at h
   have e:(i+n).toNat=j:=Option.some.inj h
   exact ⟨by rw [seqIndex_neg (by exact Int.not_le.mp ‹_›) h1,e],by walk_at "l",h1,by walk_at "l"⟩
  ·rw [if_neg h1] at h; cases h
theorem atI_get {α:Type} {xs:List α} {i:Int} {v:α} (h:atI xs i=some v):∃ j,seqIndex? i xs.length=some j∧xs[j]? = some v∧j<xs.length∧-(xs.length:Int)≤i∧i<xs.length:=by
 unfold atI at h
 cases e:ixN xs.length i with
 | none=>rw [e] at h; cases h
 | some j =>
  rw [e] at h
  obtain ⟨h1,h2,h3,h4⟩:=ixN_seq e
  exact ⟨j,h1,h,h2,h3,h4⟩
theorem atI_nat {α:Type} {xs:List α} {j:Nat} {v:α} (h:xs[j]? = some v):atI xs (j:Int)=some v:=by
 have hj:j<xs.length:=(List.getElem?_eq_some_iff.mp h).1
 have e:ixN xs.length (j:Int)=some j:=by
  unfold ixN
  rw [if_pos (by walk_at "s1"),if_pos (by walk_at "l")]; simp
 unfold atI; rw [e]; exact h
noncomputable def PlainIx (b:Expr):Prop:=∀ o i,subscripted b false o i=operate [o,i] (getItem o i)
noncomputable def IxR (X:Cx) (r:R2):Prop :=
 ∀ (value slice:Expr) (pins:List (Addr × Obj)) (s:Shared) (σ:St) (H:Hp) (x y:V) (v u:Value) (Q:VK),Inv X pins σ H s→RelV x v→RelV y u→r x y H Q →
  subscripted slice false v u=operate [v,u] (getItem v u)→wpAny (model X.prog X.w) X.A (subscriptTail value slice v u) (EP X pins σ Q) X.xe s
noncomputable def MtR (X:Cx) (id:String) (r:V→List V→Hp→VK→Prop):Prop :=
 ∀ (pins:List (Addr × Obj)) (s:Shared) (σ:St) (H:Hp) (x:V) (xs:List V) (v:Value) (us:List Value) (Q:VK),Inv X pins σ H s→RelV x v→Vals xs us→r x xs H Q →
  wpAny (model X.prog X.w) X.A (call (.builtin id) (v :: us)) (EP X pins σ Q) X.xe s
section
variable {X:Cx} {a b:Expr} {ta tb:TE} {pos:Pos}
theorem IxR.or {r r':R2} (h:IxR X r) (h':IxR X r'):IxR X (fun x y H Q=>r x y H Q∨r' x y H Q):=by
 intro value slice pins s σ H x y v u Q I rx ry q hs
 rcases q with q | q
 ·exact h value slice pins s σ H x y v u Q I rx ry q hs
 ·exact h' value slice pins s σ H x y v u Q I rx ry q hs
theorem pe_ix {r:R2} (hr:IxR X r) (ha:PE X a ta) (hb:PE X b tb) (hs:PlainIx b):PE X (.Subscript a b pos) (tOp r ta tb):=by
 intro pins s σ H Q I h
 exact Subscript_ (binT ha hb I h fun v u s2 x y H2 I2 rx ry q=>hr a b pins s2 σ H2 x y v u Q I2 rx ry q (hs _ _))
noncomputable def rIxL (K:PySem.W.Frag):R2:=fun x y H Q=>∃ p xs i v,x=.ref p∧y=.int i∧SqL K H p xs∧atI xs i=some v∧Q v H
noncomputable def rIxT (K:PySem.W.Frag):R2:=fun x y H Q=>∃ p xs i v,x=.ref p∧y=.int i∧SqT K H p xs∧atI xs i=some v∧Q v H
noncomputable def rIxS:R2:=fun x y H Q=>∃ z i c,x=.str z∧y=.int i∧z.length≤sizeLine∧atI z.cps.toList i=some c∧Q (.str ⟨#[c]⟩) H
theorem ix_list:IxR X (rIxL X.K):=by
 intro value slice pins s σ H x y v u Q I rx ry h hs
 obtain ⟨p,xs,i,z,rfl,rfl,hq,he,q⟩:=h
 cases rx
 obtain ⟨t,rfl⟩:=ry
 obtain ⟨its,r,pl,hz⟩:=I.list hq
 obtain ⟨j,h1,h2,h3,h4,h5⟩:=atI_get he
 obtain ⟨w,ew,rw'⟩:=r.get h2
 have hl:=r.length
 have hn:=line63
 have fin:EP X pins σ Q w s:=⟨z,H,I,rw',q⟩
 by_cases h0:0≤i
 ·have hj:i.toNat=j:=by
   rw [seqIndex_of h0 h5] at h1
   exact Option.some.inj h1
  exact item_listR pl.isList h0 (by walk_at "l") (by rw [hj]; simpa using ew) fin hs
 ·have hj:(i+(its.toArray.size:Int)).toNat=j:=by
   rw [seqIndex_neg (by exact Int.not_le.mp ‹_›) h4] at h1
   rw [List.size_toArray,← hl]
   exact Option.some.inj h1
  exact subscriptTail_builtinR (x:=w) pl.isList.typeIs slot_list_getitem.lookup
   (wpAny_getItem_list_neg (Q:=fun r s'=>r=w∧EP X pins σ Q r s') pl.isList (by exact Int.not_le.mp ‹_›) (by rw [List.size_toArray] <;> walk_at "l") (by walk_at "l") (by rw [hj]; simpa using ew) ⟨rfl,fin⟩) hs
theorem ix_tup:IxR X (rIxT X.K):=by
 intro value slice pins s σ H x y v u Q I rx ry h hs
 obtain ⟨p,xs,i,z,rfl,rfl,hq,he,q⟩:=h
 cases rx
 obtain ⟨t,rfl⟩:=ry
 obtain ⟨its,r,pl,hz⟩:=I.tuple hq
 obtain ⟨j,h1,h2,h3,h4,h5⟩:=atI_get he
 obtain ⟨w,ew,rw'⟩:=r.get h2
 have hl:=r.length
 have hn:=line63
 have fin:EP X pins σ Q w s:=⟨z,H,I,rw',q⟩
 exact subscriptTail_builtinR (x:=w) pl.typeIs slot_tuple_getitem.lookup
  (getItem_tuple (j:=j) (Q:=fun r s'=>r=w∧EP X pins σ Q r s') pl (by walk_at "l") (by walk_at "l") (by rw [List.size_toArray,← hl]; exact h1) (by simpa using ew) ⟨rfl,fin⟩) hs
theorem ix_str:IxR X rIxS:=by
 intro value slice pins s σ H x y v u Q I rx ry h hs
 obtain ⟨z,i,c,rfl,rfl,hz,he,q⟩:=h
 obtain ⟨t,rfl⟩:=rx
 obtain ⟨t',rfl⟩:=ry
 obtain ⟨j,h1,h2,h3,h4,h5⟩:=atI_get he
 have hl:z.cps.toList.length=z.length:=by simp [Str.length]
 rw [hl] at h1 h4 h5
 have hn:=line63
 exact tail_any (typeIs_str s z t) slot_str_getitem.lookup (getItem_str (c:=c) (by
  have e1:decide (i < -(2 ^ 63:Int))=false:=decide_eq_false (by walk_at "l")
  have e2:decide (i ≥ 2 ^ 63)=false:=decide_eq_false (by walk_at "l")
  rw [e1,e2,Bool.or_false]) (by rw [h1]; simpa using h2) ⟨.str ⟨#[c]⟩,H,I.tok _,⟨_,rfl⟩,q⟩) hs
noncomputable def rIx (K:PySem.W.Frag):R2:=fun x y H Q=>rIxL K x y H Q∨rIxT K x y H Q∨rIxS x y H Q
theorem ix_seq:IxR X (rIx X.K):=ix_list.or (ix_tup.or ix_str)
theorem slice_bounds (lo hi:Option Int) (n:Nat):(sliceBounds lo hi none n).1=((HT.sIx n 0 lo:Nat):Int)∧(sliceBounds lo hi none n).2.1=((HT.sIx n n hi:Nat):Int)∧(sliceBounds lo hi none n).2.2=1:=by
 refine ⟨?_,?_,rfl⟩
 ·cases lo with
  | none=>simp [sliceBounds,HT.sIx]
  | some i =>
   simp only [sliceBounds,HT.sIx,Option.getD_none,show (1:Int)>0 by decide,if_true]
   by_cases h:i<0
   ·simp only [h,if_true] <;> walk_at "l"
   ·simp only [h,if_false] <;> walk_at "l"
 ·cases hi with
  | none=>simp [sliceBounds,HT.sIx]
  | some i =>
   simp only [sliceBounds,HT.sIx,Option.getD_none,show (1:Int)>0 by decide,if_true]
   by_cases h:i<0
   ·simp only [h,if_true] <;> walk_at "l"
   ·simp only [h,if_false] <;> walk_at "l"
theorem slicePick_cut (its:List Value) (lo hi:Option Int):slicePick its.toArray lo hi none=((its.drop (HT.sIx its.length 0 lo)).take (HT.sIx its.length its.length hi - HT.sIx its.length 0 lo)).toArray:=by
 obtain ⟨h1,h2,h3⟩:=slice_bounds lo hi its.toArray.size
 unfold slicePick
 rw [h1,h2,h3]
 simp only [sliceRange_one,pick_run,List.size_toArray] <;> rfl
noncomputable def rSlL (K:PySem.W.Frag):V→Option Int→Option Int→Hp→VK→Prop:=fun x lo hi H Q=>∃ a xs,x=.ref a∧SqL K H a xs∧∀ p,H p=none→Q (.ref p) (upd H p (.lst (cutV xs lo hi)))
theorem sl_list:SlR X (rSlL X.K):=by
 intro pins s σ H x v vl vu lo hi sl Q I rx hs pl pu h
 obtain ⟨a,xs,rfl,hx,q⟩:=h
 cases rx
 obtain ⟨its,r,ht,hz⟩:=I.list hx
 have hlen:=r.length
 refine ⟨"list",_,slot_list_getitem.lookup,ht.isList.typeIs,?_⟩
 refine wpAny_getItem_list_slice ht.isList hs pl pu .none (by simp) ?_ (by rw [List.size_toArray] <;> walk_at "l")
 rw [slicePick_cut,← hlen]
 refine ⟨.ref s.heap.objs.size,_,I.laid (t':=s.toks) (o:=.lst (cutV xs lo hi)) (fun b ob q=>Heap.get?_push_of_some _ q) (Nat.le_refl _) ?_,rfl,q _ (I.hok.fresh (Nat.le_refl _))⟩
 exact ⟨Nat.le_trans (cutV_length xs lo hi) hz,_,0,(r.drop (HT.sIx xs.length 0 lo)).take (HT.sIx xs.length xs.length hi - HT.sIx xs.length 0 lo),Heap.get?_push_size _ rfl⟩
noncomputable def flatV:V→Bool
 | .non=>true
 | .bl _=>true
 | .int _=>true
 | .str _=>true
 | _=>false
noncomputable def eqV:V→V→Bool
 | .non,.non=>true
 | .bl a,.bl b=>a == b
 | .bl a,.int b=>(if a then 1 else 0) == b
 | .int a,.bl b=>a == (if b then 1 else 0)
 | .int a,.int b=>a == b
 | .str a,.str b=>a == b
 | _,_=>false
theorem eqAt_V {A:Around} {s:Shared} {y x:V} {u v:Value} (ry:RelV y u) (rx:RelV x v) (fy:flatV y=true) (fx:flatV x=true):SeqAt.EqAt A s u v (eqV y x):=by
 cases y with
 | non =>
  cases ry
  cases x with
  | non=>cases rx; exact SeqAt.EqAt.same _
  | bl b=>cases rx; exact SeqAt.EqAt.none_bool b
  | int b=>obtain ⟨t,rfl⟩:=rx; exact SeqAt.EqAt.none_int b t
  | str b=>obtain ⟨t,rfl⟩:=rx; exact SeqAt.EqAt.none_str b t
  | _=>exact absurd (show false=true from fx) Bool.false_ne_true
 | bl a =>
  cases ry
  cases x with
  | non=>cases rx; exact SeqAt.EqAt.bool_none a
  | bl b=>cases rx; exact SeqAt.EqAt.bool_bool a b
  | int b=>obtain ⟨t,rfl⟩:=rx; exact SeqAt.EqAt.bool_int a b t
  | str b=>obtain ⟨t,rfl⟩:=rx; exact SeqAt.EqAt.bool_str a b t
  | _=>exact absurd (show false=true from fx) Bool.false_ne_true
 | int a =>
  obtain ⟨t',rfl⟩:=ry
  cases x with
  | non=>cases rx; exact SeqAt.EqAt.int_none a t'
  | bl b=>cases rx; exact SeqAt.EqAt.int_bool a t' b
  | int b=>obtain ⟨t,rfl⟩:=rx; exact SeqAt.EqAt.int_int a t' b t
  | str b=>obtain ⟨t,rfl⟩:=rx; exact SeqAt.EqAt.int_str a t' b t
  | _=>exact absurd (show false=true from fx) Bool.false_ne_true
 | str a =>
  obtain ⟨t',rfl⟩:=ry
  cases x with
  | non=>cases rx; exact SeqAt.EqAt.str_none a t'
  | bl b=>cases rx; exact SeqAt.EqAt.str_bool a t' b
  | int b=>obtain ⟨t,rfl⟩:=rx; exact SeqAt.EqAt.str_int a t' b t
  | str b=>obtain ⟨t,rfl⟩:=rx; exact SeqAt.EqAt.str_str a t' b t
  | _=>exact absurd (show false=true from fx) Bool.false_ne_true
 | _=>exact absurd (show false=true from fy) Bool.false_ne_true
noncomputable def eqU (x:V) (u:Value):Bool:=match u with
 | .none=>eqV .non x
 | .bool b=>eqV (.bl b) x
 | .int i _=>eqV (.int i) x
 | .str z _=>eqV (.str z) x
 | _=>false
theorem eqU_of {x y:V} {u:Value} (r:RelV y u) (f:flatV y=true):eqU x u=eqV y x:=by
 cases y with
 | non=>cases r; rfl
 | bl b=>cases r; rfl
 | int i=>obtain ⟨t,rfl⟩:=r; rfl
 | str z=>obtain ⟨t,rfl⟩:=r; rfl
 | _=>exact absurd (show false=true from f) Bool.false_ne_true
theorem any_eqU {x:V}:∀ {xs:List V} {us:List Value},Vals xs us→xs.all flatV=true→us.any (eqU x)=xs.any fun y=>eqV y x
 | _,_,.nil,_=>rfl
 | y :: xs,u :: us,.cons r t,f=>by
  rw [List.all_cons,Bool.and_eq_true] at f
  rw [List.any_cons,List.any_cons,eqU_of r f.1,any_eqU t f.2]
theorem mem_eqAt {A:Around} {s:Shared} {x:V} {v:Value} (rx:RelV x v) (fx:flatV x=true):∀ {xs:List V} {us:List Value},Vals xs us→xs.all flatV=true→∀ u∈us,SeqAt.EqAt A s u v (eqU x u)
 | _,_,.nil,_=>fun u hu=>by cases hu
 | y :: xs,u :: us,.cons r t,f=>fun u' hu=>by
  rw [List.all_cons,Bool.and_eq_true] at f
  rcases List.mem_cons.mp hu with rfl | hu
  ·rw [eqU_of r f.1]; exact eqAt_V r rx f.1 fx
  ·exact mem_eqAt rx fx t f.2 u' hu
noncomputable def inV (x:V) (xs:List V):Bool:=xs.any fun y=>eqV y x
noncomputable def rIn (K:PySem.W.Frag) (neg:Bool):R2:=fun x y H Q=>∃ p xs,y=.ref p∧(SqL K H p xs∨SqT K H p xs)∧flatV x=true∧xs.all flatV=true∧Q (.bl (if neg then !inV x xs else inV x xs)) H
theorem op_in_seq:OpR X (compareOp .In) (rIn X.K false):=by
 intro pins s σ H x y v u Q I rx ry h
 obtain ⟨p,xs,rfl,hq,fx,fs,q⟩:=h
 cases ry
 rcases hq with hq | hq
 ·obtain ⟨its,r,pl,hz⟩:=I.list hq
  refine SeqAt.in_listAt (eqU x) pl.isList (fun w hw=>mem_eqAt rx fx r fs w (by simpa using hw)) ⟨.bl _,H,I,rfl,?_⟩
  rw [show its.toArray.any (eqU x)=its.any (eqU x) by simp,any_eqU r fs]
  exact q
 ·obtain ⟨its,r,pl,hz⟩:=I.tuple hq
  refine SeqAt.in_tupleAt (eqU x) pl (fun w hw=>mem_eqAt rx fx r fs w (by simpa using hw)) ⟨.bl _,H,I,rfl,?_⟩
  rw [show its.toArray.any (eqU x)=its.any (eqU x) by simp,any_eqU r fs]
  exact q
theorem CallR.or {f:Value} {r r':List V→Hp→VK→Prop} (h:CallR X f r) (h':CallR X f r'):CallR X f (fun xs H Q=>r xs H Q∨r' xs H Q):=by
 intro pins s σ H xs us Q I rs q
 rcases q with q | q
 ·exact h pins s σ H xs us Q I rs q
 ·exact h' pins s σ H xs us Q I rs q
theorem call_list_of:CallR X (.type "list") (fun xs H Q=>∃ p ys,xs=[.ref p]∧(SqL X.K H p ys∨SqT X.K H p ys)∧∀ l,H l=none→Q (.ref l) (upd H l (.lst ys))):=by
 intro pins s σ H xs us Q I r h
 obtain ⟨p,ys,rfl,hq,q⟩:=h
 obtain ⟨u,rfl,rx⟩:=vals1 r
 cases rx
 have fin:∀ (its:List Value),Vals ys its→ys.length≤sizeLine→∀ (h':Heap) (c':Nat),(∀ b o',s.heap.get? b=some o'→h'.get? b=some o') →
   h'.get? s.heap.objs.size=some { cls:=.type "list",dict:=none,data:=.seq its.toArray c',slots:=#[] }→EP X pins σ Q (.ref s.heap.objs.size) { s with heap:=h' }:=fun its r' hz h' c' kp e =>
  ⟨.ref s.heap.objs.size,_,I.laid (t':=s.toks) kp (Nat.le_refl _) (show ObjOk X.prog X.w _ h' _ (.lst ys) from ⟨hz,its,c',r',e⟩),rfl,q _ (I.hok.fresh (Nat.le_refl _))⟩
 rcases hq with hq | hq
 ·obtain ⟨its,r',pl,hz⟩:=I.list hq
  have hlen:=r'.length
  obtain ⟨o,ho,hc,n,hd⟩:=pl.isList
  exact call_list_seq p (.inl rfl) ho hc hd (fun h' c' kp e=>fin its r' hz h' c' kp e) (by simp only [List.size_toArray] <;> walk_at "l")
 ·obtain ⟨its,r',pl,hz⟩:=I.tuple hq
  have hlen:=r'.length
  obtain ⟨o,ho,hc,n,hd⟩:=pl
  exact call_list_seq p (.inr rfl) ho hc hd (fun h' c' kp e=>fin its r' hz h' c' kp e) (by simp only [List.size_toArray] <;> walk_at "l")
noncomputable def tyV (K:PySem.W.Frag) (T:String) (x:V) (H:Hp):Prop:=match x with
 | .str _=>T = "str"
 | .int _=>T = "int"
 | .ref p=>(T = "list"∧∃ xs,SqL K H p xs)∨(T = "tuple"∧∃ o,K.lookup p=some o∧o.cls=.type "tuple"∧o.dict=none) ∨
   (T = "dict"∧((∃ kvs,H p=some (.dK kvs))∨∃ kvs,H p=some (.dT kvs)))∨(T = "set"∧∃ S n,H p=some (.set S n))
 | _=>False
theorem tyV_is {pins:List (Addr × Obj)} {σ:St} {H:Hp} {s:Shared} {T:String} {x:V} {v:Value} (I:Inv X pins σ H s) (r:RelV x v) (ty:tyV X.K T x H) :
  s.TypeIs v T∧∀ a,v=.ref a→∃ ob,s.heap.get? a=some ob∧ob.dict=none:=by
 cases x with
 | str z =>
  obtain ⟨t,rfl⟩:=r
  cases (show T = "str" from ty)
  exact ⟨typeIs_str s z t,fun _ e=>nomatch e⟩
 | int i =>
  obtain ⟨t,rfl⟩:=r
  cases (show T = "int" from ty)
  exact ⟨typeIs_int s i t,fun _ e=>nomatch e⟩
 | ref p =>
  cases r
  rcases ty with ⟨rfl,xs,hq⟩ | ⟨rfl,o,hk,hc,hd⟩ | ⟨rfl,hk⟩ | ⟨rfl,S,n,hk⟩
  ·obtain ⟨its,_,pl,_⟩:=I.list hq
   refine ⟨pl.isList.typeIs,fun a e=>?_⟩
   cases e
   obtain ⟨o,n,e,c,hd,_⟩:=pl
   exact ⟨o,e,hd⟩
  ·refine ⟨⟨o,I.kIn p o hk,hc⟩,fun a e=>?_⟩
   cases e
   exact ⟨o,I.kIn _ o hk,hd⟩
  ·have z:∃ o,s.heap.get? p=some o∧o.ExactDict:=by
    rcases hk with ⟨kvs,hk⟩ | ⟨kvs,hk⟩
    ·obtain ⟨_,_,_,_,o,_,_,e,ex,_⟩:=I.hok p _ hk
     exact ⟨o,e,ex⟩
    ·obtain ⟨_,_,_,_,o,_,_,e,ex,_⟩:=I.hok p _ hk
     exact ⟨o,e,ex⟩
   obtain ⟨o,e,ex⟩:=z
   refine ⟨⟨o,e,ex.1⟩,fun a e2=>?_⟩
   cases e2
   exact ⟨o,e,ex.2.1⟩
  ·obtain ⟨o,_,_,_,e,ex,_⟩:=I.hok p _ hk
   refine ⟨⟨o,e,ex.1⟩,fun a e2=>?_⟩
   cases e2
   exact ⟨o,e,ex.2.1⟩
 | _=>exact False.elim ty
noncomputable def tBM0 (K:PySem.W.Frag) (T:String) (r:V→List V→Hp→VK→Prop) (to:TE):TE:=fun σ H Q=>to σ H fun x H1=>tyV K T x H1∧r x [] H1 Q
noncomputable def tBM (K:PySem.W.Frag) (T:String) (r:V→List V→Hp→VK→Prop) (to:TE) (t:TA):TE:=fun σ H Q=>to σ H fun x H1=>tyV K T x H1∧t σ H1 fun xs H2=>r x xs H2 Q
variable {o e:Expr} {es:List Expr} {to:TE} {t:TA} {name:Str} {apos cpos:Pos} {T id:String} {r:V→List V→Hp→VK→Prop}
theorem pe_bm0 (pa:PlainAttrs T) (slot:Slot T name id) (hty:typeOf (.builtin id)=pure (.type "method_descriptor")) (hm:MtR X id r) (ho:PE X o to)
  (hbase:attributeBase o name X.env (eval o X.env)=eval o X.env:=by rfl) (hline:(apos.endLine == cpos.line)=true:=by rfl):PE X (.Call (.Attribute o name apos) [] [] cpos) (tBM0 X.K T r to):=by
 intro pins s σ H Q I h
 refine wpAny_Call_method0_late hbase hline (thn (ho pins s σ H _ I h) fun v s1 hx9=>?_)
 obtain ⟨x,H1,I1,r1,ty,q1⟩:=hx9
 obtain ⟨h1,h2⟩:=tyV_is I1 r1 ty
 exact ⟨T,id,pa,slot,hty,h1,h2,Calls.callWith_builtin rfl (PySem.evalArgs_none (hm pins s1 σ H1 x [] v [] Q I1 r1 .nil q1))⟩
theorem pe_bm (pa:PlainAttrs T) (slot:Slot T name id) (hty:typeOf (.builtin id)=pure (.type "method_descriptor")) (hm:MtR X id r) (ho:PE X o to) (ha:PA X (e :: es) t)
  (hbase:attributeBase o name X.env (eval o X.env)=eval o X.env:=by rfl)
  (hfew:((backTo cpos (starEach (e :: es) X.env)).all (fun x=>!x.1) && (backToKw cpos (keywordEach [] X.env)).all (fun x=>x.1.isSome)
   && decide ((e :: es).length+([]:List Keyword).length+(if ([]:List Keyword).isEmpty then 0 else 1)<30))=true:=by rfl)
  (hline:(apos.endLine == cpos.line)=true:=by rfl) (hs:starEach (e :: es) X.env=(false,eval e X.env) :: starEach es X.env:=by rfl) (hplain:(backTo cpos (starEach es X.env)).any (·.1)=false:=by rfl) :
  PE X (.Call (.Attribute o name apos) (e :: es) [] cpos) (tBM X.K T r to t):=by
 intro pins s σ H Q I h
 refine wpAny_Call_method_late hbase hfew hline rfl (thn (ho pins s σ H _ I h) fun v s1 hx9=>?_)
 obtain ⟨x,H1,I1,r1,ty,q1⟩:=hx9
 obtain ⟨h1,h2⟩:=tyV_is I1 r1 ty
 refine ⟨T,id,pa,slot,hty,h1,h2,?_⟩
 have hA:=ha cpos pins s1 σ H1 _ I1 q1
 rw [hs] at hA ⊢
 refine Calls.callWith_builtin (by show (false || (backTo cpos (starEach es X.env)).any (·.1))=false; rw [hplain] <;> rfl) (Calls.evalArgs_plain ?_)
 exact thn hA fun us s2 hx5=>L2.ex2 hx5 fun vs H2 I2 r2 q2=>hm pins s2 σ H2 x vs v us Q I2 r1 r2 q2
end
end L2
namespace L2
open PySem PySem.Spec PyProof.Rows
noncomputable def MtM (X:Cx) (id:String) (r:V→List V→Hp→VK→Prop):Prop :=
 ∀ (pins:List (Addr × Obj)) (s:Shared) (σ:St) (H:Hp) (x:V) (xs:List V) (v:Value) (us:List Value) (Q:VK),Inv X pins σ H s→RelV x v→Vals xs us→r x xs H Q →
  wpAny (model X.prog X.w) X.A (call (.builtin id) (v :: us)) (EP X pins σ Q) X.xe s
theorem Vals.one {x:V} {us:List Value} (h:Vals [x] us):∃ u,us=[u]∧RelV x u:=by
 cases h
 rename_i r h
 cases h
 exact ⟨_,rfl,‹_›⟩
theorem Vals.two {x y:V} {us:List Value} (h:Vals [x,y] us):∃ u v,us=[u,v]∧RelV x u∧RelV y v:=by
 cases h
 rename_i r h
 cases h
 rename_i q h
 cases h
 exact ⟨_,_,rfl,‹_›,‹_›⟩
theorem Vals.zero:∀ {us:List Value},Vals [] us→us=[]
 | _,.nil=>rfl
theorem Vals.eraseIdx:∀ {xs:List V} {us:List Value} (i:Nat),Vals xs us→Vals (xs.eraseIdx i) (us.eraseIdx i)
 | _,_,_,.nil=>.nil
 | _,_,0,.cons _ t=>t
 | _,_,i+1,.cons r t=>.cons r (Vals.eraseIdx i t)
theorem Vals.reverse {xs:List V} {us:List Value} (h:Vals xs us):Vals xs.reverse us.reverse:=by
 induction h with
 | nil=>exact .nil
 | cons r t ih=>rw [List.reverse_cons,List.reverse_cons]; exact Vals.append ih (.cons r .nil)
theorem Vals.rep {xs:List V} {us:List Value} (h:Vals xs us):∀ k:Nat,Vals (List.replicate k xs).flatten (List.replicate k us).flatten
 | 0=>.nil
 | k+1=>by
  rw [List.replicate_succ,List.replicate_succ,List.flatten_cons,List.flatten_cons]
  exact Vals.append h (Vals.rep h k)
theorem len_erase {α:Type}:∀ (l:List α) (i:Nat),(l.eraseIdx i).length≤l.length
 | [],_=>Nat.le_refl _
 | _ :: _,0=>Nat.le_succ _
 | _ :: r,i+1=>Nat.succ_le_succ (len_erase r i)
section
variable {X:Cx} {pins:List (Addr × Obj)} {σ:St} {H:Hp} {s:Shared} {l b:Addr} {xs ys zs:List V}
theorem Inv.lset {its its':List Value} {n:Nat} {f:Array Value→Array Value} {t':Nat} (I:Inv X pins σ H s) (hH:H l=some (.lst xs))
  (e:s.heap.get? l=some { cls:=.type "list",data:=.seq its.toArray n }) (hf:f its.toArray=its'.toArray) (hv:Vals ys its') (hz:ys.length≤sizeLine) :
  Inv X pins σ (upd H l (.lst ys)) { s with heap:=s.heap.update l (Obj.mapSeq f),toks:=t' }:=by
 have q:=PySem.IsL.update e f
 rw [hf] at q
 refine I.write (x:=l) (e:=l) (by rw [hH]; exact trivial) (.inl rfl) (fun b' u hb hu=>(Heap.get?_update_other s.heap (Obj.mapSeq f) (Ne.symm hb)).trans hu) ⟨_,q⟩ ?_
 exact ⟨hz,its',_,hv,q⟩
theorem Inv.lnew {its:List Value} {t':Nat} (I:Inv X pins σ H s) (hv:Vals ys its) (hz:ys.length≤sizeLine) :
  Inv X pins σ (upd H s.heap.objs.size (.lst ys)) { s with heap:=s.heap.push { cls:=.type "list",data:=.seq its.toArray },toks:=t' } :=
 I.laid (fun _ _ q=>Heap.get?_push_of_some _ q) (Nat.le_refl _) ⟨hz,its,0,hv,Heap.get?_push_size _ rfl⟩
theorem Inv.fresh (I:Inv X pins σ H s):H s.heap.objs.size=none:=I.hok.fresh (Nat.le_refl _)
theorem Inv.lstM (I:Inv X pins σ H s) (hH:H l=some (.lst xs)):xs.length≤sizeLine∧∃ (its:List Value) (n:Nat),Vals xs its∧xs.length=its.length∧s.heap.get? l=some { cls:=.type "list",data:=.seq its.toArray n }:=by
 obtain ⟨z,its,n,r,e⟩:=I.hok l _ hH
 exact ⟨z,its,n,r,r.length,e⟩
end
section
variable {X:Cx}
noncomputable def rAppend:V→List V→Hp→VK→Prop:=fun x vs H Q=>∃ l xs y,x=.ref l∧vs=[y]∧H l=some (.lst xs)∧xs.length<sizeLine∧Q .non (upd H l (.lst (xs++[y])))
theorem mt_append:MtM X "list.append" rAppend:=by
 intro pins s σ H x vs v us Q I rx rv h
 obtain ⟨l,xs,y,rfl,rfl,hH,hz,q⟩:=h
 cases rx
 obtain ⟨u,rfl,ru⟩:=rv.one
 obtain ⟨z,its,n,r,hl,e⟩:=I.lstM hH
 refine call_meets F.slot_list_append ⟨_,e,rfl⟩ F.entry_list_append (F.args_list_append_2 _ _) (PySem.list_append l its.toArray n u (by rw [List.size_toArray]; walk_at "l")) ⟨e,?_⟩
 refine ⟨.non,_,I.lset (its':=its++[u]) hH e (by simp) (r.append (.cons ru .nil)) ?_,rfl,q⟩
 rw [List.length_append,List.length_singleton]
 assumption
noncomputable def rPopAt:V→List V→Hp→VK→Prop:=fun x vs H Q=>∃ l xs i k y,x=.ref l∧vs=[.int i]∧H l=some (.lst xs)∧-(2 ^ 63)≤i∧i<2 ^ 63∧seqIndex? i xs.length=some k∧xs[k]? = some y∧Q y (upd H l (.lst (xs.eraseIdx k)))
theorem mt_popAt:MtM X "list.pop" rPopAt:=by
 intro pins s σ H x vs v us Q I rx rv h
 obtain ⟨l,xs,i,k,y,rfl,rfl,hH,h1,h2,hk,hy,q⟩:=h
 cases rx
 obtain ⟨u,rfl,ru⟩:=rv.one
 obtain ⟨t,rfl⟩:=ru
 obtain ⟨z,its,n,r,hl,e⟩:=I.lstM hH
 obtain ⟨w,hw,rw'⟩:=r.get hy
 refine call_meets F.slot_list_pop ⟨_,e,rfl⟩ F.entry_list_pop (F.args_list_pop_2 _ _)
  (MeetsSeq.list_pop_at l its.toArray n i t k w (fitsIndex_both h1 h2) (by rw [List.size_toArray,← hl]; exact hk) (by rw [← Array.getElem?_toList]; exact hw) (by rw [List.size_toArray]; walk_at "l")) ⟨e,?_⟩
 refine ⟨y,_,I.lset (its':=its.eraseIdx k) hH e ?_ (r.eraseIdx k) ?_,rw',q⟩
 ·show its.toArray.eraseIdxIfInBounds k=(its.eraseIdx k).toArray
  rw [List.eraseIdxIfInBounds_toArray]
 ·have:=len_erase xs k
  walk_at "l"
noncomputable def rClear:V→List V→Hp→VK→Prop:=fun x vs H Q=>∃ l xs,x=.ref l∧vs=[]∧H l=some (.lst xs)∧Q .non (upd H l (.lst []))
theorem mt_clear:MtM X "list.clear" rClear:=by
 intro pins s σ H x vs v us Q I rx rv h
 obtain ⟨l,xs,rfl,rfl,hH,q⟩:=h
 cases rx
 have hus:=rv.zero
 subst hus
 obtain ⟨z,its,n,r,hl,e⟩:=I.lstM hH
 refine call_meets F.slot_list_clear ⟨_,e,rfl⟩ F.entry_list_clear (F.args_list_clear_1 _) (AutoSeq1.list_clear_list_0 l its.toArray n (by rw [List.size_toArray]; walk_at "l")) ⟨e,?_⟩
 exact ⟨.non,_,I.lset (its':=[]) (ys:=[]) hH e rfl .nil (Nat.zero_le _),rfl,q⟩
theorem len_rep {α:Type} (xs:List α) (k:Nat):(List.replicate k xs).flatten.length=k * xs.length:=by
 induction k with
 | zero=>simp
 | succ k ih=>rw [List.replicate_succ,List.flatten_cons,List.length_append,ih,Nat.succ_mul,Nat.add_comm]
end
section
variable {prog:Program} {w:World} {A:Around} {E:Value→Shared→Prop} {s:Shared}
set_option maxRecDepth 100000 in
end
section
variable {X:Cx}
end
end L2
namespace L2
open PySem PySem.Spec PyProof.Rows
section
variable {κ:Type} [DecidableEq κ]
noncomputable def valV (kvs:List (κ × V)) (k:κ):Option V:=(kvs.find? fun kv=>decide (kv.1=k)).map (·.2)
noncomputable def putK (kvs:List (κ × V)) (k:κ) (v:V):List (κ × V) :=
 if (kvs.any fun kv=>decide (kv.1=k))=true then kvs.map (fun kv=>if kv.1=k then (kv.1,v) else kv) else kvs++[(k,v)]
theorem valV_pos {p:κ × V} {r:List (κ × V)} {k:κ} (e:p.1=k):valV (p :: r) k=some p.2:=by simp [valV,List.find?_cons,e]
theorem valV_neg {p:κ × V} {r:List (κ × V)} {k:κ} (e:¬ p.1=k):valV (p :: r) k=valV r k:=by simp [valV,List.find?_cons,e]
theorem valV_any (k:κ):∀ kvs:List (κ × V),(kvs.any fun kv=>decide (kv.1=k))=(valV kvs k).isSome
 | []=>rfl
 | p :: r=>by
  rw [List.any_cons]
  by_cases e:p.1=k
  ·simp only [valV_pos e,decide_eq_true e,Bool.true_or,Option.isSome_some]
  ·rw [valV_neg e,decide_eq_false e,Bool.false_or]; exact valV_any k r
theorem length_putK (kvs:List (κ × V)) (k:κ) (v:V):(putK kvs k v).length≤kvs.length+1:=by
 unfold putK
 split
 ·rw [List.length_map]; exact Nat.le_add_right _ _
 ·rw [List.length_append,List.length_cons,List.length_nil]; exact Nat.le_refl _
theorem RelO.isSome_eq {o:Option V} {u:Option Value} (r:RelO o u):o.isSome=u.isSome:=by
 cases o with
 | none=>cases u with
  | none=>rfl
  | some _=>exact (show False from r).elim
 | some _=>cases u with
  | none=>exact (show False from r).elim
  | some _=>rfl
theorem RelO.getD {o:Option V} {u:Option Value} {d:V} {d':Value} (r:RelO o u) (rd:RelV d d'):RelV (o.getD d) (u.getD d'):=by
 cases o with
 | none=>cases u with
  | none=>exact rd
  | some _=>exact (show False from r).elim
 | some _=>cases u with
  | none=>exact (show False from r).elim
  | some _=>exact r
theorem KV.val {kvs:List (κ × V)} {vs:List (κ × Value)} (r:KV kvs vs) (k:κ):RelO (valV kvs k) (valueAt vs k):=by
 unfold KV at r
 induction r with
 | nil=>exact True.intro
 | @cons p q ps qs h t ih =>
  obtain ⟨h1,h2⟩:=h
  by_cases e:p.1=k
  ·have e':q.1=k:=h1.symm.trans e
   have b:valueAt (q :: qs) k=some q.2:=by simp [valueAt,List.find?_cons,e']
   rw [valV_pos e,b]; exact h2
  ·have e':¬ q.1=k:=fun z=>e (h1.trans z)
   have b:valueAt (q :: qs) k=valueAt qs k:=by simp [valueAt,List.find?_cons,e']
   rw [valV_neg e,b]; exact ih
theorem KV.any {kvs:List (κ × V)} {vs:List (κ × Value)} (r:KV kvs vs) (k:κ):(kvs.any fun kv=>decide (kv.1=k))=vs.any fun kv=>decide (kv.1=k):=by
 unfold KV at r
 induction r with
 | nil=>rfl
 | cons h t ih=>rw [List.any_cons,List.any_cons,ih,h.1]
theorem KV.repl {kvs:List (κ × V)} {vs:List (κ × Value)} (r:KV kvs vs) (k:κ) {y:V} {u:Value} (ry:RelV y u) :
  KV (kvs.map fun kv=>if kv.1=k then (kv.1,y) else kv) (vs.map fun kv=>if kv.1=k then (kv.1,u) else kv):=by
 unfold KV at r ⊢
 induction r with
 | nil=>exact .nil
 | @cons p q ps qs h t ih =>
  rw [List.map_cons,List.map_cons]
  refine .cons ?_ ih
  obtain ⟨h1,h2⟩:=h
  by_cases e:p.1=k
  ·rw [if_pos e,if_pos (h1.symm.trans e)]; exact ⟨h1,ry⟩
  ·rw [if_neg e,if_neg (fun z=>e (h1.trans z))]; exact ⟨h1,h2⟩
theorem KV.put {kvs:List (κ × V)} {vs:List (κ × Value)} (r:KV kvs vs) (k:κ) {y:V} {u:Value} (ry:RelV y u):KV (putK kvs k y) (stored vs k u):=by
 unfold putK stored
 rw [r.any k]
 by_cases e:(vs.any fun kv=>decide (kv.1=k))=true
 ·rw [if_pos e,if_pos e]; exact r.repl k ry
 ·rw [if_neg e,if_neg e]; exact Paired.snoc r ⟨rfl,ry⟩
theorem KV.length {kvs:List (κ × V)} {vs:List (κ × Value)} (r:KV kvs vs):kvs.length=vs.length:=Paired.length r
end
theorem kV_is {P:Program} {w:World} {k:Key} {u:Value} (r:RelV (kV k) u):(mixKind P w).is k u=true:=by
 cases k with
 | inl i=>obtain ⟨t,e⟩:=(show ∃ t,u=Value.int i t from r); subst e; exact mixKind_int P w i t
 | inr x=>obtain ⟨t,e⟩:=(show ∃ t,u=Value.str x t from r); subst e; exact mixKind_str P w x t
theorem items_are {P:Program} {w:World}:∀ {ks:List Key} {us:List Value},Vals (ks.map kV) us→ItemsAre (mixKind P w) ks us
 | [],_,r=>by rw [List.map_nil] at r; cases r; exact .nil
 | k :: ks,_,r=>by
  rw [List.map_cons] at r
  cases r with
  | cons h t=>exact .cons (kV_is h) (items_are t)
noncomputable abbrev KT (H:Hp):List (List Key × V)→List (List Key × Addr × Value)→Prop:=Paired fun p q=>p.1=q.1∧H q.2.1=some (.tup (p.1.map kV))∧RelV p.2 q.2.2
theorem KT.val {H:Hp} {kvs:List (List Key × V)} {xs:List (List Key × Addr × Value)} (r:KT H kvs xs) (k:List Key):RelO (valV kvs k) ((atKey xs k).map (·.2)):=by
 induction r with
 | nil=>exact True.intro
 | @cons p q ps qs h t ih =>
  obtain ⟨h1,_,h2⟩:=h
  by_cases e:p.1=k
  ·have e':q.1=k:=h1.symm.trans e
   have b:atKey (q :: qs) k=some q.2:=by simp [atKey,List.find?_cons,e']
   rw [valV_pos e,b]; exact h2
  ·have e':¬ q.1=k:=fun z=>e (h1.trans z)
   have b:atKey (q :: qs) k=atKey qs k:=by simp [atKey,List.find?_cons,e']
   rw [valV_neg e,b]; exact ih
theorem KT.repl {H:Hp} {kvs:List (List Key × V)} {xs:List (List Key × Addr × Value)} (r:KT H kvs xs) (k:List Key) {y:V} {u:Value} (ry:RelV y u) :
  KT H (kvs.map fun kv=>if kv.1=k then (kv.1,y) else kv) (xs.map (putAt k u)):=by
 induction r with
 | nil=>exact .nil
 | @cons p q ps qs h t ih =>
  rw [List.map_cons,List.map_cons]
  refine .cons ?_ ih
  obtain ⟨h1,h2,h3⟩:=h
  unfold putAt
  by_cases e:p.1=k
  ·rw [if_pos e,if_pos (h1.symm.trans e)]; exact ⟨h1,h2,ry⟩
  ·rw [if_neg e,if_neg (fun z=>e (h1.trans z))]; exact ⟨h1,h2,h3⟩
theorem KT.put {H:Hp} {kvs:List (List Key × V)} {xs:List (List Key × Addr × Value)} (r:KT H kvs xs) (k:List Key) {b:Addr} {y:V} {u:Value} (hb:H b=some (.tup (k.map kV))) (ry:RelV y u) :
  KT H (putK kvs k y) (storedH xs k b u):=by
 have e:(kvs.any fun kv=>decide (kv.1=k))=(atKey xs k).isSome:=by
  rw [valV_any,(r.val k).isSome_eq,Option.isSome_map]
 unfold putK storedH
 rw [e]
 by_cases q:(atKey xs k).isSome=true
 ·rw [if_pos q,if_pos q]; exact r.repl k ry
 ·rw [if_neg q,if_neg q]; exact Paired.snoc r ⟨rfl,hb,ry⟩
section
variable {P:Program} {w:World} {H:Hp} {h:Heap} {a:Addr}
theorem rd_of {u:HO} (ok:HOk P w H h) (e:Rd H a u):ObjOk P w H h a u:=e.ok ok
theorem dk_rd {kvs:List (Key × V)} (ok:HOk P w H h) (e:Rd H a (.dK kvs)):kvs.length≤sizeLine∧(a == sysModules)=false∧∃ vs,KV kvs vs∧h.DictOf (mixKind P w) a vs :=
 show ObjOk P w H h a (.dK kvs) from rd_of ok e
theorem dk_of {kvs:List (Key × V)} (ok:HOk P w H h) (e:H a=some (.dK kvs)):kvs.length≤sizeLine∧(a == sysModules)=false∧∃ vs,KV kvs vs∧h.DictOf (mixKind P w) a vs:=dk_rd ok (.inl e)
theorem key_of {ks:List Key} (ok:HOk P w H h) (e:H a=some (.tup (ks.map kV))):(tupleKind (mixKind P w)).is h ks a:=by
 obtain ⟨_,its,r,o,h1,h2,n,h3⟩:=(show ObjOk P w H h a (.tup (ks.map kV)) from ok a _ e)
 exact ⟨o,its.toArray,n,h1,h2,h3,by simpa using items_are r⟩
theorem dt_rd {kvs:List (List Key × V)} (ok:HOk P w H h) (e:Rd H a (.dT kvs)):kvs.length≤sizeLine∧(a == sysModules)=false ∧
  ∃ xs,KT H kvs xs∧h.DictOfH (tupleKind (mixKind P w)) a xs:=by
 obtain ⟨z,y,xs,r,o,es,ep,h1,h2,h3,h4,h5⟩:=(show ObjOk P w H h a (.dT kvs) from rd_of ok e)
 refine ⟨z,y,xs,r,o,es,ep,h1,h2,h3,h4,fun x hx=>?_,h5⟩
 have all:∀ {l:List (List Key × V)} {m:List (List Key × Addr × Value)},KT H l m→∀ x∈m,(tupleKind (mixKind P w)).is h x.1 x.2.1:=by
  intro l m q
  induction q with
  | nil=>intro x hx; exact nomatch hx
  | @cons p q ps qs hq t ih =>
   intro x hx
   rcases List.mem_cons.mp hx with e | hx
   ·subst e
    exact key_of ok (by rw [← hq.1]; exact hq.2.1)
   ·exact ih x hx
 exact all r x hx
end
noncomputable def DGet (H:Hp) (a:Addr) (y:V) (r:Option V):Prop :=
 (∃ kvs k,Rd H a (.dK kvs)∧y=kV k∧r=valV kvs k)∨∃ kvs k b,Rd H a (.dT kvs)∧y=.ref b∧H b=some (.tup (k.map kV))∧r=valV kvs k
noncomputable def DPut (H:Hp) (a:Addr) (y v:V) (H':Hp):Prop :=
 (∃ kvs k,H a=some (.dK kvs)∧y=kV k∧kvs.length<sizeLine∧H'=upd H a (.dK (putK kvs k v))) ∨
 ∃ kvs k b,H a=some (.dT kvs)∧y=.ref b∧H b=some (.tup (k.map kV))∧kvs.length<sizeLine∧H'=upd H a (.dT (putK kvs k v))
theorem DGet.k {H:Hp} {a:Addr} {kvs:List (Key × V)} {k:Key} (e:H a=some (.dK kvs)):DGet H a (kV k) (valV kvs k):=.inl ⟨kvs,k,.inl e,rfl,rfl⟩
theorem DGet.t {H:Hp} {a b:Addr} {kvs:List (List Key × V)} {k:List Key} (e:H a=some (.dT kvs)) (eb:H b=some (.tup (k.map kV))):DGet H a (.ref b) (valV kvs k):=.inr ⟨kvs,k,b,.inl e,rfl,eb,rfl⟩
theorem DPut.k {H:Hp} {a:Addr} {kvs:List (Key × V)} {k:Key} {v:V} (e:H a=some (.dK kvs)) (hl:kvs.length<sizeLine):DPut H a (kV k) v (upd H a (.dK (putK kvs k v))):=.inl ⟨kvs,k,e,rfl,hl,rfl⟩
theorem DPut.t {H:Hp} {a b:Addr} {kvs:List (List Key × V)} {k:List Key} {v:V} (e:H a=some (.dT kvs)) (eb:H b=some (.tup (k.map kV))) (hl:kvs.length<sizeLine) :
  DPut H a (.ref b) v (upd H a (.dT (putK kvs k v))):=.inr ⟨kvs,k,b,e,rfl,eb,hl,rfl⟩
section
variable {X:Cx} {pins:List (Addr × Obj)} {σ:St} {H:Hp} {s:Shared} {a:Addr} {y v:V} {u r:Value} {o:Option V} {A:Around} {E:Value→Shared→Prop}
theorem Inv.big (I:Inv X pins σ H s):sysModules<s.heap.objs.size:=by
 have h:mainGlobals<s.heap.objs.size:=(I.mod.glob.keeps I.bk).lt
 exact Nat.lt_trans (by decide) h
theorem d_getItem {Q:Value→Shared→Prop} (hu:A.units+1<cLine) (I:Inv X pins σ H s) (g:DGet H a y (some v)) (ry:RelV y u) (h:∀ w' s',Inv X pins σ H s'→RelV v w'→Q w' s') :
  wpAny (model X.prog X.w) A (getItem (.ref a) u) Q E s:=by
 rcases g with ⟨kvs,k,e,ey,l⟩ | ⟨kvs,k,b,e,ey,eb,l⟩
 ·subst ey
  obtain ⟨z,hd,vs,rel,dd⟩:=dk_rd I.hok e
  obtain ⟨w',hw,rw'⟩:=RelO.some_of (v:=v) (o:=valueAt vs k) (by rw [l]; exact rel.val k)
  exact wpAny_getItem_of (kV_is ry) dd.mapOf hw (h w' _ (I.tok _) rw')
 ·subst ey
  cases (show u=Value.ref b from ry)
  obtain ⟨z,hd,xs,rel,dd⟩:=dt_rd I.hok e
  obtain ⟨w',hw,rw'⟩:=RelO.some_of (v:=v) (o:=(atKey xs k).map (·.2)) (by rw [l]; exact rel.val k)
  obtain ⟨p,hp,hp2⟩:=Option.map_eq_some_iff.mp hw
  refine wpAny_getItem_heap (tupleKind_room_in1 hu) (key_of I.hok eb) dd hp ?_
  rw [hp2]
  exact h w' _ (I.tok _) rw'
theorem d_in {Q:Value→Shared→Prop} (hu:A.units+1<cLine) (I:Inv X pins σ H s) (g:DGet H a y o) (ry:RelV y u) (h:∀ s',Inv X pins σ H s'→Q (.bool o.isSome) s') :
  wpAny (model X.prog X.w) A (compareOp .In u (.ref a)) Q E s:=by
 rcases g with ⟨kvs,k,e,ey,l⟩ | ⟨kvs,k,b,e,ey,eb,l⟩
 ·subst ey
  obtain ⟨z,hd,vs,rel,dd⟩:=dk_rd I.hok e
  refine wpAny_in_of (kV_is ry) hd dd.mapOf ?_
  rw [← (rel.val k).isSome_eq,← l]
  exact h _ (I.tok _)
 ·subst ey
  cases (show u=Value.ref b from ry)
  obtain ⟨z,hd,xs,rel,dd⟩:=dt_rd I.hok e
  refine wpAny_in_heap (tupleKind_room_in1 hu) (key_of I.hok eb) hd dd ?_
  have q:=(rel.val k).isSome_eq
  rw [Option.isSome_map] at q
  rw [← q,← l]
  exact h _ (I.tok _)
theorem d_write {h':Heap} {t':Nat} {ob:HO} (I:Inv X pins σ H s) (mu:Mut (H a)) (hs:Heap.SameBut a s.heap h') (he:∃ q,h'.get? a=some q) (new:ObjOk X.prog X.w (upd H a ob) h' a ob) :
  Inv X pins σ (upd H a ob) { s with heap:=h',toks:=t' } :=
 I.write (x:=a) (e:=a) mu (.inl rfl) (fun b q hb z=>(hs.2 b hb).trans z) he new
theorem dk_new {P:Program} {w:World} {H':Hp} {h':Heap} {kvs:List (Key × V)} {vs:List (Key × Value)} (z:kvs.length≤sizeLine) (hd:(a == sysModules)=false) (rel:KV kvs vs) (dd:h'.DictOf (mixKind P w) a vs) :
  ObjOk P w H' h' a (.dK kvs):=⟨z,hd,vs,rel,dd⟩
end
section
variable {X:Cx} {pins:List (Addr × Obj)} {σ:St} {H:Hp} {s:Shared} {a:Addr} {kvs:List (Key × V)} {k:Key} {u:Value} {A:Around} {E:Value→Shared→Prop}
theorem d_len {Q:Value→Shared→Prop} (I:Inv X pins σ H s) (e:Rd H a (.dK kvs)) (h:∀ t s',Inv X pins σ H s'→Q (.int kvs.length t) s'):wpAny (model X.prog X.w) A (call (.builtin "len") [.ref a]) Q E s:=by
 obtain ⟨z,hd,vs,rel,dd⟩:=dk_rd I.hok e
 refine call_len_dict hd dd (by rw [← rel.length]; rw [sizeLine_eq] at z; walk_at "l") ?_
 rw [← rel.length]
 exact h _ _ (I.tok _)
end
theorem dict_typeIs {X:Cx} {pins:List (Addr × Obj)} {σ:St} {H:Hp} {s:Shared} {a:Addr} {y:V} {o:Option V} (I:Inv X pins σ H s) (g:DGet H a y o):s.TypeIs (.ref a) "dict" := by
 rcases g with ⟨kvs,k,e,_,_⟩ | ⟨kvs,k,b,e,_,_,_⟩
 ·obtain ⟨_,_,vs,_,dd⟩:=dk_rd I.hok e
  exact dd.typeIs
 ·obtain ⟨_,_,xs,_,dd⟩:=dt_rd I.hok e
  exact dd.typeIs
section
variable {X:Cx} {o i e value:Expr} {pos pos' tpos:Pos} {td ty tv:TE}
end
theorem dk_empty {P:Program} {w:World} {H:Hp} (h:Heap) (hb:sysModules<h.objs.size):ObjOk P w H (h.push { cls:=.type "dict",data:=.dict #[] }) h.objs.size (.dK []) :=
 ⟨Nat.zero_le _,beq_eq_false_iff_ne.mpr (Ne.symm (Nat.ne_of_lt hb)),[],.nil,Heap.DictOf.new h⟩
noncomputable def tDNewK:TE:=fun _ H Q=>∀ p,H p=none→Q (.ref p) (upd H p (.dK []))
section
variable {X:Cx} {pos:Pos}
theorem pe_dnewK:PE X (.Dict [] [] pos) tDNewK:=fun pins s σ H Q I h =>
 wpAny_Dict_empty ⟨.ref s.heap.objs.size,_,I.laid (a:=s.heap.objs.size) (o:=.dK []) (t':=s.toks) (fun _ _ q=>Heap.get?_push_of_some _ q) (Nat.le_refl _) (dk_empty s.heap I.big),rfl,h _ (I.hok.fresh (Nat.le_refl _))⟩
end
structure M2 (X:Cx) (o:Expr) (m:Str) (apos:Pos) (e f:Expr) (cpos:Pos):Prop where
 base:attributeBase o m X.env (eval o X.env)=eval o X.env
 few:((backTo cpos (starEach [e,f] X.env)).all (fun x=>!x.1) && (backToKw cpos (keywordEach [] X.env)).all (fun x=>x.1.isSome)
  && decide (([e,f]:List Expr).length+([]:List Keyword).length+(if ([]:List Keyword).isEmpty then 0 else 1)<30))=true
 line:(apos.endLine == cpos.line)=true
 trees:backTo cpos (starEach [e,f] X.env)=[(false,eval e X.env),(false,eval f X.env)]
noncomputable def IsD (H:Hp) (a:Addr):Prop:=(∃ kvs,Rd H a (.dK kvs))∨∃ kvs,Rd H a (.dT kvs)
theorem isD_at {X:Cx} {pins:List (Addr × Obj)} {σ:St} {H:Hp} {s:Shared} {a:Addr} (I:Inv X pins σ H s) (d:IsD H a) :
  s.TypeIs (.ref a) "dict"∧(∀ b,Value.ref a=.ref b→∃ ob,s.heap.get? b=some ob∧ob.dict=none)∧(a == sysModules)=false:=by
 rcases d with ⟨kvs,e⟩ | ⟨kvs,e⟩
 ·obtain ⟨_,hd,vs,_,dd⟩:=dk_rd I.hok e
  refine ⟨dd.typeIs,fun b q=>?_,hd⟩
  cases q
  obtain ⟨ob,_,_,h1,h2,_⟩:=dd
  exact ⟨ob,h1,h2.2.1⟩
 ·obtain ⟨_,hd,xs,_,dd⟩:=dt_rd I.hok e
  refine ⟨dd.typeIs,fun b q=>?_,hd⟩
  cases q
  obtain ⟨ob,_,_,h1,h2,_⟩:=dd
  exact ⟨ob,h1,h2.2.1⟩
section
variable {X:Cx} {pins:List (Addr × Obj)} {σ:St} {H:Hp} {s:Shared} {a:Addr} {y d:V} {u r:Value} {o:Option V} {A:Around} {E:Value→Shared→Prop}
theorem d_get2 {Q:Value→Shared→Prop} (hu:A.units+1<cLine) (I:Inv X pins σ H s) (g:DGet H a y o) (ry:RelV y u) (rd:RelV d r) (h:∀ w' s',Inv X pins σ H s'→RelV (o.getD d) w'→Q w' s') :
  wpAny (model X.prog X.w) A (call (.builtin "dict.get") [.ref a,u,r]) Q E s:=by
 rcases g with ⟨kvs,k,e,ey,l⟩ | ⟨kvs,k,b,e,ey,eb,l⟩
 ·subst ey
  obtain ⟨z,hd,vs,rel,dd⟩:=dk_rd I.hok e
  refine call_meetsIn PySem.F.slot_dict_get dd.typeIs PySem.F.entry_dict_get (PySem.F.args_dict_get_3 _ _ _) (meets_dict_get_default (mixKind X.prog X.w) a (kV_is ry) hd r) ⟨_,dd.mapOf,h _ _ (I.tok _) ?_⟩
  rw [l]
  exact (rel.val k).getD rd
 ·subst ey
  cases (show u=Value.ref b from ry)
  obtain ⟨z,hd,xs,rel,dd⟩:=dt_rd I.hok e
  refine call_meetsIn PySem.F.slot_dict_get dd.typeIs PySem.F.entry_dict_get (PySem.F.args_dict_get_3 _ _ _) (meetsH_dict_get_default (tupleKind (mixKind X.prog X.w)) a b hd r) ⟨tupleKind_room_in1 hu,k,xs,key_of I.hok eb,dd,h _ _ (I.tok _) ?_⟩
  rw [l]
  exact (rel.val k).getD rd
end
noncomputable def tDGet2 (td ty tx:TE):TE:=fun σ H Q=>td σ H fun x H1=>∃ a,x=.ref a∧IsD H1 a∧ty σ H1 fun y H2=>tx σ H2 fun z H3=>∃ o,DGet H3 a y o∧Q (o.getD z) H3
section
variable {X:Cx} {o e f:Expr} {apos cpos:Pos} {td ty tx:TE}
theorem pe_dget2 (hu:X.A.units+1<cLine) (ho:PE X o td) (he:PE X e ty) (hf:PE X f tx) (m:M2 X o "get" apos e f cpos):PE X (.Call (.Attribute o "get" apos) [e,f] [] cpos) (tDGet2 td ty tx):=by
 intro pins s σ H Q I h
 refine wpAny_Call_method m.base m.few m.line PySem.F.plainAttrs_dict PySem.F.slot_dict_get PySem.F.type_dict_get (thn (ho pins s σ H _ I h) fun u s1 hx9=>?_)
 obtain ⟨x,H1,I1,rx,a,ex,d,q1⟩:=hx9
 subst ex
 obtain rfl:u=Value.ref a:=rx
 obtain ⟨t1,t2,_⟩:=isD_at I1 d
 refine ⟨t1,t2,?_⟩
 rw [m.trees]
 refine Calls.callWith_builtin rfl (Calls.evalArgs_plain (Calls.spliced_cons (thn (he pins s1 σ H1 _ I1 q1) fun iv s2 hx5=>L2.ex2 hx5 fun y H2 I2 ry q2 =>
  Calls.spliced_cons (thn (hf pins s2 σ H2 _ I2 q2) fun fv s3 ⟨z,H3,I3,rz,ov,g,q3⟩=>Calls.spliced_nil ?_))))
 exact d_get2 hu I3 g ry rz fun w' s4 I4 rw'=>⟨_,H3,I4,rw',q3⟩
end
section
variable {X:Cx} {pins:List (Addr × Obj)} {σ:St} {H:Hp} {s:Shared} {a:Addr} {kvs:List (Key × V)} {A:Around} {E:Value→Shared→Prop}
end
section
variable {X:Cx} {pins:List (Addr × Obj)} {σ:St} {H:Hp} {s:Shared} {a:Addr} {y:V} {u:Value} {A:Around} {E:Value→Shared→Prop}
end
end L2
namespace Att
open PySem PySem.W PySem.Calls PyProof.Rows
theorem ints_of_wellAll {P:Params} {h:Heap}:∀ (ns:List Int) (vs:List Value),WellAll P h vs (ns.map WData.int)→IntsAre vs ns:=by
 intro ns
 induction ns with
 | nil =>
  intro vs w
  rw [List.map_nil] at w
  cases w
  exact .nil
 | cons n ns ih =>
  intro vs w
  rw [List.map_cons] at w
  cases w with
  | cons a b =>
   cases a
   exact .cons _ _ (ih _ b)
theorem script_of {l:OpenLaw} {n:Nat} (hn:l.most=some n) {P:Params} {h:Heap} {args:List WData} {vals:List Value}
  (hpre:l.row.toRowW.claim.pre args=true) (hwl:WellAll P h vals args) :
  ∃ a vs ns,vals=[Value.ref a]∧args=[WData.list (ns.map WData.int)]∧h.get? a=some { cls:=.type "list",data:=.seq vs.toArray }∧IntsAre vs ns∧ns.length≤n:=by
 have hsh:WShape.hasAll [] args [.list .int]=true:=(pre_splitW hpre).1
 have hc:l.pre.holds [] { args:=args }=true:=(pre_splitW hpre).2
 obtain ⟨d,r,rfl,h1,h2⟩:=hasAllW_cons hsh
 obtain rfl:=hasAllW_nil h2
 obtain ⟨xs,rfl,h3⟩:=hasW_list h1
 obtain ⟨ns,rfl⟩:=items_int h3
 have hlen:ns.length≤n:=by
  unfold OpenLaw.pre at hc
  have h4:(WTm.not (.lt (.lit (.int (n:Int))) (.len (.arg 0)))).holds [] { args:=[.list (ns.map .int)] }=true:=by
   have h4:=(holds_andW hc).1
   rw [hn] at h4
   exact h4
  have h5:=condW_of h4 (w_not (w_lt w_lit (w_len_list (w_arg rfl))))
  rw [List.length_map] at h5
  refine Nat.le_of_not_lt fun q=>?_
  have q':(n:Int)<((ns.length:Nat):Int):=by walk_at "l"
  first
   | (rw [decide_eq_true q'] at h5; exact absurd h5 (by decide))
   | (simp at h5; walk_at "l")
 cases hwl with
 | cons w1 w2 =>
  cases w2
  cases w1 with
  | list ho hall=>exact ⟨_,_,ns,rfl,rfl,ho,ints_of_wellAll ns _ hall,hlen⟩
theorem post_true (l:OpenLaw) (args:List WData):l.row.toRowW.claim.post args (.bool true) args=true :=
 postW_of (r:=l.row.toRowW) (X:=(true == true))
  (show WShape.has [] (.bool true) .bool=true by first | rfl | decide | simp [WShape.has,WShape.arms,WShape.armsAll])
  (show (WTm.eq .res (.lit (.bool true))).value [] { args:=args,res:=some (.bool true),after:=args }=some (.bool (true == true)) from w_eq_bool (w_res rfl) w_lit) rfl
theorem attach_call {l:OpenLaw} {n:Nat} {q:Program} {loose:List Str} {XP:(Str→Option Value)→Heap→Prop} {YP:World→Heap→Prop} {d:DefRec}
  (hn:l.most=some n) (hdf:d.params.defaults=[])
  (call:∀ (w:World) (s₀ s₁:Shared) (mg mb:Str→Option Value) (fa:Addr) (o:Obj) (pm cd doc:Value) (a:Addr) (vs:List Value) (ns:List Int),
   Ground q loose [] XP w s₀ mg mb s₁.heap→YP w s₁.heap →
   s₁.heap.get? fa=some o→o.data=.func (docDef d.name d.params d.body d.scope pm cd doc)→s₁.heap.CodeRec cd d.name→mg d.name=some (.ref fa) →
   s₁.heap.get? a=some { cls:=.type "list",data:=.seq vs.toArray }→IntsAre vs ns→ns.length≤n→s₁.gens = #[] →
   codeAny (model l.prog w) callerA (.call (.ref fa) ⟨[.ref a],[]⟩) (fun r s'=>r=.ok (.ret (.bool true))∧OldK s₁.heap s'.heap∧s'.os=s₁.os∧AllBare s'.gens) s₁) :
  WalkO q loose XP YP l.row.toRowW d [] (fun f vs=>PySem.call f vs):=by
 intro w s₀ s₁ mg mb G Y fa o pm cd doc dV kV ho hd hcd hD hmg hg args vals as hpre hlay hrd hwl hlo
 obtain rfl:dV=.none:=Dflts.none hD hdf
 obtain rfl:kV=.none:=Dflts.noKw hD
 obtain ⟨a,vs,ns,rfl,rfl,hobj,hints,hlen⟩:=script_of hn hpre hwl
 refine enter_call (codeAny_mono (call w s₀ s₁ mg mb fa o pm cd doc a vs ns G Y ho (fd_plain hd) hcd hmg hobj hints hlen hg) fun r s' hq=>?_)
 obtain ⟨rfl,h2,h3,h4⟩:=hq
 exact ⟨.inl ⟨.bool true,.bool true,[],rfl,fun _=>rfl,.bool true,post_true l _,fun _=>⟨List.Pairwise.nil,fun _ hm=>(nomatch hm)⟩⟩,h2,h3,h4⟩
section
variable {prog:Program} {w:World} {A:Around} {E:Value→Shared→Prop} {s:Shared} {K:Frag}
end
end Att
namespace L2
open PySem PySem.Spec PyProof.Rows
theorem vals_ints:∀ {vs:List Value} {ns:List Int},IntsAre vs ns→Vals (ns.map V.int) vs
 | _,_,.nil=>.nil
 | _,_,.cons n t h=>.cons ⟨t,rfl⟩ (vals_ints h)
noncomputable def Only (H:Hp):Prop:=∀ b,H b=none∨∃ o xs,H b=some (.frz o (.lst xs))
theorem law_call {P:Program} {w:World} {K:PySem.W.Frag} {mg mb:Str→Option Value} {CX:CXT} {k:Nat} {fa a:Addr} {fd:FuncData} {x:Str} {sp:Sp} {s₁:Shared} {vs:List Value} {ns:List Int}
  (KX:K.In s₁.heap) (hns:s₁.heap.Ns mainGlobals mg) (hb:s₁.heap.Ns builtinsNs mb) (hbb:∀ x:Str,x ≠ "__name__"→mb x=bootBuiltins x) (hlim:s₁.heap.NoLimit) (hg:s₁.gens = #[])
  (ha:s₁.heap.get? a=some { cls:=.type "list",data:=.seq vs.toArray }) (hi:IntsAre vs ns) (hl:ns.length≤sizeLine) (hr:Room k callerA)
  (F:∀ base:Heap,K.In base→base.Ns mainGlobals mg→FnOk P w K mg base CX k fa fd [x] sp) (hbind:∀ (s:Shared) (u:Value),BindsTo s fd ⟨[u],[]⟩ [(x,u)])
  (hsp:∀ H:Hp,Only H→SqL K H a (ns.map V.int)→sp [.ref a] H (fun v _=>v=.bl true) fun _ _ _=>False)
  (hCX:∀ H e s',CX [] H s₁ (fun _ _ _=>False) e s'→False) :
  codeAny (model P w) callerA (.call (.ref fa) ⟨[.ref a],[]⟩) (fun r s'=>r=.ok (.ret (.bool true))∧OldK s₁.heap s'.heap∧s'.os=s₁.os∧AllBare s'.gens) s₁:=by
 have rv:=vals_ints hi
 have lenV:=hi.length
 -- from an abstract heap in which nothing but the script may be tracked
 have core:∀ H:Hp,Only H→SqL K H a (ns.map V.int)→HOk P w H s₁.heap→(∀ b,H b≠none→b=a)→(H a≠none→K.lookup a=none) →
   codeAny (model P w) callerA (.call (.ref fa) ⟨[.ref a],[]⟩) (fun r s'=>r=.ok (.ret (.bool true))∧OldK s₁.heap s'.heap∧s'.os=s₁.os∧AllBare s'.gens) s₁:=by
  intro H hO hS hok hA hK
  have base_of:∀ {b:Addr} {o:Obj},s₁.heap.get? b=some o→H b=none→(hidT s₁.heap H).get? b=some o:=fun e n=>hidT_get e n
  have noA:∀ {b:Addr} {o:Obj} {es:Array DictEntry} {ep:Nat},s₁.heap.get? b=some o→o.data=.dict es ep→H b=none:=fun {b o es ep} e d=>by
   cases q:H b with
   | none=>rfl
   | some u =>
    have e':b=a:=hA b (by rw [q]; simp)
    subst e'
    rw [ha] at e; cases e
    have d':Data.seq vs.toArray _=Data.dict es ep:=d
    cases d'
  have nsK:∀ {b:Addr} {m:Str→Option Value},s₁.heap.Ns b m→(hidT s₁.heap H).Ns b m:=fun {b m} ⟨o,es,ep,e,d,r⟩=>⟨o,es,ep,base_of e (noA e d),d,r⟩
  have hKb:K.In (hidT s₁.heap H):=fun b o e=>base_of (KX b o e) (by
   cases q:H b with
   | none=>rfl
   | some u =>
    have e':b=a:=hA b (by rw [q]; simp)
    subst e'
    rw [hK (by rw [q]; simp)] at e; cases e)
  have hM:Mod K mg (hidT s₁.heap H):=⟨hKb,nsK hns,⟨mb,nsK hb,hbb⟩,let ⟨mc,h1,h2⟩:=hlim; ⟨mc,nsK h1,h2⟩⟩
  have e0:Env0 P w K mg (hidT s₁.heap H) callerA [] s₁ H:=⟨rfl,hM,fun b o e=>of_hidT e,Nat.le_of_eq (hidT_size _ _),trivial,fun b hb=>absurd (show b∈([]:List Addr) from hb) (by simp),hok,.of_eq hg⟩
  refine codeAny_mono ((F _ hKb (nsK hns)).run callerA [] s₁ H ⟨[.ref a],[]⟩ [.ref a] [.ref a] _ _ hr e0 (hbind s₁ (.ref a)) (.cons rfl .nil) (hsp H hO hS)) fun r s' h=>?_
  cases r with
  | error e=>exact (hCX H e s' h).elim
  | ok fl =>
   cases fl with
   | next=>exact False.elim h
   | brk=>exact False.elim h
   | cont=>exact False.elim h
   | ret u =>
    obtain ⟨v,H',os,bare,un,hok',r',q⟩:=h
    have q':v=.bl true:=q
    subst q'
    obtain rfl:u=Value.bool true:=r'
    refine ⟨rfl,OldK.of_keep fun b o e=>?_,os,bare⟩
    cases q:H b with
    | none=>exact un.keep b o e q (by intro z; exact absurd (show b∈([]:List Addr) from z) (by simp)) (by simp)
    | some u =>
     rcases hO b with z | ⟨ob,xs,z⟩
     ·rw [q] at z; cases z
     ·have z2:=un.frzs b ob _ z
      obtain ⟨e1,_⟩:=hok b _ z
      obtain ⟨e2,_⟩:=hok' b _ z2
      rw [e] at e1; cases e1
      exact e2
 cases hk:K.lookup a with
 | some o =>
  -- the script is one of the module's own objects
  have e:=KX a o hk
  rw [ha] at e
  cases e
  refine core (fun _=>none) (fun _=>.inl rfl) (.inr ⟨_,vs.toArray,_,hk,rfl,rfl,rfl,by rw [List.size_toArray,lenV]; exact hl,by simpa using rv⟩) (fun b u z=>by have z':(none:Option HO)=some u:=z; cases z') (fun b z=>absurd rfl z) fun z=>absurd rfl z
 | none =>
  refine core (fun b=>if b=a then some (.frz { cls:=.type "list",data:=.seq vs.toArray } (.lst (ns.map V.int))) else none) (fun b=>?_) (.inl (.inr ⟨{ cls:=.type "list",data:=.seq vs.toArray },if_pos rfl⟩)) (fun b u z=>?_) (fun b z=>?_) fun _=>hk
  ·by_cases hb:b=a
   ·exact .inr ⟨_,_,if_pos hb⟩
   ·exact .inl (if_neg hb)
  ·by_cases hb:b=a
   ·have z':=(if_pos hb).symm.trans z
    cases z'
    subst hb
    exact ⟨ha,by rw [List.length_map]; exact hl,vs,_,rv,ha⟩
   ·have z':=(if_neg hb).symm.trans z
    cases z'
  ·by_cases hb:b=a
   ·exact hb
   ·exact absurd (if_neg hb) z
end L2
namespace L2
open PySem PySem.Spec PyProof.Rows
theorem walk_of {l:PySem.W.OpenLaw} {n k:Nat} {q:Program} {loose:List Str} {XP:(Str→Option Value)→Heap→Prop} {YP:World→Heap→Prop} {d:DefRec} {K:Params→PySem.W.Frag} {CX:World→CXT} {sp:World→Sp} {x:Str}
  (hn:l.most=some n) (hn2:n≤sizeLine) (hdf:d.params.defaults=[]) (hr:Room k callerA)
  (hY:∀ (w:World) (h:Heap),YP w h→(K w.params).In h)
  (F:∀ (w:World) (mg:Str→Option Value) (fa:Addr) (h:Heap),(K w.params).In h→h.Ns mainGlobals mg→mg d.name=some (.ref fa) →
   ∃ fd:FuncData,(∀ (s:Shared) (u:Value),BindsTo s fd ⟨[u],[]⟩ [(x,u)]) ∧
    ∀ base:Heap,(K w.params).In base→base.Ns mainGlobals mg→FnOk l.prog w (K w.params) mg base (CX w) k fa fd [x] (sp w))
  (hsp:∀ (w:World) (H:Hp) (a:Addr) (ns:List Int),ns.length≤n→Only H→SqL (K w.params) H a (ns.map V.int)→sp w [.ref a] H (fun v _=>v=.bl true) fun _ _ _=>False)
  (hCX:∀ (w:World) (H:Hp) (s:Shared) (e:Value) (s':Shared),CX w [] H s (fun _ _ _=>False) e s'→False) :
  PySem.W.WalkO q loose XP YP l.row.toRowW d [] (fun f vs=>PySem.call f vs):=by
 refine Att.attach_call hn hdf fun w s₀ s₁ mg mb fa o pm cd doc a vs ns G Y ho hd hcd hmg hobj hints hlen hg=>?_
 have KX:=hY w _ Y
 obtain ⟨fd,hb,hF⟩:=F w mg fa _ KX G.T.g hmg
 exact law_call KX G.T.g G.T.b G.T.builtins G.T.nolimit hg hobj hints (Nat.le_trans hlen hn2) hr hF hb (fun H hO hS=>hsp w H a ns hlen hO hS) fun H e s'=>hCX w H s₁ e s'
end L2
namespace L2
open PySem PySem.Spec PyProof.Rows
noncomputable def defArgs (s:Stmt):Arguments:=match s with
 | .FunctionDef _ a _ _ _ _ _ _ _ _=>a
 | _=>{ posonlyargs:=[],args:=[],vararg:=none,kwonlyargs:=[],kw_defaults:=[],kwarg:=none,defaults:=[] }
noncomputable def defBody (s:Stmt):List Stmt:=match s with
 | .FunctionDef _ _ b _ _ _ _ _ _ _=>b
 | _=>[]
noncomputable def defScope (s:Stmt):Scope:=match s with
 | .FunctionDef _ _ _ _ _ _ sc _ _ _=>sc
 | _=>{ kind:=.function,names:=[],isGenerator:=false,isCoroutine:=false }
noncomputable abbrev CX0:CXT:=fun _ _ _ _ _ _=>False
noncomputable abbrev E0:XK:=fun _ _ _=>False
theorem pass0 {X:Cx}:Passes CX0 X E0:=fun _ _ _ _ _ _ _ h=>h.elim
structure Fun (K:PySem.W.Frag) (x qual:Str) (st:Stmt) (f:Addr) (fd:FuncData):Prop where
 ex:∃ (oc:Value) (od:Option Addr) (kV doc pm:Value) (an:Option Addr) (cdv ct:Value) (osl:Array (Option Value)),
  fd=PySem.W.fnOf x qual (defArgs st) (defBody st) (defScope st) .none kV doc pm an cdv ct∧K.lookup f=some ⟨oc,od,.func fd,osl⟩∧PySem.W.codeIn K cdv qual=true
 kp:PySem.W.keepIn K (.ref f)=true
section
variable {P:Program} {w:World} {K:PySem.W.Frag} {mg:Str→Option Value} {base:Heap}
theorem Fun.ok {x qual:Str} {st:Stmt} {f:Addr} {fd:FuncData} {N ps:List Str} {k:Nat} {sp:Sp} (F:Fun K x qual st f fd) (S:FnScope N ps (defScope st)) (len:∀ vs H Q E,sp vs H Q E→vs.length=ps.length)
  (hbody:∀ (cdv:Value) (A:Around) (outer:List Env) (s:Shared) (H:Hp) (vs:List V) (Q:VK) (E:XK),Room k (A.deeper (envOfC qual (defScope st) s.heap.objs.size f cdv))→sp vs H Q E →
   ∃ t,PSs (cxOf CX0 P w K mg base N qual (defScope st) f cdv A outer s H E).nox (defBody st) t∧t { nx:=fun _ H'=>Q .non H',rt:=Q } (start N vs) H):FnOk P w K mg base CX0 (k+1) f fd ps sp:=by
 obtain ⟨oc,od,kV,doc,pm,an,cdv,ct,osl,rfl,lk,hcd⟩:=F.ex
 refine fn_of lk hcd S len fun A outer s H vs Q E hr hsp=>?_
 obtain ⟨t,h,q⟩:=hbody cdv A outer s H vs Q E hr hsp
 exact ⟨t,h.nox,q⟩
theorem Fun.binds {x qual:Str} {st:Stmt} {f:Addr} {fd:FuncData} {ps:List Str} (F:Fun K x qual st f fd)
  (h:∀ (kV doc pm:Value) (an:Option Addr) (cdv ct:Value) (us:List Value),us.length=ps.length→bindArgs (PySem.W.fnOf x qual (defArgs st) (defBody st) (defScope st) .none kV doc pm an cdv ct) ⟨us,[]⟩=pure (ps.zip us)):Binds K fd ps []:=by
 obtain ⟨oc,od,kV,doc,pm,an,cdv,ct,osl,rfl,lk,hcd⟩:=F.ex
 exact .all (h kV doc pm an cdv ct)
theorem fun_mk {x qual:Str} {st:Stmt} {f:Addr} {oc:Value} {od an:Option Addr} {osl:Array (Option Value)} {kV doc pm cdv ct:Value} (l:K.lookup f=some ⟨oc,od,.func (PySem.W.fnOf x qual (defArgs st) (defBody st) (defScope st) .none kV doc pm an cdv ct),osl⟩)
  (c:PySem.W.codeIn K cdv qual=true) (k:PySem.W.keepIn K (.ref f)=true):Fun K x qual st f (PySem.W.fnOf x qual (defArgs st) (defBody st) (defScope st) .none kV doc pm an cdv ct):=⟨⟨oc,od,kV,doc,pm,an,cdv,ct,osl,rfl,l,c⟩,k⟩
end
section
variable {X:Cx}
theorem pv (i:Nat) {x:Str} {pos:Pos} (hN:X.N[i]? = some x:=by rfl) (hv:Vis X.env.scope x:=by first | exact Or.inl rfl | exact Or.inr (Or.inl rfl) | exact Or.inr (Or.inr rfl)) (hd:(x == ("__debug__" : Str))=false:=by decide)
  (hcd:(x == ("__classdict__" : Str))=false:=by decide):PE X (.Name x pos) (tVar i):=pe_var hN hv hd hcd
theorem call_lenD:CallR X (.builtin "len") (fun xs H Q=>∃ a kvs,xs=[V.ref a]∧H a=some (.dK kvs)∧Q (.int kvs.length) H):=by
 intro pins s σ H xs us Q I r h
 obtain ⟨a,kvs,rfl,ha,q⟩:=h
 obtain ⟨u,rfl,ru⟩:=vals1 r
 cases ru
 exact d_len I (.inl ha) fun t s' I'=>⟨.int kvs.length,H,I',⟨t,rfl⟩,q⟩
end
noncomputable def Same (H H':Hp):Prop:=∀ b o,H b=some o→H' b=some o
theorem Same.refl (H:Hp):Same H H:=fun _ _ h=>h
theorem Same.trans {H H1 H2:Hp} (a:Same H H1) (b:Same H1 H2):Same H H2:=fun c o h=>b c o (a c o h)
theorem Same.free {H H':Hp} (e:Same H H') {l:Addr} (h:H' l=Option.none):H l=Option.none:=by
 cases q:H l with
 | none=>rfl
 | some o =>
  rw [e l o q] at h
  cases h
theorem Same.seq {K:PySem.W.Frag} {H H':Hp} {a:Addr} {xs:List V} (e:Same H H') (h:SqL K H a xs):SqL K H' a xs:=by
 rcases h with (h | ⟨o,h⟩) | h
 ·exact .inl (.inl (e _ _ h))
 ·exact .inl (.inr ⟨o,e _ _ h⟩)
 ·exact .inr h
section
variable {κ:Type} [DecidableEq κ]
end
end L2
set_option Elab.async false
set_option linter.all false
set_option maxRecDepth 100000
set_option maxHeartbeats 4000000
namespace L2
open PySem PySem.Spec PyProof.Rows
noncomputable def clOf (env:Env):List (Str × NameKind)→List (Str × Addr)→List (Str × Addr)
 | [],cs=>cs
 | (n,k) :: r,cs=>clOf env r (if k == NameKind.free then (n,(env.cells.lookup n).getD 0) :: cs else cs)
theorem fH (env:Env):∀ (names:List (Str × NameKind)) (cs:List (Str × Addr)),(∀ y∈names,y.2=.free→∃ c,env.cells.lookup y.1=some c) →
  (forIn names cs fun x r=>match x with
   | (name,kind)=>if (kind == NameKind.free)=true then do let a ← cellOf env name; pure (ForInStep.yield ((name,a) :: r)) else pure (ForInStep.yield r):Sem (List (Str × Addr)))=pure (clOf env names cs)
 | [],cs,_=>rfl
 | (n,k) :: r,cs,h=>by
  rw [List.forIn_cons]
  have ih:=fH env r
  by_cases hk:k=.free
  ·subst hk
   obtain ⟨c,e⟩:=h (n,.free) List.mem_cons_self rfl
   have e:env.cells.lookup n=some c:=e
   have e2:cellOf env n=pure c:=by unfold cellOf; rw [e]
   have e3:clOf env ((n,.free) :: r) cs=clOf env r ((n,c) :: cs):=by
    show clOf env r (if (NameKind.free == NameKind.free)=true then (n,(env.cells.lookup n).getD 0) :: cs else cs)=_
    rw [e]; rfl
   rw [e3,← ih ((n,c) :: cs) fun y hy=>h y (List.mem_cons_of_mem _ hy)]
   simp only [beq_self_eq_true,if_true,e2]
   rfl
  ·have hb:(k == NameKind.free)=false:=by simpa using hk
   have e3:clOf env ((n,k) :: r) cs=clOf env r cs:=by
    show clOf env r (if (k == NameKind.free)=true then _ else cs)=_
    rw [hb]; rfl
   rw [e3,← ih cs fun y hy=>h y (List.mem_cons_of_mem _ hy)]
   simp only [hb,Bool.false_eq_true,if_false]
   rfl
theorem jE {scope:Scope} {env:Env} (h:∀ y∈scope.names,y.2=.free→∃ c,env.cells.lookup y.1=some c):closureFor scope env=pure (clOf env scope.names []):=by
 have:=fH env scope.names [] h
 unfold closureFor
 rw [← bind_pure (forIn scope.names [] _)] at this
 exact this
theorem j5 {env:Env} {x:Str} {c:Addr}:∀ {names:List (Str × NameKind)} {cs:List (Str × Addr)},(∀ y∈names,y.2=.free→∃ c,env.cells.lookup y.1=some c)→(∀ y d,cs.lookup y=some d→env.cells.lookup y=some d) →
  (clOf env names cs).lookup x=some c→env.cells.lookup x=some c
 | [],cs,_,h,e=>h x c e
 | (n,k) :: r,cs,hf,h,e=>by
  refine j5 (names:=r) (fun y hy=>hf y (List.mem_cons_of_mem _ hy)) ?_ e
  intro y d hd
  by_cases hk:k=.free
  ·subst hk
   obtain ⟨c',e'⟩:=hf (n,.free) List.mem_cons_self rfl
   have e':env.cells.lookup n=some c':=e'
   simp only [beq_self_eq_true,if_true,e',Option.getD_some,List.lookup_cons] at hd
   cases hb:y == n with
   | true=>rw [hb] at hd; have:y=n:=eq_of_beq hb; subst this; rw [e']; exact hd
   | false=>rw [hb] at hd; exact h y d hd
  ·have hb:(k == NameKind.free)=false:=by simpa using hk
   simp only [hb,Bool.false_eq_true,if_false] at hd
   exact h y d hd
theorem iK {env:Env} {x:Str}:∀ {names:List (Str × NameKind)} {cs:List (Str × Addr)},((x,NameKind.free)∈names∨∃ c,cs.lookup x=some c)→∃ c,(clOf env names cs).lookup x=some c
 | [],cs,h=>by
  rcases h with h | h
  ·exact nomatch h
  ·exact h
 | (n,k) :: r,cs,h=>by
  refine iK (names:=r) ?_
  rcases h with h | ⟨c,h⟩
  ·rcases List.mem_cons.mp h with e | h
   ·cases e
    refine .inr ⟨(env.cells.lookup x).getD 0,?_⟩
    simp only [beq_self_eq_true,if_true,List.lookup_cons]
   ·exact .inl h
  ·refine .inr ?_
   by_cases hk:(k == NameKind.free)=true
   ·simp only [hk,if_true,List.lookup_cons]
    cases hb:x == n with
    | true=>exact ⟨_,rfl⟩
    | false=>exact ⟨c,h⟩
   ·simp only [hk,if_false]
    exact ⟨c,h⟩
noncomputable def a_ (X:Cx) (scope:Scope) (C:Addr) (N:List Str) (fp:List Addr) (s₃:Shared) (H₃:Hp):Cx :=
 { X with N:=N,s₀:=s₃,H₀:=H₃,env:=compEnvC scope (clOf X.env scope.names []) C X.env,outer:=X.stack,stack:=X.stack,ex:=fp,fn:=fun _=>false,pn:=[],xe:=fun _ _=>False }
noncomputable def PTs (X:Cx) (ifs:List Expr) (t:TT):Prop :=
 ∀ (pins:List (Addr × Obj)) (s:Shared) (σ:St) (H:Hp) (Q:Bool→Hp→Prop),Inv X pins σ H s→t σ H Q →
  wpAny (model X.prog X.w) X.A (forIn ifs true fun c r=>if r=true then do let ok ← isTrue c X.env (eval c X.env); pure (ForInStep.yield ok) else pure (ForInStep.yield r)) (TP X pins σ Q) X.xe s
noncomputable def tYes:TT:=fun _ H Q=>Q true H
theorem xP {X:Cx}:PTs X [] tYes:=fun _ _ _ H _ I h=>wpAny_tests_nil ⟨H,I,h⟩
theorem d7 {prog:Program} {w:World} {A:Around} {R:Result→Shared→Prop} {s:Shared} {elt target iter:Expr} {ifs:List Expr} {scope:Scope} {pos:Pos} {it acc:Value} {env:Env} (I:Nat→Shared→Prop) (E:Value→Shared→Prop)
  (turn:∀ n s,I n s→wpAny (model prog w) A (pyNext it) (fun r s₁=>match r with
   | none=>R (.ok .next) s₁
   | some v=>wpAny (model prog w) A (letOwnedTupleGo target it v) (fun _ s₀=>wpAny (model prog w) A (assign target env v) (fun _ s₂ =>
     wpAny (model prog w) A (forIn ifs true fun c r=>if r=true then do let ok ← isTrue c env (eval c env); pure (ForInStep.yield ok) else pure (ForInStep.yield r)) (fun ok s₃ =>
      if ok=true then wpAny (model prog w) A (eval elt env) (fun x s₄ =>
       wpAny (model prog w) A (call (.builtin "list.append") [acc,x]) (fun _ s₅=>∃ m,m<n∧I m s₅) E s₄) E s₃
      else ∃ m,m<n∧I m s₃) E s₂) E s₀) E s₁) E s)
  (hE:∀ e s',E e s'→notedBy (model prog w) A env (fun e s'=>R (.error e) s') e s')
  (n:Nat) (h:I n s) :
  codeAny (model prog w) A (.compLoop (.ListComp elt [⟨target,iter,ifs,0⟩] scope pos) 0 it acc env) R s:=by
 refine codeAny_loop rfl I (fun n s hI=>?_) n h
 show wpAny _ A ((compTurn (.ListComp elt [⟨target,iter,ifs,0⟩] scope pos) 0 it acc env).onRaise (fun x=>do noteFrame x env; theTreesLotGoes x)) _ _ s
 refine wpAny_noted ?_
 rw [compTurn_list]
 refine wpAny_mono (Q:=_) (E:=E) ?_ (fun _ _ q=>q) hE
 refine wpAny_bind (wpAny_standAt (wpAny_bind (wpAny_mono (turn n s hI) (fun r s₁ h₁=>?_) fun _ _ h'=>h')))
 cases r with
 | none=>exact wpAny_pure h₁
 | some v =>
  refine wpAny_bind (wpAny_mono h₁ (fun _ s₀ h₀=>?_) fun _ _ h'=>h')
  refine wpAny_bind (wpAny_mono h₀ (fun _ s₂ h₂=>wpAny_bind (wpAny_mono h₂ (fun ok s₃ h₃=>?_) fun _ _ h'=>h')) fun _ _ h'=>h')
  cases ok with
  | false=>exact wpAny_pure ⟨rfl,h₃⟩
  | true =>
   exact wpAny_bind (wpAny_bind (wpAny_mono h₃ (fun x s₄ h₄=>wpAny_bind (wpAny_mono h₄ (fun _ s₅ h₅=>wpAny_pure (wpAny_pure ⟨rfl,h₅⟩)) fun _ _ h'=>h')) fun _ _ h'=>h'))
noncomputable def kj (tn:Nat) (ix:List Nat) (σ:St):St:=List.replicate tn none++ix.map fun j=>(σ[j]?).join
noncomputable def rT (wi:TI) (g:TG) (tc:TT) (te:TE) (tn:Nat) (ix:List Nat):TE:=fun σ H Q=>wi σ H fun J H1=>∀ D,H1 D=none →
 ∃ W:Nat→Nat→St→Hp→Prop,(∃ m,W 0 m (kj tn ix σ) (upd H1 D (.lst [])))∧∀ i m τ H,W i m τ H →
  (J.stop i H∧Q (.ref D) H)∨(J.go i H∧∃ (N1:St→V→Hp→Prop) (N2:St→Hp→Prop),
   (∀ τ2 v H4,N1 τ2 v H4→∃ ys m',H4 D=some (.lst ys)∧ys.length<sizeLine∧m'<m∧W (i+1) m' τ2 (upd H4 D (.lst (ys++[v])))) ∧
   (∀ τ2 H3,N2 τ2 H3→∃ m',m'<m∧W (i+1) m' τ2 H3) ∧
   ∀ x H',J.yld i H x H'→g x τ H' fun τ2 H2=>tc τ2 H2 fun b H3=>if b=true then te τ2 H3 (N1 τ2) else N2 τ2 H3)
section
variable {X:Cx} {tg iter elt:Expr} {ifs:List Expr} {scope:Scope} {pos:Pos} {wi:TI} {g:TG} {tc:TT} {te:TE} {tn cn:List Str} {ix:List Nat}
structure cO (X:Cx) (scope:Scope) (tn cn:List Str) (ix:List Nat):Prop where
 kind:scope.kind=.function
 nocell:∀ y∈scope.names,y.2≠.cell
 free:∀ y∈scope.names,y.2=.free→X.env.scope.names.lookup y.1=some .cell∨X.env.scope.names.lookup y.1=some .free
 names:∀ y∈scope.names,y.2=.local→scope.names.lookup y.1=some .local
 len:ix.length=cn.length
 cap:∀ (k j:Nat),ix[k]? = some j→∃ y,cn[k]? = some y∧X.N[j]? = some y∧(X.env.scope.names.lookup y=some .cell∨X.env.scope.names.lookup y=some .free)∧(y,NameKind.free)∈scope.names ∧
  ((relabel scope X.env).names.lookup y=some .cell∨(relabel scope X.env).names.lookup y=some .free)
 all:∀ x,(relabel scope X.env).names.lookup x=some .cell∨(relabel scope X.env).names.lookup x=some .free→(x,NameKind.free)∈scope.names
theorem uD {pins:List (Addr × Obj)} {σ:St} {H:Hp} {s:Shared} {fp:List Addr} {C:Addr} (O:cO X scope tn cn ix) (I:Inv X pins σ H s) (hf:∀ b∈fp,FpOk X pins H b) (hfs:∀ b∈fp,b<s.heap.objs.size) (hC:s.heap.objs.size≤C) :
  (a_ X scope C (tn++cn) fp s H).Ok:=by
 have hcl:∀ y∈scope.names,y.2=.free→∃ c,X.env.cells.lookup y.1=some c:=fun y hy hk=>I.ok.has y.1 (O.free y hy hk)
 have sub:∀ x c,(clOf X.env scope.names []).lookup x=some c→X.env.cells.lookup x=some c:=fun x c e=>j5 hcl (fun y d h=>by simp at h) e
 refine ⟨I.ok.mod,O.kind,I.ok.glob,I.ok.blt,hC,fun x y c h1 h2=>I.ok.inj x y c (sub x c h1) (sub y c h2),fun x hx=>iK (.inl (O.all x hx)),(fun x c h _=>nomatch h),I.ok.hd,I.ok.frames,.inl rfl,fun b hb=>⟨?_,fun x c e=>?_⟩,
  I.bs,Nat.le_trans I.ok.bsz I.sz,fun b o e hb=>?_,fun b hb=>?_,I.stack,I.stkFree⟩
 ·exact Nat.ne_of_lt (Nat.lt_of_lt_of_le (hfs b hb) hC)
 ·exact (hf b hb).2.2.2.2.1 x c (sub x c e)
 ·rcases (hf b hb).2.2.2.1 with z | z
  ·exact I.ok.noex b o e z
  ·exact absurd (Nat.lt_of_lt_of_le (Heap.lt_size e) (Nat.le_trans I.ok.bsz z)) (Nat.lt_irrefl _)
 ·intro hz
  rcases List.mem_cons.mp (I.stkSub b hz) with e | e
  ·exact (hf b hb).2.1 e
  ·exact (hf b hb).2.2.1 e
theorem qb {pos1:Pos} {use:Option (Value→Sem Unit)} {P:Value→Shared→Prop} (hc:X.calm=true) (hi:PI X tg iter wi) (O:cO X scope tn cn ix)
  (hg:∀ C fp s₃ H₃,PG (a_ X scope C (tn++cn) fp s₃ H₃) tg g) (hcs:∀ C fp s₃ H₃,PTs (a_ X scope C (tn++cn) fp s₃ H₃) ifs tc) (he:∀ C fp s₃ H₃,PE (a_ X scope C (tn++cn) fp s₃ H₃) elt te)
  (hs:∀ x,foldedSetIterable iter X.env x=pure x) {pins:List (Addr × Obj)} {s:Shared} {σ:St} {H:Hp} {Q:V→Hp→Prop} (I:Inv X pins σ H s) (h:rT wi g tc te tn.length ix σ H Q)
  (fin:∀ (C D:Addr) (m:Str→Option Value) (H5:Hp) (s6:Shared) (r:Flow),Inv X pins σ H5 s6→s6.heap.Ns C m→H5 C=none→FpOk X pins H5 C→Q (.ref D) H5→compPost (model X.prog X.w) X.A X.xe use P (.ref D) C (.ok r) s6) :
  wpAny (model X.prog X.w) X.A (comprehension (.ListComp elt [⟨tg,iter,ifs,0⟩] scope pos) scope X.env pos1 (newList []) false (eval iter X.env) use) P X.xe s:=by
 have hcl:∀ y∈scope.names,y.2=.free→∃ c,X.env.cells.lookup y.1=some c:=fun y hy hk=>I.ok.has y.1 (O.free y hy hk)
 have sub:∀ x c,(clOf X.env scope.names []).lookup x=some c→X.env.cells.lookup x=some c:=fun x c e=>j5 hcl (fun y d h=>by simp at h) e
 refine wpAny_comprehension_free (use:=use) rfl hs (jE hcl) O.kind O.names (thn (hi pins s σ H _ I h) fun v s1 h1=>thn h1 fun itv s2 h2=>?_)
 obtain ⟨it,fp,tnn,J,H2,e,I2,T,st2,f2,h2⟩:=h2
 subst e
 obtain ⟨W,⟨m0,w0⟩,turn⟩:=h2 s2.heap.objs.size (I2.hok.fresh (Nat.le_refl _))
 refine wpAny_newObj_type ?_
 have I3:Inv X pins σ (upd H2 s2.heap.objs.size (.lst [])) { s2 with heap:=s2.heap.push { cls:=.type "list",data:=.seq ([]:List Value).toArray } }:=I2.lnew (its:=[]) (t':=s2.toks) .nil (Nat.zero_le _)
 generalize hD:s2.heap.objs.size=D at *
 generalize hs3:({ s2 with heap:=s2.heap.push { cls:=.type "list",data:=.seq ([]:List Value).toArray } }:Shared)=s3 at *
 have k23:∀ b o,s2.heap.get? b=some o→s3.heap.get? b=some o:=fun b o e=>by rw [← hs3]; exact Heap.get?_push_of_some _ e
 have sz3:s3.heap.objs.size=D+1:=by rw [← hs3,← hD]; exact Heap.size_push ..
 have f3:∀ b∈fp,FpOk X pins (upd H2 D (.lst [])) b:=fun b hb=>by
  obtain ⟨f0,fr⟩:=f2 b hb
  obtain ⟨o,ho,_⟩:=T.obj _ _ st2 b hb
  refine ⟨?_,fr⟩
  rw [upd_ne (Nat.ne_of_lt (by rw [← hD]; exact Heap.lt_size ho))]
  exact f0
 have st3:tnn 0 s3.heap:=T.keep _ _ _ st2 fun b hb o e=>k23 b o e
 have lt3:∀ b∈fp,b<s3.heap.objs.size:=fun b hb=>by
  obtain ⟨o,ho,_⟩:=T.obj _ _ st3 b hb
  exact Heap.lt_size ho
 refine wpAny_newFunctionEnv O.nocell (by intro y hy; simp at hy) (fun h₁ hns₁ hsb₁=>?_) O.kind
 have k34:∀ b o,s3.heap.get? b=some o→h₁.get? b=some o:=fun b o e=>hsb₁.extBut b o (Nat.ne_of_lt (Heap.lt_size e)) (Heap.get?_push_of_some _ e)
 -- the block's context
 have ok':=uD (C:=s3.heap.objs.size) O I3 f3 lt3 (Nat.le_refl _)
 have I4:Inv (a_ X scope s3.heap.objs.size (tn++cn) fp s3 (upd H2 D (.lst []))) [] (kj tn.length ix σ) (upd H2 D (.lst [])) { s3 with heap:=h₁,toks:=s3.toks+([]:List (Str × Value)).length }:=by
  refine ⟨ok',rfl,I3.bare,Un.kept k34,⟨_,hns₁,fun i x v e1 e2 e3=>?_⟩,fun x c e=>?_,I3.hok.fresh (Nat.le_refl _),fun x c e=>I3.freeC x c (sub x c e),fun p hp=>absurd hp (by simp [a_]),I3.hok.kept k34,?_⟩
  ·have hi':tn.length≤i:=by
    by_cases q:i<tn.length
    ·unfold kj at e2
     rw [List.getElem?_append_left (by simpa using q),List.getElem?_replicate] at e2
     simp [q] at e2
    ·exact Nat.le_of_not_lt ‹_›
   unfold kj at e2
   rw [List.getElem?_append_right (by simpa using hi'),List.length_replicate,List.getElem?_map] at e2
   have e1:(tn++cn)[i]? = some x:=e1
   rw [List.getElem?_append_right hi'] at e1
   cases q:ix[i - tn.length]? with
   | none=>rw [q] at e2; cases e2
   | some j =>
    rw [q] at e2
    obtain ⟨y,c1,c2,c3,c4,c5⟩:=O.cap _ _ q
    rw [c1] at e1; cases e1
    have e2:σ[j]?.join=some v:=Option.some.inj e2
    have ej:σ[j]? = some (some v):=by
     cases z:σ[j]? with
     | none=>rw [z] at e2; cases e2
     | some o=>rw [z] at e2; exact congrArg some e2
    obtain ⟨m,hn,hl⟩:=I3.loc
    obtain ⟨u,r,l⟩:=hl j x v c2 ej (c3.elim (fun z=>.inr (.inl z)) fun z=>.inr (.inr z))
    refine ⟨u,r,.inr ⟨c5,?_⟩⟩
    rcases l with ⟨hk,_⟩ | ⟨hk,c,hcc,hce⟩
    ·have hk:X.env.scope.names.lookup x=some .local:=hk
     rcases c3 with z | z
     ·rw [z] at hk; cases hk
     ·rw [z] at hk; cases hk
    ·obtain ⟨c',hc'⟩:=iK (env:=X.env) (cs:=[]) (Or.inl c4)
     have:=sub x c' hc'
     rw [hcc] at this; cases this
     obtain ⟨o,ho,hd⟩:=hce
     exact ⟨c,hc',o,k34 _ _ ho,hd⟩
  ·obtain ⟨v,o,ho,hd⟩:=I3.cell x c (sub x c e)
   exact ⟨v,o,k34 _ _ ho,hd⟩
  ·show (kj tn.length ix σ).length=(tn++cn).length
   unfold kj
   simp [O.len]
 -- from the block back to the body
 have back:∀ {τ:St} {H':Hp} {s':Shared},Inv (a_ X scope s3.heap.objs.size (tn++cn) fp s3 (upd H2 D (.lst []))) [] τ H' s'→Inv X pins σ H' s':=fun {τ H' s'} I' =>
  Inv.call' (ch:=fp) I3 I'.os I'.base I'.hok I'.bare fun b hb=>by
   obtain ⟨_,f1,_,f3',f4,f5⟩:=f3 b hb
   exact ⟨f3',f1,f4,f5⟩
 have fpC:∀ {H':Hp},(∀ b∈fp,H' b=none)→∀ b∈fp,FpOk (a_ X scope s3.heap.objs.size (tn++cn) fp s3 (upd H2 D (.lst []))) [] H' b:=fun hn b hb =>
  ⟨hn b hb,(ok'.exf b hb).1,ok'.exfs b hb,.inl hb,(ok'.exf b hb).2,fun p hp=>absurd hp (by simp [a_])⟩
 have loop:∀ s4:Shared,Inv (a_ X scope s3.heap.objs.size (tn++cn) fp s3 (upd H2 D (.lst []))) [] (kj tn.length ix σ) (upd H2 D (.lst [])) s4→tnn 0 s4.heap →
   codeAny (model X.prog X.w) X.A (.compLoop (.ListComp elt [⟨tg,iter,ifs,0⟩] scope pos) 0 (.ref it) (.ref D) (compEnvC scope (clOf X.env scope.names []) s3.heap.objs.size X.env))
    (compPost (model X.prog X.w) X.A X.xe use P (.ref D) s3.heap.objs.size) s4:=by
  intro s4 I4 st4
  refine d7 (fun n s'=>∃ i τ H',Inv (a_ X scope s3.heap.objs.size (tn++cn) fp s3 (upd H2 D (.lst []))) [] τ H' s'∧tnn i s'.heap∧(∀ b∈fp,H' b=none)∧W i n τ H') (fun _ _=>False) ?_ (fun _ _ z=>z.elim) m0
   ⟨0,_,_,I4,st4,fun b hb=>(f3 b hb).1,w0⟩
  rintro n s5 ⟨i,τ,H5,I5,st5,fr5,w5⟩
  rcases turn i n τ H5 w5 with ⟨stop,qn⟩ | ⟨go,N1,N2,hN1,hN2,step⟩
  ·refine thn (T.done (a_ X scope s3.heap.objs.size (tn++cn) fp s3 (upd H2 D (.lst []))) rfl rfl rfl hc i [] s5 τ H5 (fun _ _=>False) I5 (fpC fr5) st5 stop) fun r s6 hx9=>?_
   obtain ⟨hr,I6⟩:=hx9
   subst hr
   have J6:=back I6
   obtain ⟨m,hn,_⟩:=I6.loc
   exact fin _ D m H5 s6 _ J6 hn I6.free (I3.fpOk (b:=s3.heap.objs.size) (H':=H5) (Nat.le_refl _) I6.free) qn
  ·refine thn (T.item (a_ X scope s3.heap.objs.size (tn++cn) fp s3 (upd H2 D (.lst []))) rfl rfl rfl hc i [] s5 τ H5 (fun _ _=>False) I5 (fpC fr5) st5 go) fun r s6 hx9=>?_
   obtain ⟨u,hr,h6⟩:=hx9
   subst hr
   refine thn h6 fun _ s7 hx9=>?_
   obtain ⟨x,H7,I7,r7,y7,st7,fr7⟩:=hx9
   have I7':=I7.pinned (fpC fr7) (T.obj _ _ st7)
   refine thn (hg _ _ _ _ _ s7 τ H7 x u _ I7' r7 (step x H7 y7)) fun _ s8 hx9=>?_
   obtain ⟨τ8,H8,I8,q8⟩:=hx9
   refine thn (hcs _ _ _ _ _ s8 τ8 H8 _ I8 q8) fun ok s9 hx9=>?_
   obtain ⟨H9,I9,q9⟩:=hx9
   have again:∀ {s':Shared} {H':Hp} {m':Nat},Inv (a_ X scope s3.heap.objs.size (tn++cn) fp s3 (upd H2 D (.lst []))) ([]++pinsAt fp s7.heap) τ8 H' s'→m'<n→W (i+1) m' τ8 H' →
     ∃ m,m<n∧∃ i τ H',Inv (a_ X scope s3.heap.objs.size (tn++cn) fp s3 (upd H2 D (.lst []))) [] τ H' s'∧tnn i s'.heap∧(∀ b∈fp,H' b=none)∧W i m τ H':=fun {s' H' m'} J hm w'=>by
    refine ⟨m',hm,i+1,τ8,H',J.unpinned,T.keep _ _ _ st7 fun b hb o e=>(J.pin (b,o) (List.mem_append_right _ (List.mem_append_right _ (mem_pinsAt hb e)))).1,fun b hb=>?_,w'⟩
    obtain ⟨o,e,d⟩:=T.obj _ _ st7 b hb
    exact (J.pin (b,o) (List.mem_append_right _ (List.mem_append_right _ (mem_pinsAt hb e)))).2.1
   cases ok with
   | false =>
    rw [if_neg Bool.false_ne_true] at q9 ⊢
    obtain ⟨m',hm,w'⟩:=hN2 _ _ q9
    exact again I9 hm w'
   | true =>
    rw [if_pos rfl] at q9 ⊢
    refine thn (he _ _ _ _ _ s9 τ8 H9 _ I9 q9) fun x9 s10 hx5=>L2.ex2 hx5 fun v10 H10 I10 r10 q10=>?_
    obtain ⟨ys,m',hH,hz,hm,w'⟩:=hN1 _ _ _ q10
    refine thn (mt_append _ s10 τ8 H10 (.ref D) [v10] (.ref D) [x9] (fun _ H'=>H'=upd H10 D (.lst (ys++[v10]))) I10 rfl (.cons r10 .nil) ⟨D,ys,v10,rfl,rfl,hH,hz,rfl⟩) fun _ s11 hx5=>L2.ex2 hx5 fun _ H11 I11 _ q11=>?_
    subst q11
    exact again I11 hm w'
 exact codeAny_compStart_list (loop _ I4 (T.keep _ _ _ st3 fun b hb o e=>k34 b o e)) (T.self _ 0 _ _ _ (T.keep _ _ _ st3 fun b hb o e=>k34 b o e) (loop _ I4 (T.keep _ _ _ st3 fun b hb o e=>k34 b o e)))
theorem yh (hc:X.calm=true) (hi:PI X tg iter wi) (O:cO X scope tn cn ix)
  (hg:∀ C fp s₃ H₃,PG (a_ X scope C (tn++cn) fp s₃ H₃) tg g) (hcs:∀ C fp s₃ H₃,PTs (a_ X scope C (tn++cn) fp s₃ H₃) ifs tc) (he:∀ C fp s₃ H₃,PE (a_ X scope C (tn++cn) fp s₃ H₃) elt te)
  (hs:∀ x,foldedSetIterable iter X.env x=pure x:=by intro _; rfl):PE X (.ListComp elt [⟨tg,iter,ifs,0⟩] scope pos) (rT wi g tc te tn.length ix):=by
 intro pins s σ H Q I h
 rw [eval_ListComp]
 refine qb (use:=none) (P:=EP X pins σ Q) hc hi O hg hcs he hs I h fun C D m H5 s6 r J6 hn hf ⟨_,g1,_,g3,g4,g5⟩ qn=>⟨m,hn,fun h' hsb=>⟨.ref D,H5,?_,rfl,qn⟩⟩
 exact J6.turned (t':=s6.toks) (fun b o hb e=>hsb.extBut b o hb e) hf g1 g3 g4 g5
end
end L2
set_option Elab.async false
set_option linter.all false
set_option maxRecDepth 100000
set_option maxHeartbeats 4000000
namespace L2
open PySem PySem.Spec PyProof.Rows
section
variable {X:Cx} {tg iter elt:Expr} {ifs:List Expr} {scope:Scope} {pos:Pos} {wi:TI} {g:TG} {tc:TT} {te:TE} {tn cn:List Str} {ix:List Nat}
theorem qt {i:Nat} {x:Str} {pos' spos:Pos} (hN:X.N.Nodup) (hi0:X.N[i]? = some x) (hx:Loc X.env.scope x) (hc:X.calm=true) (hi:PI X tg iter wi) (O:cO X scope tn cn ix)
  (hg:∀ C fp s₃ H₃,PG (a_ X scope C (tn++cn) fp s₃ H₃) tg g) (hcs:∀ C fp s₃ H₃,PTs (a_ X scope C (tn++cn) fp s₃ H₃) ifs tc) (he:∀ C fp s₃ H₃,PE (a_ X scope C (tn++cn) fp s₃ H₃) elt te)
  (hsw:swapsWith (.ListComp elt [⟨tg,iter,ifs,0⟩] scope pos) (some (.Name x pos')) spos.line X.env=pure true)
  (hs:∀ x,foldedSetIterable iter X.env x=pure x:=by intro _; rfl) (hf:X.fn x=true∨X.env.scope.names.lookup x=some .local:=by first | exact .inl rfl | exact .inr rfl | assumption) :
  PS X (.Assign [.Name x pos'] (.ListComp elt [⟨tg,iter,ifs,0⟩] scope pos) spos) (tAsg (rT wi g tc te tn.length ix) (gName i)):=by
 intro pins s σ H D0 I h
 rw [exec_Assign_Name_used _ _ _ _ hsw]
 refine wpAny_bind (wpAny_standAt (wpAny_bind ?_))
 show wpAny _ _ (do let _ ← comprehension (.ListComp elt [⟨tg,iter,ifs,0⟩] scope pos) scope X.env _ (newList []) false (eval iter X.env) (some (assign (.Name x pos') X.env))) _ _ s
 refine wpAny_bind (wpAny_mono (qb (use:=some (assign (.Name x pos') X.env)) (P:=fun _ s'=>SP X pins D0 .next s') hc hi O hg hcs he hs I h fun C D m H5 s6 r J6 hn hfr ⟨_,g1,_,g3,g4,g5⟩ qn=>?_) (fun _ s' hq=>wpAny_pure (wpAny_pure hq)) fun _ _ e=>e)
 refine (show wpAny _ _ (assign (.Name x pos') X.env (.ref D)) _ _ s6 from wpAny_assign_Name (store_ok2 J6 hN hi0 hx (v:=.ref D) rfl (fun s7 I7 hx9=>?_) hf))
 obtain ⟨a,sb,ha⟩:=hx9
 have hCa:C≠a:=by
  rcases ha with rfl | ha
  ·exact g1
  ·exact Ne.symm (g4 _ a ha)
 refine ⟨m,hn.sameBut sb hCa,fun h' hsb=>⟨_,H5,?_,qn⟩⟩
 exact I7.turned (t':=s7.toks) (fun b o hb e=>hsb.extBut b o hb e) hfr g1 g3 g4 g5
end
end L2
set_option Elab.async false
set_option linter.all false
set_option maxRecDepth 100000
set_option maxHeartbeats 4000000
namespace L2
open PySem PySem.Spec PyProof.Rows
noncomputable def isiT (a b:String):Bool:=a == b || (a == "bool" && b == "int")
noncomputable def okTy (b:String):Bool:=["str", "int", "bool", "list", "tuple", "dict"].contains b
theorem gB (K:PySem.W.Frag) (a b:String) (ha:a∈["NoneType", "bool", "int", "str", "list", "tuple", "dict"]) (hb:b∈["str", "int", "bool", "list", "tuple", "dict"]):PySem.W.kitOne K (.type a) (.type b)=some (isiT a b):=by
 simp only [List.mem_cons,List.not_mem_nil,or_false] at ha hb
 rcases ha with rfl | rfl | rfl | rfl | rfl | rfl | rfl <;> rcases hb with rfl | rfl | rfl | rfl | rfl | rfl <;> kernel_rfl
section
variable {X:Cx}
theorem OpR.imp {f:Value→Value→Sem Value} {r r':R2} (h:OpR X f r) (hi:∀ x y H Q,r' x y H Q→r x y H Q):OpR X f r' :=
 fun pins s σ H x y v u Q I rx ry q=>h pins s σ H x y v u Q I rx ry (hi x y H Q q)
noncomputable def Dg (K:PySem.W.Frag):R2:=fun x y H Q=>∃ l b xs zs,x=.ref l∧y=.ref b∧SqL K H l xs∧SqL K H b zs∧xs.length+zs.length≤sizeLine∧∀ p,H p=none→Q (.ref p) (upd H p (.lst (xs++zs)))
theorem wV:OpR X (binaryOp .Add) (Dg X.K):=by
 intro pins s σ H x y v u Q I rx ry h
 obtain ⟨l,b,xs,zs,rfl,rfl,hH,hB,hz,q⟩:=h
 cases rx
 cases ry
 obtain ⟨its,r,pl,z⟩:=I.list hH
 obtain ⟨its2,r2,pl2,z2⟩:=I.list hB
 have hl:=r.length
 have hl2:=r2.length
 obtain ⟨⟨cls,dd,data,sl⟩,ho,hc,n,hd⟩:=id pl.isList
 obtain ⟨⟨cls2,dd2,data2,sl2⟩,ho2,hc2,n2,hd2⟩:=id pl2.isList
 simp only at hc hd hc2 hd2
 subst hc hd hc2 hd2
 have ea:its.toArray++its2.toArray=(its++its2).toArray:=by simp
 refine concat_meets ⟨_,ho,rfl⟩ ⟨_,ho2,rfl⟩ noFill_list_add seq_list_add PySem.F.slot_list_add PySem.F.entry_list_add (PySem.F.args_list_add_2 _ _) (list_addW l b its.toArray its2.toArray n n2 dd dd2 sl sl2 (by simp only [List.size_toArray]; walk_at "l")) ⟨ho,ho2,?_⟩
 rw [ea]
 exact ⟨.ref _,_,I.lnew (t':=s.toks) (r.append r2) (by rw [List.length_append]; walk_at "l"),rfl,q _ I.fresh⟩
noncomputable def vh (K:PySem.W.Frag):R2:=fun x y H Q=>match x,y with
 | .int i,.int j=>Q (.int (i+j)) H
 | .str i,.str j=>i.length+j.length≤sizeLine∧Q (.str (i++j)) H
 | .ref a,.ref b=>∃ xs zs,SqL K H a xs∧SqL K H b zs∧xs.length+zs.length≤sizeLine∧∀ p,H p=none→Q (.ref p) (upd H p (.lst (xs++zs)))
 | _,_=>False
theorem xX:OpR X (binaryOp .Add) (vh X.K):=by
 refine (op_add.or (op_add_str.or wV)).imp fun x y H Q h=>?_
 unfold vh at h
 split at h
 ·exact .inl ⟨_,_,rfl,rfl,h⟩
 ·exact .inr (.inl ⟨_,_,rfl,rfl,h.1,h.2⟩)
 ·obtain ⟨xs,zs,h1,h2,h3,h4⟩:=h
  exact .inr (.inr ⟨_,_,xs,zs,rfl,rfl,h1,h2,h3,h4⟩)
 ·exact h.elim
noncomputable def yu:R2:=fun x y H Q=>match x,y with
 | .int i,.int j=>CMul i j∧Q (.int (i * j)) H
 | _,_=>False
theorem yl:OpR X (binaryOp .Mult) yu:=op_mul.imp fun x y H Q h=>by
 unfold yu at h
 split at h
 ·exact ⟨_,_,rfl,rfl,h.1,h.2⟩
 ·exact h.elim
noncomputable def yF:R2:=fun x y H Q=>match x,y with
 | .int i,.int j=>(0<j∧j<1073741824)∧Q (.int (i / j)) H
 | _,_=>False
theorem xM:OpR X (binaryOp .FloorDiv) yF:=op_fdiv.imp fun x y H Q h=>by
 unfold yF at h
 split at h
 ·exact ⟨_,_,rfl,rfl,h.1,h.2⟩
 ·exact h.elim
noncomputable def yP:R2:=fun x y H Q=>match x,y with
 | .int i,.int j=>0<j∧Q (.int (i % j)) H
 | _,_=>False
theorem yx:OpR X (binaryOp .Mod) yP:=op_mod.imp fun x y H Q h=>by
 unfold yP at h
 split at h
 ·exact ⟨_,_,rfl,rfl,h.1,h.2⟩
 ·exact h.elim
noncomputable def ltS (x y:Str):Bool:=decide (x.cps.toList<y.cps.toList)
noncomputable def rLtU:R2:=fun x y H Q=>match x,y with
 | .int i,.int j=>Q (.bl (decide (i<j))) H
 | .str i,.str j=>Q (.bl (ltS i j)) H
 | _,_=>False
theorem zF:OpR X (compareOp .Lt) rLtU:=(op_lt.or op_lt_str).imp fun x y H Q h=>by
 unfold rLtU at h
 split at h
 ·exact .inl ⟨_,_,rfl,rfl,h⟩
 ·exact .inr ⟨_,_,rfl,rfl,h⟩
 ·exact h.elim
theorem t8:OpR X (compareOp .LtE) (fun x y H Q=>∃ i j,x=.str i∧y=.str j∧Q (.bl (!ltS j i)) H):=by
 intro pins s σ H x y v u Q I rx ry h
 obtain ⟨i,j,rfl,rfl,q⟩:=h
 obtain ⟨t,rfl⟩:=rx
 obtain ⟨t',rfl⟩:=ry
 exact PySem.P.le_str ⟨.bl _,H,I,rfl,q⟩
noncomputable def rLeU:R2:=fun x y H Q=>match x,y with
 | .int i,.int j=>Q (.bl (decide (i≤j))) H
 | .str i,.str j=>Q (.bl (!ltS j i)) H
 | _,_=>False
theorem wH:OpR X (compareOp .LtE) rLeU:=(op_le.or t8).imp fun x y H Q h=>by
 unfold rLeU at h
 split at h
 ·exact .inl ⟨_,_,rfl,rfl,h⟩
 ·exact .inr ⟨_,_,rfl,rfl,h⟩
 ·exact h.elim
noncomputable def rLen (K:PySem.W.Frag):List V→Hp→VK→Prop:=fun xs H Q=>match xs with
 | [.str y]=>y.length≤sizeLine∧Q (.int y.length) H
 | [.ref p]=>(∃ ys,SqL K H p ys∧Q (.int ys.length) H)∨(∃ ys,SqT K H p ys∧Q (.int ys.length) H)∨∃ kvs,H p=some (.dK kvs)∧Q (.int kvs.length) H
 | _=>False
theorem tZ:CallR X (.builtin "len") (rLen X.K):=by
 intro pins s σ H xs us Q I r h
 unfold rLen at h
 split at h
 ·exact call_len pins s σ H _ us Q I r ⟨_,_,rfl,⟨h.1,rfl⟩,h.2⟩
 ·rcases h with ⟨ys,h1,h2⟩ | ⟨ys,h1,h2⟩ | ⟨kvs,h1,h2⟩
  ·exact call_len pins s σ H _ us Q I r ⟨_,_,rfl,.inl ⟨ys,h1,rfl⟩,h2⟩
  ·exact call_len pins s σ H _ us Q I r ⟨_,_,rfl,.inr ⟨ys,h1,rfl⟩,h2⟩
  ·exact call_lenD pins s σ H _ us Q I r ⟨_,kvs,rfl,h1,h2⟩
 ·exact h.elim
noncomputable def rIxU (K:PySem.W.Frag):R2:=fun x y H Q=>match x,y with
 | .ref p,.int i=>(∃ xs v,SqL K H p xs∧atI xs i=some v∧Q v H)∨∃ xs v,SqT K H p xs∧atI xs i=some v∧Q v H
 | .str z,.int i=>z.length≤sizeLine∧∃ c,atI z.cps.toList i=some c∧Q (.str ⟨#[c]⟩) H
 | _,_=>False
theorem zK:IxR X (rIxU X.K):=by
 intro value slice pins s σ H x y v u Q I rx ry h hs
 refine ix_seq value slice pins s σ H x y v u Q I rx ry ?_ hs
 unfold rIxU at h
 split at h
 ·rcases h with ⟨xs,w,h1,h2,h3⟩ | ⟨xs,w,h1,h2,h3⟩
  ·exact .inl ⟨_,xs,_,w,rfl,rfl,h1,h2,h3⟩
  ·exact .inr (.inl ⟨_,xs,_,w,rfl,rfl,h1,h2,h3⟩)
 ·obtain ⟨h1,c,h2,h3⟩:=h
  exact .inr (.inr ⟨_,_,c,rfl,rfl,h1,h2,h3⟩)
 ·exact h.elim
noncomputable def cutS (z:Str) (lo hi:Option Int):Str:=⟨((z.cps.toList.drop (HT.sIx z.length 0 lo)).take (HT.sIx z.length z.length hi - HT.sIx z.length 0 lo)).toArray⟩
end
end L2
namespace L2
open PySem PySem.Spec PyProof.Rows
theorem rY (l:List Nat) (lo hi:Option Int) (h:((l.drop (HT.sIx l.length 0 lo)).take (HT.sIx l.length l.length hi - HT.sIx l.length 0 lo)).length=l.length) :
  (l.drop (HT.sIx l.length 0 lo)).take (HT.sIx l.length l.length hi - HT.sIx l.length 0 lo)=l:=by
 generalize HT.sIx l.length 0 lo=a at *
 generalize HT.sIx l.length l.length hi=b at *
 by_cases hl:l.length=0
 ·have:l=[]:=List.length_eq_zero_iff.mp hl
  subst this; simp
 ·rw [List.length_take,List.length_drop] at h
  have h1:a=0:=by walk_at "l"
  subst h1
  rw [List.drop_zero]
  exact List.take_of_length_le (by walk_at "l")
theorem uz (lo hi:Option Int) (n:Nat):Builtin.Str.strSliceIndices lo hi 1 n=(List.range (HT.sIx n n hi - HT.sIx n 0 lo)).map (HT.sIx n 0 lo + ·):=by
 unfold Builtin.Str.strSliceIndices
 have e1:(match lo with | none=>(0:Int) | some i=>max 0 (min (if i<0 then i+n else i) n))=((HT.sIx n 0 lo:Nat):Int):=by
  cases lo with
  | none=>simp [HT.sIx]
  | some i =>
   simp only [HT.sIx]
   by_cases h:i<0
   ·simp only [h,if_true] <;> walk_at "l"
   ·simp only [h,if_false] <;> walk_at "l"
 have e2:(match hi with | none=>(n:Int) | some i=>max 0 (min (if i<0 then i+n else i) n))=((HT.sIx n n hi:Nat):Int):=by
  cases hi with
  | none=>simp [HT.sIx]
  | some i =>
   simp only [HT.sIx]
   by_cases h:i<0
   ·simp only [h,if_true] <;> walk_at "l"
   ·simp only [h,if_false] <;> walk_at "l"
 rw [← sliceRange_one,← e1,← e2]
 simp only [show (1:Int)>0 by decide,if_true]
 cases lo <;> cases hi <;> rfl
section
variable {X:Cx}
theorem part_of {v:Value} {o:Option Int} (h:IsPart v o):∃ p:Option (Int × Tok),v=partValue p∧p.map (·.1)=o:=by
 cases h with
 | none=>exact ⟨none,rfl,rfl⟩
 | int i t=>exact ⟨some (i,t),rfl,rfl⟩
noncomputable def rSlS (K:PySem.W.Frag):V→Option Int→Option Int→Hp→VK→Prop:=fun x lo hi H Q=>match x with
 | .str z=>z.length≤sizeLine∧Q (.str (cutS z lo hi)) H
 | .ref a=>∃ xs,SqL K H a xs∧∀ p,H p=none→Q (.ref p) (upd H p (.lst (cutV xs lo hi)))
 | _=>False
theorem Bc:SlR X (fun x lo hi H Q=>∃ z,x=.str z∧z.length≤sizeLine∧Q (.str (cutS z lo hi)) H):=by
 intro pins s σ H x v vl vu lo hi sl Q I rx hs pl pu h
 obtain ⟨z,rfl,hz,q⟩:=h
 obtain ⟨t,rfl⟩:=rx
 obtain ⟨p1,rfl,e1⟩:=part_of pl
 obtain ⟨p2,rfl,e2⟩:=part_of pu
 refine ⟨"str",_,F.slot_str_getitem.lookup,typeIs_str s z t,wpAny_getItem_str_slice (l:=p1) (u:=p2) (st:=none) hs rfl ?_⟩
 have hl:z.cps.toList.length=z.length:=by simp [Str.length]
 have ep:slicePicked z p1 p2 none=(List.range (HT.sIx z.length z.length hi - HT.sIx z.length 0 lo)).map (HT.sIx z.length 0 lo + ·):=by
  unfold slicePicked
  rw [e1,e2]
  exact uz lo hi z.length
 have ef:(slicePicked z p1 p2 none).filterMap (z.cps[·]?)=(z.cps.toList.drop (HT.sIx z.length 0 lo)).take (HT.sIx z.length z.length hi - HT.sIx z.length 0 lo):=by
  rw [ep]; exact pick_run z.cps _ _
 unfold sliceMade
 split
 ·rename_i hc
  have hw:(slicePicked z p1 p2 none).length=z.length:=by simpa using hc
  have:cutS z lo hi=z:=by
   unfold cutS
   have e3:((z.cps.toList.drop (HT.sIx z.cps.toList.length 0 lo)).take (HT.sIx z.cps.toList.length z.cps.toList.length hi - HT.sIx z.cps.toList.length 0 lo)).length=z.cps.toList.length:=by
    rw [hl,List.length_take,List.length_drop,hl]
    rw [ep,List.length_map,List.length_range] at hw
    have h0:HT.sIx z.length 0 lo≤z.length:=by
     cases lo with
     | none=>simp [HT.sIx]
     | some i=>simp only [HT.sIx]; split <;> walk_at "l"
    have h1:HT.sIx z.length z.length hi≤z.length:=by
     cases hi with
     | none=>simp [HT.sIx]
     | some i=>simp only [HT.sIx]; split <;> walk_at "l"
    walk_at "l"
   have:=rY z.cps.toList lo hi e3
   rw [hl] at this
   rw [this]
  rw [this] at q
  exact ⟨.str z,H,I,⟨t,rfl⟩,q⟩
 ·rw [ef]
  exact ⟨by
   show (cutS z lo hi).length≤sizeLine
   unfold cutS Str.length
   simp only [List.size_toArray,List.length_take,List.length_drop,hl]
   have:z.cps.toList.length=z.length:=hl
   walk_at "l",⟨.str (cutS z lo hi),H,I.tok _,⟨_,rfl⟩,q⟩⟩
theorem zH:SlR X (rSlS X.K):=by
 intro pins s σ H x v vl vu lo hi sl Q I rx hs pl pu h
 unfold rSlS at h
 split at h
 ·exact Bc pins s σ H _ v vl vu lo hi sl Q I rx hs pl pu ⟨_,rfl,h.1,h.2⟩
 ·obtain ⟨xs,h1,h2⟩:=h
  exact sl_list pins s σ H _ v vl vu lo hi sl Q I rx hs pl pu ⟨_,xs,rfl,h1,h2⟩
 ·exact h.elim
noncomputable def Its (z:Str):It:=⟨fun i _=>i<z.cps.size,fun i H x H'=>H'=H∧∃ c,z.cps[i]? = some c∧x=.str ⟨#[c]⟩,fun i _=>z.cps.size≤i⟩
theorem qg {P:Program} {w:World} {K:PySem.W.Frag} {tg:Expr} {it:Addr} {z:Str} {t:Tok} {ty:String} (hty:ty = "str_ascii_iterator"∨ty = "str_iterator") :
  Turn P w K tg (Its z) [it] it (fun i h=>h.IsStrIter it ty z t i∧i≤z.cps.size) where
 mem:=by simp
 obj:=fun i h st b hb=>by
  have e:b=it:=by simpa using hb
  subst e
  obtain ⟨⟨o,e,c,d⟩,_⟩:=st
  exact ⟨o,e,fun v z=>by rw [d] at z; cases z⟩
 keep:=fun i h h' st k=>let ⟨⟨o,e,c,d⟩,l⟩:=st; ⟨⟨o,k it (by simp) o e,c,d⟩,l⟩
 item:=by
  intro X hP hw hK hc i pins s σ H E I hf st hg
  subst hP hw hK
  obtain ⟨f0,f1,f2,f3,f4,f5⟩:=hf it (by simp)
  obtain ⟨st,_⟩:=st
  have hg:i<z.cps.size:=hg
  have W:Walks X.prog X.w X.A it [it] [it] z.cps.size (SignAt z) (fun i h=>h.IsStrIter it ty z t i):=by
   rcases hty with rfl | rfl
   ·exact Walks.strAscii (I.ok.hd hc) it z t
   ·exact Walks.strWide (I.ok.hd hc) it z t
  refine W.item i s _ _ hg st fun v h' tk hv st' kk=>?_
  obtain ⟨c,u,ec,rfl⟩:=hv
  have I1:Inv X pins σ H { s with heap:=h',toks:=tk }:=I.turned (fun b o hb e=>kk b o (by simpa using hb) e) f0 f1 f3 f4 f5
  obtain ⟨o,e,c',d⟩:=id st'
  exact ⟨_,rfl,go_of (s:={ s with heap:=h',toks:=tk }) e c' d (by rcases hty with rfl | rfl <;> decide) ⟨.str ⟨#[c]⟩,H,I1,⟨u,rfl⟩,⟨rfl,c,ec,rfl⟩,⟨st',hg⟩,fun b hb=>(hf b hb).1⟩⟩
 done:=by
  intro X hP hw hK hc i pins s σ H E I hf st hg
  subst hP hw hK
  obtain ⟨f0,f1,f2,f3,f4,f5⟩:=hf it (by simp)
  obtain ⟨st,hle⟩:=st
  have hg:z.cps.size≤i:=hg
  have e:i=z.cps.size:=Nat.le_antisymm hle hg
  subst e
  have W:Walks X.prog X.w X.A it [it] [it] z.cps.size (SignAt z) (fun i h=>h.IsStrIter it ty z t i):=by
   rcases hty with rfl | rfl
   ·exact Walks.strAscii (I.ok.hd hc) it z t
   ·exact Walks.strWide (I.ok.hd hc) it z t
  exact W.done s _ _ st fun h' tk kk=>⟨rfl,I.turned (fun b o hb e=>kk b o (by simpa using hb) e) f0 f1 f3 f4 f5⟩
 self:=fun A i s Q E st h=>by
  rcases hty with rfl | rfl
  ·exact wpAny_pyIter_striter_ascii st.1 h
  ·exact wpAny_pyIter_striter_wide st.1 h
theorem Am {tg l:Expr} {tl:TE} (hl:PE X l tl):PI X tg l (fun σ H R=>tl σ H fun x H1=>∃ z,x=.str z∧R (Its z) H1):=by
 intro pins s σ H R I h
 refine thn (hl pins s σ H _ I h) fun v s1 hx5=>L2.ex2 hx5 fun x H1 I1 r1 q1=>?_
 obtain ⟨z,rfl,q⟩:=q1
 obtain ⟨t,rfl⟩:=r1
 have fp:∀ b∈[s1.heap.objs.size],FpOk X pins H1 b:=fun b hb=>by
  have e:b=s1.heap.objs.size:=by simpa using hb
  subst e
  exact I1.fpOk (Nat.le_refl _) (I1.hok.fresh (Nat.le_refl _))
 cases ha:z.cps.all (· < 128)
 ·exact wpAny_pyIter_wide ha ⟨s1.heap.objs.size,[s1.heap.objs.size],_,_,H1,rfl,I1.kept (t':=s1.toks) fun b o e=>Heap.get?_push_of_some _ e,qg (.inr rfl),⟨⟨_,Heap.get?_push_size _ rfl,rfl,rfl⟩,Nat.zero_le _⟩,fp,q⟩
 ·exact wpAny_pyIter_ascii ha ⟨s1.heap.objs.size,[s1.heap.objs.size],_,_,H1,rfl,I1.kept (t':=s1.toks) fun b o e=>Heap.get?_push_of_some _ e,qg (.inl rfl),⟨⟨_,Heap.get?_push_size _ rfl,rfl,rfl⟩,Nat.zero_le _⟩,fp,q⟩
end
end L2
set_option Elab.async false
set_option linter.all false
set_option maxRecDepth 100000
set_option maxHeartbeats 4000000
namespace L2
open PySem PySem.Spec PyProof.Rows
structure f9 (J:It) (its:List V) (cond:Hp→Prop):Prop where
 go:∀ i H,cond H→i<its.length→J.go i H
 yld:∀ i H x H',cond H→i<its.length→J.yld i H x H'→H'=H∧its[i]? = some x
 stop:∀ H,cond H→J.stop its.length H
noncomputable def sgnV (z:Str):List V:=z.cps.toList.map fun c=>.str ⟨#[c]⟩
theorem wZ (z:Str):f9 (Its z) (sgnV z) (fun _=>True) where
 go:=fun i H _ h=>by simpa [sgnV,Its] using h
 yld:=fun i H x H' _ _ h=>by
  obtain ⟨rfl,c,e,rfl⟩:=h
  refine ⟨rfl,?_⟩
  unfold sgnV
  rw [List.getElem?_map,Array.getElem?_toList,e]
  rfl
 stop:=fun H _=>by simp [sgnV,Its]
theorem uY (K:PySem.W.Frag) (a:Addr) (xs:List V):f9 (Itl K a) xs (fun H=>SqL K H a xs) where
 go:=fun i H h hi=>⟨xs,xs[i],h,by simp [hi]⟩
 yld:=fun i H x H' h _ y=>⟨y.1,y.2 xs h⟩
 stop:=fun H h=>⟨xs,h,Nat.le_refl _⟩
noncomputable def sO (lo:Int) (n:Nat):List V:=(List.range n).map fun i=>.int (lo+(i:Nat))
theorem tE (lo:Int) (n:Nat):f9 (Itr lo n) (sO lo n) (fun _=>True) where
 go:=fun i H _ h=>by simpa [sO,Itr] using h
 yld:=fun i H x H' _ hi h=>by
  have hi:i<n:=by simpa [sO] using hi
  obtain ⟨rfl,rfl⟩:=h
  refine ⟨rfl,?_⟩
  simp [sO,hi]
 stop:=fun H _=>by simp [sO,Itr]
noncomputable def ForW (J:It) (g:TG) (tb:TS) (D:Ends) (σ:St) (H:Hp):Prop :=
 ∃ W:Nat→Nat→St→Hp→Prop,(∃ m,W 0 m σ H)∧∀ i m σ H,W i m σ H →
   (J.stop i H∧D.nx σ H)∨(J.go i H∧∃ N:St→Hp→Prop,(∀ σ' H',N σ' H'→∃ m',m'<m∧W (i+1) m' σ' H')∧∀ x H',J.yld i H x H'→g x σ H' fun σ2 H2=>tb { D with nx:=N,ct:=N,bk:=D.nx } σ2 H2)
theorem yw (wi:TI) (g:TG) (tb:TS) (D:Ends) (σ:St) (H:Hp):tFor wi g tb D σ H=wi σ H fun J H1=>ForW J g tb D σ H1:=rfl
noncomputable def DP (J:It) (g:TG) (tc:TT) (te:TE) (τ0:St) (H1:Hp) (D:Addr) (Q:VK):Prop :=
 ∃ W:Nat→Nat→St→Hp→Prop,(∃ m,W 0 m τ0 (upd H1 D (.lst [])))∧∀ i m τ H,W i m τ H →
  (J.stop i H∧Q (.ref D) H)∨(J.go i H∧∃ (N1:St→V→Hp→Prop) (N2:St→Hp→Prop),
   (∀ τ2 v H4,N1 τ2 v H4→∃ ys m',H4 D=some (.lst ys)∧ys.length<sizeLine∧m'<m∧W (i+1) m' τ2 (upd H4 D (.lst (ys++[v])))) ∧
   (∀ τ2 H3,N2 τ2 H3→∃ m',m'<m∧W (i+1) m' τ2 H3) ∧
   ∀ x H',J.yld i H x H'→g x τ H' fun τ2 H2=>tc τ2 H2 fun b H3=>if b=true then te τ2 H3 (N1 τ2) else N2 τ2 H3)
theorem vC (wi:TI) (g:TG) (tc:TT) (te:TE) (tn:Nat) (ix:List Nat) (σ:St) (H:Hp) (Q:VK):rT wi g tc te tn ix σ H Q=wi σ H fun J H1=>∀ D,H1 D=none→DP J g tc te (kj tn ix σ) H1 D Q:=rfl
mutual
inductive Rep (K:PySem.W.Frag) (H:Hp):PyData→V→Prop
 | none:Rep K H .none .non
 | bool (b:Bool):Rep K H (.bool b) (.bl b)
 | int (i:Int):Rep K H (.int i) (.int i)
 | str (x:Str):Rep K H (.str x) (.str x)
 | list {a:Addr} {vs:List V} {ds:List PyData}:SqL K H a vs→Reps K H ds vs→Rep K H (.list ds) (.ref a)
 | tuple {a:Addr} {vs:List V} {ds:List PyData}:SqT K H a vs→Reps K H ds vs→Rep K H (.tuple ds) (.ref a)
inductive Reps (K:PySem.W.Frag) (H:Hp):List PyData→List V→Prop
 | nil:Reps K H [] []
 | cons {d:PyData} {v:V} {ds:List PyData} {vs:List V}:Rep K H d v→Reps K H ds vs→Reps K H (d :: ds) (v :: vs)
end
section
variable {X:Cx} {pins:List (Addr × Obj)} {σ:St} {H:Hp} {s:Shared}
mutual
theorem Rep.reads (I:Inv X pins σ H s):∀ {d:PyData} {v:V} {u:Value},Rep X.K H d v→RelV v u→∃ as,Reads s.heap u d as
 | _,_,_,.none,r=>by cases (show _=Value.none from r); exact ⟨_,.none⟩
 | _,_,_,.bool b,r=>by cases (show _=Value.bool b from r); exact ⟨_,.bool b⟩
 | _,_,_,.int i,r=>by obtain ⟨t,e⟩:=r; subst e; exact ⟨_,.int i t⟩
 | _,_,_,.str x,r=>by obtain ⟨t,e⟩:=r; subst e; exact ⟨_,.str x t⟩
 | _,_,_,.list h hs,r=>by
  cases r
  obtain ⟨its,rv,pl,_⟩:=I.list h
  obtain ⟨o,e,c,n,d⟩:=pl.isList
  obtain ⟨as,q⟩:=Reps.reads I hs rv
  exact ⟨_,.list e c d q⟩
 | _,_,_,.tuple h hs,r=>by
  cases r
  obtain ⟨its,rv,⟨o,e,c,n,d⟩,_⟩:=I.tuple h
  obtain ⟨as,q⟩:=Reps.reads I hs rv
  exact ⟨_,.tuple e c d q⟩
theorem Reps.reads (I:Inv X pins σ H s):∀ {ds:List PyData} {vs:List V} {us:List Value},Reps X.K H ds vs→Vals vs us→∃ as,ReadsAll s.heap us ds as
 | _,_,_,.nil,.nil=>⟨_,.nil⟩
 | _,_,_,.cons h hs,.cons r rs=>by
  obtain ⟨as,q⟩:=Rep.reads I h r
  obtain ⟨bs,q'⟩:=Reps.reads I hs rs
  exact ⟨_,.cons q q'⟩
end
noncomputable def rEqD (K:PySem.W.Frag):R2:=fun x y H Q=>∃ d e,Rep K H d x∧Rep K H e y∧d.canLay0=true∧e.canLay0=true∧d.depth≤60∧Q (.bl (PyData.eqv d e)) H
noncomputable def rNeD (K:PySem.W.Frag):R2:=fun x y H Q=>∃ d e,Rep K H d x∧Rep K H e y∧d.canLay0=true∧e.canLay0=true∧d.depth≤60∧Q (.bl (!PyData.eqv d e)) H
theorem zE (hu:X.A.units+64<cLine):OpR X (compareOp .Eq) (rEqD X.K):=by
 intro pins s σ H x y v u Q I rx ry h
 obtain ⟨d,e,h1,h2,h3,h4,h5,q⟩:=h
 obtain ⟨as,r1⟩:=h1.reads I rx
 obtain ⟨bs,r2⟩:=h2.reads I ry
 exact PySem.SeqAt.rcAt_reads r1 r2 h3 h4 (by walk_at "l") X.prog X.w X.xe _ ⟨.bl _,H,I,rfl,q⟩
theorem zm (hu:X.A.units+64<cLine):OpR X (compareOp .NotEq) (rNeD X.K):=by
 intro pins s σ H x y v u Q I rx ry h
 obtain ⟨d,e,h1,h2,h3,h4,h5,q⟩:=h
 obtain ⟨as,r1⟩:=h1.reads I rx
 obtain ⟨bs,r2⟩:=h2.reads I ry
 exact PySem.SeqAt.rcNeAt_reads r1 r2 h3 h4 (by walk_at "l") X.prog X.w X.xe _ ⟨.bl _,H,I,rfl,q⟩
noncomputable def rEqU (K:PySem.W.Frag):R2:=fun x y H Q=>match x,y with
 | .int i,.int j=>Q (.bl (decide (i=j))) H
 | .str i,.str j=>Q (.bl (decide (i=j))) H
 | .bl i,.bl j=>Q (.bl (decide (i=j))) H
 | _,_=>rEqD K x y H Q
theorem Ao (hu:X.A.units+64<cLine):OpR X (compareOp .Eq) (rEqU X.K):=(op_eq.or (zE hu)).imp fun x y H Q h=>by
 unfold rEqU at h
 split at h
 ·refine .inl ⟨rfl,?_⟩; simpa using h
 ·refine .inl ⟨rfl,?_⟩; simpa using h
 ·refine .inl ⟨rfl,?_⟩; simpa using h
 ·exact .inr h
noncomputable def rNeU (K:PySem.W.Frag):R2:=fun x y H Q=>match x,y with
 | .int i,.int j=>Q (.bl (!decide (i=j))) H
 | .str i,.str j=>Q (.bl (!decide (i=j))) H
 | .bl i,.bl j=>Q (.bl (!decide (i=j))) H
 | _,_=>rNeD K x y H Q
theorem Bd (hu:X.A.units+64<cLine):OpR X (compareOp .NotEq) (rNeU X.K):=(op_ne.or (zm hu)).imp fun x y H Q h=>by
 unfold rNeU at h
 split at h
 ·refine .inl ⟨rfl,?_⟩; simpa using h
 ·refine .inl ⟨rfl,?_⟩; simpa using h
 ·refine .inl ⟨rfl,?_⟩; simpa using h
 ·exact .inr h
noncomputable def rAll (K:PySem.W.Frag):List V→Hp→VK→Prop:=fun xs H Q=>match xs with
 | [.ref a]=>∃ bs:List Bool,SqL K H a (bs.map V.bl)∧Q (.bl (bs.all id)) H
 | _=>False
theorem sV (hc:X.calm=true):CallR X (.builtin "all") (rAll X.K):=by
 intro pins s σ H xs us Q I r h
 unfold rAll at h
 split at h
 ·rename_i a
  obtain ⟨bs,e,q⟩:=h
  obtain ⟨u,rfl,ru⟩:=Vals.one r
  cases ru
  obtain ⟨its,rv,pl,hz⟩:=I.list e
  have hl:s.heap.IsList a its.toArray:=pl.isList
  obtain ⟨o,ho,hoc,n,hod⟩:=id hl
  have hlen:=rv.length
  rw [List.length_map] at hlen
  refine call_all_walk (wpAny_pyIter_list hl ?_)
  have hne:a≠s.heap.objs.size:=Nat.ne_of_lt (Heap.lt_size ho)
  have hhd:X.A.in1.handled=none:=I.ok.hd hc
  refine ⟨s.heap.objs.size,_,_,_,_,_,fun i=>bs.getD i true,rfl,Walks.list hhd s.heap.objs.size a hne its.toArray,⟨⟨_,Heap.get?_push_size _ rfl,rfl,rfl⟩,⟨_,Heap.get?_push_of_some _ ho,hoc,n,hod⟩⟩,?_,fun h' tk hk=>?_⟩
  ·intro i v s' Q' E' hv hq
   have hv:its.toArray[i]? = some v:=hv
   have hv':its[i]? = some v:=by simpa using hv
   have hi:i<bs.length:=by
    have:=(List.getElem?_eq_some_iff.mp hv').1
    walk_at "l"
   obtain ⟨w',e1,r1⟩:=rv.get (i:=i) (x:=V.bl bs[i]) (by simp [hi])
   rw [hv'] at e1
   cases e1
   cases (show v=Value.bool bs[i] from r1)
   have e2:bs.getD i true=bs[i]:=by simp [List.getD,hi]
   have hq:Q' (bs.getD i true) s':=hq
   rw [e2] at hq
   exact wpAny_truthy_bool hq
  ·have e3:((List.range its.toArray.size).all fun i=>bs.getD i true)=bs.all id:=by
    rw [List.size_toArray,← hlen]
    apply Bool.eq_iff_iff.mpr
    simp only [List.all_eq_true,List.mem_range,id]
    constructor
    ·intro h b hb
     obtain ⟨i,hi,rfl⟩:=List.mem_iff_getElem.mp hb
     have:=h i hi
     simpa [List.getD,hi] using this
    ·intro h i hi
     have:=h bs[i] (List.getElem_mem hi)
     simpa [List.getD,hi] using this
   rw [e3]
   refine ⟨.bl (bs.all id),H,?_,rfl,q⟩
   exact I.kept (t':=tk) fun b o e=>hk b o (by simp; exact Nat.ne_of_lt (Heap.lt_size e)) (Heap.get?_push_of_some _ e)
 ·exact h.elim
end
end L2
set_option Elab.async false
set_option linter.all false
set_option maxRecDepth 100000
set_option maxHeartbeats 4000000
namespace L2
open PySem PySem.Spec PyProof.Rows
section
variable {X:Cx} {pins:List (Addr × Obj)} {σ:St} {H:Hp} {s:Shared} {h':Heap}
end
section
variable {X:Cx}
end
end L2
set_option Elab.async false
set_option linter.all false
set_option maxRecDepth 100000
set_option maxHeartbeats 4000000
namespace L2
open PySem PySem.Spec PyProof.Rows
noncomputable def rlN (sc:Scope) (names:List (Str × NameKind)):List (Str × NameKind):=names.map fun y=>if (y.2 == NameKind.free && sc.kind == .function && sc.names.lookup y.1 == some .cell)=true then (y.1,NameKind.cell) else (y.1,y.2)
noncomputable def vis2 (o:Option NameKind):Bool:=o == some .cell || o == some .free
noncomputable def Ag (sc scope:Scope) (N cn:List Str) (ix:List Nat):Bool :=
 scope.kind == .function && scope.names.all (fun y=>y.2 != .cell) && scope.names.all (fun y=>y.2 != .free || vis2 (sc.names.lookup y.1)) && scope.names.all (fun y=>y.2 != .local || scope.names.lookup y.1 == some .local) &&
 ix.length == cn.length && (List.range ix.length).all (fun k=>match ix[k]?,cn[k]? with
  | some j,some y=>N[j]? == some y && vis2 (sc.names.lookup y) && scope.names.contains (y,NameKind.free) && vis2 ((rlN sc scope.names).lookup y)
  | _,_=>false) &&
 (rlN sc scope.names).all (fun y=>!(y.2 == .cell || y.2 == .free) || scope.names.contains (y.1,NameKind.free))
theorem nQ {o:Option NameKind} (h:vis2 o=true):o=some .cell∨o=some .free:=by
 unfold vis2 at h
 simpa using h
theorem cO.of {X:Cx} {sc scope:Scope} {N tn cn:List Str} {ix:List Nat} (hsc:X.env.scope=sc) (hN:X.N=N) (h:Ag sc scope N cn ix=true):cO X scope tn cn ix:=by
 unfold Ag at h
 simp only [Bool.and_eq_true] at h
 obtain ⟨⟨⟨⟨⟨⟨h1,h2⟩,h3⟩,h4⟩,h5⟩,h6⟩,h7⟩:=h
 rw [List.all_eq_true] at h2 h3 h4 h6 h7
 have erl:(relabel scope X.env).names=rlN sc scope.names:=by
  unfold relabel rlN
  rw [← hsc]
  rfl
 refine ⟨by simpa using h1,fun y hy=>by simpa using h2 y hy,fun y hy hk=>?_,fun y hy hk=>?_,by simpa using h5,fun k j hk=>?_,fun x hx=>?_⟩
 ·have:=h3 y hy
  rw [hk] at this
  rw [hsc]
  exact nQ (by simpa using this)
 ·have:=h4 y hy
  rw [hk] at this
  simpa using this
 ·have hk':k<ix.length:=(List.getElem?_eq_some_iff.mp hk).1
  have:=h6 k (List.mem_range.mpr hk')
  rw [hk] at this
  cases e:cn[k]? with
  | none=>rw [e] at this; cases this
  | some y =>
   rw [e] at this
   simp only [Bool.and_eq_true] at this
   obtain ⟨⟨⟨a1,a2⟩,a3⟩,a4⟩:=this
   refine ⟨y,rfl,by rw [hN]; simpa using a1,by rw [hsc]; exact nQ a2,by simpa using a3,by rw [erl]; exact nQ a4⟩
 ·rw [erl] at hx
  have mem:∃ k,(x,k)∈rlN sc scope.names∧(k=.cell∨k=.free):=by
   rcases hx with hx | hx
   ·exact ⟨_,PySem.mem_of_lookup hx,.inl rfl⟩
   ·exact ⟨_,PySem.mem_of_lookup hx,.inr rfl⟩
  obtain ⟨k,hm,hk⟩:=mem
  have:=h7 _ hm
  rcases hk with rfl | rfl <;> simpa using this
structure Cal (P:Program) (w:World) (K:PySem.W.Frag) (mg:Str→Option Value) (base:Heap) (k:Nat) (x:Str) (ps:List Str) (sp:Sp):Prop where
 ex:∃ (g:Addr) (fd:FuncData),mg x=some (.ref g)∧PySem.W.keepIn K (.ref g)=true∧Binds K fd ps []∧FnOk P w K mg base CX0 k g fd ps sp
section
variable {X:Cx} {k:Nat} {x:Str} {ps:List Str} {sp:Sp} {p pos:Pos} {e:Expr} {es:List Expr} {t:TA}
theorem Ab (C:Cal X.prog X.w X.K X.mg X.base k x ps sp) (hr:Room k X.A) (ha:PA X (e :: es) t) (hg:Gl X x:=by rfl) (hdb:(x == ("__debug__" : Str))=false:=by decide) (he:starEach (e :: es) X.env=(false,eval e X.env) :: starEach es X.env:=by rfl)
  (hpl:(backTo pos (starEach es X.env)).any (·.1)=false:=by rfl):PE X (.Call (.Name x p) (e :: es) [] pos) (tCall sp [] E0 t):=by
 obtain ⟨g,fd,hm,hk,hb,F⟩:=C.ex
 exact pe_call F hr hg hm hk hb .nil pass0 ha hdb he hpl
end
theorem Fun.cal {P:Program} {w:World} {K:PySem.W.Frag} {mg:Str→Option Value} {base:Heap} {k:Nat} {x qual:Str} {st:Stmt} {f:Addr} {fd:FuncData} {ps:List Str} {sp:Sp} (F:Fun K x qual st f fd) (hm:mg x=some (.ref f))
  (G:FnOk P w K mg base CX0 k f fd ps sp)
  (h:∀ (kV doc pm:Value) (an:Option Addr) (cdv ct:Value) (us:List Value),us.length=ps.length→bindArgs (PySem.W.fnOf x qual (defArgs st) (defBody st) (defScope st) .none kV doc pm an cdv ct) ⟨us,[]⟩=pure (ps.zip us)):Cal P w K mg base k x ps sp :=
 ⟨f,fd,hm,F.kp,F.binds h,G⟩
noncomputable def GlS (mg:Str→Option Value) (x:Str) (z:Str):Prop:=∃ t,mg x=some (.str z t)
noncomputable def GlI (mg:Str→Option Value) (x:Str) (i:Int):Prop:=∃ t,mg x=some (.int i t)
theorem Dq {X:Cx} {x z:Str} {pos:Pos} (h:GlS X.mg x z) (hg:Gl X x:=by rfl) (hd:(x == ("__debug__" : Str))=false:=by decide):PE X (.Name x pos) (tC (.str z)):=by
 obtain ⟨t,e⟩:=h
 exact pe_glob hg e ⟨t,rfl⟩ hd
theorem De {X:Cx} {x:Str} {i:Int} {pos:Pos} (h:GlI X.mg x i) (hg:Gl X x:=by rfl) (hd:(x == ("__debug__" : Str))=false:=by decide):PE X (.Name x pos) (tC (.int i)):=by
 obtain ⟨t,e⟩:=h
 exact pe_glob hg e ⟨t,rfl⟩ hd
theorem wI:bootBuiltins "str" = some (.type "str"):=by decide +kernel
theorem wG:bootBuiltins "int" = some (.type "int"):=by decide +kernel
theorem xg:bootBuiltins "bool" = some (.type "bool"):=by decide +kernel
theorem kh:bootBuiltins "list" = some (.type "list"):=by decide +kernel
theorem oY:bootBuiltins "tuple" = some (.type "tuple"):=by decide +kernel
theorem cY:bootBuiltins "isinstance" = some (.builtin "isinstance"):=by decide +kernel
theorem Ah:bootBuiltins "all" = some (.builtin "all"):=by decide +kernel
theorem fM:bootBuiltins "len" = some (.builtin "len"):=by decide +kernel
theorem mK {X:Cx} {x:Str} {T:String} {pos:Pos} (hm:X.mg x=none) (hv:bootBuiltins x=some (.type T)) (hg:Gl X x:=by rfl) (hn:x ≠ "__name__" := by decide) (hd:(x == ("__debug__" : Str))=false:=by decide):PE X (.Name x pos) (tC (.ty T)) :=
 pe_bltn hg hm hv rfl hn hd
noncomputable def inS (i j:Str):Bool:=!(Builtin.Str.occurrences j i 0 j.length 1).isEmpty
theorem yp (c:Nat) (j:Str):inS ⟨#[c]⟩ j=decide (c∈j.cps.toList):=PySem.StrLaws.found_one j c
noncomputable def rInU (K:PySem.W.Frag) (neg:Bool):R2:=fun x y H Q=>match x,y with
 | .str i,.str j=>Q (.bl (if neg then !inS i j else inS i j)) H
 | _,.ref p=>(∃ o,DGet H p x o∧Q (.bl (if neg then !o.isSome else o.isSome)) H)∨rIn K neg x y H Q
 | _,_=>False
theorem zO {X:Cx} (hu:X.A.units+64<cLine):OpR X (compareOp .In) (rInU X.K false):=by
 intro pins s σ H x y v u Q I rx ry h
 unfold rInU at h
 split at h
 ·exact op_in_str pins s σ H _ _ v u Q I rx ry ⟨_,_,rfl,rfl,h⟩
 ·rcases h with ⟨o,g,q⟩ | h
  ·cases ry
   exact d_in (by walk_at "l") I g rx fun s3 I3=>⟨.bl o.isSome,H,I3,rfl,q⟩
  ·exact op_in_seq pins s σ H _ _ v u Q I rx ry h
 ·exact h.elim
theorem Same.upd {H H':Hp} {p:Addr} {o:HO} (h:Same H H') (hp:H' p=none):Same H (upd H' p o):=fun b u e=>by
 have e':=h b u e
 rw [upd_ne (ne_of_none e' hp)]
 exact e'
theorem Same.lst {K:PySem.W.Frag} {H H':Hp} {a:Addr} {xs:List V} (e:Same H H') (h:SqL K H a xs):SqL K H' a xs:=e.seq h
theorem Same.tup {K:PySem.W.Frag} {H H':Hp} {a:Addr} {xs:List V} (e:Same H H') (h:SqT K H a xs):SqT K H' a xs:=by
 rcases h with (h | ⟨o,h⟩) | h
 ·exact .inl (.inl (e _ _ h))
 ·exact .inl (.inr ⟨o,e _ _ h⟩)
 ·exact .inr h
mutual
theorem Rep.same {K:PySem.W.Frag} {H H':Hp} (s:Same H H'):∀ {d:PyData} {v:V},Rep K H d v→Rep K H' d v
 | _,_,.none=>.none
 | _,_,.bool b=>.bool b
 | _,_,.int i=>.int i
 | _,_,.str x=>.str x
 | _,_,.list h hs=>.list (s.lst h) (Reps.same s hs)
 | _,_,.tuple h hs=>.tuple (s.tup h) (Reps.same s hs)
theorem Reps.same {K:PySem.W.Frag} {H H':Hp} (s:Same H H'):∀ {ds:List PyData} {vs:List V},Reps K H ds vs→Reps K H' ds vs
 | _,_,.nil=>.nil
 | _,_,.cons h hs=>.cons (Rep.same s h) (Reps.same s hs)
end
section
variable {X:Cx} {K:PySem.W.Frag}
theorem kEq (hu:X.A.units+64<cLine) (hK:X.K=K:=by rfl):OpR X (compareOp .Eq) (rEqU K):=by subst hK; exact Ao hu
theorem kNe (hu:X.A.units+64<cLine) (hK:X.K=K:=by rfl):OpR X (compareOp .NotEq) (rNeU K):=by subst hK; exact Bd hu
theorem kIn (hu:X.A.units+64<cLine) (hK:X.K=K:=by rfl):OpR X (compareOp .In) (rInU K false):=by subst hK; exact zO hu
theorem kAll (hc:X.calm=true:=by rfl) (hK:X.K=K:=by rfl):CallR X (.builtin "all") (rAll K):=by subst hK; exact sV hc
variable {tg l:Expr} {tl:TE}
end
theorem GZ {α:Type} {a:α} {p:α→Prop}:(∃ v,a=v∧p v)↔p a:=⟨fun ⟨_,e,h⟩=>e ▸ h,fun h=>⟨a,rfl,h⟩⟩
end L2
set_option Elab.async false
set_option linter.all false
set_option maxRecDepth 100000
set_option maxHeartbeats 4000000
namespace L2
open PySem PySem.Spec PyProof.Rows
noncomputable abbrev Ents:=Array DictEntry
noncomputable def RawD (h:Heap) (d:Addr) (es:Ents) (ep:Nat):Prop:=∃ o,h.get? d=some o∧o.ExactDict∧o.data=.dict es ep
theorem RawD.typ {s:Shared} {d:Addr} {es:Ents} {ep:Nat} (x:RawD s.heap d es ep):s.TypeIs (.ref d) "dict" := let ⟨o,e,c,_⟩:=x; ⟨o,e,c.1⟩
section
variable {prog:Program} {w:World} {A:Around} {E:Value→Shared→Prop} {s:Shared} {d it:Addr} {es:Ents} {ep i:Nat}
theorem uZ {Q:Value→Shared→Prop} (lo:(d == sysModules)=false) (x:RawD s.heap d es ep)
  (q:Q (.ref s.heap.objs.size) { s with heap:=s.heap.push { cls:=.type "dict_keyiterator",data:=.fields #[.ref d,.int 0 0,.int es.size 0,.int ep 0] } }):wpAny (model prog w) A (pyIter (.ref d)) Q E s:=by
 obtain ⟨o,ho,hc,hdat⟩:=id x
 refine wpAny_pyIter_slot x.typ F.slot_dict_iter (wpAny_call_entry F.slot_dict_iter x.typ F.entry_dict_iter ?_ (F.args_dict_iter_1 _))
 unfold Builtin.«dict.__iter__»
 refine wpAny_bind ?_
 unfold Builtin.Dict.dictSlotNone
 refine wpAny_bind (wpAny_notOrdered_dict x.typ ?_)
 refine (show wpAny _ _ (pure (Value.ref d)) _ _ s from wpAny_pure ?_)
 refine (show wpAny _ _ (Builtin.Dict.showsAll d >>= _) _ _ s from ?_)
 unfold Builtin.Dict.showsAll
 rw [if_neg (by rw [lo]; decide)]
 refine wpAny_bind (wpAny_pure (wpAny_bind (wpAny_dictEntries ho hdat (wpAny_bind (wpAny_dictEpoch ho hdat (wpAny_bind (wpAny_newObj_type (wpAny_pure ⟨_,rfl, "dict_keyiterator",_,⟨_,Heap.get?_push_size _ rfl,rfl⟩,F.slot_dict_keyiterator_next.lookup,?_⟩))))))))
 simpa [rawInt] using q
theorem vU {Q:Option Value→Shared→Prop} (hit:s.heap.IsKeyIter it d i es.size ep) (x:RawD s.heap d es ep) (hx:i<es.size)
  (q:∀ h',h'.IsKeyIter it d (i+1) es.size ep→Heap.SameBut it s.heap h'→Q (some es[i].key) { s with heap:=h' }):wpAny (model prog w) A (pyNext (.ref it)) Q E s:=by
 obtain ⟨o,ho,hc,hd⟩:=id hit
 obtain ⟨od,hod,hcd,hdd⟩:=id x
 have ty:=hit.typeIs
 unfold pyNext
 refine wpAny_bind (wpAny_attempt (wpAny_callSpecial?_slot (name:=Str.ofString "__next__") ty F.slot_dict_keyiterator_next (wpAny_call_entry F.slot_dict_keyiterator_next ty F.entry_dict_keyiterator_next ?_ (F.args_dict_keyiterator_next_1 _))))
 refine wpAny_bind (wpAny_pure (wpAny_bind (wpAny_bind ?_)))
 first | refine wpAny_bind (wpAny_typeNameOfWhole_keyiter ty (wpAny_pure ?_)) | refine wpAny_bind (wpAny_typeNameOf_keyiter ty (wpAny_pure ?_))
 refine wpAny_bind (wpAny_fieldsOf ho hd ?_)
 simp only [show Builtin.Dict_items.ownsTuple "dict_keyiterator" = false by decide,Bool.false_eq_true,if_false]
 refine (show wpAny _ _ (if (Value.ref d == Value.none)=true then _ else _) _ _ s from ?_)
 rw [if_neg (show ¬ ((Value.ref d == Value.none)=true) by intro h; cases h)]
 refine wpAny_bind (wpAny_pure (wpAny_bind (wpAny_dictEntries hod hdd ?_)))
 rw [if_neg (by intro h; simp at h)]
 refine wpAny_bind (wpAny_pure (wpAny_bind (wpAny_dictEpoch hod hdd ?_)))
 rw [if_neg (by intro h; simp at h)]
 refine wpAny_pure ?_
 simp only [show ¬ ((i:Int)<0) by walk_at "l",if_false,Int.toNat_natCast,Array.getElem?_eq_getElem hx]
 refine wpAny_bind ?_
 first | refine wpAny_bind (wpAny_typeNameOfWhole_keyiter ty (wpAny_pure ?_)) | refine wpAny_bind (wpAny_typeNameOf_keyiter ty (wpAny_pure ?_))
 refine wpAny_bind (wpAny_isOneOf_keyiter ty ?_)
 refine (show wpAny _ _ (setField (.ref it) 1 (rawInt ((i:Int)+1)) >>= _) _ _ s from wpAny_bind (wpAny_setField ho hd (by simp) ?_))
 have hit':(s.heap.update it (Obj.mapFields (·.setIfInBounds 1 (rawInt ((i:Int)+1))))).IsKeyIter it d (i+1) es.size ep :=
  ⟨_,Heap.get?_update_self _ ho (Obj.isFreed_of_fields (Obj.data_mapFields hd _)),(Obj.cls_mapFields ..).trans hc,by rw [Obj.data_mapFields hd]; simp [rawInt]⟩
 refine wpAny_bind (wpAny_holding (wpAny_bind (wpAny_isOneOf_keyiter (s:={ s with heap:=s.heap.update it (Obj.mapFields (·.setIfInBounds 1 (rawInt ((i:Int)+1)))) }) hit'.typeIs ?_)))
 refine (show wpAny _ _ (pure es[i].key) _ _ _ from wpAny_pure (wpAny_pure ⟨_,rfl,wpAny_pure (q _ hit' (Heap.SameBut.update ..))⟩))
theorem vK {Q:Option Value→Shared→Prop} (hh:A.handled=none) (hit:s.heap.IsKeyIter it d es.size es.size ep) (x:RawD s.heap d es ep) (q:∀ h',Heap.ExtBut it s.heap h'→Q none { s with heap:=h' }) :
  wpAny (model prog w) A (pyNext (.ref it)) Q E s:=by
 obtain ⟨o,ho,hc,hd⟩:=id hit
 obtain ⟨od,hod,hcd,hdd⟩:=id x
 have ty:=hit.typeIs
 unfold pyNext
 refine wpAny_bind (wpAny_attempt (wpAny_callSpecial?_slot (name:=Str.ofString "__next__") ty F.slot_dict_keyiterator_next (wpAny_call_entry F.slot_dict_keyiterator_next ty F.entry_dict_keyiterator_next ?_ (F.args_dict_keyiterator_next_1 _))))
 refine wpAny_bind (wpAny_pure (wpAny_bind (wpAny_bind ?_)))
 first | refine wpAny_bind (wpAny_typeNameOfWhole_keyiter ty (wpAny_pure ?_)) | refine wpAny_bind (wpAny_typeNameOf_keyiter ty (wpAny_pure ?_))
 refine wpAny_bind (wpAny_fieldsOf ho hd ?_)
 simp only [show Builtin.Dict_items.ownsTuple "dict_keyiterator" = false by decide,Bool.false_eq_true,if_false]
 refine (show wpAny _ _ (if (Value.ref d == Value.none)=true then _ else _) _ _ s from ?_)
 rw [if_neg (show ¬ ((Value.ref d == Value.none)=true) by intro h; cases h)]
 refine wpAny_bind (wpAny_pure (wpAny_bind (wpAny_dictEntries hod hdd ?_)))
 rw [if_neg (by intro h; simp at h)]
 refine wpAny_bind (wpAny_pure (wpAny_bind (wpAny_dictEpoch hod hdd ?_)))
 rw [if_neg (by intro h; simp at h)]
 refine wpAny_pure ?_
 simp only [show ¬ ((es.size:Int)<0) by walk_at "l",if_false,Int.toNat_natCast,Array.getElem?_eq_none (Nat.le_refl es.size)]
 refine wpAny_bind ?_
 first | refine wpAny_bind (wpAny_typeNameOfWhole_keyiter ty (wpAny_pure ?_)) | refine wpAny_bind (wpAny_typeNameOf_keyiter ty (wpAny_pure ?_))
 refine (show wpAny _ _ (setField (.ref it) 0 .none >>= _) _ _ s from wpAny_bind (wpAny_setField ho hd (by simp) ?_))
 refine (show wpAny _ _ (newExc (.type "StopIteration") [] >>= _) _ _ _ from wpAny_bind ?_)
 simp only [newExc,newTuple]
 refine wpAny_bind (wpAny_newObj_type ?_ (by size_fits))
 refine wpAny_bind (m:=firstArgMember _ _) (wpAny_of_eq (a:=Value.none) (by first | rfl | (simp only [firstArgMember]; rfl)) (wpAny_newObj_type ?_ (by size_fits)))
 simp only [raiseNew]
 refine wpAny_bind (wpAny_handled ?_)
 rw [show A.in1.handled=none from hh]
 refine wpAny_bind (wpAny_pure (wpAny_throw ?_))
 refine wpAny_bind (wpAny_isInstance (b:=true) (T := "StopIteration") ⟨_,Heap.get?_push_size _ rfl,rfl⟩ isSubtype_stop ?_)
 exact wpAny_pure (q _ (((Heap.SameBut.update ..).extBut.push _).push _))
theorem RawD.at {h h':Heap} (x:RawD h d es ep) (e:∀ o,h.get? d=some o→h'.get? d=some o):RawD h' d es ep:=let ⟨o,ho,r⟩:=x; ⟨o,e o ho,r⟩
theorem RawD.lt {h:Heap} (x:RawD h d es ep):d<h.objs.size:=let ⟨_,e,_⟩:=x; Heap.lt_size e
theorem rQ (hh:A.handled=none) (I:Addr) (hne:d≠I):Walks prog w A I [I,d] [I] es.size (fun i v=>∃ e,es[i]? = some e∧v=e.key) (fun i h=>h.IsKeyIter I d i es.size ep∧RawD h d es ep) where
 sub:=fun b hb=>by simp at hb; simp [hb]
 frame:=fun _ _ _ st hk=>⟨st.1.at fun o e=>hk I (by simp) o e,st.2.at fun o e=>hk d (by simp) o e⟩
 item:=fun i s Q E hi st hQ=>vU st.1 st.2 hi fun h' a b=>hQ _ h' s.toks ⟨es[i],by simp [hi],rfl⟩ ⟨a,st.2.at fun o e=>b.extBut d o hne e⟩ fun c o hb e=>b.extBut c o (fun h=>hb (by simp [h])) e
 done:=fun s Q E st hQ=>vK hh st.1 st.2 fun h' he'=>hQ h' s.toks fun b o hb e=>he' b o (fun h=>hb (by simp [h])) e
 self:=fun _ _ _ _ st hQ=>wpAny_pyIter_keyiter st.1 hQ
theorem yK (lo:(d == sysModules)=false):PySem.W.KdlSrc prog w "dict" d d es.size (fun i v=>∃ e,es[i]? = some e∧v=e.key) (fun h=>RawD h d es ep) where
 type:=fun _ x=>x.typ
 there:=fun _ x=>⟨x.lt,x.lt⟩
 keep:=fun _ _ x hk=>x.at fun o e=>hk d (.inl rfl) o e
 notList:=by decide
 notTuple:=by decide
 hint:=fun _ _ _ _ x hq=>PySem.W.kdl_hint_dict x.typ hq
 iter:=fun _ _ hh x=>⟨_,_,(fun _ _ hq=>uZ lo x hq),rQ hh _ (Nat.ne_of_lt x.lt),⟨⟨_,Heap.get?_push_size _ rfl,rfl,rfl⟩,x.at fun o e=>Heap.get?_push_of_some _ e⟩⟩
end
theorem Paired.n0 {α β:Type} {R:α→β→Prop} {bs:List β} (h:Paired R [] bs):bs=[]:=by cases h; rfl
theorem Paired.c {α β:Type} {R:α→β→Prop} {a:α} {as:List α} {bs:List β} (h:Paired R (a :: as) bs):∃ b cs,bs=b :: cs∧R a b∧Paired R as cs:=by
 cases h with
 | cons r t=>exact ⟨_,_,rfl,r,t⟩
noncomputable def cN (H:Hp) (ys:List V) (ks:List (List Key)):Prop:=Paired (fun (v:V) (k:List Key)=>∃ b,v=.ref b∧H b=some (.tup (k.map kV))) ys ks
section
variable {X:Cx}
noncomputable def p6:List V→Hp→VK→Prop:=fun xs H Q=>match xs with
 | [.ref p]=>∃ kvs,H p=some (.dT kvs)∧∀ ys l,cN H ys (kvs.map (·.1))→H l=none→Q (.ref l) (upd H l (.lst ys))
 | _=>False
theorem yJ {prog:Program} {w:World} {H:Hp} {kvs:List (List Key × V)} {xs:List (List Key × Addr × Value)}
  (h:Paired (fun (p:List Key × V) (q:List Key × Addr × Value)=>p.1=q.1∧H q.2.1=some (.tup (p.1.map kV))∧RelV p.2 q.2.2) kvs xs) :
  cN H (xs.map fun q=>.ref q.2.1) (kvs.map (·.1))∧Vals (xs.map fun q=>.ref q.2.1) ((xs.map (entryOfKey (tupleKind (mixKind prog w)))).map (·.key)):=by
 induction h with
 | nil=>exact ⟨.nil,.nil⟩
 | cons r t ih=>exact ⟨.cons ⟨_,rfl,r.2.1⟩ ih.1,.cons rfl ih.2⟩
theorem qG (hc:X.calm=true):CallR X (.type "list") p6:=by
 intro pins s σ H xs us Q I r h
 unfold p6 at h
 split at h
 ·rename_i p
  obtain ⟨kvs,e,q⟩:=h
  obtain ⟨u,rfl,ru⟩:=Vals.one r
  cases ru
  obtain ⟨z,y,ps,rel,o,es,ep,h1,h2,h3,h4,h5⟩:=(show ObjOk X.prog X.w H s.heap p (.dT kvs) from I.hok p _ e)
  obtain ⟨ta,va⟩:=yJ (prog:=X.prog) (w:=X.w) rel
  have hlen:es.size=kvs.length:=by
   have:=congrArg List.length h4
   rw [Array.length_toList,List.length_map] at this
   rw [this]; exact rel.length.symm
  refine PySem.W.kdl_call (yK (es:=es) (ep:=ep) y) (I.ok.hd hc) ⟨o,h1,h2,h3⟩ (by walk_at "l") fun h' tk acc c kp eo hacc=>?_
  have hv:acc.toList=(ps.map (entryOfKey (tupleKind (mixKind X.prog X.w)))).map (·.key):=by
   apply List.ext_getElem?
   intro i
   by_cases hi:i<es.size
   ·have hi2:i<acc.size:=by rw [hacc.1]; exact hi
    obtain ⟨en,e1,e2⟩:=hacc.2 i acc[i] (by simp [hi2])
    rw [← h4,List.getElem?_map,Array.getElem?_toList,Array.getElem?_toList,e1]
    simp [hi2,e2]
   ·rw [← h4,List.getElem?_map,Array.getElem?_toList,Array.getElem?_toList,Array.getElem?_eq_none (by rw [hacc.1]; exact Nat.le_of_not_lt ‹_›),Array.getElem?_eq_none (by exact Nat.le_of_not_lt ‹_›)]
    rfl
  refine ⟨.ref s.heap.objs.size,_,I.laid (t':=tk) kp (Nat.le_refl _) (show ObjOk X.prog X.w _ h' _ (.lst (ps.map fun q=>.ref q.2.1)) from ⟨?_,acc.toList,c,?_,?_⟩),rfl,q _ _ ta (I.hok.fresh (Nat.le_refl _))⟩
  ·rw [List.length_map,← rel.length]; exact z
  ·rw [hv]; exact va
  ·rw [Array.toArray_toList]; exact eo
 ·exact h.elim
end
end L2
set_option Elab.async false
set_option linter.all false
set_option maxRecDepth 100000
set_option maxHeartbeats 4000000
namespace Tim
open PySem PyProof.Rows
noncomputable def R (r:Value→Int) (xs:Array Keyed) (i:Nat):Int:=match xs[i]? with
 | some p=>r p.1
 | none=>0
theorem cj {r:Value→Int} {xs ys:Array Keyed} {i j:Nat} (h:xs[i]? = ys[j]?):R r xs i=R r ys j:=by unfold R; rw [h]
noncomputable def Cmp (prog:Program) (w:World) (A:Around) (s:Shared) (κ:SortKind) (r:Value→Int) (P:Value→Prop):Prop :=
 ∀ x y,P x→P y→∀ (Q:Bool→Shared→Prop) (E:Value→Shared→Prop),Q (decide (r x<r y)) s→wpAny (model prog w) A (keyLt' κ x y) Q E s
noncomputable def AllP (P:Value→Prop) (xs:Array Keyed):Prop:=∀ p∈xs.toList,P p.1
theorem AllP.perm {P:Value→Prop} {xs ys:Array Keyed} (h:AllP P xs) (hp:ys.Perm xs):AllP P ys:=fun p hm=>h p ((Array.perm_iff_toList_perm.mp hp).mem_iff.mp hm)
theorem AllP.at {P:Value→Prop} {xs:Array Keyed} (h:AllP P xs) {i:Nat} {p:Keyed} (e:xs[i]? = some p):P p.1:=h p (by
 obtain ⟨hi,rfl⟩:=Array.getElem?_eq_some_iff.mp e
 simp)
structure Win (lo hi:Nat) (st st':SortSt):Prop where
 kind:kindOf st'=kindOf st
 failed:failedOf st'=failedOf st
 pend:pendingOf st'=pendingOf st
 perm:(arrOf st').Perm (arrOf st)
 out:∀ k,k<lo∨hi≤k→(arrOf st')[k]? = (arrOf st)[k]?
theorem Win.refl (lo hi:Nat) (st:SortSt):Win lo hi st st:=⟨rfl,rfl,rfl,Array.Perm.refl _,fun _ _=>rfl⟩
theorem Win.trans {lo hi:Nat} {a b c:SortSt} (h:Win lo hi a b) (g:Win lo hi b c):Win lo hi a c :=
 ⟨g.kind.trans h.kind,g.failed.trans h.failed,g.pend.trans h.pend,g.perm.trans h.perm,fun k hk=>(g.out k hk).trans (h.out k hk)⟩
theorem Win.mono {lo hi lo' hi':Nat} {a b:SortSt} (h:Win lo hi a b) (h1:lo'≤lo) (h2:hi≤hi'):Win lo' hi' a b :=
 ⟨h.kind,h.failed,h.pend,h.perm,fun k hk=>h.out k (by walk_at "l")⟩
theorem Win.size {lo hi:Nat} {a b:SortSt} (h:Win lo hi a b):(arrOf b).size=(arrOf a).size:=h.perm.size_eq
noncomputable def Up (r:Value→Int) (xs:Array Keyed) (lo hi:Nat):Prop:=∀ i j,lo≤i→i≤j→j<hi→R r xs i≤R r xs j
noncomputable def Down (r:Value→Int) (xs:Array Keyed) (lo hi:Nat):Prop:=∀ i j,lo≤i→i≤j→j<hi→R r xs j≤R r xs i
theorem pR {r:Value→Int} {xs:Array Keyed} {src d:Nat} (hs:src<xs.size) (hd:d≤src) (k:Nat) :
  R r (bubble xs src d) k=if k=src - d then R r xs src else if src - d<k∧k≤src then R r xs (k - 1) else R r xs k:=by
 have e:=getElem?_bubble hs d hd k
 by_cases h1:k=src - d
 ·rw [if_pos h1] at e ⊢; exact cj e
 ·rw [if_neg h1] at e ⊢
  by_cases h2:src - d<k∧k≤src
  ·rw [if_pos h2] at e ⊢; exact cj e
  ·rw [if_neg h2] at e ⊢; exact cj e
theorem jM {r:Value→Int} {xs:Array Keyed} {i j:Nat} (hj:j≤xs.size) (k:Nat) :
  R r (mirror xs i j ((j - i) / 2)) k=if i≤k∧k<j then R r xs (i+j - 1 - k) else R r xs k:=by
 have e:=getElem?_mirror_all (i:=i) hj k
 by_cases h1:i≤k∧k<j
 ·rw [if_pos h1] at e ⊢; exact cj e
 ·rw [if_neg h1] at e ⊢; exact cj e
theorem bL {r:Value→Int} {xs:Array Keyed} {i j:Nat} (hj:j≤xs.size) (heq:∀ k,i≤k→k<j→R r xs k=R r xs (j - 1)) (k:Nat) :
  R r (mirror xs i j ((j - i) / 2)) k=R r xs k:=by
 rw [jM hj]
 split
 ·rw [heq _ (by walk_at "l") (by walk_at "l"),heq k (by walk_at "l") (by walk_at "l")]
 ·rfl
section
variable {prog:Program} {w:World} {A:Around} {E:Value→Shared→Prop} {s:Shared} {κ:SortKind} {r:Value→Int} {P:Value→Prop}
theorem mj {st:SortSt} {x y:Keyed} {Q:Option Bool→SortSt→Prop} (C:Cmp prog w A s κ r P) (hk:kindOf st=κ) (hx:P x.1) (hy:P y.1) (h:Q (some (decide (r x.1<r y.1))) st) :
  wpS (model prog w) A E s (lt' x y) Q st:=by
 rw [lt'_eq]
 refine wpS_bind (wpS_get ?_)
 rw [hk]
 refine wpS_bind (wpS_lift (wpAny_attempt (C x.1 y.1 hx hy _ _ ⟨rfl,?_⟩)))
 exact wpS_pure h
theorem aK {xs:Array Keyed} {i:Nat} {Q:Keyed→SortSt→Prop} {st:SortSt} (hi:i<xs.size) (h:∀ p,xs[i]? = some p→Q p st):wpS (model prog w) A E s (elem' xs i) Q st:=by
 rw [elem'_eq,getElem?_pos xs i hi]
 exact wpS_pure (h _ (getElem?_pos xs i hi))
theorem iB {st:SortSt} {i j:Nat} {Q:Option Bool→SortSt→Prop} (C:Cmp prog w A s κ r P) (hk:kindOf st=κ) (hP:AllP P (arrOf st)) (hi:i<(arrOf st).size) (hj:j<(arrOf st).size)
  (h:Q (some (decide (R r (arrOf st) i<R r (arrOf st) j))) st):wpS (model prog w) A E s (ltAt' i j) Q st:=by
 rw [ltAt'_eq]
 refine wpS_bind (wpS_get ?_)
 show wpS _ _ _ _ (do let x ← elem' (arrOf st) i; let y ← elem' (arrOf st) j; lt' x y) Q st
 refine wpS_bind (aK hi fun p ep=>wpS_bind (aK hj fun q eq=>mj C hk (hP.at ep) (hP.at eq) ?_))
 have e1:R r (arrOf st) i=r p.1:=by unfold R; rw [ep]
 have e2:R r (arrOf st) j=r q.1:=by unfold R; rw [eq]
 rw [← e1,← e2]
 exact h
theorem cA {st:SortSt} {i j:Nat} {Q:Unit→SortSt→Prop} (h:Q () (setArr st (mirror (arrOf st) i j ((j - i) / 2)))) :
  wpS (model prog w) A E s (reverseSlice' i j) Q st:=by
 rw [reverseSlice'_eq]; exact wpS_modify h
theorem dZ {st:SortSt} {i j:Nat} (hj:j≤(arrOf st).size):Win i j st (setArr st (mirror (arrOf st) i j ((j - i) / 2))) :=
 ⟨rfl,rfl,rfl,mirror_perm _ _ _ _,fun k hk=>by
  have e:=getElem?_mirror_all (i:=i) hj k
  rw [if_neg (by (clear hj e; walk_at "l"))] at e
  exact e⟩
theorem qO {st:SortSt} {lo src d:Nat} (hs:src<(arrOf st).size) (hd:lo+d≤src):Win lo (src+1) st (setArr st (bubble (arrOf st) src d)) :=
 ⟨rfl,rfl,rfl,bubble_perm _ _ _,fun k hk=>by
  have e:=getElem?_bubble hs d (by (clear hs hk; walk_at "s4")) k
  rw [if_neg (by (clear hs e; walk_at "l")),if_neg (by (clear hs e; walk_at "l"))] at e
  exact e⟩
theorem wpS_binarySort {st:SortSt} {lo n ok:Nat} {Q:Bool→SortSt→Prop} (C:Cmp prog w A s κ r P) (hk:kindOf st=κ) (hP:AllP P (arrOf st)) (hn:lo+n≤(arrOf st).size) (hok:ok≤n) (hs:Up r (arrOf st) lo (lo+ok))
  (h:∀ st',Win lo (lo+n) st st'→Up r (arrOf st') lo (lo+n)→Q true st'):wpS (model prog w) A E s (binarySort' lo n ok) Q st:=by
 rw [binarySort'_eq]
 refine wpS_bind (wpS_mono (wpS_forRange (I:=fun k c st'=>c=(none,())∧Win lo (lo+n) st st'∧Up r (arrOf st') lo (lo+min k n))
  (Q:=fun c st'=>c=(none,())∧Win lo (lo+n) st st'∧Up r (arrOf st') lo (lo+n)) ?step ?fin ?init) ?post)
 case post =>
  rintro c st' ⟨rfl,hB',hs'⟩
  exact wpS_pure (h st' hB' hs')
 case init =>
  refine ⟨rfl,.refl _ _ _,fun i j hl hij hj=>?_⟩
  by_cases h1:ok=0
  ·have:i=j:=by (clear hk hn hok; walk_at "l")
   subst this; exact Int.le_refl _
  ·exact hs i j hl hij (by (clear hk hn hl hij; walk_at "l"))
 case fin =>
  rintro c st' ⟨hc,hB',hs'⟩
  refine ⟨hc,hB',?_⟩
  rwa [show min (max (max ok 1) n) n=n by (clear hk hn hok hc; walk_at "l")] at hs'
 case step =>
  rintro k c st' hak hkn ⟨rfl,hB',hs'⟩
  rw [show min k n=k by (clear hk hn hok hak; walk_at "l")] at hs'
  have hsz:=hB'.size
  have hk':kindOf st'=κ:=hB'.kind.trans hk
  have hP':=hP.perm hB'.perm
  refine wpS_bind (wpS_mono (wpS_forRange (I:=fun x c st''=>st''=st'∧∃ l r',c=(none,l,r')∧l≤r'∧r'≤k∧r' - l≤k - x ∧
    (∀ i,lo≤i→i<lo+l→R r (arrOf st') i≤R r (arrOf st') (lo+k))∧(∀ i,lo+r'≤i→i<lo+k→R r (arrOf st') (lo+k)<R r (arrOf st') i))
   (Q:=fun c st''=>st''=st'∧∃ l r',c=(none,l,r')∧l≤k ∧
    (∀ i,lo≤i→i<lo+l→R r (arrOf st') i≤R r (arrOf st') (lo+k))∧(∀ i,lo+l≤i→i<lo+k→R r (arrOf st') (lo+k)<R r (arrOf st') i)) ?istep ?ifin ?iinit) ?ipost)
  case iinit=>exact ⟨rfl,0,k,rfl,by (clear hk hn hok hak hkn hsz hk'; exact Nat.zero_le _),by (clear hk hn hok hak hkn hsz hk'; exact Nat.le_refl _),by (clear hk hn hok hak hkn hsz hk'; exact Nat.sub_le _ _),fun i _ hi=>by (clear hk hn hok hak hkn hsz hk'; walk_at "l"),fun i h1 h2=>by (clear hk hn hok hak hkn hsz hk'; walk_at "l")⟩
  case ifin =>
   rintro c st'' ⟨rfl,l,r',rfl,hlr,hrk,hm,hlo,hhi⟩
   have:l=r':=by (clear hk hn hok hak hkn hsz hk' hrk; walk_at "l")
   subst this
   exact ⟨rfl,l,l,rfl,hrk,hlo,hhi⟩
  case istep =>
   rintro x c st'' _ hxk ⟨rfl,l,r',rfl,hlr,hrk,hm,hlo,hhi⟩
   dsimp only
   by_cases hge:l ≥ r'
   ·rw [if_pos hge]
    have:l=r':=by (clear hk hn hok hak hkn hxk hsz hk' hrk hm; exact Nat.le_antisymm ‹_› ‹_›)
    subst this
    exact wpS_pure ⟨rfl,l,l,rfl,hrk,hlo,hhi⟩
   ·rw [if_neg hge]
    refine wpS_bind (iB C hk' hP' (by (clear hk hok hak hxk hk' hlr hrk hm hge; walk_at "l")) (by (clear hk hok hak hxk hk' hlr hm; walk_at "l")) ?_)
    by_cases hless:R r (arrOf st'') (lo+k)<R r (arrOf st'') (lo+(l+r') / 2)
    ·simp only [hless,decide_true,if_true]
     refine wpS_pure ⟨rfl,l,(l+r') / 2,rfl,by (clear hk hn hok hak hkn hxk hsz hk' hlr hrk hm hless; walk_at "l"),by (clear hk hn hok hak hkn hxk hsz hk' hlr hm hless; walk_at "l"),by (clear hk hn hok hak hkn hsz hk' hlr hrk hless; walk_at "l"),hlo,fun i h1 h2=>?_⟩
     exact Int.lt_of_lt_of_le hless (hs' _ _ (by (clear hk hn hok hak hkn hxk hsz hk' hlr hrk hm hless h1 h2; exact Nat.le_add_right _ _)) h1 h2)
    ·simp only [hless,decide_false,Bool.false_eq_true,if_false]
     refine wpS_pure ⟨rfl,(l+r') / 2+1,r',rfl,by (clear hk hn hok hak hkn hxk hsz hk' hlr hrk hm hless; walk_at "l"),by (clear hk hn hok hak hkn hxk hsz hk' hlr hm hge hless; walk_at "l"),by (clear hk hn hok hak hkn hsz hk' hlr hrk hless; walk_at "l"),fun i h0 h1=>?_,hhi⟩
     exact Int.le_trans (hs' i (lo+(l+r') / 2) h0 (by (clear hk hn hok hak hkn hxk hsz hk' hlr hrk hm hge hless h0; walk_at "l")) (by (clear hk hn hok hak hkn hxk hsz hk' hlr hm hless h0 h1; walk_at "l"))) (Int.not_lt.mp hless)
  case ipost =>
   rintro c st'' ⟨rfl,l,r',rfl,hlk,hlo,hhi⟩
   show wpS _ _ _ _ (do moveDown' (lo+k) (lo+l); pure (ForInStep.yield (none,()))) _ _
   rw [moveDown'_eq]
   have hks:lo+k<(arrOf st'').size:=by (clear hk hok hak hk' hlk; walk_at "l")
   refine wpS_bind (wpS_modify (wpS_pure ⟨rfl,hB'.trans ((qO (lo:=lo) hks (by (clear hk hn hok hak hkn hsz hk' hks; walk_at "l"))).mono (Nat.le_refl _) (by (clear hk hn hok hak hsz hk' hlk hks; walk_at "l"))),?_⟩))
   rw [show min (k+1) n=k+1 by (clear hk hn hok hak hsz hk' hlk hks; exact Nat.min_eq_left ‹_›)]
   intro i j hl hij hj
   show R r (bubble (arrOf st'') (lo+k) (lo+k - (lo+l))) i≤R r (bubble (arrOf st'') (lo+k) (lo+k - (lo+l))) j
   rw [pR hks (by (clear hk hn hok hak hkn hsz hk' hks hl hij hj; exact Nat.sub_le _ _)),pR hks (by (clear hk hn hok hak hkn hsz hk' hks hl hij hj; exact Nat.sub_le _ _)),show lo+k - (lo+k - (lo+l))=lo+l by (clear hk hn hok hak hkn hsz hk' hks hl hij hj; walk_at "l")]
   repeat' split
   all_goals first
    | (exfalso; (clear hk hn hok hak hkn hsz hk' hlk hks hl; walk_at "l"))
    | exact Int.le_refl _
    | exact hlo _ (by (clear hk hn hok hak hkn hsz hk' hlk hks hij hj; walk_at "l")) (by (clear hk hn hok hak hkn hsz hk' hlk hks hl; walk_at "l"))
    | exact Int.le_of_lt (hhi _ (by (clear hk hn hok hak hkn hsz hk' hlk hks hl hij hj; walk_at "l")) (by (clear hk hn hok hak hkn hsz hk' hlk hks hl hij; walk_at "l")))
    | exact hs' _ _ (by (clear hk hn hok hak hkn hsz hk' hlk hks hij hj; walk_at "l")) (by (clear hk hn hok hak hkn hsz hk' hlk hks hl; walk_at "l")) (by (clear hk hn hok hak hkn hsz hk' hks hl hij; walk_at "l"))
end
noncomputable def ascL (lo a nrem:Nat):StateT SortSt Sem AscSt :=
 forIn [a:nrem] ((none,a):AscSt) fun _ __s=>do
  let __x ← ltAt' (lo + __s.snd) (lo + __s.snd - 1)
  match __x with
  | some smaller=>if smaller=true then pure (ForInStep.done (none,__s.snd)) else pure (ForInStep.yield (none,__s.snd+1))
  | _=>pure (ForInStep.done (some none,__s.snd))
noncomputable def mq (lo n nrem:Nat):StateT SortSt Sem (Option Nat):=do
 reverseSlice' lo (lo+n)
 let __s ← ascL lo n nrem
 match __s.fst with
 | some r=>pure r
 | none=>pure (some __s.snd)
noncomputable def vW (lo n nrem:Nat):StateT SortSt Sem DescSt :=
 forIn [n:nrem] ((none,n,0):DescSt) fun _ __s=>do
  let __x ← ltAt' (lo + __s.snd.fst) (lo + __s.snd.fst - 1)
  match __x with
  | some smaller =>
   if smaller=true then
    if __s.snd.snd>0 then do
     reverseSlice' (lo+__s.snd.fst - (__s.snd.snd+1)) (lo+__s.snd.fst)
     pure (ForInStep.yield (none,__s.snd.fst+1,0))
    else pure (ForInStep.yield (none,__s.snd.fst+1,0))
   else do
    let __x ← ltAt' (lo+__s.snd.fst - 1) (lo+__s.snd.fst)
    match __x with
    | some larger =>
     if larger=true then pure (ForInStep.done (none,__s.snd.fst,__s.snd.snd))
     else pure (ForInStep.yield (none,__s.snd.fst+1,__s.snd.snd+1))
    | _=>pure (ForInStep.done (some none,__s.snd.fst,__s.snd.snd))
  | _=>pure (ForInStep.done (some none,__s.snd.fst,__s.snd.snd))
noncomputable def dg (lo n nrem:Nat):StateT SortSt Sem (Option Nat):=do
 liftM (rule "list.sort.descending-run")
 let __s ← vW lo (n+1) nrem
 match __s.fst with
 | some r=>pure r
 | none =>
  if __s.snd.snd>0 then do
   reverseSlice' (lo+__s.snd.fst - (__s.snd.snd+1)) (lo+__s.snd.fst)
   mq lo __s.snd.fst nrem
  else mq lo __s.snd.fst nrem
theorem m5 (lo nrem:Nat):countRun' lo nrem=(do
  let __s ← ascL lo 1 nrem
  match __s.fst with
  | some r=>pure r
  | none =>
   if (__s.snd == nrem)=true then pure (some __s.snd)
   else if __s.snd>1 then do
    let __x ← ltAt' lo (lo+__s.snd - 1)
    match __x with
    | some rose=>if rose=true then pure (some __s.snd) else do
      reverseSlice' lo (lo+__s.snd)
      dg lo __s.snd nrem
    | _=>pure none
   else dg lo __s.snd nrem):=by
 rw [countRun'_eq]
 dsimp only
 unfold dg mq vW ascL
 congr 1
 funext __s
 obtain ⟨r,n⟩:=__s
 cases r with
 | some r=>rfl
 | none =>
  dsimp only
  split
  ·rfl
  ·split
   ·congr 1
    funext x
    cases x with
    | none=>rfl
    | some rose =>
     dsimp only
     split
     ·rfl
     ·congr 1
      funext _r
      (congr 1; funext _u; congr 1; congr 1; funext s2; obtain ⟨r2,n2,q2⟩:=s2; cases r2 with
       | some r2=>rfl
       | none=>(dsimp only; split; (congr 1; funext _v; (congr 1; funext _w; congr 1; (funext s3; obtain ⟨r3,n3⟩:=s3; cases r3 <;> rfl))); (congr 1; funext _w; congr 1; (funext s3; obtain ⟨r3,n3⟩:=s3; cases r3 <;> rfl))))
   ·(congr 1; funext _u; congr 1; congr 1; funext s2; obtain ⟨r2,n2,q2⟩:=s2; cases r2 with
     | some r2=>rfl
     | none=>(dsimp only; split; (congr 1; funext _v; (congr 1; funext _w; congr 1; (funext s3; obtain ⟨r3,n3⟩:=s3; cases r3 <;> rfl))); (congr 1; funext _w; congr 1; (funext s3; obtain ⟨r3,n3⟩:=s3; cases r3 <;> rfl))))
section
variable {prog:Program} {w:World} {A:Around} {E:Value→Shared→Prop} {s:Shared} {κ:SortKind} {r:Value→Int} {P:Value→Prop}
theorem oW {st:SortSt} {lo a nrem:Nat} {Q:AscSt→SortSt→Prop} (C:Cmp prog w A s κ r P) (hk:kindOf st=κ) (hP:AllP P (arrOf st)) (hn:lo+nrem≤(arrOf st).size) (ha:1≤a) (han:a≤nrem)
  (hs:Up r (arrOf st) lo (lo+a))
  (h:∀ n,a≤n→n≤nrem→Up r (arrOf st) lo (lo+n)→(n=nrem∨R r (arrOf st) (lo+n)<R r (arrOf st) (lo+n - 1))→Q (none,n) st) :
  wpS (model prog w) A E s (ascL lo a nrem) Q st:=by
 unfold ascL
 refine wpS_forRange (I:=fun x c st'=>st'=st∧c=(none,x)∧Up r (arrOf st) lo (lo+x)) ?step ?fin ⟨rfl,rfl,hs⟩
 case fin =>
  rintro c st' ⟨rfl,rfl,hs'⟩
  rw [show max a nrem=nrem by (clear ha hk hn; walk_at "l")] at hs' ⊢
  exact h nrem han (Nat.le_refl _) hs' (.inl rfl)
 case step =>
  rintro x c st' hax hxn ⟨rfl,rfl,hs'⟩
  dsimp only
  refine wpS_bind (iB C hk hP (by (clear ha han hax hk; walk_at "l")) (by (clear han hk; walk_at "l")) ?_)
  by_cases hless:R r (arrOf st') (lo+x)<R r (arrOf st') (lo+x - 1)
  ·simp only [hless,decide_true,if_true]
   exact wpS_pure (h x hax (by (clear ha han hax hk hn hless; exact Nat.le_of_lt ‹_›)) hs' (.inr hless))
  ·simp only [hless,decide_false,Bool.false_eq_true,if_false]
   refine wpS_pure ⟨rfl,rfl,fun i j hl hij hj=>?_⟩
   by_cases hjx:j<lo+x
   ·exact hs' i j hl hij hjx
   ·have hj':j=lo+x:=by (clear ha han hax hxn hk hn hless hl hij; walk_at "l")
    subst hj'
    by_cases hi':i=lo+x
    ·subst hi'; exact Int.le_refl _
    ·exact Int.le_trans (hs' i (lo+x - 1) hl (by (clear han hxn hk hn hless hl hj hjx; walk_at "l")) (by (clear han hxn hk hn hless hl hij hj hjx hi'; walk_at "l"))) (Int.not_lt.mp hless)
theorem jq {st:SortSt} {lo n nrem:Nat} {Q:Option Nat→SortSt→Prop} (C:Cmp prog w A s κ r P) (hk:kindOf st=κ) (hP:AllP P (arrOf st)) (hn:lo+nrem≤(arrOf st).size) (h1:1≤n) (hnn:n≤nrem)
  (hs:Down r (arrOf st) lo (lo+n)) (h:∀ m st',Win lo (lo+nrem) st st'→1≤m→m≤nrem→Up r (arrOf st') lo (lo+m)→Q (some m) st') :
  wpS (model prog w) A E s (mq lo n nrem) Q st:=by
 unfold mq
 have hsz:lo+n≤(arrOf st).size:=by (clear hk h1; walk_at "l")
 refine wpS_bind (cA ?_)
 have hB':=dZ (i:=lo) hsz
 refine wpS_bind (oW C (hB'.kind.trans hk) (hP.perm hB'.perm) (by rw [hB'.size]; exact hn) h1 hnn ?_ fun m hm1 hm2 hsm _=>wpS_pure (h m _ (hB'.mono (Nat.le_refl _) (by (clear hk hn h1 hsz hm1 hm2; walk_at "l"))) (by (clear hk hn hnn hsz hm2; walk_at "s1")) hm2 hsm))
 intro i j hl hij hj
 show R r (mirror (arrOf st) lo (lo+n) ((lo+n - lo) / 2)) i≤R r (mirror (arrOf st) lo (lo+n) ((lo+n - lo) / 2)) j
 rw [jM hsz,jM hsz,if_pos (by (clear hk hn h1 hnn hsz; walk_at "l")),if_pos (by (clear hk hn h1 hnn hsz; walk_at "l"))]
 exact hs _ _ (by (clear hk hn h1 hnn hsz hl hij; walk_at "l")) (by (clear hk hn h1 hnn hsz hl; walk_at "l")) (by (clear hk hn h1 hnn hsz hij; walk_at "l"))
theorem tY {st:SortSt} {lo n nrem:Nat} {Q:DescSt→SortSt→Prop} (C:Cmp prog w A s κ r P) (hk:kindOf st=κ) (hP:AllP P (arrOf st)) (hn:lo+nrem≤(arrOf st).size) (h1:1≤n) (hnn:n≤nrem)
  (hs:Down r (arrOf st) lo (lo+n))
  (h:∀ m neq st',Win lo (lo+nrem) st st'→n≤m→m≤nrem→Down r (arrOf st') lo (lo+m)→neq+1≤m→(∀ i,lo+m - (neq+1)≤i→i<lo+m→R r (arrOf st') i=R r (arrOf st') (lo+m - 1))→Q (none,m,neq) st') :
  wpS (model prog w) A E s (vW lo n nrem) Q st:=by
 unfold vW
 refine wpS_forRange (I:=fun x c st'=>∃ neq,c=(none,x,neq)∧Win lo (lo+nrem) st st'∧Down r (arrOf st') lo (lo+x)∧neq+1≤x ∧
   (∀ i,lo+x - (neq+1)≤i→i<lo+x→R r (arrOf st') i=R r (arrOf st') (lo+x - 1))) ?step ?fin ⟨0,rfl,.refl _ _ _,hs,by (clear hk hn hnn; walk_at "l"),fun i h1 h2=>by congr 1; (clear hk hn hnn; walk_at "l")⟩
 case fin =>
  rintro c st' ⟨neq,rfl,hB',hs',hq,he⟩
  rw [show max n nrem=nrem by (clear hk hn h1 hq; walk_at "l")] at hs' hq he ⊢
  exact h nrem neq st' hB' hnn (Nat.le_refl _) hs' hq he
 case step =>
  rintro x c st' hax hxn ⟨neq,rfl,hB',hs',hq,he⟩
  dsimp only
  have hz:=hB'.size
  have hsz:lo+x≤(arrOf st').size:=by (clear hk h1 hnn hax hq; walk_at "l")
  have hk':=hB'.kind.trans hk
  have hP':=hP.perm hB'.perm
  refine wpS_bind (iB C hk' hP' (by (clear hk h1 hnn hax hq hk'; walk_at "l")) (by (clear hk hn hnn hxn hq hz hk'; walk_at "l")) ?_)
  by_cases hless:R r (arrOf st') (lo+x)<R r (arrOf st') (lo+x - 1)
  ·simp only [hless,decide_true,if_true]
   have step1:∀ xs:Array Keyed,(∀ k,R r xs k=R r (arrOf st') k)→Down r xs lo (lo+(x+1)):=by
    intro xs hkk i j hl hij hj
    rw [hkk,hkk]
    by_cases hjx:j<lo+x
    ·exact hs' i j hl hij hjx
    ·have hj':j=lo+x:=by (clear hk hn h1 hnn hax hxn hq hz hsz hk' hless hl hij; walk_at "l")
     subst hj'
     by_cases hi':i=lo+x
     ·subst hi'; exact Int.le_refl _
     ·exact Int.le_trans (Int.le_of_lt hless) (hs' i (lo+x - 1) hl (by (clear hk hn h1 hnn hax hxn hq hz hsz hk' hless hl hj hjx; walk_at "l")) (by (clear hk hn hnn hxn hq hz hsz hk' hless hl hij hj hjx hi'; walk_at "l")))
   by_cases hneq:neq>0
   ·rw [if_pos hneq]
    refine wpS_bind (cA (wpS_pure ⟨0,rfl,hB'.trans ((dZ hsz).mono (by (clear hk hn h1 hnn hax hxn hz hsz hk' hless hneq; walk_at "l")) (by (clear hk hn h1 hnn hax hq hz hsz hk' hless hneq; walk_at "l"))),step1 _ (bL hsz he),by (clear hk hn h1 hnn hax hxn hq hz hsz hk' hless hneq; exact Nat.succ_pos _),fun i h1 h2=>by congr 1; (clear hk hn hnn hxn hq hz hsz hk' hless hneq; walk_at "l")⟩))
   ·rw [if_neg hneq]
    exact wpS_pure ⟨0,rfl,hB',step1 _ (fun _=>rfl),by (clear hk hn h1 hnn hax hxn hq hz hsz hk' hless hneq; exact Nat.succ_pos _),fun i h1 h2=>by congr 1; (clear hk hn hnn hxn hq hz hsz hk' hless hneq; walk_at "l")⟩
  ·simp only [hless,decide_false,Bool.false_eq_true,if_false]
   refine wpS_bind (iB C hk' hP' (by (clear hk hn hnn hxn hq hz hk' hless; walk_at "l")) (by (clear hk h1 hnn hax hq hk' hless; walk_at "l")) ?_)
   by_cases hlarger:R r (arrOf st') (lo+x - 1)<R r (arrOf st') (lo+x)
   ·simp only [hlarger,decide_true,if_true]
    exact wpS_pure (h x neq st' hB' hax (by (clear hk hn h1 hnn hax hq hz hsz hk' hless hlarger; exact Nat.le_of_lt ‹_›)) hs' hq he)
   ·simp only [hlarger,decide_false,Bool.false_eq_true,if_false]
    have heqx:R r (arrOf st') (lo+x)=R r (arrOf st') (lo+x - 1):=by (clear hk hn h1 hnn hax hxn hq hz hsz hk'; walk_at "l")
    refine wpS_pure ⟨neq+1,rfl,hB',fun i j hl hij hj=>?_,by (clear hk hn h1 hnn hax hxn hz hsz hk' hless hlarger heqx; exact Nat.lt_succ_of_le ‹_›),fun i h1 h2=>?_⟩
    ·by_cases hjx:j<lo+x
     ·exact hs' i j hl hij hjx
     ·have hj':j=lo+x:=by (clear hk hn h1 hnn hax hxn hq hz hsz hk' hless hlarger heqx hl hij; walk_at "l")
      subst hj'
      by_cases hi':i=lo+x
      ·subst hi'; exact Int.le_refl _
      ·rw [heqx]; exact hs' i (lo+x - 1) hl (by (clear hk hn h1 hnn hax hxn hq hz hsz hk' hless hlarger heqx hl hj hjx; walk_at "l")) (by (clear hk hn hnn hxn hq hz hsz hk' hless hlarger heqx hl hij hj hjx hi'; walk_at "l"))
    ·rw [show lo+(x+1) - 1=lo+x by (clear hk hn hnn hxn hq hz hsz hk' hless hlarger heqx h1 h2; rfl)]
     by_cases hix:i=lo+x
     ·subst hix; rfl
     ·rw [heqx]; exact he i (by (clear hk hn hnn hax hxn hz hsz hk' hless hlarger heqx; walk_at "l")) (by (clear hk hn hnn hax hxn hq hz hsz hk' hless hlarger heqx h1; walk_at "l"))
theorem eZ {st:SortSt} {lo n nrem:Nat} {Q:Option Nat→SortSt→Prop} (C:Cmp prog w A s κ r P) (hk:kindOf st=κ) (hP:AllP P (arrOf st)) (hn:lo+nrem≤(arrOf st).size) (hnn:n+1≤nrem)
  (hs:Down r (arrOf st) lo (lo+(n+1))) (h:∀ m st',Win lo (lo+nrem) st st'→1≤m→m≤nrem→Up r (arrOf st') lo (lo+m)→Q (some m) st') :
  wpS (model prog w) A E s (dg lo n nrem) Q st:=by
 unfold dg
 refine wpS_bind (wpS_lift (wpAny_rule ⟨rfl,?_⟩))
 refine wpS_bind (tY C hk hP hn (by (clear hk hn hnn; exact Nat.succ_pos _)) hnn hs fun m neq st' hB' hm1 hm2 hs' hq he=>?_)
 dsimp only
 have hz:=hB'.size
 have hsz:lo+m≤(arrOf st').size:=by (clear hk hnn hm1 hq; walk_at "l")
 have hk':=hB'.kind.trans hk
 have hP':=hP.perm hB'.perm
 by_cases hneq:neq>0
 ·rw [if_pos hneq]
  have hW:=dZ (i:=lo+m - (neq+1)) hsz
  refine wpS_bind (cA (jq C (hW.kind.trans hk') (hP'.perm hW.perm) (by rw [hW.size,hz]; exact hn) (by (clear hk hn hnn hm1 hm2 hz hsz hk'; walk_at "s2")) hm2 ?_ fun m2 st2 hB2=>h m2 st2 ((hB'.trans (hW.mono (by (clear hk hn hnn hm1 hm2 hz hsz hk' hneq; walk_at "l")) (by (clear hk hn hnn hm1 hq hz hsz hk' hneq; walk_at "l")))).trans hB2)))
  intro i j hl hij hj
  show R r (mirror (arrOf st') _ _ _) j≤R r (mirror (arrOf st') _ _ _) i
  rw [bL hsz he,bL hsz he]
  exact hs' i j hl hij hj
 ·rw [if_neg hneq]
  exact jq C hk' hP' (by rw [hz]; exact hn) (by (clear hk hn hnn hm1 hm2 hz hsz hk'; walk_at "l")) hm2 hs' fun m2 st2 hB2=>h m2 st2 (hB'.trans hB2)
theorem wpS_countRun {st:SortSt} {lo nrem:Nat} {Q:Option Nat→SortSt→Prop} (C:Cmp prog w A s κ r P) (hk:kindOf st=κ) (hP:AllP P (arrOf st)) (hn:lo+nrem≤(arrOf st).size) (h1:1≤nrem)
  (h:∀ m st',Win lo (lo+nrem) st st'→1≤m→m≤nrem→Up r (arrOf st') lo (lo+m)→Q (some m) st') :
  wpS (model prog w) A E s (countRun' lo nrem) Q st:=by
 rw [m5]
 refine wpS_bind (oW C hk hP hn (Nat.le_refl 1) h1 (fun i j hl hij hj=>by
  have:i=j:=by (clear hk hn h1; walk_at "l")
  subst this; exact Int.le_refl _) fun n hn1 hn2 hsn hor=>?_)
 dsimp only
 by_cases hnn:n=nrem
 ·rw [if_pos (by simpa using hnn)]
  exact wpS_pure (h n st (.refl _ _ _) hn1 hn2 hsn)
 ·rw [if_neg (by simpa using hnn)]
  have hlt:R r (arrOf st) (lo+n)<R r (arrOf st) (lo+n - 1):=hor.resolve_left hnn
  by_cases hgt:n>1
  ·rw [if_pos hgt]
   refine wpS_bind (iB C hk hP (by (clear hk hn1 hn2 hor hnn hlt hgt; walk_at "l")) (by (clear hk h1 hn1 hor hnn hlt; walk_at "l")) ?_)
   by_cases hrose:R r (arrOf st) lo<R r (arrOf st) (lo+n - 1)
   ·simp only [hrose,decide_true,if_true]
    exact wpS_pure (h n st (.refl _ _ _) hn1 hn2 hsn)
   ·simp only [hrose,decide_false,Bool.false_eq_true,if_false]
    have hsz:lo+n≤(arrOf st).size:=by (clear hk h1 hn1 hor hnn hlt hgt hrose; walk_at "l")
    have hall:∀ k,lo≤k→k<lo+n→R r (arrOf st) k=R r (arrOf st) (lo+n - 1):=by
     intro k hl hk
     have a1:=hsn lo k (by (clear hn h1 hn1 hn2 hor hnn hlt hgt hrose hsz hl hk; exact Nat.le_refl _)) hl hk
     have a2:=hsn k (lo+n - 1) hl (by (clear hn h1 hn1 hn2 hor hnn hlt hgt hrose hsz hl a1; walk_at "l")) (by (clear hn h1 hn1 hn2 hor hnn hlt hrose hsz hl hk a1; walk_at "l"))
     (clear hn h1 hn1 hn2 hor hnn hlt hgt hsz hl hk; walk_at "l")
    have hW:=dZ (i:=lo) hsz
    refine wpS_bind (cA (eZ C (hW.kind.trans hk) (hP.perm hW.perm) (by rw [hW.size]; exact hn) (by (clear hk hn h1 hn1 hor hlt hgt hrose hsz; walk_at "l")) ?_ fun m2 st2 hB2=>h m2 st2 ((hW.mono (Nat.le_refl _) (by (clear hk hn h1 hn1 hor hnn hlt hgt hrose hsz; walk_at "l"))).trans hB2)))
    intro i j hl hij hj
    show R r (mirror (arrOf st) _ _ _) j≤R r (mirror (arrOf st) _ _ _) i
    rw [bL hsz hall,bL hsz hall]
    by_cases hjn:j<lo+n
    ·rw [hall i hl (by (clear hk hn h1 hn1 hn2 hor hnn hlt hgt hrose hsz hl hj; walk_at "s1")),hall j (by (clear hk hn h1 hn1 hn2 hor hnn hlt hgt hrose hsz hj hjn; walk_at "s1")) hjn]; exact Int.le_refl _
    ·have hj':j=lo+n:=by (clear hk hn h1 hn1 hn2 hor hnn hlt hgt hrose hsz hl hij; walk_at "l")
     subst hj'
     by_cases hi':i=lo+n
     ·subst hi'; exact Int.le_refl _
     ·rw [hall i hl (by (clear hk hn h1 hn1 hn2 hor hnn hlt hgt hrose hsz hl hj hjn; walk_at "l"))]; exact Int.le_of_lt hlt
  ·rw [if_neg hgt]
   have hn1':n=1:=by (clear hk hn h1 hn2 hor hnn hlt; walk_at "l")
   subst hn1'
   refine eZ C hk hP hn (by (clear hk hn hn1 hn2 hor hlt hgt; walk_at "l")) ?_ h
   intro i j hl hij hj
   by_cases hi':i=j
   ·subst hi'; exact Int.le_refl _
   ·have hi0:i=lo:=by (clear hk hn h1 hn1 hn2 hor hnn hlt hgt; walk_at "l")
    have hj1:j=lo+1:=by (clear hk hn h1 hn1 hn2 hor hnn hlt hgt hl; walk_at "l")
    subst hi0; subst hj1
    exact Int.le_of_lt hlt
end
end Tim
set_option Elab.async false
set_option linter.all false
set_option maxRecDepth 100000
set_option maxHeartbeats 4000000
namespace Tim
open PySem PyProof.Rows
noncomputable def tQ (left:Bool) (key:Keyed) (arr:Array Keyed) (base i:Nat):StateT SortSt Sem (Option Bool):=do
 let x ← elem' arr (base+i)
 if left then lt' x key else return (← lt' key x).map (!·)
noncomputable def gP:Bool→Keyed→Array Keyed→Nat→Nat→Nat→StateT SortSt Sem (Option Nat):=sortPriv% PySem.Builtin.gallop
section
variable {prog:Program} {w:World} {A:Around} {E:Value→Shared→Prop} {s:Shared} {κ:SortKind} {r:Value→Int} {P:Value→Prop}
noncomputable def bey (r:Value→Int) (left:Bool) (key:Keyed) (arr:Array Keyed) (base i:Nat):Bool :=
 if left then decide (R r arr (base+i)<r key.1) else !decide (r key.1<R r arr (base+i))
theorem cM {st:SortSt} {left:Bool} {key:Keyed} {arr:Array Keyed} {base i:Nat} {Q:Option Bool→SortSt→Prop} (C:Cmp prog w A s κ r P) (hk:kindOf st=κ) (hP:AllP P arr) (hy:P key.1) (hi:base+i<arr.size)
  (h:Q (some (bey r left key arr base i)) st):wpS (model prog w) A E s (tQ left key arr base i) Q st:=by
 unfold tQ
 refine wpS_bind (aK hi fun p ep=>?_)
 have e1:R r arr (base+i)=r p.1:=by unfold R; rw [ep]
 unfold bey at h
 rw [e1] at h
 cases left with
 | true =>
  simp only [if_true] at h ⊢
  exact mj C hk (hP.at ep) hy h
 | false =>
  simp only [Bool.false_eq_true,if_false] at h ⊢
  exact wpS_bind (mj C hk hy (hP.at ep) (wpS_pure h))
theorem vR {left:Bool} {key:Keyed} {arr:Array Keyed} {base n i j:Nat} (hu:Up r arr base (base+n)) (hij:i≤j) (hj:j<n) (h:bey r left key arr base j=true):bey r left key arr base i=true:=by
 have q:=hu (base+i) (base+j) (by (clear hij hj h; exact Nat.le_add_right _ _)) (by (clear hj h; walk_at "l")) (by (clear hij h; walk_at "l"))
 unfold bey at h ⊢
 cases left with
 | true=>simp only [if_true,decide_eq_true_eq] at h ⊢; (clear hij hj; walk_at "l")
 | false=>simp only [Bool.false_eq_true,if_false,Bool.not_eq_true',decide_eq_false_iff_not] at h ⊢; (clear hij hj; walk_at "l")
theorem cg {st:SortSt} {left:Bool} {key:Keyed} {arr:Array Keyed} {base n hint:Nat} {Q:Option Nat→SortSt→Prop} (C:Cmp prog w A s κ r P) (hk:kindOf st=κ) (hP:AllP P arr) (hy:P key.1) (hn:base+n≤arr.size) (hh:hint<n)
  (hu:Up r arr base (base+n))
  (h:∀ k,k≤n→(∀ i,i<k→bey r left key arr base i=true)→(∀ i,k≤i→i<n→bey r left key arr base i=false)→Q (some k) st):wpS (model prog w) A E s (gP left key arr base n hint) Q st:=by
 have mono:∀ {i j},i≤j→j<n→bey r left key arr base j=true→bey r left key arr base i=true:=fun a b c=>vR hu a b c
 have monoF:∀ {i j},i≤j→j<n→bey r left key arr base i=false→bey r left key arr base j=false:=fun {i j} a b c=>by
  cases q:bey r left key arr base j with
  | false=>rfl
  | true=>rw [mono a b q] at c; cases c
 refine wpS_bind (cM C hk hP hy (by walk_at "l") ?_)
 dsimp only
 cases q0:bey r left key arr base hint with
 | true =>
  simp only [if_true]
  refine wpS_bind (wpS_mono (wpS_forRange (I:=fun x c st'=>st'=st∧∃ lst ofs,c=(none,lst,ofs)∧lst<ofs∧lst<n - hint∧x+1≤ofs∧bey r left key arr base (hint+lst)=true)
   (Q:=fun c st'=>st'=st∧∃ lst ofs,c=(none,lst,ofs)∧lst<ofs∧lst<n - hint∧bey r left key arr base (hint+lst)=true∧(n - hint≤ofs∨bey r left key arr base (hint+ofs)=false)) ?step ?fin ?init) ?post)
  case init=>exact ⟨rfl,0,1,rfl,by (clear hk hn hh q0; exact Nat.succ_pos _),by (clear hk hn q0; walk_at "l"),by (clear hk hn hh q0; exact Nat.succ_pos _),q0⟩
  case fin =>
   rintro c st' ⟨rfl,lst,ofs,rfl,h1,h2,h3,h4⟩
   exact ⟨rfl,lst,ofs,rfl,h1,h2,h4,.inl (by (clear hn q0 hk h1 h2 h4; walk_at "l"))⟩
  case step =>
   rintro x c st' _ hx ⟨rfl,lst,ofs,rfl,h1,h2,h3,h4⟩
   dsimp only
   by_cases hge:ofs ≥ n - hint
   ·rw [if_pos hge]
    exact wpS_pure ⟨rfl,lst,ofs,rfl,h1,h2,h4,.inl hge⟩
   ·rw [if_neg hge]
    refine wpS_bind (cM C hk hP hy (by (clear q0 hx hk h1 h2 h3 h4; walk_at "l")) ?_)
    cases q:bey r left key arr base (hint+ofs) with
    | true =>
     simp only [Bool.not_true,Bool.false_eq_true,if_false]
     exact wpS_pure ⟨rfl,_,_,rfl,by (clear hn hh q0 hx hk h1 h2 h3 h4 hge q; walk_at "l"),by (clear hn hh q0 hx hk h1 h2 h3 h4 q; exact Nat.lt_of_not_le ‹_›),by (clear hn hh q0 hx hk h1 h2 h4 hge q; walk_at "l"),q⟩
    | false =>
     simp only [Bool.not_false,if_true]
     exact wpS_pure ⟨rfl,lst,ofs,rfl,h1,h2,h4,.inr q⟩
  case post =>
   rintro c st' ⟨rfl,lst,ofs,rfl,h1,h2,h4,h5⟩
   dsimp only
   generalize st'=st at *
   have hl:∀ i,i<hint+lst+1→bey r left key arr base i=true:=fun i hi=>mono (j:=hint+lst) (by (clear hn hh q0 h1 h2 h4 h5 hk; walk_at "l")) (by (clear hn q0 h1 h4 hk hi; walk_at "l")) h4
   have hhi:∀ i,hint+min ofs (n - hint)≤i→i<n→bey r left key arr base i=false:=fun i hi hin=>by
    rcases h5 with h5 | h5
    ·(clear hn q0 h1 h2 h4 hk; walk_at "l")
    ·by_cases z:n - hint≤ofs
     ·(clear hn q0 h1 h2 h4 hk h5; walk_at "l")
     ·exact monoF (i:=hint+ofs) (by (clear hn hh q0 h1 h2 h4 hk hin h5; walk_at "l")) hin h5
   have hlh:hint+lst+1≤hint+min ofs (n - hint):=by (clear hn hh q0 h4 h5 hk; walk_at "l")
   have hhn:hint+min ofs (n - hint)≤n:=by (clear hn q0 h1 h2 h4 hk hlh; walk_at "l")
   generalize hint+lst+1=lo at *
   generalize hint+min ofs (n - hint)=hi at *
   refine wpS_bind (wpS_mono (wpS_forRange (I:=fun x c st'=>st'=st∧∃ l u,c=(none,l,u)∧l≤u∧u≤n∧u - l≤n - x∧(∀ i,i<l→bey r left key arr base i=true)∧(∀ i,u≤i→i<n→bey r left key arr base i=false))
    (Q:=fun c st'=>st'=st∧∃ l,c=(none,l,l)∧l≤n∧(∀ i,i<l→bey r left key arr base i=true)∧(∀ i,l≤i→i<n→bey r left key arr base i=false)) ?stepA ?finA ?initA) ?postA)
   case initA=>exact ⟨rfl,lo,hi,rfl,hlh,hhn,by (clear hn hh q0 h1 h2 h4 h5 hk; walk_at "l"),hl,hhi⟩
   case finA =>
    rintro c st' ⟨rfl,l,u,rfl,h1,h2,h3,h4,h5⟩
    have:l=u:=by (clear hn hh q0 hhn hlh hk h2; walk_at "l")
    subst this
    exact ⟨rfl,l,rfl,h2,h4,h5⟩
   case stepA =>
    rintro x c st' _ hx ⟨rfl,l,u,rfl,h1,h2,h3,h4,h5⟩
    dsimp only
    by_cases hge:l ≥ u
    ·rw [if_pos hge]
     have:l=u:=by (clear hn hh q0 hhn hlh hx hk h2 h3; exact Nat.le_antisymm ‹_› ‹_›)
     subst this
     exact wpS_pure ⟨rfl,l,rfl,h2,h4,h5⟩
    ·rw [if_neg hge]
     refine wpS_bind (cM C hk hP hy (by (clear hh q0 hhn hlh hx hk h1 h3; walk_at "l")) ?_)
     cases q:bey r left key arr base (l+(u - l) / 2) with
     | true =>
      simp only [if_true]
      exact wpS_pure ⟨rfl,_,_,rfl,by (clear hn hh q0 hhn hlh hx hk h1 h2 h3 q; walk_at "l"),by (clear hn hh q0 hhn hlh hx hk h1 h3 hge q; walk_at "l"),by (clear hn hh q0 hhn hlh hk h1 h2 q; walk_at "l"),fun i hi=>mono (j:=l+(u - l) / 2) (by (clear hn hh q0 hhn hlh hx hk h1 h2 h3 hge q; walk_at "l")) (by (clear hn hh q0 hhn hlh hx hk h1 h3 q hi; walk_at "l")) q,h5⟩
     | false =>
      simp only [Bool.false_eq_true,if_false]
      exact wpS_pure ⟨rfl,_,_,rfl,by (clear hn hh q0 hhn hlh hx hk h1 h2 h3 hge q; exact Nat.le_add_right _ _),by (clear hn hh q0 hhn hlh hx hk h1 h3 q; walk_at "l"),by (clear hn hh q0 hhn hlh hk h1 h2 q; walk_at "l"),h4,fun i hi hin=>monoF (i:=l+(u - l) / 2) (by (clear hn hh q0 hhn hlh hx hk h1 h2 h3 hge q hin; walk_at "l")) hin q⟩
   case postA =>
    rintro c st' ⟨rfl,l,rfl,h2,h4,h5⟩
    exact wpS_pure (h l h2 h4 h5)
 | false =>
  simp only [Bool.false_eq_true,if_false]
  refine wpS_bind (wpS_mono (wpS_forRange (I:=fun x c st'=>st'=st∧∃ lst ofs,c=(none,lst,ofs)∧lst<ofs∧lst<hint+1∧x+1≤ofs∧bey r left key arr base (hint - lst)=false)
   (Q:=fun c st'=>st'=st∧∃ lst ofs,c=(none,lst,ofs)∧lst<ofs∧lst<hint+1∧bey r left key arr base (hint - lst)=false∧(hint+1≤ofs∨bey r left key arr base (hint - ofs)=true)) ?step2 ?fin2 ?init2) ?post2)
  case init2=>exact ⟨rfl,0,1,rfl,by (clear hk hn hh q0; exact Nat.succ_pos _),by (clear hk hn hh q0; exact Nat.succ_pos _),by (clear hk hn hh q0; exact Nat.succ_pos _),q0⟩
  case fin2 =>
   rintro c st' ⟨rfl,lst,ofs,rfl,h1,h2,h3,h4⟩
   exact ⟨rfl,lst,ofs,rfl,h1,h2,h4,.inl (by (clear hn q0 hk h1 h2 h4; walk_at "s2"))⟩
  case step2 =>
   rintro x c st' _ hx ⟨rfl,lst,ofs,rfl,h1,h2,h3,h4⟩
   dsimp only
   by_cases hge:ofs ≥ hint+1
   ·rw [if_pos hge]
    exact wpS_pure ⟨rfl,lst,ofs,rfl,h1,h2,h4,.inl hge⟩
   ·rw [if_neg hge]
    refine wpS_bind (cM C hk hP hy (by (clear q0 hx hk h1 h2 h4; walk_at "l")) ?_)
    cases q:bey r left key arr base (hint - ofs) with
    | true =>
     simp only [if_true]
     exact wpS_pure ⟨rfl,lst,ofs,rfl,h1,h2,h4,.inr q⟩
    | false =>
     simp only [Bool.false_eq_true,if_false]
     exact wpS_pure ⟨rfl,_,_,rfl,by (clear hn hh q0 hx hk h1 h2 h3 h4 hge q; walk_at "l"),by (clear hn hh q0 hx hk h1 h2 h3 h4 q; exact Nat.lt_of_not_le ‹_›),by (clear hn hh q0 hx hk h1 h2 h4 hge q; walk_at "l"),q⟩
  case post2 =>
   rintro c st' ⟨rfl,lst,ofs,rfl,h1,h2,h4,h5⟩
   dsimp only
   generalize st'=st at *
   have hl:∀ i,i<hint+1 - min ofs (hint+1)→bey r left key arr base i=true:=fun i hi=>by
    rcases h5 with h5 | h5
    ·(clear hn hh q0 h1 h2 h4 hk; walk_at "l")
    ·by_cases z:hint+1≤ofs
     ·(clear hn hh q0 h1 h2 h4 hk h5; walk_at "l")
     ·exact mono (j:=hint - ofs) (by (clear hn hh q0 h1 h2 h4 hk h5; walk_at "l")) (by (clear hn q0 h2 h4 hk hi h5; walk_at "l")) h5
   have hhi:∀ i,hint - lst≤i→i<n→bey r left key arr base i=false:=fun i hi hin=>monoF (i:=hint - lst) (by (clear hn hh q0 h1 h2 h4 h5 hk hin; walk_at "l")) hin h4
   have hlh:hint+1 - min ofs (hint+1)≤hint - lst:=by (clear hn hh q0 h4 h5 hk; walk_at "l")
   have hhn:hint - lst≤n:=by (clear hn q0 h1 h4 h5 hk hlh; walk_at "l")
   generalize hint+1 - min ofs (hint+1)=lo at *
   generalize hint - lst=hi at *
   refine wpS_bind (wpS_mono (wpS_forRange (I:=fun x c st'=>st'=st∧∃ l u,c=(none,l,u)∧l≤u∧u≤n∧u - l≤n - x∧(∀ i,i<l→bey r left key arr base i=true)∧(∀ i,u≤i→i<n→bey r left key arr base i=false))
    (Q:=fun c st'=>st'=st∧∃ l,c=(none,l,l)∧l≤n∧(∀ i,i<l→bey r left key arr base i=true)∧(∀ i,l≤i→i<n→bey r left key arr base i=false)) ?stepB ?finB ?initB) ?postB)
   case initB=>exact ⟨rfl,lo,hi,rfl,hlh,hhn,by (clear hn hh q0 h1 h2 h5 hk h4; walk_at "l"),hl,hhi⟩
   case finB =>
    rintro c st' ⟨rfl,l,u,rfl,h1,h2,h3,h4,h5⟩
    have:l=u:=by (clear hn hh q0 hhn hlh hk h2; walk_at "l")
    subst this
    exact ⟨rfl,l,rfl,h2,h4,h5⟩
   case stepB =>
    rintro x c st' _ hx ⟨rfl,l,u,rfl,h1,h2,h3,h4,h5⟩
    dsimp only
    by_cases hge:l ≥ u
    ·rw [if_pos hge]
     have:l=u:=by (clear hn hh q0 hhn hlh hx hk h2 h3; exact Nat.le_antisymm ‹_› ‹_›)
     subst this
     exact wpS_pure ⟨rfl,l,rfl,h2,h4,h5⟩
    ·rw [if_neg hge]
     refine wpS_bind (cM C hk hP hy (by (clear hh q0 hhn hlh hx hk h1 h3; walk_at "l")) ?_)
     cases q:bey r left key arr base (l+(u - l) / 2) with
     | true =>
      simp only [if_true]
      exact wpS_pure ⟨rfl,_,_,rfl,by (clear hn hh q0 hhn hlh hx hk h1 h2 h3 q; walk_at "l"),by (clear hn hh q0 hhn hlh hx hk h1 h3 hge q; walk_at "l"),by (clear hn hh q0 hhn hlh hk h1 h2 q; walk_at "l"),fun i hi=>mono (j:=l+(u - l) / 2) (by (clear hn hh q0 hhn hlh hx hk h1 h2 h3 hge q; walk_at "l")) (by (clear hn hh q0 hhn hlh hx hk h1 h3 q hi; walk_at "l")) q,h5⟩
     | false =>
      simp only [Bool.false_eq_true,if_false]
      exact wpS_pure ⟨rfl,_,_,rfl,by (clear hn hh q0 hhn hlh hx hk h1 h2 h3 hge q; exact Nat.le_add_right _ _),by (clear hn hh q0 hhn hlh hx hk h1 h3 q; walk_at "l"),by (clear hn hh q0 hhn hlh hk h1 h2 q; walk_at "l"),h4,fun i hi hin=>monoF (i:=l+(u - l) / 2) (by (clear hn hh q0 hhn hlh hx hk h1 h2 h3 hge q hin; walk_at "l")) hin q⟩
   case postB =>
    rintro c st' ⟨rfl,l,rfl,h2,h4,h5⟩
    exact wpS_pure (h l h2 h4 h5)
end
end Tim
set_option Elab.async false
set_option linter.all false
set_option maxRecDepth 100000
set_option maxHeartbeats 4000000
namespace Tim
open PySem PyProof.Rows
noncomputable abbrev Le (r:Value→Int) (x y:Keyed):Prop:=r x.1≤r y.1
theorem R_at {r:Value→Int} {xs:Array Keyed} {i:Nat} {p:Keyed} (e:xs[i]? = some p):R r xs i=r p.1:=by unfold R; rw [e]
theorem Ay {r:Value→Int} {xs:Array Keyed} {i:Nat} (h:i<xs.size):R r xs i=r xs[i].1:=R_at (getElem?_pos xs i h)
structure MI (r:Value→Int) (a b out:Array Keyed) (ia ib:Nat):Prop where
 ha:ia≤a.size
 hb:ib≤b.size
 perm:out.toList.Perm (a.toList.take ia++b.toList.take ib)
 up:out.toList.Pairwise (Le r)
 la:∀ x∈out.toList,∀ i,ia≤i→i<a.size→r x.1≤R r a i
 lb:∀ x∈out.toList,∀ j,ib≤j→j<b.size→r x.1≤R r b j
section
variable {r:Value→Int} {a b out:Array Keyed} {ia ib:Nat}
theorem jA {α:Type} {l:List α} {i:Nat} {x:α} (h:l[i]? = some x):l.take (i+1)=l.take i++[x]:=by
 rw [List.take_add_one,h]; rfl
theorem MI.mU (M:MI r a b out ia ib) (hA:Up r a 0 a.size) (hB:Up r b 0 b.size) {y:Keyed} (e:b[ib]? = some y) (hl:ia<a.size→R r b ib≤R r a ia):MI r a b (out.push y) ia (ib+1):=by
 have hib:ib<b.size:=(Array.getElem?_eq_some_iff.mp e).1
 have ey:=R_at (r:=r) e
 refine ⟨M.ha,hib,?_,?_,?_,?_⟩
 ·rw [Array.toList_push,jA (x:=y) (by simpa using e),← List.append_assoc]
  exact M.perm.append_right _
 ·rw [Array.toList_push,List.pairwise_append]
  refine ⟨M.up,by simp,fun x hx z hz=>?_⟩
  have:z=y:=by simpa using hz
  subst this
  show r x.1≤r z.1
  rw [← ey]
  exact M.lb x hx ib (Nat.le_refl _) hib
 ·intro x hx i hi hia
  rw [Array.toList_push] at hx
  rcases List.mem_append.mp hx with hx | hx
  ·exact M.la x hx i hi hia
  ·have:x=y:=by simpa using hx
   subst this
   rw [← ey]
   exact Int.le_trans (hl (by (clear hl hib e ey; walk_at "s1"))) (hA ia i (Nat.zero_le _) hi hia)
 ·intro x hx j hj hjb
  rw [Array.toList_push] at hx
  rcases List.mem_append.mp hx with hx | hx
  ·exact M.lb x hx j (by (clear e hl hib ey hjb; exact Nat.le_of_lt ‹_›)) hjb
  ·have:x=y:=by simpa using hx
   subst this
   rw [← ey]
   exact hB ib j (Nat.zero_le _) (by (clear hl hib hjb e ey; exact Nat.le_of_lt ‹_›)) hjb
theorem MI.lO (M:MI r a b out ia ib) (hA:Up r a 0 a.size) (hB:Up r b 0 b.size) {y:Keyed} (e:a[ia]? = some y) (hl:ib<b.size→R r a ia≤R r b ib):MI r a b (out.push y) (ia+1) ib:=by
 have hia:ia<a.size:=(Array.getElem?_eq_some_iff.mp e).1
 have ey:=R_at (r:=r) e
 refine ⟨hia,M.hb,?_,?_,?_,?_⟩
 ·rw [Array.toList_push,jA (x:=y) (by simpa using e),List.append_assoc]
  refine (M.perm.append_right [y]).trans ?_
  rw [List.append_assoc]
  exact List.Perm.append_left _ List.perm_append_comm
 ·rw [Array.toList_push,List.pairwise_append]
  refine ⟨M.up,by simp,fun x hx z hz=>?_⟩
  have:z=y:=by simpa using hz
  subst this
  show r x.1≤r z.1
  rw [← ey]
  exact M.la x hx ia (Nat.le_refl _) hia
 ·intro x hx i hi hi2
  rw [Array.toList_push] at hx
  rcases List.mem_append.mp hx with hx | hx
  ·exact M.la x hx i (by (clear e hl hia ey hi2; exact Nat.le_of_lt ‹_›)) hi2
  ·have:x=y:=by simpa using hx
   subst this
   rw [← ey]
   exact hA ia i (Nat.zero_le _) (by (clear hl hia hi2 e ey; exact Nat.le_of_lt ‹_›)) hi2
 ·intro x hx j hj hjb
  rw [Array.toList_push] at hx
  rcases List.mem_append.mp hx with hx | hx
  ·exact M.lb x hx j hj hjb
  ·have:x=y:=by simpa using hx
   subst this
   rw [← ey]
   exact Int.le_trans (hl (by (clear hl hia e ey; walk_at "s1"))) (hB ib j (Nat.zero_le _) hj hjb)
theorem dh {xs:Array Keyed} {i k:Nat} (h:i+k<xs.size):xs.extract i (i+(k+1))=(xs.extract i (i+k)).push xs[i+k]:=by
 apply Array.toList_inj.mp
 rw [Array.toList_push]
 simp only [Array.toList_extract,List.extract_eq_drop_take]
 rw [show i+(k+1) - i=k+1 by exact Nat.add_sub_cancel_left ..,show i+k - i=k by exact Nat.add_sub_cancel_left ..,List.take_add_one]
 congr 1
 rw [List.getElem?_drop]
 simp [h]
theorem MI.addA (hA:Up r a 0 a.size) (hB:Up r b 0 b.size):∀ (k:Nat) {out:Array Keyed} {ia:Nat},MI r a b out ia ib→ia+k≤a.size→(ib<b.size→∀ i,i<k→R r a (ia+i)≤R r b ib)→MI r a b (out++a.extract ia (ia+k)) (ia+k) ib
 | 0,out,ia,M,h1,h2=>by
  have:a.extract ia (ia+0) = #[]:=Array.eq_empty_of_size_eq_zero (by simp only [Array.size_extract]; walk_at "l")
  rw [this]
  simpa using M
 | k+1,out,ia,M,h1,h2=>by
  have q:=MI.addA hA hB k M (by exact Nat.le_of_lt ‹_›) fun hb i hi=>h2 hb i (by (clear h1 h2 hb; exact Nat.lt_succ_of_lt ‹_›))
  have e:a[ia+k]? = some a[ia+k]:=getElem?_pos a (ia+k) (by assumption)
  have z:=q.lO hA hB e fun hb=>h2 hb k (by (clear h1 h2 e hb; exact Nat.le_refl _))
  rw [dh (by (clear h2 e; assumption)),Array.append_push]
  exact z
theorem MI.addB (hA:Up r a 0 a.size) (hB:Up r b 0 b.size):∀ (k:Nat) {out:Array Keyed} {ib:Nat},MI r a b out ia ib→ib+k≤b.size→(ia<a.size→∀ i,i<k→R r b (ib+i)≤R r a ia)→MI r a b (out++b.extract ib (ib+k)) ia (ib+k)
 | 0,out,ib,M,h1,h2=>by
  have:b.extract ib (ib+0) = #[]:=Array.eq_empty_of_size_eq_zero (by simp only [Array.size_extract]; walk_at "l")
  rw [this]
  simpa using M
 | k+1,out,ib,M,h1,h2=>by
  have q:=MI.addB hA hB k M (by exact Nat.le_of_lt ‹_›) fun ha i hi=>h2 ha i (by (clear h1 h2 ha; exact Nat.lt_succ_of_lt ‹_›))
  have e:b[ib+k]? = some b[ib+k]:=getElem?_pos b (ib+k) (by assumption)
  have z:=q.mU hA hB e fun ha=>h2 ha k (by (clear h1 h2 e ha; exact Nat.le_refl _))
  rw [dh (by (clear h2 e; assumption)),Array.append_push]
  exact z
noncomputable def bQ (r:Value→Int) (a b out:Array Keyed):Prop:=out.toList.Perm (a.toList++b.toList)∧out.toList.Pairwise (Le r)
theorem MI.whole (M:MI r a b out a.size b.size):bQ r a b out:=by
 refine ⟨?_,M.up⟩
 have h:=M.perm
 rw [List.take_of_length_le (by simp),List.take_of_length_le (by simp)] at h
 exact h
theorem MI.Df (M:MI r a b out ia b.size) (hA:Up r a 0 a.size) (hB:Up r b 0 b.size):bQ r a b (out++a.extract ia a.size++b.extract b.size b.size):=by
 have e:b.extract b.size b.size = #[]:=by simp
 rw [e,Array.append_empty]
 have ha:=M.ha
 have q:=MI.addA hA hB (a.size - ia) M (by walk_at "l") fun hb=>absurd hb (Nat.lt_irrefl _)
 rw [show ia+(a.size - ia)=a.size by exact Nat.add_sub_of_le ‹_›] at q
 exact q.whole
theorem MI.CK (M:MI r a b out a.size ib) (hA:Up r a 0 a.size) (hB:Up r b 0 b.size):bQ r a b (out++a.extract a.size a.size++b.extract ib b.size):=by
 have e:a.extract a.size a.size = #[]:=by simp
 rw [e,Array.append_empty]
 have hb:=M.hb
 have q:=MI.addB hA hB (b.size - ib) M (by walk_at "l") fun ha=>absurd ha (Nat.lt_irrefl _)
 rw [show ib+(b.size - ib)=b.size by exact Nat.add_sub_of_le ‹_›] at q
 exact q.whole
theorem MI.endB (M:MI r a b out ia ib) (hA:Up r a 0 a.size) (hB:Up r b 0 b.size) (e:ib=b.size):bQ r a b (out++a.extract ia a.size++b.extract ib b.size):=by subst e; exact M.Df hA hB
theorem MI.endA (M:MI r a b out ia ib) (hA:Up r a 0 a.size) (hB:Up r b 0 b.size) (e:ia=a.size):bQ r a b (out++a.extract ia a.size++b.extract ib b.size):=by subst e; exact M.CK hA hB
theorem MI.Di (M:MI r a b out ia ib) (hA:Up r a 0 a.size) (hB:Up r b 0 b.size) (hia:ia+1=a.size) (hg:∀ j,j<b.size→R r b j≤R r a ia):bQ r a b (out++b.extract ib b.size++a.extract ia a.size):=by
 have hb:=M.hb
 have q:=MI.addB hA hB (b.size - ib) M (by walk_at "l") fun ha i hi=>hg _ (by (clear hia ha; walk_at "l"))
 rw [show ib+(b.size - ib)=b.size by exact Nat.add_sub_of_le ‹_›] at q
 have z:=MI.addA hA hB (a.size - ia) q (by walk_at "l") fun hb=>absurd hb (Nat.lt_irrefl _)
 rw [show ia+(a.size - ia)=a.size by walk_at "l"] at z
 exact z.whole
theorem MI.start (hA:Up r a 0 a.size) (hB:Up r b 0 b.size):MI r a b #[] 0 0:=⟨Nat.zero_le _,Nat.zero_le _,by simp,by simp,fun x hx=>by simp at hx,fun x hx=>by simp at hx⟩
end
noncomputable def bF:Nat→StateT SortSt Sem Unit:=sortPriv% PySem.Builtin.setMinGallop
noncomputable def pU:Array Keyed→Array Keyed→StateT SortSt Sem (Array Keyed):=sortPriv% PySem.Builtin.mergeLo
noncomputable def qj:Array Keyed→Array Keyed→StateT SortSt Sem (Array Keyed):=sortPriv% PySem.Builtin.mergeHi
theorem gG (g:Nat):bF g=modify fun s=>SortSt.mk' (kindOf s) (arrOf s) (pendingOf s) g (failedOf s):=rfl
noncomputable def Mg (st st':SortSt):Prop:=∃ g,st'=SortSt.mk' (kindOf st) (arrOf st) (pendingOf st) g (failedOf st)
theorem Mg.refl (st:SortSt):Mg st st:=⟨gallopOf st,rfl⟩
theorem Mg.kind {st st':SortSt} (h:Mg st st'):kindOf st'=kindOf st:=by obtain ⟨g,rfl⟩:=h; rfl
theorem Mg.set {st st':SortSt} (h:Mg st st') (g:Nat):Mg st (SortSt.mk' (kindOf st') (arrOf st') (pendingOf st') g (failedOf st')):=by obtain ⟨g',rfl⟩:=h; exact ⟨g,rfl⟩
section
variable {prog:Program} {w:World} {A:Around} {E:Value→Shared→Prop} {s:Shared} {κ:SortKind} {r:Value→Int} {P:Value→Prop}
theorem fG {st:SortSt} {g:Nat} {Q:Unit→SortSt→Prop} (h:Q () (SortSt.mk' (kindOf st) (arrOf st) (pendingOf st) g (failedOf st))):wpS (model prog w) A E s (bF g) Q st:=by
 rw [gG]; exact wpS_modify h
theorem uK {key:Keyed} {arr:Array Keyed} {base i:Nat} (h:bey r false key arr base i=true):R r arr (base+i)≤r key.1:=by
 unfold bey at h; simp only [Bool.false_eq_true,if_false,Bool.not_eq_true',decide_eq_false_iff_not] at h; exact Int.not_lt.mp ‹_›
theorem qY {key:Keyed} {arr:Array Keyed} {base i:Nat} (h:bey r false key arr base i=false):r key.1<R r arr (base+i):=by
 unfold bey at h; simp only [Bool.false_eq_true,if_false,Bool.not_eq_false',decide_eq_true_eq] at h; exact h
theorem xY {key:Keyed} {arr:Array Keyed} {base i:Nat} (h:bey r true key arr base i=true):R r arr (base+i)<r key.1:=by
 unfold bey at h; simp only [if_true,decide_eq_true_eq] at h; exact h
theorem pD {key:Keyed} {arr:Array Keyed} {base i:Nat} (h:bey r true key arr base i=false):r key.1≤R r arr (base+i):=by
 unfold bey at h; simp only [if_true,decide_eq_false_iff_not] at h; exact Int.not_lt.mp ‹_›
end
theorem Mg.trans {a b c:SortSt} (h:Mg a b) (g:Mg b c):Mg a c:=by obtain ⟨x,rfl⟩:=h; obtain ⟨y,rfl⟩:=g; exact ⟨y,rfl⟩
theorem xN {K G:Prop} (pk:K) (h:K→G):G:=h pk
noncomputable abbrev SM:=StateT SortSt Sem
noncomputable abbrev L1:=Option (Array Keyed) × Array Keyed × Nat × Nat × Nat
noncomputable abbrev L2':=Option (Array Keyed) × Array Keyed × Nat × Nat × Nat × Nat
noncomputable abbrev L3:=Option (Array Keyed) × Array Keyed × Nat × Nat × Nat × Nat × Nat
noncomputable def loE (a b out:Array Keyed) (ia ib:Nat):Array Keyed:=out++a.extract ia a.size++b.extract ib b.size
noncomputable def loF (a b out:Array Keyed) (ia ib:Nat):Array Keyed:=out++b.extract ib b.size++a.extract ia a.size
noncomputable def lo3 (a b:Array Keyed) (mg ac bc ia ib:Nat) (out:Array Keyed):SM (ForInStep L3):=elem' a ia >>= fun p =>
 if (ia+1+1 == a.size)=true then pure (.done (some (loF a b (out.push p) (ia+1) ib),out.push p,ia+1,ib,mg,ac,bc))
 else if (decide (ac<7) && decide (bc<7))=true then pure (.done (none,out.push p,ia+1,ib,mg,ac,bc)) else pure (.yield (none,out.push p,ia+1,ib,mg,ac,bc))
noncomputable def lo2 (a b:Array Keyed) (mg ac bc ia ib:Nat) (out:Array Keyed):SM (ForInStep L3):=elem' a ia >>= fun p=>gP true p b ib (b.size - ib) 0 >>= fun x=>match x with
 | some k=>if k>0 then
   if (ib+k == b.size)=true then pure (.done (some (loE a b (out++b.extract ib (ib+k)) ia (ib+k)),out++b.extract ib (ib+k),ia,ib+k,mg,ac,k))
   else lo3 a b mg ac k ia (ib+k) (out++b.extract ib (ib+k))
  else lo3 a b mg ac k ia ib out
 | _=>pure (.done (some (loE a b out ia ib),out,ia,ib,mg,ac,bc))
noncomputable def lo1 (a b:Array Keyed) (mg ac bc ia ib:Nat) (out:Array Keyed):SM (ForInStep L3):=elem' b ib >>= fun p =>
 if (ib+1 == b.size)=true then pure (.done (some (loE a b (out.push p) ia (ib+1)),out.push p,ia,ib+1,mg,ac,bc)) else lo2 a b mg ac bc ia (ib+1) (out.push p)
noncomputable def lo0 (a b:Array Keyed) (mg ac bc ia ib:Nat) (out:Array Keyed):SM (ForInStep L3):=bF mg >>= fun _=>elem' b ib >>= fun p=>gP false p a ia (a.size - ia) 0 >>= fun x=>match x with
 | some k=>if k>0 then
   if (ia+k+1 == a.size)=true then pure (.done (some (loF a b (out++a.extract ia (ia+k)) (ia+k) ib),out++a.extract ia (ia+k),ia+k,ib,mg,k,bc))
   else if (ia+k == a.size)=true then pure (.done (some (loE a b (out++a.extract ia (ia+k)) (ia+k) ib),out++a.extract ia (ia+k),ia+k,ib,mg,k,bc))
   else lo1 a b mg k bc (ia+k) ib (out++a.extract ia (ia+k))
  else lo1 a b mg k bc ia ib out
 | _=>pure (.done (some (loE a b out ia ib),out,ia,ib,mg,ac,bc))
noncomputable def loG (a b:Array Keyed) (_:Nat) (s:L3):SM (ForInStep L3) :=
 if s.2.2.2.2.1>1 then lo0 a b (s.2.2.2.2.1 - 1) s.2.2.2.2.2.1 s.2.2.2.2.2.2 s.2.2.1 s.2.2.2.1 s.2.1 else lo0 a b s.2.2.2.2.1 s.2.2.2.2.2.1 s.2.2.2.2.2.2 s.2.2.1 s.2.2.2.1 s.2.1
noncomputable def loA (a b:Array Keyed) (mg bc ia ib:Nat) (out:Array Keyed):SM (ForInStep L2'):=elem' b ib >>= fun p =>
 if (ib+1 == b.size)=true then pure (.done (some (loE a b (out.push p) ia (ib+1)),out.push p,ia,ib+1,0,bc+1))
 else if bc+1 ≥ mg then pure (.done (none,out.push p,ia,ib+1,0,bc+1)) else pure (.yield (none,out.push p,ia,ib+1,0,bc+1))
noncomputable def loB (a b:Array Keyed) (mg ac ia ib:Nat) (out:Array Keyed):SM (ForInStep L2'):=elem' a ia >>= fun p =>
 if (ia+1+1 == a.size)=true then pure (.done (some (loF a b (out.push p) (ia+1) ib),out.push p,ia+1,ib,ac+1,0))
 else if ac+1 ≥ mg then pure (.done (none,out.push p,ia+1,ib,ac+1,0)) else pure (.yield (none,out.push p,ia+1,ib,ac+1,0))
noncomputable def loI (a b:Array Keyed) (mg:Nat) (_:Nat) (s:L2'):SM (ForInStep L2'):=elem' b s.2.2.2.1 >>= fun pb=>elem' a s.2.2.1 >>= fun pa=>lt' pb pa >>= fun x=>match x with
 | some w=>if w=true then loA a b mg s.2.2.2.2.2 s.2.2.1 s.2.2.2.1 s.2.1 else loB a b mg s.2.2.2.2.1 s.2.2.1 s.2.2.2.1 s.2.1
 | _=>pure (.done (some (loE a b s.2.1 s.2.2.1 s.2.2.2.1),s.2.1,s.2.2.1,s.2.2.2.1,s.2.2.2.2.1,s.2.2.2.2.2))
noncomputable def loP (a b:Array Keyed) (mg:Nat) (t:L2'):SM (ForInStep L1):=(liftM (rule "list.sort.gallop"):SM Unit) >>= fun _ =>
 forIn [:a.size+b.size] ((none,t.2.1,t.2.2.1,t.2.2.2.1,mg+1,t.2.2.2.2.1,t.2.2.2.2.2):L3) (loG a b) >>= fun u=>match u.1 with
 | some r=>pure (.done (some r,u.2.1,u.2.2.1,u.2.2.2.1,u.2.2.2.2.1))
 | none=>bF (u.2.2.2.2.1+1) >>= fun _=>pure (.yield (none,u.2.1,u.2.2.1,u.2.2.2.1,u.2.2.2.2.1+1))
noncomputable def loO (a b:Array Keyed) (_:Nat) (s:L1):SM (ForInStep L1):=forIn [:a.size+b.size] ((none,s.2.1,s.2.2.1,s.2.2.2.1,0,0):L2') (loI a b s.2.2.2.2) >>= fun t=>match t.1 with
 | some r=>pure (.done (some r,t.2.1,t.2.2.1,t.2.2.2.1,s.2.2.2.2))
 | none=>loP a b s.2.2.2.2 t
noncomputable def loM (a b:Array Keyed):SM (Array Keyed):=(liftM (rule "list.sort.merge-lo"):SM Unit) >>= fun _=>elem' b 0 >>= fun y =>
 if (1 == b.size)=true then pure (loE a b #[y] 0 1)
 else if (0+1 == a.size)=true then pure (loF a b #[y] 0 1)
 else get >>= fun st=>forIn [:a.size+b.size] ((none,#[y],0,1,gallopOf st):L1) (loO a b) >>= fun t=>match t.1 with
 | some r=>pure r
 | none=>(liftM (unsupported (α:=Array Keyed) "internal:list.sort.merge-bound"):SM (Array Keyed))
set_option smartUnfolding false in
theorem qu:pU=loM:=rfl
section
variable {prog:Program} {w:World} {A:Around} {E:Value→Shared→Prop} {s:Shared} {κ:SortKind} {r:Value→Int} {P:Value→Prop} {a b out:Array Keyed} {mg ac bc ia ib N:Nat} {st:SortSt}
structure MC (prog:Program) (w:World) (A:Around) (s:Shared) (κ:SortKind) (r:Value→Int) (P:Value→Prop) (a b:Array Keyed):Prop where
 C:Cmp prog w A s κ r P
 pa:AllP P a
 pb:AllP P b
 hA:Up r a 0 a.size
 hB:Up r b 0 b.size
 hl:∀ i,i<a.size→R r b 0≤R r a i
 hg:∀ j,j<b.size→R r b j≤R r a (a.size - 1)
noncomputable def HS {β:Type} (r:Value→Int) (a b:Array Keyed) (c:Option (Array Keyed) × β):Prop:=∃ out rest,c=(some out,rest)∧bQ r a b out
noncomputable def LY (r:Value→Int) (a b:Array Keyed) (N:Nat) (c:L3):Prop:=∃ out ia ib mg ac bc,c=(none,out,ia,ib,mg,ac,bc)∧MI r a b out ia ib∧ia+1<a.size∧ib<b.size∧N≤ia+ib
noncomputable def LI (r:Value→Int) (a b:Array Keyed) (N:Nat) (c:L2'):Prop:=∃ out ia ib ac bc,c=(none,out,ia,ib,ac,bc)∧MI r a b out ia ib∧ia+1<a.size∧ib<b.size∧N≤ia+ib
theorem MC.last (c:MC prog w A s κ r P a b) (M:MI r a b out ia ib) (z:ia+1=a.size):bQ r a b (loF a b out ia ib):=M.Di c.hA c.hB z fun j hj=>by
 have:=c.hg j hj
 rwa [show a.size - 1=ia by walk_at "l"] at this
theorem v5 {Q:ForInStep L3→SortSt→Prop} (c:MC prog w A s κ r P a b) (M:MI r a b out ia ib) (h1:ia+1<a.size) (lt:R r a ia≤R r b ib) (h2:ib<b.size) (hN:N≤ia+ib) (D:∀ c,HS r a b c→Q (.done c) st) (Y:∀ c,LY r a b N c→Q (.done c) st∧Q (.yield c) st):wpS (model prog w) A E s (lo3 a b mg ac bc ia ib out) Q st:=by
 refine wpS_bind (aK (by exact Nat.lt_of_succ_lt ‹_›) fun p e=>?_)
 have M2:=M.lO c.hA c.hB e fun _=>lt
 by_cases z:ia+1+1=a.size
 ·rw [if_pos (by simpa using z)]
  exact wpS_pure (D _ ⟨_,_,rfl,c.last M2 z⟩)
 ·rw [if_neg (by simpa using z)]
  have y:=Y _ ⟨_,_,_,mg,ac,bc,rfl,M2,by walk_at "l",h2,by walk_at "l"⟩
  split
  ·exact wpS_pure y.1
  ·exact wpS_pure y.2
theorem Bm {Q:ForInStep L3→SortSt→Prop} (c:MC prog w A s κ r P a b) (hk:kindOf st=κ) (M:MI r a b out ia ib) (h1:ia+1<a.size) (h2:ib<b.size) (hN:N≤ia+ib) (D:∀ c,HS r a b c→Q (.done c) st) (Y:∀ c,LY r a b N c→Q (.done c) st∧Q (.yield c) st):wpS (model prog w) A E s (lo2 a b mg ac bc ia ib out) Q st:=by
 refine wpS_bind (aK (by exact Nat.lt_of_succ_lt ‹_›) fun p e=>wpS_bind (cg c.C hk c.pb (c.pa.at e) (by walk_at "l") (by walk_at "l") (fun i j u v w=>c.hB i j (by exact Nat.zero_le _) v (by walk_at "l")) fun l hl1 hl2 hl3=>?_))
 have ra:=R_at (r:=r) e
 dsimp only
 have lt:ib+l<b.size→R r a ia≤R r b (ib+l):=fun z=>by have:=pD (hl3 l (Nat.le_refl _) (by walk_at "l")); walk_at "l"
 by_cases l0:l>0
 ·have M5:=MI.addB c.hA c.hB l M (by walk_at "l") fun _ i hi=>by have:=xY (hl2 i hi); walk_at "l"
  rw [if_pos l0]
  by_cases z:ib+l=b.size
  ·rw [if_pos (by simpa using z)]
   exact wpS_pure (D _ ⟨_,_,rfl,M5.endB c.hA c.hB z⟩)
  ·rw [if_neg (by simpa using z)]
   exact v5 c M5 h1 (lt (by walk_at "l")) (by walk_at "l") (by walk_at "s4") D Y
 ·rw [if_neg l0]
  obtain rfl:l=0:=by walk_at "l"
  exact v5 c M h1 (lt h2) h2 hN D Y
theorem vY {Q:ForInStep L3→SortSt→Prop} (c:MC prog w A s κ r P a b) (hk:kindOf st=κ) (M:MI r a b out ia ib) (h1:ia+1<a.size) (lt:R r b ib≤R r a ia) (h2:ib<b.size) (hN:N≤ia+ib) (D:∀ c,HS r a b c→Q (.done c) st) (Y:∀ c,LY r a b N c→Q (.done c) st∧Q (.yield c) st):wpS (model prog w) A E s (lo1 a b mg ac bc ia ib out) Q st:=by
 refine wpS_bind (aK h2 fun p e=>?_)
 have M4:=M.mU c.hA c.hB e fun _=>lt
 by_cases z:ib+1=b.size
 ·rw [if_pos (by simpa using z)]
  exact wpS_pure (D _ ⟨_,_,rfl,M4.endB c.hA c.hB z⟩)
 ·rw [if_neg (by simpa using z)]
  exact Bm c hk M4 h1 (by walk_at "l") (by exact Nat.le_succ_of_le ‹_›) D Y
theorem z9 {Q:ForInStep L3→SortSt→Prop} (c:MC prog w A s κ r P a b) (hk:kindOf st=κ) (M:MI r a b out ia ib) (h1:ia+1<a.size) (h2:ib<b.size) (hN:N≤ia+ib) (D:∀ st',Mg st st'→∀ c,HS r a b c→Q (.done c) st') (Y:∀ st',Mg st st'→∀ c,LY r a b N c→Q (.done c) st'∧Q (.yield c) st'):wpS (model prog w) A E s (lo0 a b mg ac bc ia ib out) Q st:=by
 have g:=(Mg.refl st).set mg
 refine wpS_bind (fG ?_)
 refine wpS_bind (aK h2 fun p e=>wpS_bind (cg c.C (g.kind.trans hk) c.pa (c.pb.at e) (by walk_at "l") (by walk_at "l") (fun i j u v w=>c.hA i j (by exact Nat.zero_le _) v (by walk_at "l")) fun k hk1 hk2 hk3=>?_))
 have rb:=R_at (r:=r) e
 dsimp only
 have lt:ia+k<a.size→R r b ib≤R r a (ia+k):=fun z=>by have:=qY (hk3 k (Nat.le_refl _) (by walk_at "l")); walk_at "l"
 by_cases k0:k>0
 ·have M3:=MI.addA c.hA c.hB k M (by walk_at "l") fun _ i hi=>by have:=uK (hk2 i hi); walk_at "l"
  rw [if_pos k0]
  by_cases z:ia+k+1=a.size
  ·rw [if_pos (by simpa using z)]
   exact wpS_pure (D _ g _ ⟨_,_,rfl,c.last M3 z⟩)
  ·rw [if_neg (by simpa using z)]
   by_cases z2:ia+k=a.size
   ·rw [if_pos (by simpa using z2)]
    exact wpS_pure (D _ g _ ⟨_,_,rfl,M3.endA c.hA c.hB z2⟩)
   ·rw [if_neg (by simpa using z2)]
    exact vY c (g.kind.trans hk) M3 (by walk_at "l") (lt (by walk_at "l")) h2 (by walk_at "l") (D _ g) (Y _ g)
 ·rw [if_neg k0]
  obtain rfl:k=0:=by walk_at "l"
  exact vY c (g.kind.trans hk) M h1 (lt (by exact Nat.lt_of_succ_lt ‹_›)) h2 hN (D _ g) (Y _ g)
theorem z7 {Q:ForInStep L2'→SortSt→Prop} (c:MC prog w A s κ r P a b) (M:MI r a b out ia ib) (h1:ia+1<a.size) (lt:R r b ib≤R r a ia) (h2:ib<b.size) (hN:N≤ia+ib+1) (D:∀ c,HS r a b c→Q (.done c) st) (Y:∀ c,LI r a b N c→Q (.done c) st∧Q (.yield c) st):wpS (model prog w) A E s (loA a b mg bc ia ib out) Q st:=by
 refine wpS_bind (aK h2 fun p e=>?_)
 have M2:=M.mU c.hA c.hB e fun _=>lt
 by_cases z:ib+1=b.size
 ·rw [if_pos (by simpa using z)]
  exact wpS_pure (D _ ⟨_,_,rfl,M2.endB c.hA c.hB z⟩)
 ·rw [if_neg (by simpa using z)]
  have y:=Y _ ⟨_,_,_,0,bc+1,rfl,M2,h1,by walk_at "l",hN⟩
  split
  ·exact wpS_pure y.1
  ·exact wpS_pure y.2
theorem Ba {Q:ForInStep L2'→SortSt→Prop} (c:MC prog w A s κ r P a b) (M:MI r a b out ia ib) (h1:ia+1<a.size) (lt:R r a ia≤R r b ib) (h2:ib<b.size) (hN:N≤ia+ib+1) (D:∀ c,HS r a b c→Q (.done c) st) (Y:∀ c,LI r a b N c→Q (.done c) st∧Q (.yield c) st):wpS (model prog w) A E s (loB a b mg ac ia ib out) Q st:=by
 refine wpS_bind (aK (by exact Nat.lt_of_succ_lt ‹_›) fun p e=>?_)
 have M2:=M.lO c.hA c.hB e fun _=>lt
 by_cases z:ia+1+1=a.size
 ·rw [if_pos (by simpa using z)]
  exact wpS_pure (D _ ⟨_,_,rfl,c.last M2 z⟩)
 ·rw [if_neg (by simpa using z)]
  have y:=Y _ ⟨_,_,_,ac+1,0,rfl,M2,by walk_at "l",h2,by walk_at "l"⟩
  split
  ·exact wpS_pure y.1
  ·exact wpS_pure y.2
theorem zV {Q:ForInStep L2'→SortSt→Prop} {x:Nat} (c:MC prog w A s κ r P a b) (hk:kindOf st=κ) (M:MI r a b out ia ib) (h1:ia+1<a.size) (h2:ib<b.size) (hN:N≤ia+ib+1) (D:∀ c,HS r a b c→Q (.done c) st) (Y:∀ c,LI r a b N c→Q (.done c) st∧Q (.yield c) st):wpS (model prog w) A E s (loI a b mg x (none,out,ia,ib,ac,bc)) Q st:=by
 refine wpS_bind (aK h2 fun pb eb=>wpS_bind (aK (show ia<a.size by exact Nat.lt_of_succ_lt ‹_›) fun pa ea=>wpS_bind (mj c.C hk (c.pb.at eb) (c.pa.at ea) ?_)))
 have rb:R r b ib=r pb.1:=R_at eb
 have ra:R r a ia=r pa.1:=R_at ea
 dsimp only
 by_cases hw:r pb.1<r pa.1
 ·rw [if_pos (decide_eq_true hw)]
  exact z7 c M h1 (by walk_at "l") h2 hN D Y
 ·rw [if_neg (by simpa using hw)]
  exact Ba c M h1 (by walk_at "l") h2 hN D Y
theorem Bo {Q:ForInStep L1→SortSt→Prop} (c:MC prog w A s κ r P a b) (hk:kindOf st=κ) (M:MI r a b out ia ib) (h1:ia+1<a.size) (h2:ib<b.size) (hN:N≤ia+ib) (D:∀ st',Mg st st'→∀ c,HS r a b c→Q (.done c) st')
  (Y:∀ st',Mg st st'→∀ out ia ib mg,MI r a b out ia ib→ia+1<a.size→ib<b.size→N≤ia+ib→Q (.yield (none,out,ia,ib,mg)) st'):wpS (model prog w) A E s (loP a b mg (none,out,ia,ib,ac,bc)) Q st:=by
 refine wpS_bind (wpS_lift (wpAny_rule ⟨rfl,?_⟩))
 refine wpS_bind (wpS_mono (wpS_forRange (I:=fun _ c st'=>Mg st st'∧LY r a b N c) (Q:=fun c st'=>Mg st st'∧(HS r a b c∨LY r a b N c)) ?step ?fin ⟨.refl st,_,_,_,_,_,_,rfl,M,h1,h2,hN⟩) ?post)
 case fin =>
  rintro c st' ⟨hm,q⟩
  exact ⟨hm,.inr q⟩
 case step =>
  rintro y c1 st1 _ _ ⟨hm,out,ia,ib,mg,ac,bc,rfl,M,h1,h2,hN⟩
  unfold loG
  dsimp only
  split <;> exact z9 c (hm.kind.trans hk) M h1 h2 hN (fun st' g c q=>⟨hm.trans g,.inl q⟩) fun st' g c q=>⟨⟨hm.trans g,.inr q⟩,hm.trans g,q⟩
 case post =>
  rintro c st' ⟨hm,⟨o,rest,rfl,hM⟩ | ⟨out,ia,ib,mg,ac,bc,rfl,M,h1,h2,hN⟩⟩
  ·exact wpS_pure (D _ hm _ ⟨_,_,rfl,hM⟩)
  ·exact wpS_bind (fG (wpS_pure (Y _ (hm.set _) _ _ _ _ M h1 h2 hN)))
theorem z8 {Q:ForInStep L1→SortSt→Prop} {x:Nat} (c:MC prog w A s κ r P a b) (hk:kindOf st=κ) (M:MI r a b out ia ib) (h1:ia+1<a.size) (h2:ib<b.size) (hN:N≤ia+ib) (D:∀ st',Mg st st'→∀ c,HS r a b c→Q (.done c) st')
  (Y:∀ st',Mg st st'→∀ out ia ib mg,MI r a b out ia ib→ia+1<a.size→ib<b.size→N+1≤ia+ib→Q (.yield (none,out,ia,ib,mg)) st'):wpS (model prog w) A E s (loO a b x (none,out,ia,ib,mg)) Q st:=by
 refine wpS_bind (wpS_mono (wpS_forRange (I:=fun y c st'=>st'=st∧LI r a b (N+y) c) (Q:=fun c st'=>st'=st∧(HS r a b c∨LI r a b (N+1) c)) ?step ?fin ⟨rfl,_,_,_,_,_,rfl,M,h1,h2,hN⟩) ?post)
 case fin =>
  rintro c st' ⟨rfl,o,ia',ib',ac,bc,rfl,M',q1,q2,q3⟩
  exact ⟨rfl,.inr ⟨_,_,_,_,_,rfl,M',q1,q2,by walk_at "l"⟩⟩
 case step =>
  rintro y c1 st1 _ hy ⟨rfl,o,ia',ib',ac,bc,rfl,M',q1,q2,q3⟩
  exact zV (N:=N+y+1) c hk M' q1 q2 (by exact Nat.lt_succ_of_le ‹_›) (fun c q=>⟨rfl,.inl q⟩) fun c q=>by
   obtain ⟨o,ia,ib,ac,bc,rfl,M,h1,h2,h3⟩:=q
   exact ⟨⟨rfl,.inr ⟨_,_,_,_,_,rfl,M,h1,h2,by walk_at "l"⟩⟩,rfl,_,_,_,_,_,rfl,M,h1,h2,by walk_at "l"⟩
 case post =>
  rintro c1 st' ⟨rfl,⟨o,rest,rfl,hM⟩ | ⟨o,ia,ib,ac,bc,rfl,M',q1,q2,q3⟩⟩
  ·exact wpS_pure (D _ (.refl _) _ ⟨_,_,rfl,hM⟩)
  ·exact Bo c hk M' q1 q2 q3 D Y
theorem nF {st:SortSt} {a b:Array Keyed} {Q:Array Keyed→SortSt→Prop} (C:Cmp prog w A s κ r P) (hk:kindOf st=κ) (hPa:AllP P a) (hPb:AllP P b) (hA:Up r a 0 a.size) (hB:Up r b 0 b.size) (na:1≤a.size) (nb:1≤b.size)
  (h0:R r b 0≤R r a 0) (hg:∀ j,j<b.size→R r b j≤R r a (a.size - 1)) (h:∀ out st',bQ r a b out→Mg st st'→Q out st'):wpS (model prog w) A E s (pU a b) Q st:=by
 have c:MC prog w A s κ r P a b:=⟨C,hPa,hPb,hA,hB,fun i hi=>Int.le_trans h0 (hA 0 i (Nat.le_refl _) (Nat.zero_le _) hi),hg⟩
 rw [qu]
 refine wpS_bind (wpS_lift (wpAny_rule ⟨rfl,?_⟩))
 refine wpS_bind (aK nb fun y0 e0=>?_)
 have M1:MI r a b #[y0] 0 1:=(MI.start hA hB).mU hA hB e0 fun _=>h0
 by_cases c1:1=b.size
 ·rw [if_pos (by simpa using c1)]
  exact wpS_pure (h _ _ (M1.endB hA hB c1) (.refl st))
 ·rw [if_neg (by simpa using c1)]
  by_cases c2:0+1=a.size
  ·rw [if_pos (by simpa using c2)]
   exact wpS_pure (h _ _ (c.last M1 c2) (.refl st))
  ·rw [if_neg (by simpa using c2)]
   refine wpS_bind (wpS_get ?_)
   refine wpS_bind (wpS_mono (wpS_forRange (I:=fun x c st'=>Mg st st'∧∃ out ia ib mg,c=(none,out,ia,ib,mg)∧MI r a b out ia ib∧ia+1<a.size∧ib<b.size∧x+1≤ia+ib)
    (Q:=fun c st'=>Mg st st'∧HS r a b c) ?step ?fin ⟨.refl st,_,_,_,_,rfl,M1,by walk_at "l",by walk_at "l",by exact Nat.succ_pos _⟩) ?post)
   case fin =>
    rintro c st' ⟨_,out,ia,ib,mg,rfl,M,h1,h2,h3⟩
    walk_at "l"
   case post =>
    rintro c st' ⟨hm,out,rest,rfl,hM⟩
    exact wpS_pure (h out st' hM hm)
   case step =>
    rintro x c1 st1 _ hx ⟨hm1,out,ia,ib,mg,rfl,M,h1,h2,h3⟩
    exact z8 (N:=x+1) c (hm1.kind.trans hk) M h1 h2 h3 (fun st' g c q=>⟨hm1.trans g,q⟩) fun st' g out ia ib mg M h1 h2 h3=>⟨hm1.trans g,_,_,_,_,rfl,M,h1,h2,h3⟩
end
end Tim
set_option Elab.async false
set_option linter.all false
set_option maxRecDepth 100000
set_option maxHeartbeats 4000000
namespace Tim
open PySem PyProof.Rows
noncomputable abbrev Ge (r:Value→Int) (x y:Keyed):Prop:=r y.1≤r x.1
structure MH (r:Value→Int) (a b out:Array Keyed) (na nb:Nat):Prop where
 ha:na≤a.size
 hb:nb≤b.size
 perm:out.toList.Perm (a.toList.drop na++b.toList.drop nb)
 down:out.toList.Pairwise (Ge r)
 ga:∀ x∈out.toList,∀ i,i<na→R r a i≤r x.1
 gb:∀ x∈out.toList,∀ j,j<nb→R r b j≤r x.1
section
variable {r:Value→Int} {a b out:Array Keyed} {na nb:Nat}
theorem mY {α:Type} {l:List α} {i:Nat} {x:α} (h0:0<i) (h:l[i - 1]? = some x):l.drop (i - 1)=x :: l.drop i:=by
 obtain ⟨hi,e⟩:=List.getElem?_eq_some_iff.mp h
 rw [List.drop_eq_getElem_cons hi,e,show i - 1+1=i by (clear h hi e; exact Nat.sub_add_cancel ‹_›)]
theorem MH.lO (M:MH r a b out na nb) (hA:Up r a 0 a.size) (hB:Up r b 0 b.size) (h0:0<na) {y:Keyed} (e:a[na - 1]? = some y) (hl:0<nb→R r b (nb - 1)≤R r a (na - 1)):MH r a b (out.push y) (na - 1) nb:=by
 have ey:=R_at (r:=r) e
 have ha:=M.ha
 have hb:=M.hb
 refine ⟨by (clear e hl ey hb; walk_at "l"),M.hb,?_,?_,?_,?_⟩
 ·rw [Array.toList_push,mY (x:=y) h0 (by simpa using e)]
  refine (M.perm.append_right [y]).trans ?_
  exact List.perm_append_comm
 ·rw [Array.toList_push,List.pairwise_append]
  refine ⟨M.down,by simp,fun x hx z hz=>?_⟩
  have:z=y:=by simpa using hz
  subst this
  show r z.1≤r x.1
  rw [← ey]
  exact M.ga x hx (na - 1) (by (clear hl ha hb e ey; exact Nat.sub_lt ‹_› Nat.one_pos))
 ·intro x hx i hi
  rw [Array.toList_push] at hx
  rcases List.mem_append.mp hx with hx | hx
  ·exact M.ga x hx i (by (clear e hl ey ha hb; walk_at "s4"))
  ·have:x=y:=by simpa using hx
   subst this
   rw [← ey]
   exact hA i (na - 1) (Nat.zero_le _) (by (clear h0 hl ha hb e ey; exact Nat.le_of_lt ‹_›)) (by (clear hl hb hi e ey; walk_at "l"))
 ·intro x hx j hj
  rw [Array.toList_push] at hx
  rcases List.mem_append.mp hx with hx | hx
  ·exact M.gb x hx j hj
  ·have:x=y:=by simpa using hx
   subst this
   rw [← ey]
   exact Int.le_trans (hB j (nb - 1) (Nat.zero_le _) (by (clear h0 hl ha hb e ey; walk_at "l")) (by (clear h0 hl ha e ey; walk_at "l"))) (hl (by (clear h0 hl ha hb e ey; walk_at "l")))
theorem MH.mU (M:MH r a b out na nb) (hA:Up r a 0 a.size) (hB:Up r b 0 b.size) (h0:0<nb) {y:Keyed} (e:b[nb - 1]? = some y) (hl:0<na→R r a (na - 1)≤R r b (nb - 1)):MH r a b (out.push y) na (nb - 1):=by
 have ey:=R_at (r:=r) e
 have ha:=M.ha
 have hb:=M.hb
 refine ⟨M.ha,by (clear e hl ey ha; walk_at "l"),?_,?_,?_,?_⟩
 ·rw [Array.toList_push,mY (x:=y) h0 (by simpa using e)]
  refine (M.perm.append_right [y]).trans ?_
  rw [List.append_assoc]
  exact List.Perm.append_left _ List.perm_append_comm
 ·rw [Array.toList_push,List.pairwise_append]
  refine ⟨M.down,by simp,fun x hx z hz=>?_⟩
  have:z=y:=by simpa using hz
  subst this
  show r z.1≤r x.1
  rw [← ey]
  exact M.gb x hx (nb - 1) (by (clear hl ha hb e ey; exact Nat.sub_lt ‹_› Nat.one_pos))
 ·intro x hx i hi
  rw [Array.toList_push] at hx
  rcases List.mem_append.mp hx with hx | hx
  ·exact M.ga x hx i hi
  ·have:x=y:=by simpa using hx
   subst this
   rw [← ey]
   exact Int.le_trans (hA i (na - 1) (Nat.zero_le _) (by (clear h0 hl ha hb e ey; walk_at "l")) (by (clear h0 hl hb e ey; walk_at "l"))) (hl (by (clear h0 hl ha hb e ey; walk_at "l")))
 ·intro x hx j hj
  rw [Array.toList_push] at hx
  rcases List.mem_append.mp hx with hx | hx
  ·exact M.gb x hx j (by (clear e hl ey ha hb; walk_at "s4"))
  ·have:x=y:=by simpa using hx
   subst this
   rw [← ey]
   exact hB j (nb - 1) (Nat.zero_le _) (by (clear h0 hl ha hb e ey; exact Nat.le_of_lt ‹_›)) (by (clear hl ha hj e ey; walk_at "l"))
theorem gZ {xs:Array Keyed} {i n:Nat} (h:i<n) (hn:n≤xs.size):(xs.extract i n).reverse = #[xs[n - 1]'(by walk_at "l")]++(xs.extract i (n - 1)).reverse:=by
 obtain ⟨k,rfl⟩:∃ k,n=i+(k+1):=⟨n - 1 - i,by walk_at "l"⟩
 have e3:i+(k+1) - 1=i+k:=by rfl
 simp only [e3]
 rw [dh (by assumption),Array.reverse_push]
theorem MH.addA (hA:Up r a 0 a.size) (hB:Up r b 0 b.size):∀ (k:Nat) {out:Array Keyed} {na p:Nat},MH r a b out na nb→p+k=na→(0<nb→∀ i,p≤i→i<na→R r b (nb - 1)≤R r a i)→MH r a b (out++(a.extract p na).reverse) p nb
 | 0,out,na,p,M,h1,h2=>by
  have:a.extract p na = #[]:=Array.eq_empty_of_size_eq_zero (by simp only [Array.size_extract]; walk_at "l")
  have e:na=p:=by walk_at "s1"
  subst e
  rw [this]
  simpa using M
 | k+1,out,na,p,M,h1,h2=>by
  have ha:=M.ha
  have e:a[na - 1]? = some (a[na - 1]'(by walk_at "l")):=getElem?_pos a (na - 1) (by walk_at "l")
  have q:=M.lO hA hB (by (clear h2 ha e; walk_at "l")) e fun hb=>h2 hb _ (by (clear h2 ha e hb; walk_at "l")) (by (clear h2 ha e hb; walk_at "l"))
  have z:=MH.addA hA hB k (p:=p) q (by walk_at "l") fun hb i hi1 hi2=>h2 hb i hi1 (by walk_at "s4")
  rw [gZ (by walk_at "l") ha,← Array.append_assoc]
  simpa using z
theorem MH.addB (hA:Up r a 0 a.size) (hB:Up r b 0 b.size):∀ (k:Nat) {out:Array Keyed} {nb p:Nat},MH r a b out na nb→p+k=nb→(0<na→∀ i,p≤i→i<nb→R r a (na - 1)≤R r b i)→MH r a b (out++(b.extract p nb).reverse) na p
 | 0,out,nb,p,M,h1,h2=>by
  have:b.extract p nb = #[]:=Array.eq_empty_of_size_eq_zero (by simp only [Array.size_extract]; walk_at "l")
  have e:nb=p:=by walk_at "s1"
  subst e
  rw [this]
  simpa using M
 | k+1,out,nb,p,M,h1,h2=>by
  have hb:=M.hb
  have e:b[nb - 1]? = some (b[nb - 1]'(by walk_at "l")):=getElem?_pos b (nb - 1) (by walk_at "l")
  have q:=M.mU hA hB (by (clear h2 hb e; walk_at "l")) e fun ha=>h2 ha _ (by (clear h2 hb e ha; walk_at "l")) (by (clear h2 hb e ha; walk_at "l"))
  have z:=MH.addB hA hB k (p:=p) q (by walk_at "l") fun ha i hi1 hi2=>h2 ha i hi1 (by walk_at "s4")
  rw [gZ (by walk_at "l") hb,← Array.append_assoc]
  simpa using z
theorem MH.whole (M:MH r a b out 0 0):bQ r a b out.reverse:=by
 refine ⟨?_,?_⟩
 ·have h:=M.perm
  rw [List.drop_zero,List.drop_zero] at h
  rw [Array.toList_reverse]
  exact (List.reverse_perm _).trans h
 ·rw [Array.toList_reverse,List.pairwise_reverse]
  exact M.down
theorem kI (x y:Array Keyed):(x++y.reverse).reverse=y++x.reverse:=by
 apply Array.toList_inj.mp
 simp
theorem MH.endA (M:MH r a b out na nb) (hA:Up r a 0 a.size) (hB:Up r b 0 b.size) (e:na=0):bQ r a b (a.extract 0 na++b.extract 0 nb++out.reverse):=by
 subst e
 have z:=MH.addB hA hB nb (p:=0) M (by exact Nat.add_comm ..) fun ha=>absurd ha (Nat.lt_irrefl _)
 have q:=z.whole
 rw [kI] at q
 have e2:a.extract 0 0 = #[]:=by simp
 rw [e2,Array.empty_append]
 exact q
theorem MH.endB (M:MH r a b out na nb) (hA:Up r a 0 a.size) (hB:Up r b 0 b.size) (e:nb=0):bQ r a b (a.extract 0 na++b.extract 0 nb++out.reverse):=by
 subst e
 have z:=MH.addA hA hB na (p:=0) M (by exact Nat.add_comm ..) fun hb=>absurd hb (Nat.lt_irrefl _)
 have q:=z.whole
 rw [kI] at q
 have e2:b.extract 0 0 = #[]:=by simp
 rw [e2,Array.append_empty]
 exact q
theorem MH.pM (M:MH r a b out na nb) (hA:Up r a 0 a.size) (hB:Up r b 0 b.size) (e:nb=1) (hl:∀ i,i<a.size→R r b 0≤R r a i):bQ r a b (b.extract 0 nb++a.extract 0 na++out.reverse):=by
 subst e
 have ha:=M.ha
 have z:=MH.addA hA hB na (p:=0) M (by exact Nat.add_comm ..) fun _ i _ hi=>hl i (by walk_at "s1")
 have z2:=MH.addB hA hB 1 (p:=0) z (by exact Nat.add_comm ..) fun h=>absurd h (Nat.lt_irrefl _)
 have q:=z2.whole
 rw [kI,kI] at q
 rw [Array.append_assoc]
 exact q
theorem MH.start:MH r a b #[] a.size b.size:=⟨Nat.le_refl _,Nat.le_refl _,by simp,by simp,fun x hx=>by simp at hx,fun x hx=>by simp at hx⟩
end
noncomputable abbrev S1:=Option (Array Keyed) × Nat × Nat × Array Keyed × Nat
noncomputable abbrev S2:=Option (Array Keyed) × Nat × Nat × Array Keyed × Nat × Nat
noncomputable abbrev S3:=Option (Array Keyed) × Nat × Nat × Array Keyed × Nat × Nat × Nat
noncomputable def hiE (a b out:Array Keyed) (na nb:Nat):Array Keyed:=a.extract 0 na++b.extract 0 nb++out.reverse
noncomputable def hiF (a b out:Array Keyed) (na nb:Nat):Array Keyed:=b.extract 0 nb++a.extract 0 na++out.reverse
noncomputable def hi3 (a b:Array Keyed) (mg ac bc na nb:Nat) (out:Array Keyed):SM (ForInStep S3):=elem' a (na - 1) >>= fun p =>
 if (na - 1 == 0)=true then pure (.done (some (hiE a b (out.push p) (na - 1) nb),na - 1,nb,out.push p,mg,ac,bc))
 else if (decide (ac<7) && decide (bc<7))=true then pure (.done (none,na - 1,nb,out.push p,mg,ac,bc)) else pure (.yield (none,na - 1,nb,out.push p,mg,ac,bc))
noncomputable def hi2 (a b:Array Keyed) (mg ac bc na nb:Nat) (out:Array Keyed):SM (ForInStep S3):=elem' a (na - 1) >>= fun p=>gP true p b 0 nb (nb - 1) >>= fun x=>match x with
 | some k=>if nb - k>0 then
   if (k == 1)=true then pure (.done (some (hiF a b (out++(b.extract k nb).reverse) na k),na,k,out++(b.extract k nb).reverse,mg,ac,nb - k))
   else if (k == 0)=true then pure (.done (some (hiE a b (out++(b.extract k nb).reverse) na k),na,k,out++(b.extract k nb).reverse,mg,ac,nb - k))
   else hi3 a b mg ac (nb - k) na k (out++(b.extract k nb).reverse)
  else hi3 a b mg ac (nb - k) na nb out
 | _=>pure (.done (some (hiE a b out na nb),na,nb,out,mg,ac,bc))
noncomputable def hi1 (a b:Array Keyed) (mg ac bc na nb:Nat) (out:Array Keyed):SM (ForInStep S3):=elem' b (nb - 1) >>= fun p =>
 if (nb - 1 == 1)=true then pure (.done (some (hiF a b (out.push p) na (nb - 1)),na,nb - 1,out.push p,mg,ac,bc)) else hi2 a b mg ac bc na (nb - 1) (out.push p)
noncomputable def hi0 (a b:Array Keyed) (mg ac bc na nb:Nat) (out:Array Keyed):SM (ForInStep S3):=bF mg >>= fun _=>elem' b (nb - 1) >>= fun p=>gP false p a 0 na (na - 1) >>= fun x=>match x with
 | some k=>if na - k>0 then
   if (k == 0)=true then pure (.done (some (hiE a b (out++(a.extract k na).reverse) k nb),k,nb,out++(a.extract k na).reverse,mg,na - k,bc))
   else hi1 a b mg (na - k) bc k nb (out++(a.extract k na).reverse)
  else hi1 a b mg (na - k) bc na nb out
 | _=>pure (.done (some (hiE a b out na nb),na,nb,out,mg,ac,bc))
noncomputable def hiG (a b:Array Keyed) (_:Nat) (s:S3):SM (ForInStep S3) :=
 if s.2.2.2.2.1>1 then hi0 a b (s.2.2.2.2.1 - 1) s.2.2.2.2.2.1 s.2.2.2.2.2.2 s.2.1 s.2.2.1 s.2.2.2.1 else hi0 a b s.2.2.2.2.1 s.2.2.2.2.2.1 s.2.2.2.2.2.2 s.2.1 s.2.2.1 s.2.2.2.1
noncomputable def hiA (a b:Array Keyed) (mg ac na nb:Nat) (out:Array Keyed):SM (ForInStep S2):=elem' a (na - 1) >>= fun p =>
 if (na - 1 == 0)=true then pure (.done (some (hiE a b (out.push p) (na - 1) nb),na - 1,nb,out.push p,ac+1,0))
 else if ac+1 ≥ mg then pure (.done (none,na - 1,nb,out.push p,ac+1,0)) else pure (.yield (none,na - 1,nb,out.push p,ac+1,0))
noncomputable def hiB (a b:Array Keyed) (mg bc na nb:Nat) (out:Array Keyed):SM (ForInStep S2):=elem' b (nb - 1) >>= fun p =>
 if (nb - 1 == 1)=true then pure (.done (some (hiF a b (out.push p) na (nb - 1)),na,nb - 1,out.push p,0,bc+1))
 else if bc+1 ≥ mg then pure (.done (none,na,nb - 1,out.push p,0,bc+1)) else pure (.yield (none,na,nb - 1,out.push p,0,bc+1))
noncomputable def hiI (a b:Array Keyed) (mg:Nat) (_:Nat) (s:S2):SM (ForInStep S2):=elem' b (s.2.2.1 - 1) >>= fun pb=>elem' a (s.2.1 - 1) >>= fun pa=>lt' pb pa >>= fun x=>match x with
 | some w=>if w=true then hiA a b mg s.2.2.2.2.1 s.2.1 s.2.2.1 s.2.2.2.1 else hiB a b mg s.2.2.2.2.2 s.2.1 s.2.2.1 s.2.2.2.1
 | _=>pure (.done (some (hiE a b s.2.2.2.1 s.2.1 s.2.2.1),s.2.1,s.2.2.1,s.2.2.2.1,s.2.2.2.2.1,s.2.2.2.2.2))
noncomputable def hiP (a b:Array Keyed) (mg:Nat) (t:S2):SM (ForInStep S1):=(liftM (rule "list.sort.gallop"):SM Unit) >>= fun _ =>
 forIn [:a.size+b.size] ((none,t.2.1,t.2.2.1,t.2.2.2.1,mg+1,t.2.2.2.2.1,t.2.2.2.2.2):S3) (hiG a b) >>= fun u=>match u.1 with
 | some r=>pure (.done (some r,u.2.1,u.2.2.1,u.2.2.2.1,u.2.2.2.2.1))
 | none=>bF (u.2.2.2.2.1+1) >>= fun _=>pure (.yield (none,u.2.1,u.2.2.1,u.2.2.2.1,u.2.2.2.2.1+1))
noncomputable def hiO (a b:Array Keyed) (_:Nat) (s:S1):SM (ForInStep S1):=forIn [:a.size+b.size] ((none,s.2.1,s.2.2.1,s.2.2.2.1,0,0):S2) (hiI a b s.2.2.2.2) >>= fun t=>match t.1 with
 | some r=>pure (.done (some r,t.2.1,t.2.2.1,t.2.2.2.1,s.2.2.2.2))
 | none=>hiP a b s.2.2.2.2 t
noncomputable def hiM (a b:Array Keyed):SM (Array Keyed):=(liftM (rule "list.sort.merge-hi"):SM Unit) >>= fun _=>elem' a (a.size - 1) >>= fun y =>
 if (a.size - 1 == 0)=true then pure (hiE a b #[y] (a.size - 1) b.size)
 else if (b.size == 1)=true then pure (hiF a b #[y] (a.size - 1) b.size)
 else get >>= fun st=>forIn [:a.size+b.size] ((none,a.size - 1,b.size,#[y],gallopOf st):S1) (hiO a b) >>= fun t=>match t.1 with
 | some r=>pure r
 | none=>(liftM (unsupported (α:=Array Keyed) "internal:list.sort.merge-bound"):SM (Array Keyed))
set_option smartUnfolding false in
theorem qF:qj=hiM:=rfl
section
variable {prog:Program} {w:World} {A:Around} {E:Value→Shared→Prop} {s:Shared} {κ:SortKind} {r:Value→Int} {P:Value→Prop} {a b out:Array Keyed} {mg ac bc na nb N:Nat} {st:SortSt} {Q:ForInStep S3→SortSt→Prop}
noncomputable def HD (r:Value→Int) (a b:Array Keyed) (Q:ForInStep S3→SortSt→Prop) (st:SortSt):Prop:=∀ o rest,bQ r a b o→Q (.done (some o,rest)) st
noncomputable def HY (r:Value→Int) (a b:Array Keyed) (N:Nat) (Q:ForInStep S3→SortSt→Prop) (st:SortSt):Prop :=
 ∀ o na nb mg ac bc,MH r a b o na nb→1≤na→2≤nb→na+nb≤N→Q (.done (none,na,nb,o,mg,ac,bc)) st∧Q (.yield (none,na,nb,o,mg,ac,bc)) st
theorem vZ (c:MC prog w A s κ r P a b) (M:MH r a b out na nb) (h1:0<na) (lt:R r b (nb - 1)≤R r a (na - 1)) (h2:2≤nb) (hN:na+nb≤N) (D:HD r a b Q st) (Y:HY r a b N Q st):wpS (model prog w) A E s (hi3 a b mg ac bc na nb out) Q st:=by
 have ha:=M.ha
 refine wpS_bind (aK (by walk_at "l") fun p e=>?_)
 have M2:=M.lO c.hA c.hB h1 e fun _=>lt
 by_cases z:na - 1=0
 ·rw [if_pos (by simpa using z)]
  exact wpS_pure (D _ _ (M2.endA c.hA c.hB z))
 ·rw [if_neg (by simpa using z)]
  have y:=Y _ _ _ mg ac bc M2 (by walk_at "l") h2 (by walk_at "l")
  split
  ·exact wpS_pure y.1
  ·exact wpS_pure y.2
theorem Az (c:MC prog w A s κ r P a b) (hk:kindOf st=κ) (M:MH r a b out na nb) (h1:0<na) (h2:2≤nb) (hN:na+nb≤N) (D:HD r a b Q st) (Y:HY r a b N Q st):wpS (model prog w) A E s (hi2 a b mg ac bc na nb out) Q st:=by
 have ha:=M.ha
 have hb:=M.hb
 refine wpS_bind (aK (by walk_at "l") fun p e=>wpS_bind (cg c.C hk c.pb (c.pa.at e) (by walk_at "l") (by walk_at "l") (fun i j u v w=>c.hB i j u v (by walk_at "l")) fun l hl1 hl2 hl3=>?_))
 have ra:=R_at (r:=r) e
 dsimp only
 have lt:0<l→R r b (l - 1)≤R r a (na - 1):=fun z=>by have:=xY (hl2 (l - 1) (by exact Nat.sub_lt ‹_› Nat.one_pos)); rw [Nat.zero_add] at this; walk_at "l"
 by_cases l0:nb - l>0
 ·have M5:=MH.addB c.hA c.hB (nb - l) (p:=l) M (by exact Nat.add_sub_of_le ‹_›) fun _ i hi1 hi2=>by have:=pD (hl3 i hi1 hi2); rw [Nat.zero_add] at this; walk_at "l"
  rw [if_pos l0]
  by_cases z4:l=1
  ·rw [if_pos (by simpa using z4)]
   exact wpS_pure (D _ _ (M5.pM c.hA c.hB z4 c.hl))
  ·rw [if_neg (by simpa using z4)]
   by_cases z6:l=0
   ·rw [if_pos (by simpa using z6)]
    exact wpS_pure (D _ _ (M5.endB c.hA c.hB z6))
   ·rw [if_neg (by simpa using z6)]
    exact vZ c M5 h1 (lt (by walk_at "l")) (by walk_at "l") (by walk_at "l") D Y
 ·rw [if_neg l0]
  obtain rfl:l=nb:=by walk_at "l"
  exact vZ c M h1 (lt (by exact Nat.lt_of_succ_lt ‹_›)) h2 hN D Y
theorem wJ (c:MC prog w A s κ r P a b) (hk:kindOf st=κ) (M:MH r a b out na nb) (h1:0<na) (h2:2≤nb) (lt:R r a (na - 1)≤R r b (nb - 1)) (hN:na+nb≤N) (D:HD r a b Q st) (Y:HY r a b N Q st):wpS (model prog w) A E s (hi1 a b mg ac bc na nb out) Q st:=by
 have hb:=M.hb
 refine wpS_bind (aK (by walk_at "l") fun p e=>?_)
 have M4:=M.mU c.hA c.hB (by exact Nat.lt_of_succ_lt ‹_›) e fun _=>lt
 by_cases z:nb - 1=1
 ·rw [if_pos (by simpa using z)]
  exact wpS_pure (D _ _ (M4.pM c.hA c.hB z c.hl))
 ·rw [if_neg (by simpa using z)]
  exact Az c hk M4 h1 (by walk_at "l") (by walk_at "l") D Y
theorem zy (c:MC prog w A s κ r P a b) (hk:kindOf st=κ) (M:MH r a b out na nb) (h1:0<na) (h2:2≤nb) (hN:na+nb≤N) (D:∀ st',Mg st st'→HD r a b Q st') (Y:∀ st',Mg st st'→HY r a b N Q st'):wpS (model prog w) A E s (hi0 a b mg ac bc na nb out) Q st:=by
 have ha:=M.ha
 have hb:=M.hb
 have g:=(Mg.refl st).set mg
 refine wpS_bind (fG ?_)
 refine wpS_bind (aK (by walk_at "l") fun p e=>wpS_bind (cg c.C (g.kind.trans hk) c.pa (c.pb.at e) (by walk_at "l") (by exact Nat.sub_lt ‹_› Nat.one_pos) (fun i j u v w=>c.hA i j u v (by walk_at "l")) fun k hk1 hk2 hk3=>?_))
 have rb:=R_at (r:=r) e
 dsimp only
 have lt:0<k→R r a (k - 1)≤R r b (nb - 1):=fun z=>by have:=uK (hk2 (k - 1) (by exact Nat.sub_lt ‹_› Nat.one_pos)); rw [Nat.zero_add] at this; walk_at "l"
 by_cases k0:na - k>0
 ·have M3:=MH.addA c.hA c.hB (na - k) (p:=k) M (by exact Nat.add_sub_of_le ‹_›) fun _ i hi1 hi2=>by have:=qY (hk3 i hi1 hi2); rw [Nat.zero_add] at this; walk_at "l"
  rw [if_pos k0]
  by_cases z:k=0
  ·rw [if_pos (by simpa using z)]
   exact wpS_pure (D _ g _ _ (M3.endA c.hA c.hB z))
  ·rw [if_neg (by simpa using z)]
   exact wJ c (g.kind.trans hk) M3 (by walk_at "l") h2 (lt (by walk_at "l")) (by walk_at "l") (D _ g) (Y _ g)
 ·rw [if_neg k0]
  obtain rfl:k=na:=by walk_at "l"
  exact wJ c (g.kind.trans hk) M h1 h2 (lt h1) hN (D _ g) (Y _ g)
noncomputable def HI (r:Value→Int) (a b:Array Keyed) (N:Nat) (c:S2):Prop:=∃ na nb out ac bc,c=(none,na,nb,out,ac,bc)∧MH r a b out na nb∧1≤na∧2≤nb∧na+nb≤N
theorem Ai {Q:ForInStep S2→SortSt→Prop} (c:MC prog w A s κ r P a b) (M:MH r a b out na nb) (h1:0<na) (lt:R r b (nb - 1)≤R r a (na - 1)) (h2:2≤nb) (hN:na+nb≤N+1) (D:∀ c,HS r a b c→Q (.done c) st) (Y:∀ c,HI r a b N c→Q (.done c) st∧Q (.yield c) st):wpS (model prog w) A E s (hiA a b mg ac na nb out) Q st:=by
 have ha:=M.ha
 refine wpS_bind (aK (by walk_at "l") fun p e=>?_)
 have M2:=M.lO c.hA c.hB h1 e fun _=>lt
 by_cases z:na - 1=0
 ·rw [if_pos (by simpa using z)]
  exact wpS_pure (D _ ⟨_,_,rfl,M2.endA c.hA c.hB z⟩)
 ·rw [if_neg (by simpa using z)]
  have y:=Y _ ⟨_,_,_,ac+1,0,rfl,M2,by walk_at "l",h2,by walk_at "l"⟩
  split
  ·exact wpS_pure y.1
  ·exact wpS_pure y.2
theorem zJ {Q:ForInStep S2→SortSt→Prop} (c:MC prog w A s κ r P a b) (M:MH r a b out na nb) (h1:0<na) (lt:R r a (na - 1)≤R r b (nb - 1)) (h2:2≤nb) (hN:na+nb≤N+1) (D:∀ c,HS r a b c→Q (.done c) st) (Y:∀ c,HI r a b N c→Q (.done c) st∧Q (.yield c) st):wpS (model prog w) A E s (hiB a b mg bc na nb out) Q st:=by
 have hb:=M.hb
 refine wpS_bind (aK (by walk_at "l") fun p e=>?_)
 have M2:=M.mU c.hA c.hB (by exact Nat.lt_of_succ_lt ‹_›) e fun _=>lt
 by_cases z:nb - 1=1
 ·rw [if_pos (by simpa using z)]
  exact wpS_pure (D _ ⟨_,_,rfl,M2.pM c.hA c.hB z c.hl⟩)
 ·rw [if_neg (by simpa using z)]
  have y:=Y _ ⟨_,_,_,0,bc+1,rfl,M2,h1,by walk_at "l",by walk_at "l"⟩
  split
  ·exact wpS_pure y.1
  ·exact wpS_pure y.2
theorem Bh {Q:ForInStep S2→SortSt→Prop} {x:Nat} (c:MC prog w A s κ r P a b) (hk:kindOf st=κ) (M:MH r a b out na nb) (h1:0<na) (h2:2≤nb) (hN:na+nb≤N+1) (D:∀ c,HS r a b c→Q (.done c) st) (Y:∀ c,HI r a b N c→Q (.done c) st∧Q (.yield c) st):wpS (model prog w) A E s (hiI a b mg x (none,na,nb,out,ac,bc)) Q st:=by
 have ha:=M.ha
 have hb:=M.hb
 refine wpS_bind (aK (show nb - 1<b.size by walk_at "l") fun pb eb=>wpS_bind (aK (show na - 1<a.size by walk_at "l") fun pa ea=>wpS_bind (mj c.C hk (c.pb.at eb) (c.pa.at ea) ?_)))
 have rb:R r b (nb - 1)=r pb.1:=R_at eb
 have ra:R r a (na - 1)=r pa.1:=R_at ea
 dsimp only
 by_cases hw:r pb.1<r pa.1
 ·rw [if_pos (decide_eq_true hw)]
  exact Ai c M h1 (by walk_at "l") h2 hN D Y
 ·rw [if_neg (by simpa using hw)]
  exact zJ c M h1 (by walk_at "l") h2 hN D Y
theorem zu {Q:ForInStep S1→SortSt→Prop} (c:MC prog w A s κ r P a b) (hk:kindOf st=κ) (M:MH r a b out na nb) (h1:0<na) (h2:2≤nb) (hN:na+nb≤N) (D:∀ st',Mg st st'→∀ c,HS r a b c→Q (.done c) st')
  (Y:∀ st',Mg st st'→∀ out na nb mg,MH r a b out na nb→1≤na→2≤nb→na+nb≤N→Q (.yield (none,na,nb,out,mg)) st'):wpS (model prog w) A E s (hiP a b mg (none,na,nb,out,ac,bc)) Q st:=by
 refine wpS_bind (wpS_lift (wpAny_rule ⟨rfl,?_⟩))
 refine wpS_bind (wpS_mono (wpS_forRange (I:=fun _ c st'=>Mg st st'∧∃ na nb out mg ac bc,c=(none,na,nb,out,mg,ac,bc)∧MH r a b out na nb∧1≤na∧2≤nb∧na+nb≤N)
  (Q:=fun c st'=>Mg st st'∧(HS r a b c∨∃ na nb out mg ac bc,c=(none,na,nb,out,mg,ac,bc)∧MH r a b out na nb∧1≤na∧2≤nb∧na+nb≤N)) ?step ?fin ⟨.refl st,_,_,_,_,_,_,rfl,M,h1,h2,hN⟩) ?post)
 case fin =>
  rintro c st' ⟨hm,q⟩
  exact ⟨hm,.inr q⟩
 case step =>
  rintro y c1 st1 _ _ ⟨hm,na,nb,out,mg,ac,bc,rfl,M,h1,h2,hN⟩
  unfold hiG
  dsimp only
  split <;> exact zy c (hm.kind.trans hk) M h1 h2 hN (fun st' g o rest hM=>⟨hm.trans g,.inl ⟨o,rest,rfl,hM⟩⟩) fun st' g o na nb mg ac bc M h1 h2 hN=>⟨⟨hm.trans g,.inr ⟨_,_,_,_,_,_,rfl,M,h1,h2,hN⟩⟩,hm.trans g,_,_,_,_,_,_,rfl,M,h1,h2,hN⟩
 case post =>
  rintro c st' ⟨hm,⟨o,rest,rfl,hM⟩ | ⟨na,nb,out,mg,ac,bc,rfl,M,h1,h2,hN⟩⟩
  ·exact wpS_pure (D _ hm _ ⟨_,_,rfl,hM⟩)
  ·exact wpS_bind (fG (wpS_pure (Y _ (hm.set _) _ _ _ _ M h1 h2 hN)))
theorem Ae {Q:ForInStep S1→SortSt→Prop} {x:Nat} (c:MC prog w A s κ r P a b) (hk:kindOf st=κ) (M:MH r a b out na nb) (h1:0<na) (h2:2≤nb) (hN:na+nb≤N+1) (D:∀ st',Mg st st'→∀ c,HS r a b c→Q (.done c) st')
  (Y:∀ st',Mg st st'→∀ out na nb mg,MH r a b out na nb→1≤na→2≤nb→na+nb≤N→Q (.yield (none,na,nb,out,mg)) st'):wpS (model prog w) A E s (hiO a b x (none,na,nb,out,mg)) Q st:=by
 have ha:=M.ha
 have hb:=M.hb
 refine wpS_bind (wpS_mono (wpS_forRange (I:=fun y c st'=>st'=st∧HI r a b (N+1 - y) c) (Q:=fun c st'=>st'=st∧(HS r a b c∨HI r a b N c)) ?step ?fin ⟨rfl,_,_,_,_,_,rfl,M,h1,h2,hN⟩) ?post)
 case fin =>
  rintro c st' ⟨rfl,na',nb',o,ac,bc,rfl,M',q1,q2,q3⟩
  exact ⟨rfl,.inr ⟨_,_,_,_,_,rfl,M',q1,q2,by walk_at "l"⟩⟩
 case step =>
  rintro y c1 st1 _ hy ⟨rfl,na',nb',o,ac,bc,rfl,M',q1,q2,q3⟩
  exact Bh (N:=N - y) c hk M' q1 q2 (by walk_at "l") (fun c q=>⟨rfl,.inl q⟩) fun c q=>by
   obtain ⟨na,nb,o,ac,bc,rfl,M,h1,h2,h3⟩:=q
   exact ⟨⟨rfl,.inr ⟨_,_,_,_,_,rfl,M,h1,h2,by walk_at "s4"⟩⟩,rfl,_,_,_,_,_,rfl,M,h1,h2,by walk_at "l"⟩
 case post =>
  rintro c1 st' ⟨rfl,⟨o,rest,rfl,hM⟩ | ⟨na,nb,o,ac,bc,rfl,M',q1,q2,q3⟩⟩
  ·exact wpS_pure (D _ (.refl _) _ ⟨_,_,rfl,hM⟩)
  ·exact zu c hk M' q1 q2 q3 D Y
theorem nM {st:SortSt} {a b:Array Keyed} {Q:Array Keyed→SortSt→Prop} (C:Cmp prog w A s κ r P) (hk:kindOf st=κ) (hPa:AllP P a) (hPb:AllP P b) (hA:Up r a 0 a.size) (hB:Up r b 0 b.size) (na:1≤a.size) (nb:1≤b.size)
  (h0:R r b 0≤R r a 0) (hg:∀ j,j<b.size→R r b j≤R r a (a.size - 1)) (h:∀ out st',bQ r a b out→Mg st st'→Q out st'):wpS (model prog w) A E s (qj a b) Q st:=by
 have c:MC prog w A s κ r P a b:=⟨C,hPa,hPb,hA,hB,fun i hi=>Int.le_trans h0 (hA 0 i (Nat.le_refl _) (Nat.zero_le _) hi),hg⟩
 rw [qF]
 refine wpS_bind (wpS_lift (wpAny_rule ⟨rfl,?_⟩))
 refine wpS_bind (aK (by exact Nat.sub_lt ‹_› Nat.one_pos) fun y0 e0=>?_)
 have M1:MH r a b #[y0] (a.size - 1) b.size:=MH.start.lO hA hB na e0 fun _=>hg _ (by exact Nat.sub_lt ‹_› Nat.one_pos)
 by_cases c1:a.size - 1=0
 ·rw [if_pos (by simpa using c1)]
  exact wpS_pure (h _ _ (M1.endA hA hB c1) (.refl st))
 ·rw [if_neg (by simpa using c1)]
  by_cases c2:b.size=1
  ·rw [if_pos (by simpa using c2)]
   exact wpS_pure (h _ _ (M1.pM hA hB c2 c.hl) (.refl st))
  ·rw [if_neg (by simpa using c2)]
   refine wpS_bind (wpS_get ?_)
   refine wpS_bind (wpS_mono (wpS_forRange (I:=fun x c st'=>Mg st st'∧∃ na nb out mg,c=(none,na,nb,out,mg)∧MH r a b out na nb∧1≤na∧2≤nb∧na+nb≤a.size+b.size - x)
    (Q:=fun c st'=>Mg st st'∧HS r a b c) ?step ?fin ⟨.refl st,_,_,_,_,rfl,M1,by walk_at "l",by walk_at "l",by walk_at "l"⟩) ?post)
   case fin =>
    rintro c st' ⟨_,na,nb,out,mg,rfl,M,h1,h2,h3⟩
    walk_at "l"
   case post =>
    rintro c st' ⟨hm,out,rest,rfl,hM⟩
    exact wpS_pure (h out st' hM hm)
   case step =>
    rintro x c1 st1 _ hx ⟨hm1,na,nb,out,mg,rfl,M,h1,h2,h3⟩
    exact Ae (N:=a.size+b.size - (x+1)) c (hm1.kind.trans hk) M h1 h2 (by walk_at "l") (fun st' g c q=>⟨hm1.trans g,q⟩) fun st' g out na nb mg M h1 h2 h3=>⟨hm1.trans g,_,_,_,_,rfl,M,h1,h2,h3⟩
end
end Tim
set_option Elab.async false
set_option linter.all false
set_option maxRecDepth 100000
set_option maxHeartbeats 4000000
namespace Tim
open PySem PyProof.Rows
noncomputable def wr (p:Nat) (m:List Keyed) (n:Nat) (xs:Array Keyed):Array Keyed:=(m.zipIdx n).foldl (fun a (q:Keyed × Nat)=>a.setIfInBounds (p+q.2) q.1) xs
theorem tU (p:Nat):∀ (m:List Keyed) (n:Nat) (xs:Array Keyed),p+n+m.length≤xs.size→∀ k:Nat,(wr p m n xs)[k]? = if p+n≤k∧k<p+n+m.length then m[k - (p+n)]? else xs[k]?
 | [],n,xs,h,k=>by
  rw [if_neg (by simp only [List.length_nil]; walk_at "l")]; rfl
 | q :: m,n,xs,h,k=>by
  have ih:=tU p m (n+1) (xs.setIfInBounds (p+n) q) (by rw [Array.size_setIfInBounds]; simp only [List.length_cons] at h; walk_at "l") k
  have e:wr p (q :: m) n xs=wr p m (n+1) (xs.setIfInBounds (p+n) q):=by unfold wr; rw [List.zipIdx_cons,List.foldl_cons]
  simp only [List.length_cons] at h ⊢
  rw [e,ih]
  by_cases h1:p+(n+1)≤k∧k<p+(n+1)+m.length
  ·rw [if_pos h1,if_pos (by walk_at "l"),show k - (p+n)=(k - (p+(n+1)))+1 by walk_at "l",List.getElem?_cons_succ]
  ·rw [if_neg h1]
   by_cases h2:k=p+n
   ·subst h2
    rw [if_pos (by walk_at "s4"),Nat.sub_self,List.getElem?_cons_zero,Array.getElem?_setIfInBounds_self_of_lt (by walk_at "l")]
   ·rw [if_neg (by walk_at "l"),Array.getElem?_setIfInBounds_ne (by walk_at "s1")]
theorem yq {p:Nat} {m:List Keyed} {xs:Array Keyed} (h:p+m.length≤xs.size):(wr p m 0 xs).toList=xs.toList.take p++m++xs.toList.drop (p+m.length):=by
 have hl:xs.toList.length=xs.size:=by simp
 apply List.ext_getElem?
 intro k
 have e:=tU p m 0 xs h k
 rw [Nat.add_zero] at e
 rw [Array.getElem?_toList,e]
 by_cases h1:k<p
 ·rw [if_neg (by walk_at "l"),List.append_assoc,List.getElem?_append_left (by rw [List.length_take]; walk_at "l"),List.getElem?_take_of_lt h1,Array.getElem?_toList]
 ·by_cases h2:k<p+m.length
  ·rw [if_pos (by walk_at "s2"),List.append_assoc,List.getElem?_append_right (by rw [List.length_take]; walk_at "l"),List.length_take,show min p xs.toList.length=p by walk_at "l",List.getElem?_append_left (by walk_at "l")]
  ·rw [if_neg (by walk_at "l"),List.append_assoc,List.getElem?_append_right (by rw [List.length_take]; walk_at "l"),List.length_take,show min p xs.toList.length=p by walk_at "l",List.getElem?_append_right (by walk_at "l"),List.getElem?_drop,
    show p+m.length+(k - p - m.length)=k by walk_at "l",Array.getElem?_toList]
theorem zT {p q:Nat} {xs:Array Keyed} (h:p≤q) (h2:q≤xs.size):xs.toList=xs.toList.take p++(xs.extract p q).toList++xs.toList.drop q:=by
 rw [Array.toList_extract,List.extract_eq_drop_take]
 have e1:xs.toList.take p++(xs.toList.drop p).take (q - p)=xs.toList.take q:=by
  rw [← List.take_append_drop p (xs.toList.take q),List.take_take,List.drop_take,Nat.min_eq_left h]
 rw [e1,List.take_append_drop]
theorem xF {p q:Nat} {m:List Keyed} {xs:Array Keyed} (h:p≤q) (h2:q≤xs.size) (hm:m.Perm (xs.extract p q).toList):(wr p m 0 xs).Perm xs:=by
 have hl:m.length=q - p:=by rw [hm.length_eq]; simp; walk_at "l"
 rw [Array.perm_iff_toList_perm,yq (by walk_at "l"),show p+m.length=q by walk_at "l"]
 have e:=zT (xs:=xs) h h2
 exact (List.Perm.append_right _ (List.Perm.append_left _ hm)).trans (by rw [← e])
noncomputable def Runs (r:Value→Int) (xs:Array Keyed):List (Nat × Nat × Nat)→Nat→Nat→Prop
 | [],a,b=>a=b
 | (s,n,_) :: rest,a,b=>s=a∧1≤n∧Up r xs s (s+n)∧Runs r xs rest (s+n) b
section
variable {r:Value→Int} {xs ys:Array Keyed}
theorem Runs.le:∀ {ps:List (Nat × Nat × Nat)} {a b:Nat},Runs r xs ps a b→a+ps.length≤b
 | [],a,b,h=>by simp only [Runs] at h; simp; walk_at "l"
 | (s,n,p) :: rest,a,b,h=>by
  obtain ⟨rfl,h1,_,h3⟩:=h
  have:=Runs.le h3
  simp only [List.length_cons]; walk_at "l"
theorem Runs.append:∀ {ps qs:List (Nat × Nat × Nat)} {a b:Nat},Runs r xs (ps++qs) a b↔∃ c,Runs r xs ps a c∧Runs r xs qs c b
 | [],qs,a,b=>by simp [Runs]
 | (s,n,p) :: rest,qs,a,b=>by
  simp only [List.cons_append,Runs]
  constructor
  ·rintro ⟨h1,h2,h3,h4⟩
   obtain ⟨c,h5,h6⟩:=Runs.append.mp h4
   exact ⟨c,⟨h1,h2,h3,h5⟩,h6⟩
  ·rintro ⟨c,⟨h1,h2,h3,h5⟩,h6⟩
   exact ⟨h1,h2,h3,Runs.append.mpr ⟨c,h5,h6⟩⟩
theorem Up.congr {a b:Nat} (h:Up r xs a b) (e:∀ k,a≤k→k<b→ys[k]? = xs[k]?):Up r ys a b:=fun i j h1 h2 h3=>by
 rw [cj (e i h1 (by walk_at "s1")),cj (e j (by walk_at "s1") h3)]; exact h i j h1 h2 h3
theorem Runs.congr:∀ {ps:List (Nat × Nat × Nat)} {a b:Nat},Runs r xs ps a b→(∀ k,a≤k→k<b→ys[k]? = xs[k]?)→Runs r ys ps a b
 | [],a,b,h,_=>h
 | (s,n,p) :: rest,a,b,h,e=>by
  obtain ⟨rfl,h1,h2,h3⟩:=h
  have l:=h3.le
  exact ⟨rfl,h1,h2.congr fun k u v=>e k u (by walk_at "l"),Runs.congr h3 fun k u v=>e k (by walk_at "s4") v⟩
theorem Up.glue {a b c:Nat} (h1:Up r xs a b) (h2:Up r xs b c) (h:∀ i j,a≤i→i<b→b≤j→j<c→R r xs i≤R r xs j):Up r xs a c:=fun i j u v w=>by
 by_cases hj:j<b
 ·exact h1 i j u v hj
 ·by_cases hi:i<b
  ·exact h i j u hi (by exact Nat.le_of_not_lt ‹_›) w
  ·exact h2 i j (by exact Nat.le_of_not_lt ‹_›) v w
end
end Tim
set_option Elab.async false
set_option linter.all false
set_option maxRecDepth 100000
set_option maxHeartbeats 4000000
namespace Tim
open PySem PyProof.Rows
section
variable {prog:Program} {w:World} {A:Around} {E:Value→Shared→Prop} {s:Shared} {κ:SortKind} {r:Value→Int} {P:Value→Prop}
theorem AllP.extract {xs:Array Keyed} (h:AllP P xs) (i j:Nat):AllP P (xs.extract i j):=fun p hp=>h p (by
 rw [Array.toList_extract,List.extract_eq_drop_take] at hp
 exact List.mem_of_mem_drop (List.mem_of_mem_take hp))
theorem cI {xs:Array Keyed} {i j k:Nat} (h:i+k<j) (hj:j≤xs.size):R r (xs.extract i j) k=R r xs (i+k):=by
 apply cj
 rw [Array.getElem?_extract,if_pos (by walk_at "l")]
theorem Up.extract {xs:Array Keyed} {i j:Nat} (h:Up r xs i j) (hij:i≤j) (hj:j≤xs.size):Up r (xs.extract i j) 0 (xs.extract i j).size:=fun a b _ h2 h3=>by
 have e:(xs.extract i j).size=j - i:=by simp only [Array.size_extract]; (clear h2 h3; walk_at "l")
 rw [e] at h3
 rw [cI (by walk_at "l") hj,cI (by (clear hj h2; walk_at "l")) hj]
 exact h _ _ (by (clear hij hj h2 h3 e; exact Nat.le_add_right _ _)) (by (clear hij hj h3 e; walk_at "l")) (by (clear hj h2; walk_at "l"))
theorem tX {xs:Array Keyed} {m:Array Keyed} {sa k na nb' nb:Nat} (hz:sa+na+nb≤xs.size) (hk:k<na) (hnb:nb'≤nb) (hA:Up r xs sa (sa+na)) (hB:Up r xs (sa+na) (sa+na+nb))
  (lo1:∀ i,i<k→R r xs (sa+i)≤R r xs (sa+na)) (lo2:R r xs (sa+na)<R r xs (sa+k)) (hi1:∀ i,i<nb'→R r xs (sa+na+i)<R r xs (sa+na - 1)) (hi2:∀ i,nb'≤i→i<nb→R r xs (sa+na - 1)≤R r xs (sa+na+i))
  (hm:bQ r (xs.extract (sa+k) (sa+na)) (xs.extract (sa+na) (sa+na+nb')) m) :
  Up r (wr (sa+k) m.toList 0 xs) sa (sa+na+nb)∧(wr (sa+k) m.toList 0 xs).Perm xs∧∀ j,j<sa∨sa+na+nb≤j→(wr (sa+k) m.toList 0 xs)[j]? = xs[j]? := by
 obtain ⟨mp,mu⟩:=hm
 have eab:(xs.extract (sa+k) (sa+na)).toList++(xs.extract (sa+na) (sa+na+nb')).toList=(xs.extract (sa+k) (sa+na+nb')).toList:=by
  rw [← Array.toList_append,Array.extract_append_extract,show min (sa+k) (sa+na)=sa+k by (clear hz hnb lo2; walk_at "l"),show max (sa+na) (sa+na+nb')=sa+na+nb' by (clear hz hk hnb lo2; walk_at "l")]
 rw [eab] at mp
 have ml:m.toList.length=na+nb' - k:=by rw [mp.length_eq]; simp; (clear lo2 eab; walk_at "l")
 have hw:sa+k+m.toList.length≤xs.size:=by (clear lo2 eab; walk_at "l")
 have get:=tU (sa+k) m.toList 0 xs (by (clear hz hk hnb lo2 eab ml; walk_at "l"))
 rw [Nat.add_zero,ml] at get
 -- every merged item is one of the window's
 have mem:∀ (j:Nat) (p:Keyed),m.toList[j]? = some p→∃ i,sa+k≤i∧i<sa+na+nb'∧r p.1=R r xs i:=fun j p e=>by
  have hp:p∈(xs.extract (sa+k) (sa+na+nb')).toList:=mp.mem_iff.mp (List.mem_of_getElem? e)
  obtain ⟨i,hi⟩:=List.getElem?_of_mem hp
  rw [Array.getElem?_toList,Array.getElem?_extract] at hi
  split at hi
  ·exact ⟨sa+k+i,by (clear hz hk hnb lo2 eab ml hw e hi; exact Nat.le_add_right _ _),by (clear hk lo2 eab ml hw e hi; walk_at "l"),(R_at hi).symm⟩
  ·cases hi
 have low:∀ i,sa+k≤i→i<sa+na+nb'→R r xs (sa+na)≤R r xs i:=fun i h1 h2=>by
  by_cases h3:i<sa+na
  ·exact Int.le_trans (Int.le_of_lt lo2) (hA (sa+k) i (by (clear hz hk hnb lo2 eab ml hw h1 h2 h3; exact Nat.le_add_right _ _)) h1 h3)
  ·exact hB (sa+na) i (Nat.le_refl _) (by (clear hz hk hnb lo2 eab ml hw h1 h2; exact Nat.le_of_not_lt ‹_›)) (by (clear hz hk lo2 eab ml hw h1 h3; walk_at "s4"))
 have high:∀ i,sa+k≤i→i<sa+na+nb'→R r xs i≤R r xs (sa+na - 1):=fun i h1 h2=>by
  by_cases h3:i<sa+na
  ·exact hA i (sa+na - 1) (by (clear hz hk hnb lo2 eab ml hw h2 h3; walk_at "l")) (by (clear hz hk hnb lo2 eab ml hw h1 h2; walk_at "l")) (by (clear hz hk hnb lo2 eab ml hw h1 h2; walk_at "l"))
  ·have:=hi1 (i - (sa+na)) (by (clear hz hk hnb lo2 eab ml hw h1; walk_at "l"))
   rw [show sa+na+(i - (sa+na))=i by (clear hz hk hnb lo2 eab ml hw h1 h2; exact Nat.add_sub_of_le (Nat.le_of_not_lt ‹_›))] at this
   (clear hz hk hnb lo2 eab ml hw h1 h2 h3; exact Int.le_of_lt ‹_›)
 have Rin:∀ j,j<na+nb' - k→∃ i,sa+k≤i∧i<sa+na+nb'∧R r (wr (sa+k) m.toList 0 xs) (sa+k+j)=R r xs i:=fun j hj=>by
  have e:=get (sa+k+j)
  rw [if_pos (by (clear hz hk hnb lo2 eab ml hw e; walk_at "l")),show sa+k+j - (sa+k)=j by (clear hz hk hnb lo2 eab ml hw hj e; exact Nat.add_sub_cancel_left ..)] at e
  have hj':j<m.toList.length:=by (clear hz hk hnb lo2 eab hw e; walk_at "l")
  obtain ⟨i,h1,h2,h3⟩:=mem j m.toList[j] (List.getElem?_eq_getElem hj')
  rw [List.getElem?_eq_getElem hj'] at e
  exact ⟨i,h1,h2,(R_at e).trans h3⟩
 have Rout:∀ j,j<sa+k∨sa+na+nb'≤j→(wr (sa+k) m.toList 0 xs)[j]? = xs[j]? := fun j hj=>by
  have e:=get j
  rw [if_neg (by (clear hz hk hnb lo2 eab ml hw e; walk_at "l"))] at e
  exact e
 refine ⟨?_,xF (by (clear hz hnb lo2 eab ml hw; walk_at "l")) (by (clear hk lo2 eab ml hw; walk_at "l")) mp,fun j hj=>Rout j (by (clear hz hk lo2 eab ml hw; walk_at "l"))⟩
 have U1:Up r (wr (sa+k) m.toList 0 xs) sa (sa+k):=Up.congr (xs:=xs) (fun i j h1 h2 h3=>hA i j h1 h2 (by (clear hz hnb lo2 eab ml hw h1 h2; walk_at "l"))) fun j h1 h2=>Rout j (.inl h2)
 have U2:Up r (wr (sa+k) m.toList 0 xs) (sa+k) (sa+na+nb'):=fun i j h1 h2 h3=>by
  have ei:=get i
  have ej:=get j
  rw [if_pos (by (clear hz hk hnb lo2 eab ml hw ei ej; walk_at "l"))] at ei ej
  have li:i - (sa+k)<m.toList.length:=by (clear hz hnb lo2 eab hw ei ej; walk_at "l")
  have lj:j - (sa+k)<m.toList.length:=by (clear hz hk hnb lo2 eab hw ei ej; walk_at "l")
  rw [List.getElem?_eq_getElem li] at ei
  rw [List.getElem?_eq_getElem lj] at ej
  rw [R_at ei,R_at ej]
  by_cases hij:i=j
  ·subst hij; exact Int.le_refl _
  ·exact (List.pairwise_iff_getElem.mp mu) _ _ li lj (by (clear hz hk hnb lo2 eab ml hw h3 li ei lj ej; walk_at "l"))
 have U3:Up r (wr (sa+k) m.toList 0 xs) (sa+na+nb') (sa+na+nb):=Up.congr (xs:=xs) (fun i j h1 h2 h3=>hB i j (by (clear hz hk hnb lo2 eab ml hw h2 h3; walk_at "l")) h2 h3) fun j h1 h2=>Rout j (.inr h1)
 refine (U1.glue U2 fun i j h1 h2 h3 h4=>?_).glue U3 fun i j h1 h2 h3 h4=>?_
 ·obtain ⟨q,q1,q2,q3⟩:=Rin (j - (sa+k)) (by (clear hz hk hnb lo2 eab ml hw h1 h2; walk_at "l"))
  rw [show sa+k+(j - (sa+k))=j by (clear hz hk hnb lo2 eab ml hw h1 h2 h4 q1 q2 q3; exact Nat.add_sub_of_le ‹_›)] at q3
  rw [q3,cj (Rout i (.inl h2))]
  have:=lo1 (i - sa) (by (clear hz hk hnb lo2 eab ml hw h3 h4 q1 q2 q3; walk_at "l"))
  rw [show sa+(i - sa)=i by (clear hz hk hnb lo2 eab ml hw h2 h3 h4 q1 q2 q3; exact Nat.add_sub_of_le ‹_›)] at this
  exact Int.le_trans this (low q q1 q2)
 ·have e2:=hi2 (j - (sa+na)) (by (clear hz hk hnb lo2 eab ml hw h1 h2 h4; walk_at "l")) (by (clear hz hk hnb lo2 eab ml hw h1 h2; walk_at "l"))
  rw [show sa+na+(j - (sa+na))=j by (clear hz hk hnb lo2 eab ml hw h1 h2 h4 e2; walk_at "l")] at e2
  rw [cj (Rout j (.inr h3))]
  by_cases hi:i<sa+k
  ·rw [cj (Rout i (.inl hi))]
   have:=lo1 (i - sa) (by (clear hz hk hnb lo2 eab ml hw h2 h3 h4 e2; walk_at "l"))
   rw [show sa+(i - sa)=i by (clear hz hk hnb lo2 eab ml hw h2 h3 h4 e2 hi; exact Nat.add_sub_of_le ‹_›)] at this
   have:=low (sa+na - 1) (by (clear hz hnb lo2 eab ml hw h1 h2 h3 h4 e2; walk_at "l")) (by (clear hz hk hnb lo2 eab ml hw h1 h3 h4 e2 hi; walk_at "l"))
   (clear hz hk hnb lo2 eab ml hw h1 h2 h3 h4 hi; walk_at "l")
  ·obtain ⟨q,q1,q2,q3⟩:=Rin (i - (sa+k)) (by (clear hz hk hnb lo2 eab ml hw h1 h3 h4 e2; walk_at "l"))
   rw [show sa+k+(i - (sa+k))=i by (clear hz hk hnb lo2 eab ml hw h1 h2 h3 h4 e2 q1 q2 q3; exact Nat.add_sub_of_le (Nat.le_of_not_lt ‹_›))] at q3
   rw [q3]
   exact Int.le_trans (high q q1 q2) e2
structure St (r:Value→Int) (κ:SortKind) (a₀:Array Keyed) (st:SortSt) (ps:List (Nat × Nat × Nat)) (lo:Nat):Prop where
 kind:kindOf st=κ
 failed:failedOf st=none
 perm:(arrOf st).Perm a₀
 pend:pendingOf st=ps.toArray
 runs:Runs r (arrOf st) ps 0 lo
theorem St.size {a₀:Array Keyed} {st:SortSt} {ps:List (Nat × Nat × Nat)} {lo:Nat} (h:St r κ a₀ st ps lo):(arrOf st).size=a₀.size:=h.perm.size_eq
theorem uU {ps:List (Nat × Nat × Nat)} {i:Nat} (h:i+1<ps.length):∃ pre x y post,ps=pre++x :: y :: post∧pre.length=i:=by
 refine ⟨ps.take i,ps[i],ps[i+1],ps.drop (i+2),?_,by rw [List.length_take]; walk_at "l"⟩
 rw [← List.drop_eq_getElem_cons (by walk_at "l"),← List.drop_eq_getElem_cons (by exact Nat.lt_of_succ_lt ‹_›),List.take_append_drop]
theorem il {st:SortSt} {a₀:Array Keyed} {ps:List (Nat × Nat × Nat)} {lo i:Nat} {Q:Bool→SortSt→Prop} (C:Cmp prog w A s κ r P) (hP:AllP P a₀) (H:St r κ a₀ st ps lo) (hlo:lo≤a₀.size) (hi:i+1<ps.length)
  (h:∀ st' ps',St r κ a₀ st' ps' lo→ps'.length+1=ps.length→ps'≠[]→(∀ k,lo≤k→(arrOf st')[k]? = (arrOf st)[k]?)→Q true st'):wpS (model prog w) A E s (mergeAt' i) Q st:=by
 obtain ⟨pre,⟨sa,na,pa⟩,⟨sb,nb,pb⟩,post,rfl,hpre⟩:=uU hi
 have hz:=H.size
 have hP':AllP P (arrOf st):=hP.perm H.perm
 obtain ⟨c,hr1,hr2⟩:=Runs.append.mp H.runs
 obtain ⟨rfl,n1,u1,rfl,n2,u2,hr3⟩:=hr2
 have le3:=hr3.le
 have le1:=hr1.le
 -- the new pending list
 have epend:((pendingOf st).setIfInBounds i (sa,na+nb,pa)).eraseIdxIfInBounds (i+1)=(pre++(sa,na+nb,pa) :: post).toArray:=by
  rw [H.pend]
  apply Array.toList_inj.mp
  simp [← hpre,List.eraseIdx_append_of_length_le]
 have new:∀ (xs:Array Keyed) (g:Nat),xs.Perm (arrOf st)→(∀ j,j<sa∨sa+na+nb≤j→xs[j]? = (arrOf st)[j]?)→Up r xs sa (sa+(na+nb)) →
   St r κ a₀ (SortSt.mk' (kindOf st) xs (pre++(sa,na+nb,pa) :: post).toArray g (failedOf st)) (pre++(sa,na+nb,pa) :: post) lo:=fun xs g hp ho hu =>
  ⟨H.kind,H.failed,hp.trans H.perm,rfl,Runs.append.mpr ⟨sa,hr1.congr fun k _ hk=>ho k (.inl hk),rfl,by (clear hlo hpre hz hi le3 le1 epend; walk_at "s4"),hu,by
   rw [show sa+(na+nb)=sa+na+nb by (clear hlo hpre hz n1 hi n2 le3 le1 epend; exact (Nat.add_assoc ..).symm)]
   exact hr3.congr fun k hk _=>ho k (.inr hk)⟩⟩
 have len:(pre++(sa,na+nb,pa) :: post).length+1=(pre++(sa,na,pa) :: (sa+na,nb,pb) :: post).length:=by simp; (clear hlo hpre hz n1 hi n2 le3 le1 epend; exact Nat.add_assoc ..)
 have e0:(pendingOf st)[i]? = some (sa,na,pa):=by rw [H.pend,← hpre]; simp
 have e1:(pendingOf st)[i+1]? = some (sa+na,nb,pb):=by rw [H.pend,← hpre]; simp
 refine wpS_bind (wpS_get ?_)
 rw [e0,e1]
 dsimp only
 refine wpS_bind (wpS_modify (f:=fun _=>SortSt.mk' (kindOf st) (arrOf st) (((pendingOf st).setIfInBounds i (sa,na+nb,pa)).eraseIdxIfInBounds (i+1)) (gallopOf st) (failedOf st)) ?_)
 rw [epend]
 refine wpS_bind (aK (xs:=arrOf st) (by (clear hpre n1 hi le1 epend len e0 e1; walk_at "l")) fun kb ekb=>wpS_bind (cg (arr:=arrOf st) C H.kind hP' (hP'.at ekb) (by (clear hpre n1 hi le1 epend len e0 e1 ekb; walk_at "l")) (by (clear hlo hpre hz hi n2 le3 le1 epend len e0 e1 ekb; assumption)) u1 fun k hk1 hk2 hk3=>?_))
 have rkb:=R_at (r:=r) ekb
 dsimp only
 by_cases z:na - k=0
 ·rw [if_pos (by simpa using z)]
  refine wpS_pure (h _ _ (new (arrOf st) (gallopOf st) (Array.Perm.refl _) (fun _ _=>rfl) ?_) len (by simp) fun _ _=>rfl)
  rw [show sa+(na+nb)=sa+na+nb by (clear hlo hpre hz n1 hi n2 le3 le1 epend len e0 e1 ekb hk1 rkb z; exact (Nat.add_assoc ..).symm)]
  refine u1.glue u2 fun i j h1 h2 h3 h4=>?_
  have:=uK (hk2 (i - sa) (by (clear hlo hpre hz n1 hi n2 le3 le1 epend len e0 e1 ekb rkb h3 h4; walk_at "l")))
  rw [show sa+(i - sa)=i by (clear hlo hpre hz n1 hi n2 le3 le1 epend len e0 e1 ekb hk1 rkb z h2 h3 h4; exact Nat.add_sub_of_le ‹_›)] at this
  have:=u2 (sa+na) j (Nat.le_refl _) h3 h4
  (clear hlo hpre hz n1 hi n2 le3 le1 epend len e0 e1 ekb hk1 z h1 h2 h3 h4; walk_at "l")
 ·rw [if_neg (by simpa using z)]
  refine wpS_bind (aK (xs:=arrOf st) (by (clear hpre hi le1 epend len e0 e1 ekb rkb z; walk_at "l")) fun ka eka=>wpS_bind (cg (arr:=arrOf st) C H.kind hP' (hP'.at eka) (by (clear hpre n1 hi n2 le1 epend len e0 e1 ekb hk1 rkb z eka; walk_at "l")) (by (clear hlo hpre hz n1 hi le3 le1 epend len e0 e1 ekb hk1 rkb z eka; exact Nat.sub_lt ‹_› Nat.one_pos)) u2 fun l hl1 hl2 hl3=>?_))
  have rka:=R_at (r:=r) eka
  rw [show sa+k+(na - k) - 1=sa+na - 1 by (clear hlo hpre hz hi n2 le3 le1 epend len e0 e1 ekb rkb z eka hl1 rka; walk_at "l")] at rka
  dsimp only
  by_cases z2:l=0
  ·rw [if_pos (by simpa using z2)]
   refine wpS_pure (h _ _ (new (arrOf st) (gallopOf st) (Array.Perm.refl _) (fun _ _=>rfl) ?_) len (by simp) fun _ _=>rfl)
   rw [show sa+(na+nb)=sa+na+nb by (clear hlo hpre hz n1 hi n2 le3 le1 epend len e0 e1 ekb hk1 rkb z eka hl1 rka z2; exact (Nat.add_assoc ..).symm)]
   refine u1.glue u2 fun i j h1 h2 h3 h4=>?_
   have:=pD (hl3 (j - (sa+na)) (by (clear hlo hpre hz n1 hi n2 le3 le1 epend len e0 e1 ekb hk1 rkb z eka hl1 rka h1 h2 h3 h4; walk_at "l")) (by (clear hlo hpre hz n1 hi n2 le3 le1 epend len e0 e1 ekb hk1 rkb z eka hl1 rka z2 h1 h2; walk_at "l")))
   rw [show sa+na+(j - (sa+na))=j by (clear hlo hpre hz n1 hi n2 le3 le1 epend len e0 e1 ekb hk1 rkb z eka hl1 rka z2 h1 h2 h4; exact Nat.add_sub_of_le ‹_›)] at this
   have:=u1 i (sa+na - 1) h1 (by (clear hlo hpre hz n1 hi n2 le3 le1 epend len e0 e1 ekb hk1 rkb z eka hl1 rka z2 h1 h3 h4; walk_at "l")) (by (clear hlo hpre hz n1 hi n2 le3 le1 epend len e0 e1 ekb hk1 rkb z eka hl1 rka z2 h1 h3 h4; walk_at "l"))
   (clear hlo hpre hz n1 hi n2 le3 le1 epend len e0 e1 ekb hk1 rkb z eka hl1 z2 h1 h2 h3 h4; walk_at "l")
  ·rw [if_neg (by simpa using z2)]
   have lo1:∀ i,i<k→R r (arrOf st) (sa+i)≤R r (arrOf st) (sa+na):=fun i hi=>by have:=uK (hk2 i hi); (clear hlo hpre hz n1 n2 le3 le1 epend len e0 e1 ekb hk1 z eka hl1 rka z2 hi; walk_at "l")
   have lo2:R r (arrOf st) (sa+na)<R r (arrOf st) (sa+k):=by have:=qY (hk3 k (Nat.le_refl _) (by (clear hlo hpre hz n1 hi n2 le3 le1 epend len e0 e1 ekb rkb eka hl1 rka; walk_at "l"))); (clear hlo hpre hz n1 hi n2 le3 le1 epend len e0 e1 ekb hk1 z eka hl1 rka z2; walk_at "l")
   have hi1:∀ i,i<l→R r (arrOf st) (sa+na+i)<R r (arrOf st) (sa+na - 1):=fun i hi=>by have:=xY (hl2 i hi); (clear hlo hpre hz n1 n2 le3 le1 epend len e0 e1 ekb hk1 rkb z eka hl1 z2 lo2 hi; walk_at "l")
   have hi2:∀ i,l≤i→i<nb→R r (arrOf st) (sa+na - 1)≤R r (arrOf st) (sa+na+i):=fun i h1 h2=>by have:=pD (hl3 i h1 h2); (clear hlo hpre hz n1 hi n2 le3 le1 epend len e0 e1 ekb hk1 rkb z eka hl1 z2 lo2 h1 h2; walk_at "l")
   have sx:((arrOf st).extract (sa+k) (sa+na)).size=na - k:=by simp only [Array.size_extract]; (clear hpre n1 hi n2 le1 epend len e0 e1 ekb rkb z eka rka z2 lo2; walk_at "l")
   have sy:((arrOf st).extract (sa+na) (sa+na+l)).size=l:=by simp only [Array.size_extract]; (clear hpre n1 hi n2 le1 epend len e0 e1 ekb hk1 rkb z eka rka z2 lo2 sx; walk_at "l")
   have ux:Up r ((arrOf st).extract (sa+k) (sa+na)) 0 ((arrOf st).extract (sa+k) (sa+na)).size:=Up.extract (fun i j h1 h2 h3=>u1 i j (by (clear hlo hpre hz n1 hi n2 le3 le1 epend len e0 e1 ekb hk1 rkb z eka hl1 rka z2 lo2 sx sy h2 h3; walk_at "l")) h2 h3) (by (clear hlo hpre hz n1 hi n2 le3 le1 epend len e0 e1 ekb rkb z eka hl1 rka z2 lo2 sx sy; walk_at "l")) (by (clear hpre n1 hi n2 le1 epend len e0 e1 ekb hk1 rkb z eka rka z2 lo2 sx; walk_at "l"))
   have uy:Up r ((arrOf st).extract (sa+na) (sa+na+l)) 0 ((arrOf st).extract (sa+na) (sa+na+l)).size:=Up.extract (fun i j h1 h2 h3=>u2 i j h1 h2 (by (clear hlo hpre hz n1 hi n2 le3 le1 epend len e0 e1 ekb hk1 rkb z eka rka z2 lo2 sx h1 h2; walk_at "s4"))) (by (clear hlo hpre hz n1 hi n2 le3 le1 epend len e0 e1 ekb hk1 rkb z eka hl1 rka z2 lo2 sx; exact Nat.le_add_right _ _)) (by (clear hpre n1 hi n2 le1 epend len e0 e1 ekb hk1 rkb z eka rka z2 lo2 sx; walk_at "l"))
   have h00:R r ((arrOf st).extract (sa+na) (sa+na+l)) 0≤R r ((arrOf st).extract (sa+k) (sa+na)) 0:=by
    rw [cI (by (clear hlo hpre hz n1 hi n2 le3 le1 epend len e0 e1 ekb rkb z eka hl1 rka lo2 sx; walk_at "l")) (by (clear hpre n1 hi n2 le1 epend len e0 e1 ekb hk1 rkb z eka rka z2 lo2 sx; walk_at "l")),cI (by (clear hlo hpre hz n1 hi n2 le3 le1 epend len e0 e1 ekb rkb eka hl1 rka lo2 sx; walk_at "l")) (by (clear hpre n1 hi n2 le1 epend len e0 e1 ekb hk1 rkb z eka rka z2 lo2 sx; walk_at "l"))]
    exact Int.le_of_lt lo2
   have hgg:∀ j,j<((arrOf st).extract (sa+na) (sa+na+l)).size→R r ((arrOf st).extract (sa+na) (sa+na+l)) j≤R r ((arrOf st).extract (sa+k) (sa+na)) (((arrOf st).extract (sa+k) (sa+na)).size - 1):=fun j hj=>by
    rw [sx,cI (by (clear hlo hpre hz n1 hi n2 le3 le1 epend len e0 e1 ekb hk1 rkb z eka hl1 rka z2 lo2 sx h00; walk_at "l")) (by (clear hpre n1 hi n2 le1 epend len e0 e1 ekb hk1 rkb z eka rka z2 lo2 sx h00 hj; walk_at "l")),cI (by (clear hlo hpre hz n1 hi n2 le3 le1 epend len e0 e1 ekb rkb eka hl1 rka lo2 sx h00 hj; walk_at "l")) (by (clear hpre n1 hi n2 le1 epend len e0 e1 ekb hk1 rkb z eka rka z2 lo2 sx h00 hj; walk_at "l")),show sa+k+(na - k - 1)=sa+na - 1 by (clear hlo hpre hz hi n2 le3 le1 epend len e0 e1 ekb rkb eka hl1 rka lo2 sx h00 hj; walk_at "l")]
    exact Int.le_of_lt (hi1 j (by (clear hlo hpre hz n1 hi n2 le3 le1 epend len e0 e1 ekb hk1 rkb z eka hl1 rka z2 lo2 sx h00; walk_at "l")))
   have fin:∀ out st',bQ r ((arrOf st).extract (sa+k) (sa+na)) ((arrOf st).extract (sa+na) (sa+na+l)) out→Mg (SortSt.mk' (kindOf st) (arrOf st) (pre++(sa,na+nb,pa) :: post).toArray (gallopOf st) (failedOf st)) st' →
     Q true (SortSt.mk' (kindOf st') (wr (sa+k) out.toList 0 (arrOf st')) (pendingOf st') (gallopOf st') (failedOf st')):=fun out st' hm hg=>by
    obtain ⟨g,rfl⟩:=hg
    obtain ⟨m1,m2,m3⟩:=tX (by (clear hpre n1 hi n2 le1 epend len e0 e1 ekb hk1 rkb z eka hl1 rka z2 lo2 sx sy h00; walk_at "l")) (by (clear hlo hpre hz n1 hi n2 le3 le1 epend len e0 e1 ekb rkb eka hl1 rka lo2 sx h00; walk_at "l")) hl1 u1 u2 lo1 lo2 hi1 hi2 hm
    exact h _ _ (new _ g m2 m3 (by rw [show sa+(na+nb)=sa+na+nb by (clear hlo hpre hz n1 hi n2 le3 le1 epend len e0 e1 ekb hk1 rkb z eka hl1 rka z2 lo2 sx sy h00; exact (Nat.add_assoc ..).symm)]; exact m1)) len (by simp) fun k hk=>m3 k (.inr (by (clear hlo hpre hz n1 hi n2 le1 epend len e0 e1 ekb hk1 rkb z eka hl1 rka z2 lo2 sx sy h00; walk_at "l")))
   have fin2:∀ out st',bQ r ((arrOf st).extract (sa+k) (sa+na)) ((arrOf st).extract (sa+na) (sa+na+l)) out→Mg (SortSt.mk' (kindOf st) (arrOf st) (pre++(sa,na+nb,pa) :: post).toArray (gallopOf st) (failedOf st)) st' →
     failedOf st'=none:=fun out st' _ hg=>by
    obtain ⟨g,rfl⟩:=hg
    exact H.failed
   by_cases z3:na - k≤l
   ·rw [if_pos z3]
    refine wpS_bind (nF (a:=(arrOf st).extract (sa+k) (sa+na)) (b:=(arrOf st).extract (sa+na) (sa+na+l)) C H.kind (hP'.extract _ _) (hP'.extract _ _) ux uy (by (clear hlo hpre hz n1 hi n2 le3 le1 epend len e0 e1 ekb rkb eka hl1 rka lo2 h00 z3; walk_at "l")) (by (clear hlo hpre hz n1 hi n2 le3 le1 epend len e0 e1 ekb rkb z eka hl1 rka lo2 sx h00 z3; walk_at "l")) h00 hgg fun out st' hm hg=>?_)
    refine wpS_bind (wpS_modify (wpS_bind (wpS_get ?_)))
    have f:=fin out st' hm hg
    have f2:=fin2 out st' hm hg
    refine wpS_pure ?_
    show Q (failedOf st').isNone _
    rw [f2]
    exact f
   ·rw [if_neg z3]
    refine wpS_bind (nM (a:=(arrOf st).extract (sa+k) (sa+na)) (b:=(arrOf st).extract (sa+na) (sa+na+l)) C H.kind (hP'.extract _ _) (hP'.extract _ _) ux uy (by (clear hlo hpre hz n1 hi n2 le3 le1 epend len e0 e1 ekb hk1 rkb z eka hl1 rka z2 lo2 h00; walk_at "l")) (by (clear hlo hpre hz n1 hi n2 le3 le1 epend len e0 e1 ekb rkb z eka hl1 rka lo2 sx h00 z3; walk_at "l")) h00 hgg fun out st' hm hg=>?_)
    refine wpS_bind (wpS_modify (wpS_bind (wpS_get ?_)))
    have f:=fin out st' hm hg
    have f2:=fin2 out st' hm hg
    refine wpS_pure ?_
    show Q (failedOf st').isNone _
    rw [f2]
    exact f
end
end Tim
set_option Elab.async false
set_option linter.all false
set_option maxRecDepth 100000
set_option maxHeartbeats 4000000
namespace Tim
open PySem PyProof.Rows
section
variable {prog:Program} {w:World} {A:Around} {E:Value→Shared→Prop} {s:Shared} {κ:SortKind} {r:Value→Int} {P:Value→Prop}
theorem Runs.modify {xs:Array Keyed} {f:Nat × Nat × Nat→Nat × Nat × Nat} (hf:∀ x,(f x).1=x.1∧(f x).2.1=x.2.1):∀ {ps:List (Nat × Nat × Nat)} {i a b:Nat},Runs r xs ps a b→Runs r xs (ps.modify i f) a b
 | [],_,_,_,h=>by simpa using h
 | (s,n,p) :: rest,0,a,b,h=>by
  obtain ⟨h1,h2⟩:=hf (s,n,p)
  rw [List.modify_zero_cons]
  have e:f (s,n,p)=(s,n,(f (s,n,p)).2.2):=Prod.ext h1 (Prod.ext h2 rfl)
  rw [e]
  exact h
 | (s,n,p) :: rest,i+1,a,b,h=>by
  rw [List.modify_succ_cons]
  obtain ⟨h1,h2,h3,h4⟩:=h
  exact ⟨h1,h2,h3,Runs.modify hf h4⟩
theorem St.win {a₀:Array Keyed} {st st':SortSt} {ps:List (Nat × Nat × Nat)} {lo hi:Nat} (H:St r κ a₀ st ps lo) (hw:Win lo hi st st'):St r κ a₀ st' ps lo :=
 ⟨hw.kind.trans H.kind,hw.failed.trans H.failed,hw.perm.trans H.perm,hw.pend.trans H.pend,H.runs.congr fun k _ hk=>hw.out k (.inl hk)⟩
theorem wpS_sortRuns {st:SortSt} {Q:Unit→SortSt→Prop} (C:Cmp prog w A s κ r P) (hk:kindOf st=κ) (hP:AllP P (arrOf st)) (hp:pendingOf st = #[]) (hf:failedOf st=none)
  (h:∀ st',(arrOf st').Perm (arrOf st)→failedOf st'=none→Up r (arrOf st') 0 (arrOf st).size→Q () st'):wpS (model prog w) A E s sortRuns' Q st:=by
 rw [sortRuns'_eq]
 refine wpS_bind (wpS_get ?_)
 dsimp only
 generalize ha:arrOf st=a₀ at *
 have H0:St r κ a₀ st [] 0:=⟨hk,hf,by rw [ha],by rw [hp],rfl⟩
 refine wpS_bind (wpS_mono (wpS_forRange (I:=fun x c st'=>∃ ps lo,c=(none,lo)∧St r κ a₀ st' ps lo∧lo≤a₀.size∧x≤lo)
  (Q:=fun c st'=>∃ ps,c=(none,a₀.size)∧St r κ a₀ st' ps a₀.size) ?step ?fin ⟨[],0,rfl,H0,Nat.zero_le _,Nat.le_refl _⟩) ?post)
 case fin =>
  rintro c st' ⟨ps,lo,rfl,H,h1,h2⟩
  have:lo=a₀.size:=by walk_at "l"
  subst this
  exact ⟨ps,rfl,H⟩
 case post =>
  rintro c st' ⟨ps,rfl,H⟩
  dsimp only
  have l0:=H.runs.le
  refine wpS_bind (wpS_mono (wpS_forRange (I:=fun y c st'=>c=(none,())∧∃ ps',St r κ a₀ st' ps' a₀.size∧ps'.length+y≤a₀.size)
   (Q:=fun c st'=>c=(none,())∧∃ ps',St r κ a₀ st' ps' a₀.size∧ps'.length≤1) ?step3 ?fin3 ⟨rfl,ps,H,by walk_at "l"⟩) ?post3)
  case fin3 =>
   rintro c st' ⟨rfl,ps',H',hl⟩
   exact ⟨rfl,ps',H',by walk_at "l"⟩
  case post3 =>
   rintro c st' ⟨rfl,ps',H',hl⟩
   refine wpS_pure (h st' H'.perm H'.failed ?_)
   have q:=H'.runs
   match ps',hl,q with
   | [],_,q =>
    have q:0=a₀.size:=q
    intro i j _ _ hj
    walk_at "l"
   | [(s',n',p')],_,q =>
    obtain ⟨rfl,_,hu,e⟩:=q
    have e:0+n'=a₀.size:=e
    rw [← e]
    exact hu
  case step3 =>
   rintro y c st1 _ hy ⟨rfl,ps',H',hl⟩
   refine wpS_bind (wpS_get ?_)
   have ep:(pendingOf st1).size=ps'.length:=by rw [H'.pend]; simp
   by_cases z:(pendingOf st1).size≤1
   ·rw [if_pos z]
    exact wpS_pure ⟨rfl,ps',H',by walk_at "l"⟩
   ·rw [if_neg z]
    refine wpS_bind (il C hP H' (Nat.le_refl _) (by (repeat' split) <;> walk_at "l") fun st2 ps2 H2 hlen _ _=>?_)
    rw [if_neg (by simp)]
    exact wpS_pure ⟨rfl,ps2,H2,by walk_at "l"⟩
 case step =>
  rintro x c st1 _ hx ⟨ps,lo,rfl,H,h1,h2⟩
  dsimp only
  by_cases z:lo ≥ a₀.size
  ·rw [if_pos z]
   have:lo=a₀.size:=by walk_at "l"
   subst this
   exact wpS_pure ⟨ps,rfl,H⟩
  ·rw [if_neg z]
   have hz:=H.size
   refine wpS_bind (wpS_countRun C H.kind (hP.perm H.perm) (by walk_at "l") (by walk_at "l") fun m st2 hw hm1 hm2 hu=>?_)
   have H2:=H.win hw
   dsimp only
   refine xN (K:=?K) ?pk fun key=>?main
   case main =>
    by_cases z2:m<minRun' a₀.size a₀.size 0
    ·rw [if_pos z2]
     refine wpS_bind (wpS_lift (wpAny_rule ⟨rfl,?_⟩))
     refine wpS_bind (wpS_binarySort C H2.kind (hP.perm H2.perm) (by clear key; have:=H2.size; walk_at "l") (by clear key; walk_at "l") hu fun st3 hw3 hu3=>?_)
     have H3:=H2.win hw3
     rw [if_neg (by simp)]
     have b1:1≤min (a₀.size - lo) (minRun' a₀.size a₀.size 0):=by clear key; walk_at "l"
     have b2:lo+min (a₀.size - lo) (minRun' a₀.size a₀.size 0)≤a₀.size:=by clear key; walk_at "l"
     clear hw3
     generalize min (a₀.size - lo) (minRun' a₀.size a₀.size 0)=nn at *
     revert nn st3
     exact key
    ·rw [if_neg z2]
     exact key _ H2 _ hu hm1 (by walk_at "l")
   intro st3 H3 nn hu3 b1 b2
   refine wpS_bind (wpS_get ?_)
   have push:∀ (st':SortSt) (ps':List (Nat × Nat × Nat)),St r κ a₀ st' ps' lo→Up r (arrOf st') lo (lo+nn)→∃ ps lo',((none:Option Unit),lo+nn)=(none,lo')∧St r κ a₀ (setPending st' ((pendingOf st').push (lo,nn,0))) ps lo'∧lo'≤a₀.size∧x+1≤lo':=fun st' ps' G u =>
    ⟨ps'++[(lo,nn,0)],lo+nn,rfl,⟨G.kind,G.failed,G.perm,by show (pendingOf st').push _=_; rw [G.pend]; simp,Runs.append.mpr ⟨lo,G.runs,rfl,b1,u,rfl⟩⟩,b2,by walk_at "l"⟩
   cases hb:(pendingOf st3).back? with
   | none =>
    dsimp only
    exact wpS_bind (wpS_modify (wpS_pure (push st3 ps H3 hu3)))
   | some t =>
    obtain ⟨s1,n1,p1⟩:=t
    dsimp only
    generalize power' a₀.size (2 * s1+n1) (2 * s1+n1+n1+nn) a₀.size=pw
    refine wpS_bind (wpS_mono (wpS_forRange (I:=fun y c st'=>c=(none,())∧∃ ps',St r κ a₀ st' ps' lo∧Up r (arrOf st') lo (lo+nn))
     (Q:=fun c st'=>c=(none,())∧∃ ps',St r κ a₀ st' ps' lo∧Up r (arrOf st') lo (lo+nn)) ?_ (fun _ _ q=>q) ⟨rfl,ps,H3,hu3⟩) ?_)
    ·rintro y c st4 _ hy ⟨rfl,ps',H4,hu4⟩
     refine wpS_bind (wpS_get ?_)
     have ep:(pendingOf st4).size=ps'.length:=by rw [H4.pend]; simp
     by_cases z3:(pendingOf st4).size>1
     ·rw [if_pos z3]
      have e4:(pendingOf st4)[(pendingOf st4).size - 2]? = some ((pendingOf st4)[(pendingOf st4).size - 2]'(by walk_at "l")):=getElem?_pos _ _ (by walk_at "l")
      rw [e4]
      generalize (pendingOf st4)[(pendingOf st4).size - 2]'(by walk_at "l")=tt
      obtain ⟨t1,t2,older⟩:=tt
      dsimp only
      by_cases z4:older≤pw
      ·rw [if_pos z4]
       exact wpS_pure ⟨rfl,ps',H4,hu4⟩
      ·rw [if_neg z4]
       refine wpS_bind (il C hP H4 h1 (by walk_at "l") fun st5 ps5 H5 hlen _ hout=>?_)
       rw [if_neg (by simp)]
       exact wpS_pure ⟨rfl,ps5,H5,hu4.congr fun k hk _=>hout k hk⟩
     ·rw [if_neg z3]
      exact wpS_pure ⟨rfl,ps',H4,hu4⟩
    ·rintro c st4 ⟨rfl,ps',H4,hu4⟩
     dsimp only
     refine wpS_bind (wpS_modify (wpS_bind (wpS_modify (wpS_pure ?_))))
     refine push _ (ps'.modify (ps'.length - 1) fun x=>(x.1,x.2.1,pw)) ⟨H4.kind,H4.failed,H4.perm,?_,Runs.modify (f:=fun x=>(x.1,x.2.1,pw)) (fun _=>⟨rfl,rfl⟩) H4.runs⟩ hu4
     show (pendingOf st4).modify ((pendingOf st4).size - 1) (fun x=>(x.1,x.2.1,pw))=_
     rw [H4.pend]
     simp
end
end Tim
set_option Elab.async false
set_option linter.all false
set_option maxRecDepth 100000
set_option maxHeartbeats 4000000
namespace Tim
open PySem PyProof.Rows
section
variable {prog:Program} {w:World} {A:Around} {E:Value→Shared→Prop} {s:Shared} {κ:SortKind} {r:Value→Int} {P:Value→Prop}
noncomputable def cV (h:Heap) (a:Addr) (vs:List Value):Heap:=((h.update a (Obj.mapSeq fun _=>#[])).push (seqObj "tuple" vs.toArray 0)).push (seqObj "list" #[] 0)
theorem n6 {h:Heap} {a b:Addr} {vs:List Value} (hb:b≠a) (hlt:b<h.objs.size):(cV h a vs).get? b=h.get? b:=by
 unfold cV
 rw [Heap.get?_push_ne _ _ _ (by rw [size_push',Heap.size_update]; exact Nat.ne_of_lt (Nat.lt_succ_of_lt hlt)),
  Heap.get?_push_ne _ _ _ (by rw [Heap.size_update]; exact Nat.ne_of_lt hlt),Heap.get?_update_ne _ _ _ _ hb]
theorem nu {vs:List Value} {xs:Array Keyed} (hp:xs.Perm (pairsOf vs)) (hs:Up r xs 0 vs.length):(xs.map (·.2)).toList.Perm vs∧(xs.map (·.2)).toList.Pairwise fun x y=>r x≤r y:=by
 have hl:xs.toList.Perm (vs.zip vs):=by rw [← pairsOf_toList]; exact Array.perm_iff_toList_perm.mp hp
 have hmem:∀ p,p∈xs.toList→p.1=p.2:=fun p hp'=>(mem_zip_self (hl.mem_iff.mp hp')).1
 have e:(xs.map (·.2)).toList=xs.toList.map (·.1):=by
  rw [Array.toList_map]; exact List.map_congr_left fun p hp'=>(hmem p hp').symm
 have hsz:xs.size=vs.length:=by rw [hp.size_eq,pairsOf_size]
 rw [e]
 refine ⟨?_,?_⟩
 ·have h1:=hl.map (·.1)
  rwa [List.map_fst_zip (Nat.le_refl _)] at h1
 ·rw [List.pairwise_iff_getElem]
  intro i j hi hj hij
  have hi':i<xs.size:=by simpa using hi
  have hj':j<xs.size:=by simpa using hj
  have h1:=hs i j (Nat.zero_le _) (Nat.le_of_lt hij) (by walk_at "l")
  rw [Ay hi',Ay hj'] at h1
  simpa using h1
theorem m7 {a:Addr} {vs:List Value} {n:Nat} {F:PySem.Fin→Shared→Prop} (ho:s.heap.get? a=some (seqObj "list" vs.toArray n)) (hsz:vs.length≤sizeLine) (hP:∀ v∈vs,P v)
  (hk:2≤vs.length→∀ (Q:SortKind→Shared→Prop),Q κ { s with heap:=cV s.heap a vs }→wpAny (model prog w) A (keyKind' vs.toArray) Q E { s with heap:=cV s.heap a vs })
  (C:2≤vs.length→Cmp prog w A { s with heap:=cV s.heap a vs } κ r P)
  (h:∀ out:Array Value,out.toList.Perm vs→(out.toList.Pairwise fun x y=>r x≤r y)→F (.done (.ret .none)) { s with heap:=sortedHeap s.heap a vs out }) :
  wpAny (model prog w) A (Builtin.«list.sort» ⟨[.ref a],[]⟩) F E s:=by
 rw [list_sort_plain]
 have ha:a<s.heap.objs.size:=Heap.lt_size ho
 refine wpAny_bind (listItems_at ho rfl ?_)
 refine wpAny_bind (listUpdate_at ho rfl ?_ (by simpa using hsz) (Nat.zero_le _))
 obtain ⟨e1,ho1⟩:∃ e1,(s.heap.update a (Obj.mapSeq fun _=>#[])).get? a=some (seqObj "list" #[] e1):=⟨_,get?_update_seq ho (fun _=>#[])⟩
 refine wpAny_bind (seqEpoch_at ho1 rfl ?_)
 refine wpAny_bind (wpAny_newTuple ?_ (by simpa using hsz))
 refine wpAny_bind (wpAny_newList ?_ (Nat.zero_le _))
 refine wpAny_holding ?_
 have ho6:(cV s.heap a vs).get? a=some (seqObj "list" #[] e1):=by
  unfold cV
  rw [Heap.get?_push_ne _ _ _ (by rw [size_push',Heap.size_update]; exact Nat.ne_of_lt (Nat.lt_succ_of_lt ha)),Heap.get?_push_ne _ _ _ (by rw [Heap.size_update]; exact Nat.ne_of_lt ha)]
  exact ho1
 show wpAny (model prog w) A _ F E { s with heap:=cV s.heap a vs }
 dsimp only
 have hvz:vs.toArray.size=vs.length:=by simp
 have fin:∀ st':SortSt,(arrOf st').Perm (pairsOf vs)→Up r (arrOf st') 0 vs.length→F (.done (.ret .none)) { s with heap:=sortedHeap s.heap a vs ((arrOf st').map (·.2)) }:=by
  intro st' hp hs
  obtain ⟨h1,h2⟩:=nu hp hs
  exact h _ h1 h2
 by_cases h2:vs.toArray.size<2
 ·rw [if_pos h2,if_pos h2]
  refine wpAny_bind (wpAny_pure ?_)
  rw [StateT.run_pure]
  refine wpAny_bind (wpAny_pure ?_)
  dsimp only
  refine wpAny_bind (seqEpoch_at ho6 rfl ?_)
  refine wpAny_bind (listUpdate_at ho6 rfl ?_ (Nat.zero_le _) (by rw [Array.size_map]; show (pairsOf vs).size≤_; rw [pairsOf_size]; exact Nat.le_succ_of_le ‹_›))
  simp only [bne_self_eq_false,Bool.false_eq_true,if_false]
  refine wpAny_pure (fin (SortSt.mk' general' (vs.toArray.zip vs.toArray) #[] 7 none) (Array.Perm.refl _) ?_)
  intro i j _ hij hj
  have:i=j:=by walk_at "l"
  subst this; exact Int.le_refl _
 ·rw [if_neg h2,if_neg h2]
  refine wpAny_bind (hk (by exact Nat.le_of_not_lt ‹_›) _ ?_)
  refine wpAny_bind (wpAny_mono (wpS_sortRuns (st:=SortSt.mk' κ (vs.toArray.zip vs.toArray) #[] 7 none)
   (Q:=fun _ st'=>(arrOf st').Perm (pairsOf vs)∧failedOf st'=none∧Up r (arrOf st') 0 vs.length)
   (C (by exact Nat.le_of_not_lt ‹_›)) rfl (fun p hp=>?_) rfl rfl fun st' a1 a2 a3=>⟨a1,a2,?_⟩) ?_ fun _ _ e=>e)
  ·have hp':p∈(pairsOf vs).toList:=hp
   rw [pairsOf_toList] at hp'
   exact hP _ (mem_zip_self hp').2
  ·have e:(arrOf (SortSt.mk' κ (vs.toArray.zip vs.toArray) #[] 7 none)).size=vs.length:=pairsOf_size vs
   rw [e] at a3
   exact a3
  ·rintro ⟨⟨⟩,st'⟩ s' ⟨rfl,hp,hf,hs⟩
   dsimp only
   refine wpAny_bind (seqEpoch_at ho6 rfl ?_)
   refine wpAny_bind (listUpdate_at ho6 rfl ?_ (Nat.zero_le _) (by refine Nat.le_trans (Nat.le_of_eq ((Array.size_map ..).trans (hp.size_eq.trans (pairsOf_size _)))) ?_; exact Nat.le_succ_of_le ‹_›))
   rw [hf]
   simp only [bne_self_eq_false,Bool.false_eq_true,if_false]
   exact wpAny_pure (fin st' hp hs)
end
end Tim
set_option Elab.async false
set_option linter.all false
set_option maxRecDepth 100000
set_option maxHeartbeats 4000000
namespace L2
open PySem PySem.Spec PyProof.Rows
noncomputable def lt1:Key→Key→Bool
 | .inl i,.inl j=>decide (i<j)
 | .inr x,.inr y=>ltS x y
 | _,_=>false
noncomputable def ltK:List Key→List Key→Bool
 | a :: as,b :: bs=>if a=b then ltK as bs else lt1 a b
 | _,_=>false
noncomputable def isI:Key→Bool
 | .inl _=>true
 | .inr _=>false
noncomputable def shOf (k:List Key):List Bool:=k.map isI
theorem xT (x:Str):ltS x x=false:=by unfold ltS; simp [List.lt_irrefl]
theorem Ax {x y z:Str} (h:ltS x y=true) (g:ltS y z=true):ltS x z=true:=by
 unfold ltS at *
 simp only [decide_eq_true_eq] at *
 exact List.lt_trans h g
theorem rR {x y:Str} (h:x.cps.toList=y.cps.toList):x=y:=by
 cases x; cases y
 simp only at h
 rw [Array.toList_inj.mp h]
theorem wM {x y:Str} (h:ltS x y=false) (g:ltS y x=false):x=y:=by
 unfold ltS at *
 simp only [decide_eq_false_iff_not] at *
 apply rR
 exact List.le_antisymm (List.not_lt.mp g) (List.not_lt.mp h)
theorem yL (a:Key):lt1 a a=false:=by cases a with | inl i=>simp [lt1] | inr x=>exact xT x
theorem Bv {a b c:Key} (h:lt1 a b=true) (g:lt1 b c=true):lt1 a c=true:=by
 cases a <;> cases b <;> cases c <;> simp only [lt1,decide_eq_true_eq] at * <;> first | walk_at "l" | contradiction | exact Ax h g
theorem xR {a b:Key} (e:isI a=isI b) (h:lt1 a b=false) (g:lt1 b a=false):a=b:=by
 cases a <;> cases b <;> simp only [lt1,isI,decide_eq_false_iff_not] at *
 ·congr 1; walk_at "l"
 ·cases e
 ·cases e
 ·congr 1; exact wM h g
theorem sE:∀ a:List Key,ltK a a=false
 | []=>rfl
 | a :: as=>by unfold ltK; rw [if_pos rfl]; exact sE as
theorem tG:∀ {a b c:List Key},ltK a b=true→ltK b c=true→ltK a c=true
 | [],_,_,h,_=>by simp [ltK] at h
 | _ :: _,[],_,h,_=>by simp [ltK] at h
 | _ :: _,_ :: _,[],_,g=>by simp [ltK] at g
 | a :: as,b :: bs,c :: cs,h,g=>by
  unfold ltK at h g ⊢
  by_cases e1:a=b
  ·subst e1
   rw [if_pos rfl] at h
   by_cases e2:a=c
   ·subst e2
    rw [if_pos rfl] at g ⊢
    exact tG h g
   ·rw [if_neg e2] at g ⊢
    exact g
  ·rw [if_neg e1] at h
   by_cases e2:b=c
   ·subst e2
    rw [if_neg e1]
    exact h
   ·rw [if_neg e2] at g
    have t:=Bv h g
    have ne:a≠c:=fun e=>by subst e; rw [yL] at t; cases t
    rw [if_neg ne]
    exact t
theorem nj:∀ {a b:List Key},shOf a=shOf b→ltK a b=false→ltK b a=false→a=b
 | [],[],_,_,_=>rfl
 | [],_ :: _,e,_,_=>by simp [shOf] at e
 | _ :: _,[],e,_,_=>by simp [shOf] at e
 | a :: as,b :: bs,e,h,g=>by
  simp only [shOf,List.map_cons,List.cons.injEq] at e
  unfold ltK at h g
  by_cases e1:a=b
  ·subst e1
   rw [if_pos rfl] at h g
   rw [nj (show shOf as=shOf bs from e.2) h g]
  ·rw [if_neg e1] at h
   rw [if_neg (Ne.symm e1)] at g
   exact absurd (xR e.1 h g) e1
theorem count_le {α:Type} (p q:α→Bool):∀ (l:List α),(∀ x∈l,p x=true→q x=true)→l.countP p≤l.countP q
 | [],_=>Nat.le_refl _
 | x :: l,h=>by
  have ih:=count_le p q l fun y hy=>h y (List.mem_cons_of_mem _ hy)
  have h1:=h x List.mem_cons_self
  rw [List.countP_cons,List.countP_cons]
  cases hp:p x <;> cases hq:q x <;> simp_all <;> exact Nat.le_succ_of_le ‹_›
theorem pK {α:Type} (p q:α→Bool) (a:α) (ha:p a=false) (hb:q a=true):∀ (l:List α),a∈l→(∀ x∈l,p x=true→q x=true)→l.countP p<l.countP q
 | [],m,_=>by cases m
 | x :: l,m,h=>by
  rw [List.countP_cons,List.countP_cons]
  rcases List.mem_cons.mp m with rfl | m
  ·have:=count_le p q l fun y hy=>h y (List.mem_cons_of_mem _ hy)
   rw [ha,hb]; simp; exact Nat.lt_succ_of_le ‹_›
  ·have ih:=pK p q a ha hb l m fun y hy=>h y (List.mem_cons_of_mem _ hy)
   have h1:=h x List.mem_cons_self
   cases hp:p x <;> cases hq:q x <;> simp_all <;> exact Nat.lt_succ_of_lt ‹_›
noncomputable def rkK (L:List (List Key)) (k:List Key):Int:=(L.countP fun j=>ltK j k:Nat)
theorem wF {L:List (List Key)} {a b:List Key} (e:shOf a=shOf b) (ma:a∈L):decide (rkK L a<rkK L b)=ltK a b:=by
 unfold rkK
 cases h:ltK a b with
 | true =>
  have:=pK (fun j=>ltK j a) (fun j=>ltK j b) a (sE a) h L ma fun x _ hx=>tG hx h
  exact decide_eq_true (by walk_at "l")
 | false =>
  apply decide_eq_false
  cases g:ltK b a with
  | false=>rw [nj e h g]; walk_at "l"
  | true =>
   have:=count_le (fun j=>ltK j b) (fun j=>ltK j a) L fun x _ hx=>tG hx g
   walk_at "l"
noncomputable def unV:V→Option Key
 | .int i=>some (.inl i)
 | .str x=>some (.inr x)
 | _=>none
theorem CQ (k:Key):unV (kV k)=some k:=by cases k <;> rfl
theorem wy:∀ k:List Key,(k.map kV).filterMap unV=k
 | []=>rfl
 | a :: as=>by rw [List.map_cons,List.filterMap_cons,CQ,wy as]
noncomputable def n_ (H:Hp):Value→List Key
 | .ref b=>match H b with
  | some (.tup xs)=>xs.filterMap unV
  | _=>[]
 | _=>[]
theorem cR {H:Hp} {b:Addr} {k:List Key} (h:H b=some (.tup (k.map kV))):n_ H (.ref b)=k:=by
 simp only [n_,h]; exact wy k
section
variable {prog:Program} {w:World} {A:Around} {E:Value→Shared→Prop} {s:Shared} {Q:Bool→Shared→Prop}
theorem zR {a b:Key} {u v:Value} (ru:RelV (kV a) u) (rv:RelV (kV b) v) (e:isI a=isI b) (q:Q (lt1 a b) s):wpAny (model prog w) A (oneLt' false u v) Q E s:=by
 refine PySem.W.kat_one u v ?_
 cases a with
 | inl i =>
  cases b with
  | inr x=>cases e
  | inl j =>
   obtain ⟨t,rfl⟩:=ru
   obtain ⟨t',rfl⟩:=rv
   exact lt_int q
 | inr x =>
  cases b with
  | inl j=>cases e
  | inr y =>
   obtain ⟨t,rfl⟩:=ru
   obtain ⟨t',rfl⟩:=rv
   exact PySem.P.lt_str q
theorem Ar {a b:Key} {u v:Value} (ru:RelV (kV a) u) (rv:RelV (kV b) v) (e:isI a=isI b) (q:Q (decide (a=b)) s):wpAny (model prog w) A (eqBool u v) Q E s:=by
 cases a with
 | inl i =>
  cases b with
  | inr x=>cases e
  | inl j =>
   obtain ⟨t,rfl⟩:=ru
   obtain ⟨t',rfl⟩:=rv
   refine wpAny_eqBool_int ?_
   rw [← key_ll]; exact q
 | inr x =>
  cases b with
  | inl j=>cases e
  | inr y =>
   obtain ⟨t,rfl⟩:=ru
   obtain ⟨t',rfl⟩:=rv
   refine wpAny_eqBool_str ?_
   rw [← key_rr]; exact q
theorem uM {fin:Bool} (k m:List Key) (us vs:List Value) (i:Nat) (ha:Vals (k.map kV) us) (hb:Vals (m.map kV) vs) (e:shOf k=shOf m) (hf:fin=false) (hi:i=0→k.head?.elim True (fun a=>isI a=true)) (q:Q (ltK k m) s) :
  PySem.W.KatLex prog w A true fin Q (us.zip vs) i s:=by
 induction k generalizing m us vs i with
 | nil =>
  cases m with
  | cons b m=>simp [shOf] at e
  | nil =>
   rw [Paired.n0 ha,Paired.n0 hb]
   subst hf
   exact PySem.W.kat_nil q
 | cons a k ih =>
  cases m with
  | nil=>simp [shOf] at e
  | cons b m =>
   obtain ⟨u,us,rfl,ra,rk⟩:=Paired.c ha
   obtain ⟨v,vs,rfl,rb,rm⟩:=Paired.c hb
   simp only [shOf,List.map_cons,List.cons.injEq] at e
   rw [List.zip_cons_cons]
   refine PySem.W.kat_cons (Ar ra rb e.1 (PySem.W.kat_go (fun h=>PySem.W.kat_yes ?_) (fun h=>PySem.W.kat_no ?_)))
   ·have h:=of_decide_eq_true h
    subst h
    unfold ltK at q
    rw [if_pos rfl] at q
    exact ih m _ _ (i+1) rk rm e.2 (fun h=>by walk_at "l") q
   ·have h:=of_decide_eq_false h
    unfold ltK at q
    rw [if_neg h] at q
    by_cases h0:i=0
    ·subst h0
     have ia:isI a=true:=hi rfl
     cases a with
     | inr x=>cases ia
     | inl i =>
      cases b with
      | inr x=>cases e.1
      | inl j =>
       obtain ⟨t,rfl⟩:=ra
       obtain ⟨t',rfl⟩:=rb
       exact oneLt_int q
    ·rw [show (true && i == 0)=false by simp [h0]]
     exact zR ra rb e.1 q
end
section
variable {X:Cx} {pins:List (Addr × Obj)} {σ:St} {H:Hp} {s:Shared}
theorem Inv.tup {b:Addr} {xs:List V} (I:Inv X pins σ H s) (h:H b=some (.tup xs)):∃ its:List Value,Vals xs its∧IsTup s.heap b its.toArray:=(I.hok b _ h).2
theorem uF (I:Inv X pins σ H s) {s':Shared} (kp:∀ b o,s.heap.get? b=some o→s'.heap.get? b=some o) {A:Around} {L:List (List Key)} {sh:List Bool} :
  Tim.Cmp X.prog X.w A s' (tuples' true) (fun v=>rkK L (n_ H v)) (fun v=>∃ b k,v=.ref b∧H b=some (.tup (k.map kV))∧shOf k=true :: sh∧k∈L):=by
 rintro x y ⟨b,k,rfl,hb,hk,mk⟩ ⟨c,m,rfl,hc,hm,mm⟩ Q E q
 obtain ⟨us,ru,o,e1,c1,n1,d1⟩:=I.tup hb
 obtain ⟨vs,rv,o',e2,c2,n2,d2⟩:=I.tup hc
 have sh':shOf k=shOf m:=hk.trans hm.symm
 simp only [cR hb,cR hc] at q
 rw [wF sh' mk] at q
 refine PySem.W.kat_lt (kp _ _ e1) d1 (kp _ _ e2) d2 (uM k m us vs 0 ru rv sh' ?_ (fun _=>?_) q)
 ·have h1:=ru.length
  have h2:=rv.length
  have h3:k.length=m.length:=by
   have:=congrArg List.length sh'
   simpa [shOf] using this
  simp only [List.length_map] at h1 h2
  exact decide_eq_false (by simp only [List.size_toArray]; walk_at "l")
 ·cases k with
  | nil=>simp [shOf] at hk
  | cons a k=>simp only [shOf,List.map_cons,List.cons.injEq] at hk; exact hk.1
theorem kat_tups (I:Inv X pins σ H s) {s':Shared} (kp:∀ b o,s.heap.get? b=some o→s'.heap.get? b=some o) {sh:List Bool} {ys:List V} {ks:List (List Key)} {vs:List Value} (ht:cN H ys ks) (hv:Vals ys vs) (hs:∀ k∈ks,shOf k=true :: sh) :
  ∃ fs:List Value,PySem.W.KatTups s'.heap vs fs∧fs.length=vs.length∧∀ f∈fs,∃ i t,f=Value.int i t:=by
 induction ys generalizing ks vs with
 | nil =>
  rw [Paired.n0 hv]
  exact ⟨[],.nil,rfl,by simp⟩
 | cons y ys ih =>
  obtain ⟨k,ks,rfl,⟨b,rfl,hb⟩,t⟩:=Paired.c ht
  obtain ⟨v,vs,rfl,rfl,rs⟩:=Paired.c hv
  obtain ⟨fs,f1,f2,f3⟩:=ih t rs fun j hj=>hs j (List.mem_cons_of_mem _ hj)
  have hk:=hs k List.mem_cons_self
  obtain ⟨us,ru,o,e1,c1,n1,d1⟩:=I.tup hb
  cases k with
  | nil=>simp [shOf] at hk
  | cons a k =>
   obtain ⟨u,us,rfl,ra,rr⟩:=Paired.c ru
   simp only [shOf,List.map_cons,List.cons.injEq] at hk
   cases a with
   | inr x=>cases hk.1
   | inl i =>
    obtain ⟨tk,rfl⟩:=ra
    exact ⟨_ :: fs,.cons (kp _ _ e1) c1 d1 rfl f1,by simp [f2],fun f hf=>by
     rcases List.mem_cons.mp hf with rfl | hf
     ·exact ⟨_,_,rfl⟩
     ·exact f3 f hf⟩
end
theorem cN.of {H:Hp} {ks:List (List Key)} (vs:List Value) (h:∀ v∈vs,∃ b k,v=Value.ref b∧H b=some (.tup (k.map kV))∧k∈ks):∃ zs,cN H zs (vs.map (n_ H))∧Vals zs vs:=by
 induction vs with
 | nil=>exact ⟨[],.nil,.nil⟩
 | cons v vs ih =>
  obtain ⟨zs,a,c⟩:=ih fun u hu=>h u (List.mem_cons_of_mem _ hu)
  obtain ⟨b,k,rfl,e,_⟩:=h v List.mem_cons_self
  exact ⟨.ref b :: zs,.cons ⟨b,rfl,by rw [cR e]; exact e⟩ a,.cons rfl c⟩
section
variable {X:Cx}
end
end L2
set_option Elab.async false
set_option linter.all false
set_option maxRecDepth 100000
set_option maxHeartbeats 4000000
namespace Tim
open PySem PyProof.Rows
section
variable {prog:Program} {w:World} {A:Around} {E:Value→Shared→Prop} {s:Shared} {κ:SortKind} {r:Value→Int} {P:Value→Prop}
end
end Tim
namespace L2
open PySem PySem.Spec PyProof.Rows
section
variable {X:Cx}
end
end L2
set_option Elab.async false
set_option linter.all false
set_option maxRecDepth 100000
set_option maxHeartbeats 4000000
namespace L2.Q
open PySem PySem.Spec PyProof.Rows
inductive D where
 | non | bl (b:Bool) | int (i:Int) | str (x:Str)
 | list (xs:List D) | tup (xs:List D) | dK (kvs:List (Key × D)) | dT (kvs:List (List Key × D))
mutual
/-- nothing in it can be changed -/
noncomputable def D.flat:D→Bool
 | .list _=>false
 | .dK _=>false
 | .dT _=>false
 | .tup xs=>flats xs
 | _=>true
noncomputable def flats:List D→Bool
 | []=>true
 | x :: xs=>x.flat && flats xs
end
theorem gR:∀ {xs:List D},flats xs=true↔∀ x∈xs,x.flat=true
 | []=>by simp [flats]
 | x :: xs=>by simp [flats,gR (xs:=xs)]
theorem gk {xs ys:List D}:flats (xs++ys)=(flats xs && flats ys):=by
 induction xs with
 | nil=>simp [flats]
 | cons x xs ih=>simp [flats,ih,Bool.and_assoc]
noncomputable def kOk:Key→Bool
 | .inl _=>true
 | .inr x=>decide (x.length≤sizeLine)
noncomputable def KsOk (kvs:List (Key × D)):Prop:=kvs.length≤sizeLine∧∀ p∈kvs,kOk p.1=true
noncomputable def KtOk (kvs:List (List Key × D)):Prop:=kvs.length≤sizeLine∧∀ p∈kvs,p.1.length≤sizeLine∧∀ k∈p.1,kOk k=true
mutual
inductive Rep (K:PySem.W.Frag) (H:Hp):D→V→Prop
 | non:Rep K H .non .non
 | bl (b:Bool):Rep K H (.bl b) (.bl b)
 | int (i:Int):Rep K H (.int i) (.int i)
 | str {x:Str}:x.length≤sizeLine→Rep K H (.str x) (.str x)
 | list {a:Addr} {vs:List V} {ds:List D}:vs.length≤sizeLine→SqL K H a vs→Reps K H ds vs→Rep K H (.list ds) (.ref a)
 | tup {a:Addr} {vs:List V} {ds:List D}:vs.length≤sizeLine→H a=some (.tup vs)→Reps K H ds vs→Rep K H (.tup ds) (.ref a)
 | dK {a:Addr} {vs:List V} {kvs:List (Key × D)}:KsOk kvs→H a=some (.dK ((kvs.map (·.1)).zip vs))→Reps K H (kvs.map (·.2)) vs→Rep K H (.dK kvs) (.ref a)
 | dT {a:Addr} {vs:List V} {kvs:List (List Key × D)}:KtOk kvs→H a=some (.dT ((kvs.map (·.1)).zip vs))→Reps K H (kvs.map (·.2)) vs→Rep K H (.dT kvs) (.ref a)
inductive Reps (K:PySem.W.Frag) (H:Hp):List D→List V→Prop
 | nil:Reps K H [] []
 | cons {d:D} {v:V} {ds:List D} {vs:List V}:Rep K H d v→Reps K H ds vs→Reps K H (d :: ds) (v :: vs)
end
theorem Rep.ind {K:PySem.W.Frag} {H:Hp} {m1:D→V→Prop} {m2:List D→List V→Prop} (h0:m1 .non .non) (hb:∀ b,m1 (.bl b) (.bl b)) (hi:∀ i,m1 (.int i) (.int i)) (hs:∀ x,x.length≤sizeLine→m1 (.str x) (.str x))
  (hl:∀ a vs ds,vs.length≤sizeLine→SqL K H a vs→Reps K H ds vs→m2 ds vs→m1 (.list ds) (.ref a)) (ht:∀ a vs ds,vs.length≤sizeLine→H a=some (.tup vs)→Reps K H ds vs→m2 ds vs→m1 (.tup ds) (.ref a))
  (hk:∀ a vs kvs,KsOk kvs→H a=some (.dK ((kvs.map (·.1)).zip vs))→Reps K H (kvs.map (·.2)) vs→m2 (kvs.map (·.2)) vs→m1 (.dK kvs) (.ref a)) (hT:∀ a vs kvs,KtOk kvs→H a=some (.dT ((kvs.map (·.1)).zip vs))→Reps K H (kvs.map (·.2)) vs→m2 (kvs.map (·.2)) vs→m1 (.dT kvs) (.ref a))
  (hn:m2 [] []) (hc:∀ d v ds vs,Rep K H d v→Reps K H ds vs→m1 d v→m2 ds vs→m2 (d :: ds) (v :: vs)):(∀ {d v},Rep K H d v→m1 d v)∧∀ {ds vs},Reps K H ds vs→m2 ds vs :=
 ⟨fun r=>Rep.rec (motive_1:=fun d v _=>m1 d v) (motive_2:=fun ds vs _=>m2 ds vs) h0 hb hi (fun h=>hs _ h) (fun z s r ih=>hl _ _ _ z s r ih) (fun z s r ih=>ht _ _ _ z s r ih) (fun z s r ih=>hk _ _ _ z s r ih) (fun z s r ih=>hT _ _ _ z s r ih) hn (fun r s a b=>hc _ _ _ _ r s a b) r,
  fun r=>Reps.rec (motive_1:=fun d v _=>m1 d v) (motive_2:=fun ds vs _=>m2 ds vs) h0 hb hi (fun h=>hs _ h) (fun z s r ih=>hl _ _ _ z s r ih) (fun z s r ih=>ht _ _ _ z s r ih) (fun z s r ih=>hk _ _ _ z s r ih) (fun z s r ih=>hT _ _ _ z s r ih) hn (fun r s a b=>hc _ _ _ _ r s a b) r⟩
theorem Rep.Aj {K:PySem.W.Frag} {H H':Hp} (s:Same H H'):(∀ {d:D} {v:V},Rep K H d v→Rep K H' d v)∧∀ {ds:List D} {vs:List V},Reps K H ds vs→Reps K H' ds vs :=
 Rep.ind .non .bl .int (fun _ h=>.str h) (fun _ _ _ z h _ ih=>.list z (s.lst h) ih) (fun _ _ _ z h _ ih=>.tup z (s _ _ h) ih) (fun _ _ _ kk h _ ih=>.dK kk (s _ _ h) ih) (fun _ _ _ kk h _ ih=>.dT kk (s _ _ h) ih) .nil fun _ _ _ _ _ _ a b=>.cons a b
theorem Rep.same {K:PySem.W.Frag} {H H':Hp} (s:Same H H') {d:D} {v:V} (r:Rep K H d v):Rep K H' d v:=(Rep.Aj s).1 r
theorem Reps.same {K:PySem.W.Frag} {H H':Hp} (s:Same H H') {ds:List D} {vs:List V} (r:Reps K H ds vs):Reps K H' ds vs:=(Rep.Aj s).2 r
theorem Reps.ind {K:PySem.W.Frag} {H:Hp} {m:List D→List V→Prop} (hn:m [] []) (hc:∀ d v ds vs,Rep K H d v→Reps K H ds vs→m ds vs→m (d :: ds) (v :: vs)):∀ {ds vs},Reps K H ds vs→m ds vs :=
 fun r=>(Rep.ind (m1:=fun _ _=>True) (m2:=m) trivial (fun _=>trivial) (fun _=>trivial) (fun _ _=>trivial) (fun _ _ _ _ _ _ _=>trivial) (fun _ _ _ _ _ _ _=>trivial) (fun _ _ _ _ _ _ _=>trivial) (fun _ _ _ _ _ _ _=>trivial) hn fun d v ds vs r s _ b=>hc d v ds vs r s b).2 r
theorem Reps.length {K:PySem.W.Frag} {H:Hp} {ds:List D} {vs:List V} (r:Reps K H ds vs):ds.length=vs.length :=
 Reps.ind (m:=fun ds vs=>ds.length=vs.length) rfl (fun _ _ _ _ _ _ ih=>by rw [List.length_cons,List.length_cons,ih]) r
theorem Reps.append {K:PySem.W.Frag} {H:Hp} {ds es:List D} {vs ws:List V} (r:Reps K H ds vs) (t:Reps K H es ws):Reps K H (ds++es) (vs++ws) :=
 Reps.ind (m:=fun ds vs=>Reps K H (ds++es) (vs++ws)) t (fun _ _ _ _ h _ ih=>.cons h ih) r
theorem Reps.get {K:PySem.W.Frag} {H:Hp} {ds:List D} {vs:List V} {i:Nat} {d:D} (r:Reps K H ds vs) (e:ds[i]? = some d):∃ v,vs[i]? = some v∧Rep K H d v :=
 Reps.ind (m:=fun ds vs=>∀ i d,ds[i]? = some d→∃ v,vs[i]? = some v∧Rep K H d v) (fun i d e=>by simp at e) (fun _ _ _ _ h _ ih i d e=>by
  cases i with
  | zero=>simp at e; subst e; exact ⟨_,rfl,h⟩
  | succ i =>
   obtain ⟨v,e1,r⟩:=ih i d (by simpa using e)
   exact ⟨v,by simpa using e1,r⟩) r i d e
theorem Reps.getV {K:PySem.W.Frag} {H:Hp} {ds:List D} {vs:List V} {i:Nat} {v:V} (r:Reps K H ds vs) (e:vs[i]? = some v):∃ d,ds[i]? = some d∧Rep K H d v :=
 Reps.ind (m:=fun ds vs=>∀ i v,vs[i]? = some v→∃ d,ds[i]? = some d∧Rep K H d v) (fun i d e=>by simp at e) (fun _ _ _ _ h _ ih i d e=>by
  cases i with
  | zero=>simp at e; subst e; exact ⟨_,rfl,h⟩
  | succ i =>
   obtain ⟨v,e1,r⟩:=ih i d (by simpa using e)
   exact ⟨v,by simpa using e1,r⟩) r i v e
theorem Reps.drop {K:PySem.W.Frag} {H:Hp} {ds:List D} {vs:List V} (n:Nat) (r:Reps K H ds vs):Reps K H (ds.drop n) (vs.drop n) :=
 Reps.ind (m:=fun ds vs=>∀ n,Reps K H (ds.drop n) (vs.drop n)) (fun n=>by rw [List.drop_nil,List.drop_nil]; exact .nil) (fun _ _ _ _ h hs ih n=>by
  cases n with
  | zero=>exact .cons h hs
  | succ n=>exact ih n) r n
theorem Reps.n0 {K:PySem.W.Frag} {H:Hp} {vs:List V} (h:Reps K H [] vs):vs=[]:=by cases h; rfl
theorem Reps.c {K:PySem.W.Frag} {H:Hp} {d:D} {ds:List D} {vs:List V} (h:Reps K H (d :: ds) vs):∃ u us,vs=u :: us∧Rep K H d u∧Reps K H ds us:=by
 cases h with
 | cons r rs=>exact ⟨_,_,rfl,r,rs⟩
theorem Reps.take {K:PySem.W.Frag} {H:Hp} {ds:List D} {vs:List V} (n:Nat) (r:Reps K H ds vs):Reps K H (ds.take n) (vs.take n) :=
 Reps.ind (m:=fun ds vs=>∀ n,Reps K H (ds.take n) (vs.take n)) (fun n=>by rw [List.take_nil,List.take_nil]; exact .nil) (fun _ _ _ _ h hs ih n=>by
  cases n with
  | zero=>exact .nil
  | succ n=>exact .cons h (ih n)) r n
mutual
/-- what is owned: a tree whose lists and dicts stand at As,nobody else's; its leaves shared (fl: and flat) -/
inductive RepO (K:PySem.W.Frag) (Hs H:Hp) (fl:Bool):D→V→List Addr→Prop
 | sh {d:D} {v:V}:(fl=true→d.flat=true)→Rep K Hs d v→RepO K Hs H fl d v []
 | list {a:Addr} {vs:List V} {ds:List D} {As:List Addr}:vs.length≤sizeLine→H a=some (.lst vs)→aq K Hs H fl ds vs As→RepO K Hs H fl (.list ds) (.ref a) (a :: As)
 | tup {a:Addr} {vs:List V} {ds:List D} {As:List Addr}:vs.length≤sizeLine→Hs a=some (.tup vs)→flats ds=false→aq K Hs H fl ds vs As→RepO K Hs H fl (.tup ds) (.ref a) As
 | dK {a:Addr} {vs:List V} {kvs:List (Key × D)} {As:List Addr}:KsOk kvs→H a=some (.dK ((kvs.map (·.1)).zip vs))→aq K Hs H fl (kvs.map (·.2)) vs As→RepO K Hs H fl (.dK kvs) (.ref a) (a :: As)
 | dT {a:Addr} {vs:List V} {kvs:List (List Key × D)} {As:List Addr}:KtOk kvs→H a=some (.dT ((kvs.map (·.1)).zip vs))→aq K Hs H fl (kvs.map (·.2)) vs As→RepO K Hs H fl (.dT kvs) (.ref a) (a :: As)
inductive aq (K:PySem.W.Frag) (Hs H:Hp) (fl:Bool):List D→List V→List Addr→Prop
 | nil:aq K Hs H fl [] [] []
 | cons {d:D} {v:V} {ds:List D} {vs:List V} {As Bs:List Addr}:RepO K Hs H fl d v As→aq K Hs H fl ds vs Bs→aq K Hs H fl (d :: ds) (v :: vs) (As++Bs)
end
noncomputable def Own (H:Hp) (a:Addr):Prop:=(∃ vs,H a=some (.lst vs))∨(∃ kvs,H a=some (.dK kvs))∨∃ kvs,H a=some (.dT kvs)
section
variable {K:PySem.W.Frag} {Hs Hs' H H':Hp} {fl:Bool}
theorem Own.ne {a:Addr} (h:Own H a):H a≠none:=by
 rcases h with ⟨_,e⟩ | ⟨_,e⟩ | ⟨_,e⟩ <;> rw [e] <;> exact fun z=>nomatch z
theorem Own.wK {a:Addr} {vs:List V} (h:Own H a):H a≠some (.tup vs):=by
 rcases h with ⟨_,e⟩ | ⟨_,e⟩ | ⟨_,e⟩ <;> rw [e] <;> exact fun z=>nomatch z
theorem RepO.ind {m1:D→V→List Addr→Prop} {m2:List D→List V→List Addr→Prop} (hs:∀ d v,(fl=true→d.flat=true)→Rep K Hs d v→m1 d v [])
  (hl:∀ a vs ds As,vs.length≤sizeLine→H a=some (.lst vs)→aq K Hs H fl ds vs As→m2 ds vs As→m1 (.list ds) (.ref a) (a :: As)) (ht:∀ a vs ds As,vs.length≤sizeLine→Hs a=some (.tup vs)→flats ds=false→aq K Hs H fl ds vs As→m2 ds vs As→m1 (.tup ds) (.ref a) As)
  (hk:∀ a vs kvs As,KsOk kvs→H a=some (.dK ((kvs.map (·.1)).zip vs))→aq K Hs H fl (kvs.map (·.2)) vs As→m2 (kvs.map (·.2)) vs As→m1 (.dK kvs) (.ref a) (a :: As)) (hT:∀ a vs kvs As,KtOk kvs→H a=some (.dT ((kvs.map (·.1)).zip vs))→aq K Hs H fl (kvs.map (·.2)) vs As→m2 (kvs.map (·.2)) vs As→m1 (.dT kvs) (.ref a) (a :: As))
  (hn:m2 [] [] []) (hc:∀ d v ds vs As Bs,RepO K Hs H fl d v As→aq K Hs H fl ds vs Bs→m1 d v As→m2 ds vs Bs→m2 (d :: ds) (v :: vs) (As++Bs)):(∀ {d v As},RepO K Hs H fl d v As→m1 d v As)∧∀ {ds vs As},aq K Hs H fl ds vs As→m2 ds vs As :=
 ⟨fun r=>RepO.rec (motive_1:=fun d v As _=>m1 d v As) (motive_2:=fun ds vs As _=>m2 ds vs As) (fun f r=>hs _ _ f r) (fun z s r ih=>hl _ _ _ _ z s r ih) (fun z s n r ih=>ht _ _ _ _ z s n r ih) (fun z s r ih=>hk _ _ _ _ z s r ih) (fun z s r ih=>hT _ _ _ _ z s r ih) hn (fun r s a b=>hc _ _ _ _ _ _ r s a b) r,
  fun r=>aq.rec (motive_1:=fun d v As _=>m1 d v As) (motive_2:=fun ds vs As _=>m2 ds vs As) (fun f r=>hs _ _ f r) (fun z s r ih=>hl _ _ _ _ z s r ih) (fun z s n r ih=>ht _ _ _ _ z s n r ih) (fun z s r ih=>hk _ _ _ _ z s r ih) (fun z s r ih=>hT _ _ _ _ z s r ih) hn (fun r s a b=>hc _ _ _ _ _ _ r s a b) r⟩
theorem mem0 {a:Addr} {p:Prop} (h:a∈([]:List Addr)):p:=absurd h List.not_mem_nil
theorem RepO.own2:(∀ {d:D} {v:V} {As:List Addr},RepO K Hs H fl d v As→∀ a∈As,Own H a)∧∀ {ds:List D} {vs:List V} {As:List Addr},aq K Hs H fl ds vs As→∀ a∈As,Own H a :=
 RepO.ind (m1:=fun _ _ As=>∀ a∈As,Own H a) (m2:=fun _ _ As=>∀ a∈As,Own H a) (fun _ _ _ _ a h=>mem0 h) (fun _ _ _ _ _ e _ ih a h=>(List.mem_cons.mp h).elim (fun z=>z ▸ .inl ⟨_,e⟩) (ih a)) (fun _ _ _ _ _ _ _ _ ih=>ih)
  (fun _ _ _ _ _ e _ ih a h=>(List.mem_cons.mp h).elim (fun z=>z ▸ .inr (.inl ⟨_,e⟩)) (ih a)) (fun _ _ _ _ _ e _ ih a h=>(List.mem_cons.mp h).elim (fun z=>z ▸ .inr (.inr ⟨_,e⟩)) (ih a)) (fun a h=>mem0 h) fun _ _ _ _ _ _ _ _ i1 i2 a h=>(List.mem_append.mp h).elim (i1 a) (i2 a)
theorem RepO.own {d:D} {v:V} {As:List Addr} (r:RepO K Hs H fl d v As):∀ a∈As,Own H a:=RepO.own2.1 r
theorem aq.own {ds:List D} {vs:List V} {As:List Addr} (r:aq K Hs H fl ds vs As):∀ a∈As,Own H a:=RepO.own2.2 r
theorem RepO.Bt (s:Same Hs Hs'):(∀ {d:D} {v:V} {As:List Addr},RepO K Hs H fl d v As→(∀ a∈As,H' a=H a)→RepO K Hs' H' fl d v As)∧∀ {ds:List D} {vs:List V} {As:List Addr},aq K Hs H fl ds vs As→(∀ a∈As,H' a=H a)→aq K Hs' H' fl ds vs As :=
 RepO.ind (m1:=fun d v As=>(∀ a∈As,H' a=H a)→RepO K Hs' H' fl d v As) (m2:=fun ds vs As=>(∀ a∈As,H' a=H a)→aq K Hs' H' fl ds vs As) (fun _ _ f r _=>.sh f (r.same s))
  (fun _ _ _ _ z e _ ih k=>.list z ((k _ List.mem_cons_self).trans e) (ih fun a h=>k a (List.mem_cons_of_mem _ h))) (fun _ _ _ _ z e n _ ih k=>.tup z (s _ _ e) n (ih k)) (fun _ _ _ _ z e _ ih k=>.dK z ((k _ List.mem_cons_self).trans e) (ih fun a h=>k a (List.mem_cons_of_mem _ h)))
  (fun _ _ _ _ z e _ ih k=>.dT z ((k _ List.mem_cons_self).trans e) (ih fun a h=>k a (List.mem_cons_of_mem _ h))) (fun _=>.nil) fun _ _ _ _ _ _ _ _ i1 i2 k=>.cons (i1 fun a h=>k a (List.mem_append_left _ h)) (i2 fun a h=>k a (List.mem_append_right _ h))
theorem RepO.stay (s:Same Hs Hs') {d:D} {v:V} {As:List Addr} (r:RepO K Hs H fl d v As) (k:∀ a∈As,H' a=H a):RepO K Hs' H' fl d v As:=(RepO.Bt s).1 r k
theorem aq.stay (s:Same Hs Hs') {ds:List D} {vs:List V} {As:List Addr} (r:aq K Hs H fl ds vs As) (k:∀ a∈As,H' a=H a):aq K Hs' H' fl ds vs As:=(RepO.Bt s).2 r k
theorem RepO.grow {d:D} {v:V} {As:List Addr} (s:Same Hs Hs') (t:Same H H') (r:RepO K Hs H fl d v As):RepO K Hs' H' fl d v As :=
 r.stay s fun a h=>by
  cases e:H a with
  | none=>exact absurd e (r.own a h).ne
  | some o=>exact t a o e
theorem aq.grow {ds:List D} {vs:List V} {As:List Addr} (s:Same Hs Hs') (t:Same H H') (r:aq K Hs H fl ds vs As):aq K Hs' H' fl ds vs As :=
 r.stay s fun a h=>by
  cases e:H a with
  | none=>exact absurd e (r.own a h).ne
  | some o=>exact t a o e
theorem RepO.rep2 {G:Hp} (s:Same Hs G):(∀ {d:D} {v:V} {As:List Addr},RepO K Hs H fl d v As→(∀ a∈As,G a=H a)→Rep K G d v)∧∀ {ds:List D} {vs:List V} {As:List Addr},aq K Hs H fl ds vs As→(∀ a∈As,G a=H a)→Reps K G ds vs :=
 RepO.ind (m1:=fun d v As=>(∀ a∈As,G a=H a)→Rep K G d v) (m2:=fun ds vs As=>(∀ a∈As,G a=H a)→Reps K G ds vs) (fun _ _ _ r _=>r.same s)
  (fun _ _ _ _ z e _ ih k=>.list z (.inl (.inl ((k _ List.mem_cons_self).trans e))) (ih fun a h=>k a (List.mem_cons_of_mem _ h))) (fun _ _ _ _ z e n _ ih k=>.tup z (s _ _ e) (ih k)) (fun _ _ _ _ z e _ ih k=>.dK z ((k _ List.mem_cons_self).trans e) (ih fun a h=>k a (List.mem_cons_of_mem _ h)))
  (fun _ _ _ _ z e _ ih k=>.dT z ((k _ List.mem_cons_self).trans e) (ih fun a h=>k a (List.mem_cons_of_mem _ h))) (fun _=>.nil) fun _ _ _ _ _ _ _ _ i1 i2 k=>.cons (i1 fun a h=>k a (List.mem_append_left _ h)) (i2 fun a h=>k a (List.mem_append_right _ h))
theorem RepO.rep {G:Hp} (s:Same Hs G) {d:D} {v:V} {As:List Addr} (r:RepO K Hs H fl d v As) (k:∀ a∈As,G a=H a):Rep K G d v:=(RepO.rep2 s).1 r k
theorem aq.reps {G:Hp} (s:Same Hs G) {ds:List D} {vs:List V} {As:List Addr} (r:aq K Hs H fl ds vs As) (k:∀ a∈As,G a=H a):Reps K G ds vs:=(RepO.rep2 s).2 r k
theorem Rep.uB {G:Hp} (t:∀ a vs,H a=some (.tup vs)→G a=some (.tup vs)):(∀ {d:D} {v:V},Rep K H d v→d.flat=true→Rep K G d v)∧∀ {ds:List D} {vs:List V},Reps K H ds vs→flats ds=true→Reps K G ds vs :=
 Rep.ind (m1:=fun d v=>d.flat=true→Rep K G d v) (m2:=fun ds vs=>flats ds=true→Reps K G ds vs) (fun _=>.non) (fun b _=>.bl b) (fun i _=>.int i) (fun _ h _=>.str h) (fun _ _ _ _ _ _ _ f=>by simp [D.flat] at f) (fun _ _ _ z e _ ih f=>.tup z (t _ _ e) (ih (by simpa [D.flat] using f)))
  (fun _ _ _ _ _ _ _ f=>by simp [D.flat] at f) (fun _ _ _ _ _ _ _ f=>by simp [D.flat] at f) (fun _=>.nil) fun _ _ _ _ _ _ i1 i2 f=>by
   simp only [flats,Bool.and_eq_true] at f
   exact .cons (i1 f.1) (i2 f.2)
theorem Rep.gr {G:Hp} (t:∀ a vs,H a=some (.tup vs)→G a=some (.tup vs)) {d:D} {v:V} (r:Rep K H d v) (f:d.flat=true):Rep K G d v:=(Rep.uB t).1 r f
theorem Reps.gr {G:Hp} (t:∀ a vs,H a=some (.tup vs)→G a=some (.tup vs)) {ds:List D} {vs:List V} (r:Reps K H ds vs) (f:flats ds=true):Reps K G ds vs:=(Rep.uB t).2 r f
theorem Reps.owned {ds:List D} {vs:List V} (r:Reps K Hs ds vs) (f:flats ds=true):aq K Hs H fl ds vs [] :=
 Reps.ind (m:=fun ds vs=>flats ds=true→aq K Hs H fl ds vs []) (fun _=>.nil) (fun _ _ _ _ h _ ih f=>by
  simp only [flats,Bool.and_eq_true] at f
  exact .cons (As:=[]) (.sh (fun _=>f.1) h) (ih f.2)) r f
theorem Reps.Bu {ds:List D} {vs:List V} (r:Reps K Hs ds vs):aq K Hs H false ds vs [] :=
 Reps.ind (m:=fun ds vs=>aq K Hs H false ds vs []) .nil (fun _ _ _ _ h _ ih=>.cons (As:=[]) (.sh (fun z=>Bool.noConfusion z) h) ih) r
theorem RepO.fls2:(∀ {d:D} {v:V} {As:List Addr},RepO K Hs H fl d v As→RepO K Hs H false d v As)∧∀ {ds:List D} {vs:List V} {As:List Addr},aq K Hs H fl ds vs As→aq K Hs H false ds vs As :=
 RepO.ind (fun _ _ _ r=>.sh (fun z=>Bool.noConfusion z) r) (fun _ _ _ _ z e _ ih=>.list z e ih) (fun _ _ _ _ z e n _ ih=>.tup z e n ih) (fun _ _ _ _ z e _ ih=>.dK z e ih) (fun _ _ _ _ z e _ ih=>.dT z e ih) .nil fun _ _ _ _ _ _ _ _ a b=>.cons a b
theorem RepO.fls {d:D} {v:V} {As:List Addr} (r:RepO K Hs H fl d v As):RepO K Hs H false d v As:=RepO.fls2.1 r
theorem aq.fls {ds:List D} {vs:List V} {As:List Addr} (r:aq K Hs H fl ds vs As):aq K Hs H false ds vs As:=RepO.fls2.2 r
theorem RepO.wX {G:Hp} (t:∀ a vs,Hs a=some (.tup vs)→G a=some (.tup vs)):(∀ {d:D} {v:V} {As:List Addr},RepO K Hs H true d v As→RepO K G H true d v As)∧∀ {ds:List D} {vs:List V} {As:List Addr},aq K Hs H true ds vs As→aq K G H true ds vs As :=
 RepO.ind (fun _ _ f r=>.sh f (r.gr t (f rfl))) (fun _ _ _ _ z e _ ih=>.list z e ih) (fun _ _ _ _ z e n _ ih=>.tup z (t _ _ e) n ih) (fun _ _ _ _ z e _ ih=>.dK z e ih) (fun _ _ _ _ z e _ ih=>.dT z e ih) .nil fun _ _ _ _ _ _ _ _ a b=>.cons a b
theorem RepO.leaves {G:Hp} (t:∀ a vs,Hs a=some (.tup vs)→G a=some (.tup vs)) {d:D} {v:V} {As:List Addr} (r:RepO K Hs H true d v As):RepO K G H true d v As:=(RepO.wX t).1 r
theorem aq.ind {m:List D→List V→List Addr→Prop} (hn:m [] [] []) (hc:∀ d v ds vs As Bs,RepO K Hs H fl d v As→aq K Hs H fl ds vs Bs→m ds vs Bs→m (d :: ds) (v :: vs) (As++Bs)):∀ {ds vs As},aq K Hs H fl ds vs As→m ds vs As :=
 fun r=>(RepO.ind (m1:=fun _ _ _=>True) (m2:=m) (fun _ _ _ _=>trivial) (fun _ _ _ _ _ _ _ _=>trivial) (fun _ _ _ _ _ _ _ _ _=>trivial) (fun _ _ _ _ _ _ _ _=>trivial) (fun _ _ _ _ _ _ _ _=>trivial) hn fun d v ds vs As Bs r s _ b=>hc d v ds vs As Bs r s b).2 r
theorem aq.append {ds es:List D} {vs ws:List V} {As Bs:List Addr} (r:aq K Hs H fl ds vs As) (t:aq K Hs H fl es ws Bs):aq K Hs H fl (ds++es) (vs++ws) (As++Bs) :=
 aq.ind (m:=fun ds vs As=>aq K Hs H fl (ds++es) (vs++ws) (As++Bs)) t (fun _ _ _ _ _ _ h _ ih=>by
  rw [List.append_assoc]
  exact .cons h ih) r
theorem aq.n0 {vs:List V} {As:List Addr} (h:aq K Hs H fl [] vs As):vs=[]∧As=[]:=by cases h; exact ⟨rfl,rfl⟩
theorem aq.c {d:D} {ds:List D} {vs:List V} {As:List Addr} (h:aq K Hs H fl (d :: ds) vs As):∃ u us A B,vs=u :: us∧As=A++B∧RepO K Hs H fl d u A∧aq K Hs H fl ds us B:=by
 cases h with
 | cons r rs=>exact ⟨_,_,_,_,rfl,rfl,r,rs⟩
theorem aq.length {ds:List D} {vs:List V} {As:List Addr} (r:aq K Hs H fl ds vs As):ds.length=vs.length :=
 aq.ind (m:=fun ds vs _=>ds.length=vs.length) rfl (fun _ _ _ _ _ _ _ _ ih=>by rw [List.length_cons,List.length_cons,ih]) r
end
inductive Sl where
 /-- shared; owned; owned and walked by a loop just now (at a) -/
 | sh (d:D) | ow (fl:Bool) (d:D) | lk (a:Addr) (fl:Bool) (d:D)
 /-- an exception,at a -/
 | xc (a:Addr)
noncomputable abbrev Env:=List (Option Sl)
inductive SR (K:PySem.W.Frag) (Hs H:Hp):Env→St→List Addr→Prop
 | nil:SR K Hs H [] [] []
 | non {ρ:Env} {σ:St} {tot:List Addr} {o:Option V}:SR K Hs H ρ σ tot→SR K Hs H (none :: ρ) (o :: σ) tot
 | sh {ρ:Env} {σ:St} {tot:List Addr} {d:D} {v:V}:Rep K Hs d v→SR K Hs H ρ σ tot→SR K Hs H (some (.sh d) :: ρ) (some v :: σ) tot
 | xc {ρ:Env} {σ:St} {tot:List Addr} {a:Addr}:SR K Hs H ρ σ tot→SR K Hs H (some (.xc a) :: ρ) (some (.ref a) :: σ) tot
 | ow {ρ:Env} {σ:St} {tot As:List Addr} {fl:Bool} {d:D} {v:V}:As≠[]→RepO K Hs H fl d v As→SR K Hs H ρ σ tot→SR K Hs H (some (.ow fl d) :: ρ) (some v :: σ) (As++tot)
 | lk {ρ:Env} {σ:St} {tot As:List Addr} {a:Addr} {fl:Bool} {d:D}:As≠[]→RepO K Hs H fl d (.ref a) As→SR K Hs H ρ σ tot→SR K Hs H (some (.lk a fl d) :: ρ) (some (.ref a) :: σ) (As++tot)
structure Wf (Hs H:Hp):Prop where
 sub:Same Hs H
 tups:∀ a vs,H a=some (.tup vs)→Hs a=some (.tup vs)
structure SRel (K:PySem.W.Frag) (Hs:Hp) (ρ:Env) (σ:St) (H:Hp) (tot:List Addr):Prop where
 sr:SR K Hs H ρ σ tot
 wf:Wf Hs H
 nod:tot.Nodup
 own:∀ a∈tot,Hs a=none
structure Grow (Hs H Hs' H':Hp):Prop where
 all:Same H H'
 sh:Same Hs Hs'
 wf:Wf Hs' H'
 new:∀ a,Hs' a≠none→Hs a≠none∨H a=none
section
variable {K:PySem.W.Frag} {Hs H Hs' H' Hs'' H'':Hp}
theorem Grow.refl (w:Wf Hs H):Grow Hs H Hs H:=⟨Same.refl _,Same.refl _,w,fun _ h=>.inl h⟩
theorem Grow.trans (a:Grow Hs H Hs' H') (b:Grow Hs' H' Hs'' H''):Grow Hs H Hs'' H'' :=
 ⟨a.all.trans b.all,a.sh.trans b.sh,b.wf,fun c h=>by
  rcases b.new c h with h | h
  ·exact a.new c h
  ·exact .inr (a.all.free h)⟩
theorem Grow.hsn (g:Grow Hs H Hs' H') {a:Addr} (h:Hs a=none) (h':H a≠none):Hs' a=none:=by
 cases e:Hs' a with
 | none=>rfl
 | some o =>
  rcases g.new a (by rw [e]; exact fun z=>nomatch z) with z | z
  ·exact absurd h z
  ·exact absurd z h'
theorem SR.own {ρ:Env} {σ:St} {tot:List Addr} (s:SR K Hs H ρ σ tot):∀ a∈tot,Own H a:=by
 induction s with
 | nil=>exact fun a h=>mem0 h
 | non _ ih=>exact ih
 | sh _ _ ih=>exact ih
 | xc _ ih=>exact ih
 | ow _ r _ ih=>exact fun a h=>(List.mem_append.mp h).elim (r.own a) (ih a)
 | lk _ r _ ih=>exact fun a h=>(List.mem_append.mp h).elim (r.own a) (ih a)
theorem SR.stay (s:Same Hs Hs') {ρ:Env} {σ:St} {tot:List Addr} (r:SR K Hs H ρ σ tot):(∀ a∈tot,H' a=H a)→SR K Hs' H' ρ σ tot:=by
 induction r with
 | nil=>exact fun _=>.nil
 | non _ ih=>exact fun k=>.non (ih k)
 | sh h _ ih=>exact fun k=>.sh (h.same s) (ih k)
 | xc _ ih=>exact fun k=>.xc (ih k)
 | ow ne h _ ih=>exact fun k=>.ow ne (h.stay s fun a m=>k a (List.mem_append_left _ m)) (ih fun a m=>k a (List.mem_append_right _ m))
 | lk ne h _ ih=>exact fun k=>.lk ne (h.stay s fun a m=>k a (List.mem_append_left _ m)) (ih fun a m=>k a (List.mem_append_right _ m))
theorem SRel.grow {ρ:Env} {σ:St} {tot:List Addr} (r:SRel K Hs ρ σ H tot) (g:Grow Hs H Hs' H'):SRel K Hs' ρ σ H' tot :=
 ⟨r.sr.stay g.sh fun a h=>by
  cases e:H a with
  | none=>exact absurd e (r.sr.own a h).ne
  | some o=>exact g.all a o e,g.wf,r.nod,fun a h=>g.hsn (r.own a h) (r.sr.own a h).ne⟩
noncomputable def vA (K:PySem.W.Frag) (Hs H:Hp) (tot:List Addr) (sl:Sl) (v:V):Prop:=match sl with
 | .sh d=>Rep K Hs d v
 | .ow fl d=>∃ As,As≠[]∧RepO K Hs H fl d v As∧∀ a∈As,a∈tot
 | .lk a fl d=>∃ As,As≠[]∧RepO K Hs H fl d v As∧v=.ref a∧∀ a∈As,a∈tot
 | .xc a=>v=.ref a
theorem vA.mono {tot tot':List Addr} {sl:Sl} {v:V} (h:vA K Hs H tot sl v) (m:∀ a∈tot,a∈tot'):vA K Hs H tot' sl v:=by
 cases sl with
 | sh d=>exact h
 | xc a=>exact h
 | ow fl d =>
  obtain ⟨As,ne,r,q⟩:=h
  exact ⟨As,ne,r,fun a ha=>m a (q a ha)⟩
 | lk a fl d =>
  obtain ⟨As,ne,r,e,q⟩:=h
  exact ⟨As,ne,r,e,fun a ha=>m a (q a ha)⟩
theorem SR.get {ρ:Env} {σ:St} {tot:List Addr} {i:Nat} {sl:Sl} (s:SR K Hs H ρ σ tot) (e:ρ[i]? = some (some sl)):∃ v,σ[i]? = some (some v)∧vA K Hs H tot sl v:=by
 induction s generalizing i with
 | nil=>simp at e
 | non s ih =>
  cases i with
  | zero=>simp at e
  | succ i=>exact ih e
 | sh r s ih =>
  cases i with
  | zero=>simp at e; subst e; exact ⟨_,rfl,r⟩
  | succ i=>exact ih e
 | xc s ih =>
  cases i with
  | zero=>simp at e; subst e; exact ⟨_,rfl,rfl⟩
  | succ i=>exact ih e
 | ow ne r s ih =>
  cases i with
  | zero=>simp at e; subst e; exact ⟨_,rfl,_,ne,r,fun a m=>List.mem_append_left _ m⟩
  | succ i =>
   obtain ⟨v,e1,h⟩:=ih e
   exact ⟨v,e1,h.mono fun a m=>List.mem_append_right _ m⟩
 | lk ne r s ih =>
  cases i with
  | zero=>simp at e; subst e; exact ⟨_,rfl,_,ne,r,rfl,fun a m=>List.mem_append_left _ m⟩
  | succ i =>
   obtain ⟨v,e1,h⟩:=ih e
   exact ⟨v,e1,h.mono fun a m=>List.mem_append_right _ m⟩
end
inductive Md where
 | sh | ow (fl:Bool) | bo
noncomputable def RM (K:PySem.W.Frag) (Hs H:Hp):Md→D→V→List Addr→Prop
 | .sh,d,v,As=>As=[]∧Rep K Hs d v
 | .ow fl,d,v,As=>RepO K Hs H fl d v As∧As≠[]
 | .bo,d,v,As=>As=[]∧Rep K H d v
inductive RMs (K:PySem.W.Frag) (Hs H:Hp):List (Md × D)→List V→List Addr→Prop
 | nil:RMs K Hs H [] [] []
 | cons {m:Md} {d:D} {v:V} {ps:List (Md × D)} {vs:List V} {As Bs:List Addr}:RM K Hs H m d v As→RMs K Hs H ps vs Bs→RMs K Hs H ((m,d) :: ps) (v :: vs) (As++Bs)
section
variable {K:PySem.W.Frag} {Hs H Hs' H':Hp}
theorem RM.own {m:Md} {d:D} {v:V} {As:List Addr} (r:RM K Hs H m d v As):∀ a∈As,Own H a:=by
 cases m with
 | sh=>obtain ⟨rfl,_⟩:=r; exact fun a h=>mem0 h
 | ow fl=>exact RepO.own r.1
 | bo=>obtain ⟨rfl,_⟩:=r; exact fun a h=>mem0 h
theorem RM.grow {m:Md} {d:D} {v:V} {As:List Addr} (r:RM K Hs H m d v As) (g:Grow Hs H Hs' H'):RM K Hs' H' m d v As:=by
 cases m with
 | sh=>exact ⟨r.1,r.2.same g.sh⟩
 | ow fl=>exact ⟨RepO.grow g.sh g.all r.1,r.2⟩
 | bo=>exact ⟨r.1,r.2.same g.all⟩
theorem RM.rep {m:Md} {d:D} {v:V} {As:List Addr} (w:Wf Hs H) (r:RM K Hs H m d v As):Rep K H d v:=by
 cases m with
 | sh=>exact r.2.same w.sub
 | ow fl=>exact RepO.rep w.sub r.1 fun _ _=>rfl
 | bo=>exact r.2
theorem RM.flat {m:Md} {d:D} {v:V} {As:List Addr} (w:Wf Hs H) (r:RM K Hs H m d v As) (f:d.flat=true):Rep K Hs d v:=(r.rep w).gr w.tups f
theorem RMs.reps (w:Wf Hs H) {ps:List (Md × D)} {vs:List V} {As:List Addr} (r:RMs K Hs H ps vs As):Reps K H (ps.map (·.2)) vs:=by
 induction r with
 | nil=>exact .nil
 | cons r _ ih=>exact .cons (r.rep w) ih
end
noncomputable abbrev WE:=Env→(Md→D→Prop)→Prop
noncomputable abbrev WT:=Env→(Bool→Prop)→Prop
noncomputable abbrev WA:=Env→(List (Md × D)→Prop)→Prop
structure jb where
 nx:Env→Prop
 rt:Md→D→Prop
 bk:Env→Prop:=fun _=>False
 ct:Env→Prop:=fun _=>False
noncomputable abbrev WS:=jb→Env→Prop
noncomputable def bZ (Hs' H:Hp) (As:List Addr):Prop:=As.Nodup∧∀ a∈As,Hs' a=none∧H a=none
noncomputable def tpE (K:PySem.W.Frag) (t:WE):TE:=fun σ H Qv=>∃ Hs ρ tot Q,SRel K Hs ρ σ H tot∧t ρ Q ∧
 ∀ v H' Hs' m d As,Grow Hs H Hs' H'→RM K Hs' H' m d v As→bZ Hs' H As→Q m d→Qv v H'
noncomputable def tpT (K:PySem.W.Frag) (t:WT):TT:=fun σ H Qv=>∃ Hs ρ tot Q,SRel K Hs ρ σ H tot∧t ρ Q∧∀ b H' Hs',Grow Hs H Hs' H'→Q b→Qv b H'
noncomputable def tpA (K:PySem.W.Frag) (t:WA):TA:=fun σ H Qv=>∃ Hs ρ tot Q,SRel K Hs ρ σ H tot∧t ρ Q ∧
 ∀ vs H' Hs' ps As,Grow Hs H Hs' H'→RMs K Hs' H' ps vs As→bZ Hs' H As→Q ps→Qv vs H'
noncomputable def tpS (K:PySem.W.Frag) (L:Str→Hp→Prop) (t:WS):TS:=fun D σ H=>∃ Hs ρ tot E,SRel K Hs ρ σ H tot∧t E ρ ∧
 (∀ σ' H' Hs' ρ' tot',Same Hs Hs'→SRel K Hs' ρ' σ' H' tot'→E.nx ρ'→D.nx σ' H') ∧
 (∀ σ' H' Hs' ρ' tot',Same Hs Hs'→SRel K Hs' ρ' σ' H' tot'→E.bk ρ'→D.bk σ' H') ∧
 (∀ σ' H' Hs' ρ' tot',Same Hs Hs'→SRel K Hs' ρ' σ' H' tot'→E.ct ρ'→D.ct σ' H') ∧
 (∀ v H' Hs' m d As,Same Hs Hs'→Wf Hs' H'→RM K Hs' H' m d v As→As.Nodup→(∀ a∈As,Hs' a=none)→E.rt m d→D.rt v H') ∧
 ∀ n H',Same Hs H'→E.rt (.ow false) (.str n)→L n H'
theorem iR {K:PySem.W.Frag} {L:Str→Hp→Prop} {t:WS} {D:Ends} {σ:St} {H:Hp} {G:Prop} (x:tpS K L t D σ H) (k:∀ Hs ρ tot E,SRel K Hs ρ σ H tot→t E ρ →
 (∀ σ' H' Hs' ρ' tot',Same Hs Hs'→SRel K Hs' ρ' σ' H' tot'→E.nx ρ'→D.nx σ' H') →
 (∀ σ' H' Hs' ρ' tot',Same Hs Hs'→SRel K Hs' ρ' σ' H' tot'→E.bk ρ'→D.bk σ' H') →
 (∀ σ' H' Hs' ρ' tot',Same Hs Hs'→SRel K Hs' ρ' σ' H' tot'→E.ct ρ'→D.ct σ' H') →
 (∀ v H' Hs' m d As,Same Hs Hs'→Wf Hs' H'→RM K Hs' H' m d v As→As.Nodup→(∀ a∈As,Hs' a=none)→E.rt m d→D.rt v H') →
 (∀ n H',Same Hs H'→E.rt (.ow false) (.str n)→L n H')→G):G :=
 by
 obtain ⟨Hs,ρ,tot,E,sr,h,k1,k2,k3,k4,kx⟩:=x
 exact k Hs ρ tot E sr h k1 k2 k3 k4 kx
theorem dH {K:PySem.W.Frag} {L:Str→Hp→Prop} {t:WS} {D:Ends} {σ:St} {H:Hp} {G:Prop} (x:tpS K L t D σ H) (k:∀ Hs ρ tot E,SRel K Hs ρ σ H tot→t E ρ →
 (∀ σ' H' Hs' ρ' tot',Same Hs Hs'→SRel K Hs' ρ' σ' H' tot'→E.nx ρ'→D.nx σ' H') →
 (∀ σ' H' Hs' ρ' tot',Same Hs Hs'→SRel K Hs' ρ' σ' H' tot'→E.bk ρ'→D.bk σ' H') →
 (∀ σ' H' Hs' ρ' tot',Same Hs Hs'→SRel K Hs' ρ' σ' H' tot'→E.ct ρ'→D.ct σ' H') →
 (∀ v H' Hs' m d As,Same Hs Hs'→Wf Hs' H'→RM K Hs' H' m d v As→As.Nodup→(∀ a∈As,Hs' a=none)→E.rt m d→D.rt v H')→G):G :=
 iR x fun Hs ρ tot E sr h k1 k2 k3 k4 _=>k Hs ρ tot E sr h k1 k2 k3 k4
theorem ex4 {α β γ δ:Type _} {A B C:α→β→γ→δ→Prop} {G:Prop} (x:∃ a b c d,A a b c d∧B a b c d∧C a b c d) (k:∀ a b c d,A a b c d→B a b c d→C a b c d→G):G :=
 by
 obtain ⟨a,b,c,d,p,q,r⟩:=x
 exact k a b c d p q r
noncomputable abbrev QE (X:Cx) (K:PySem.W.Frag) (e:Expr) (t:WE):Prop:=PE X e (tpE K t)
noncomputable abbrev QT (X:Cx) (K:PySem.W.Frag) (e:Expr) (t:WT):Prop:=PT X e (tpT K t)
noncomputable abbrev QW (X:Cx) (K:PySem.W.Frag) (e:Expr) (t:WT):Prop:=PW X e (tpT K t)
noncomputable abbrev QA (X:Cx) (K:PySem.W.Frag) (es:List Expr) (t:WA):Prop:=PA X es (tpA K t)
noncomputable abbrev QS (X:Cx) (K:PySem.W.Frag) (L:Str→Hp→Prop) (st:Stmt) (t:WS):Prop:=PS X st (tpS K L t)
noncomputable abbrev QSs (X:Cx) (K:PySem.W.Frag) (L:Str→Hp→Prop) (st:List Stmt) (t:WS):Prop:=PSs X st (tpS K L t)
noncomputable abbrev L0:Str→Hp→Prop:=fun _ _=>True
end L2.Q
set_option Elab.async false
set_option linter.all false
set_option maxRecDepth 100000
set_option maxHeartbeats 4000000
namespace L2.Q
open PySem PySem.Spec PyProof.Rows
structure Kt {α:Type} (f:α→Prop):Type where
noncomputable def onK {α:Type} (a:α) {f:α→Prop} (_:Kt f):Prop:=f a
mutual
noncomputable def D.py:D→PyData
 | .non=>.none
 | .bl b=>.bool b
 | .int i=>.int i
 | .str x=>.str x
 | .list xs=>.list (pys xs)
 | .tup xs=>.tuple (pys xs)
 | .dK _=>.none
 | .dT _=>.none
noncomputable def pys:List D→List PyData
 | []=>[]
 | x :: xs=>x.py :: pys xs
end
noncomputable def okD:Nat→D→Bool
 | _,.non=>true
 | _,.bl _=>true
 | _,.int _=>true
 | _,.str x=>PyData.strOk x
 | n+1,.list xs=>xs.all (okD n)
 | n+1,.tup xs=>xs.all (okD n)
 | _,_=>false
noncomputable def eqD (x y:D):Bool:=PyData.eqv x.py y.py
noncomputable def D.ty:D→String
 | .non => "NoneType"
 | .bl _ => "bool"
 | .int _ => "int"
 | .str _ => "str"
 | .list _ => "list"
 | .tup _ => "tuple"
 | .dK _ => "dict"
 | .dT _ => "dict"
noncomputable def D.key1:D→Option Key
 | .int i=>some (.inl i)
 | .str x=>some (.inr x)
 | _=>none
noncomputable def gD:List D→Option (List Key)
 | []=>some []
 | x :: xs=>match x.key1,gD xs with
  | some k,some ks=>some (k :: ks)
  | _,_=>none
section
variable {κ:Type} [DecidableEq κ] {β:Type}
noncomputable def getG (kvs:List (κ × β)) (k:κ):Option β:=(kvs.find? fun kv=>decide (kv.1=k)).map (·.2)
noncomputable def putG (kvs:List (κ × β)) (k:κ) (v:β):List (κ × β) :=
 if (kvs.any fun kv=>decide (kv.1=k))=true then kvs.map (fun kv=>if kv.1=k then (kv.1,v) else kv) else kvs++[(k,v)]
end
theorem Rep.l22 {K:PySem.W.Frag} {H:Hp}:(∀ {d:D} {v:V},Rep K H d v→∀ n,okD n d=true→L2.Rep K H d.py v)∧∀ {ds:List D} {vs:List V},Reps K H ds vs→∀ n,(∀ d∈ds,okD n d=true)→L2.Reps K H (pys ds) vs :=
 Rep.ind (m1:=fun d v=>∀ n,okD n d=true→L2.Rep K H d.py v) (m2:=fun ds vs=>∀ n,(∀ d∈ds,okD n d=true)→L2.Reps K H (pys ds) vs) (fun _ _=>.none) (fun b _ _=>.bool b) (fun i _ _=>.int i) (fun _ _ _ _=>.str _)
  (fun _ _ _ _ h _ ih n o=>by
   cases n with
   | zero=>simp [okD] at o
   | succ n=>exact .list h (ih n (by simpa [okD] using o)))
  (fun _ _ _ _ h _ ih n o=>by
   cases n with
   | zero=>simp [okD] at o
   | succ n=>exact .tuple (.inl (.inl h)) (ih n (by simpa [okD] using o)))
  (fun _ _ _ _ _ _ _ n o=>by cases n <;> simp [okD] at o) (fun _ _ _ _ _ _ _ n o=>by cases n <;> simp [okD] at o) (fun _ _=>.nil)
  fun _ _ _ _ _ _ i1 i2 n o=>.cons (i1 n (o _ List.mem_cons_self)) (i2 n fun d m=>o d (List.mem_cons_of_mem _ m))
theorem Rep.l2 {K:PySem.W.Frag} {H:Hp} {n:Nat} {d:D} {v:V} (r:Rep K H d v) (o:okD n d=true):L2.Rep K H d.py v:=Rep.l22.1 r n o
theorem rP {n:Nat} (ih:∀ d,okD n d=true→d.py.canLay0=true∧d.py.depth≤n) (xs:List D) (h:∀ x∈xs,okD n x=true):PyData.canLayAll0 (pys xs)=true∧PyData.depthAll (pys xs)≤n:=by
 induction xs with
 | nil=>exact ⟨rfl,Nat.zero_le _⟩
 | cons x xs ih2 =>
  have h1:=ih x (h x List.mem_cons_self)
  have h2:=ih2 fun y hy=>h y (List.mem_cons_of_mem _ hy)
  simp only [pys,PyData.canLayAll0,PyData.depthAll,h1.1,h2.1,Bool.and_self,true_and]
  walk_at "l"
theorem pB (n:Nat):∀ (d:D),okD n d=true→d.py.canLay0=true∧d.py.depth≤n:=by
 have st:∀ (n:Nat) (x:Str),okD n (.str x)=true→(D.str x).py.canLay0=true∧(D.str x).py.depth≤n:=fun n x h=>by
  have h:PyData.strOk x=true:=by cases n <;> simpa [okD] using h
  exact ⟨by simpa [D.py,PyData.canLay0] using h,Nat.zero_le _⟩
 induction n with
 | zero =>
  intro d h
  cases d with
  | str x=>exact st _ x h
  | non=>exact ⟨rfl,Nat.zero_le _⟩
  | bl _=>exact ⟨rfl,Nat.zero_le _⟩
  | int _=>exact ⟨rfl,Nat.zero_le _⟩
  | _=>simp [okD] at h
 | succ n ih =>
  intro d h
  cases d with
  | str x=>exact st _ x h
  | non=>exact ⟨rfl,Nat.zero_le _⟩
  | bl _=>exact ⟨rfl,Nat.zero_le _⟩
  | int _=>exact ⟨rfl,Nat.zero_le _⟩
  | list xs =>
   have h:∀ x∈xs,okD n x=true:=by simpa [okD] using h
   have:=rP ih xs h
   simp only [D.py,PyData.canLay0,PyData.depth]
   exact ⟨this.1,by walk_at "l"⟩
  | tup xs =>
   have h:∀ x∈xs,okD n x=true:=by simpa [okD] using h
   have:=rP ih xs h
   simp only [D.py,PyData.canLay0,PyData.depth]
   exact ⟨this.1,by walk_at "l"⟩
  | dK _=>simp [okD] at h
  | dT _=>simp [okD] at h
mutual
noncomputable def D.nb:D→Bool
 | .bl _=>false
 | .list xs=>nbs xs
 | .tup xs=>nbs xs
 | .dK _=>false
 | .dT _=>false
 | _=>true
noncomputable def nbs:List D→Bool
 | []=>true
 | x :: xs=>x.nb && nbs xs
end
mutual
theorem tV:∀ (x y:D),x.nb=true→y.nb=true→(eqD x y=true↔x=y)
 | .non,y,_,hy=>by cases y <;> simp_all [eqD,D.py,PyData.eqv,D.nb]
 | .bl _,y,hx,_=>by simp [D.nb] at hx
 | .int i,y,_,hy=>by cases y <;> simp_all [eqD,D.py,PyData.eqv,D.nb]
 | .str i,y,_,hy=>by cases y <;> simp_all [eqD,D.py,PyData.eqv,D.nb]
 | .dK _,y,hx,_=>by simp [D.nb] at hx
 | .dT _,y,hx,_=>by simp [D.nb] at hx
 | .list xs,y,hx,hy=>by
  cases y with
  | list ys =>
   have:=jH xs ys (by simpa [D.nb] using hx) (by simpa [D.nb] using hy)
   simp only [eqD,D.py,PyData.eqv,D.list.injEq]
   exact this
  | _=>simp_all [eqD,D.py,PyData.eqv,D.nb]
 | .tup xs,y,hx,hy=>by
  cases y with
  | tup ys =>
   have:=jH xs ys (by simpa [D.nb] using hx) (by simpa [D.nb] using hy)
   simp only [eqD,D.py,PyData.eqv,D.tup.injEq]
   exact this
  | _=>simp_all [eqD,D.py,PyData.eqv,D.nb]
theorem jH:∀ (xs ys:List D),nbs xs=true→nbs ys=true→(PyData.eqvAll (pys xs) (pys ys)=true↔xs=ys)
 | [],[],_,_=>by simp [pys,PyData.eqvAll]
 | [],_ :: _,_,_=>by simp [pys,PyData.eqvAll]
 | _ :: _,[],_,_=>by simp [pys,PyData.eqvAll]
 | x :: xs,y :: ys,hx,hy=>by
  simp only [nbs,Bool.and_eq_true] at hx hy
  have h1:=tV x y hx.1 hy.1
  have h2:=jH xs ys hx.2 hy.2
  simp only [pys,PyData.eqvAll,Bool.and_eq_true,List.cons.injEq]
  exact and_congr h1 h2
end
section
variable {K:PySem.W.Frag} {H:Hp}
theorem Rep.key {d:D} {v:V} {k:Key} (r:Rep K H d v) (h:d.key1=some k):v=kV k:=by
 cases r <;> simp [D.key1] at h <;> subst h <;> rfl
theorem Reps.keys {ds:List D} {vs:List V} {ks:List Key} (r:Reps K H ds vs) (h:gD ds=some ks):vs=ks.map kV:=by
 induction ds generalizing vs ks with
 | nil=>simp [gD] at h; subst h; exact r.n0
 | cons d ds ih =>
  obtain ⟨u,us,rfl,r,rs⟩:=r.c
  unfold gD at h
  cases e1:d.key1 with
  | none=>rw [e1] at h; simp at h
  | some k =>
   cases e2:gD ds with
   | none=>rw [e1,e2] at h; simp at h
   | some ks' =>
    rw [e1,e2] at h
    simp at h
    subst h
    rw [List.map_cons,r.key e1,ih rs e2]
theorem Rep.keyT {ds:List D} {v:V} {ks:List Key} (r:Rep K H (.tup ds) v) (h:gD ds=some ks):∃ b,v=.ref b∧H b=some (.tup (ks.map kV)):=by
 cases r with
 | tup _ e rs=>exact ⟨_,rfl,by rw [e,rs.keys h]⟩
end
section
variable {κ:Type} [DecidableEq κ] {K:PySem.W.Frag} {H:Hp}
theorem zip_get {k:κ} {kvs:List (κ × D)} {vs:List V} (h:Reps K H (kvs.map (·.2)) vs):match getG kvs k with
  | some d=>∃ v,valV ((kvs.map (·.1)).zip vs) k=some v∧Rep K H d v
  | none=>valV ((kvs.map (·.1)).zip vs) k=none:=by
 induction kvs generalizing vs with
 | nil=>rfl
 | cons p kvs ih =>
  obtain ⟨u,us,rfl,r,rs⟩:=Reps.c (d:=p.2) h
  by_cases e:p.1=k
  ·have e1:getG (p :: kvs) k=some p.2:=by simp [getG,e]
   rw [e1]
   exact ⟨_,by simp only [List.map_cons,List.zip_cons_cons]; exact valV_pos e,r⟩
  ·have e1:getG (p :: kvs) k=getG kvs k:=by simp [getG,e]
   rw [e1]
   have:=ih rs
   simp only [List.map_cons,List.zip_cons_cons,valV_neg (p:=(p.1,_)) e]
   exact this
theorem xf {k:κ} {kvs:List (κ × D)} {vs:List V} (h:kvs.length=vs.length):((kvs.map (·.1)).zip vs).any (fun kv=>decide (kv.1=k))=kvs.any fun kv=>decide (kv.1=k):=by
 induction kvs generalizing vs with
 | nil=>rfl
 | cons p kvs ih =>
  cases vs with
  | nil=>simp at h
  | cons v vs =>
   simp only [List.map_cons,List.zip_cons_cons,List.any_cons]
   rw [ih (vs:=vs) (by simpa using h)]
end
section
variable {K:PySem.W.Frag} {Hs H:Hp}
theorem newL {p:Addr} {o:HO} (w:Wf Hs H) (hp:H p=none) (ho:∀ vs,o≠.tup vs):Grow Hs H Hs (upd H p o) :=
 ⟨(Same.refl H).upd hp,Same.refl _,⟨w.sub.upd hp,fun a vs e=>by
  by_cases h:a=p
  ·subst h; rw [upd_same] at e; exact absurd (Option.some.inj e) (ho vs)
  ·rw [upd_ne h] at e; exact w.tups a vs e⟩,fun _ h=>.inl h⟩
theorem newT {p:Addr} {vs:List V} (w:Wf Hs H) (hp:H p=none):Grow Hs H (upd Hs p (.tup vs)) (upd H p (.tup vs)) :=
 ⟨(Same.refl H).upd hp,(Same.refl Hs).upd (w.sub.free hp),⟨fun a o e=>by
  by_cases h:a=p
  ·subst h; rw [upd_same] at e ⊢; exact e
  ·rw [upd_ne h] at e ⊢; exact w.sub a o e,fun a vs e=>by
  by_cases h:a=p
  ·subst h; rw [upd_same] at e ⊢; exact e
  ·rw [upd_ne h] at e ⊢; exact w.tups a vs e⟩,fun a h=>by
  by_cases e:a=p
  ·subst e; exact .inr hp
  ·rw [upd_ne e] at h; exact .inl h⟩
theorem bZ.nil:bZ Hs H []:=⟨List.nodup_nil,fun a h=>nomatch h⟩
theorem bZ.of {H':Hp} {As:List Addr} (s:Same H H') (f:bZ Hs H' As):bZ Hs H As:=⟨f.1,fun a h=>⟨(f.2 a h).1,s.free (f.2 a h).2⟩⟩
noncomputable abbrev Fin (K:PySem.W.Frag) (Hs H:Hp) (Qd:Md→D→Prop) (Qv:VK):Prop:=∀ v H' Hs' m d As,Grow Hs H Hs' H'→RM K Hs' H' m d v As→bZ Hs' H As→Qd m d→Qv v H'
theorem Fin.after {Hs' H':Hp} {Qd:Md→D→Prop} {Qv:VK} (f:Fin K Hs H Qd Qv) (g:Grow Hs H Hs' H'):Fin K Hs' H' Qd Qv:=fun v H2 Hs2 m d As g2 r fr q=>f v H2 Hs2 m d As (g.trans g2) r (fr.of g.all) q
theorem Fin.sh {Qd:Md→D→Prop} {Qv:VK} {d:D} {v:V} (f:Fin K Hs H Qd Qv) (w:Wf Hs H) (r:Rep K Hs d v) (q:Qd .sh d):Qv v H:=f v H Hs .sh d [] (Grow.refl w) ⟨rfl,r⟩ bZ.nil q
theorem Fin.flat {Qd:Md→D→Prop} {Qv:VK} {d:D} {v:V} (f:Fin K Hs H Qd Qv) (w:Wf Hs H) (r:Rep K H d v) (hf:d.flat=true) (q:Qd .sh d):Qv v H:=f.sh w (r.gr w.tups hf) q
theorem Fin.bo {Qd:Md→D→Prop} {Qv:VK} {d:D} {v:V} (f:Fin K Hs H Qd Qv) (w:Wf Hs H) (r:Rep K H d v) (q:Qd .bo d):Qv v H:=f v H Hs .bo d [] (Grow.refl w) ⟨rfl,r⟩ bZ.nil q
noncomputable def itm (m:Md) (d:D):Md:=match m with
 | .sh=>.sh
 | _=>bif d.flat then .sh else .bo
theorem Fin.itm {Qd:Md→D→Prop} {Qv:VK} {m:Md} {d:D} {v:V} (f:Fin K Hs H Qd Qv) (w:Wf Hs H) (r:Rep K H d v) (rs:m=.sh→Rep K Hs d v) (q:Qd (itm m d) d):Qv v H:=by
 cases m with
 | sh=>exact f.sh w (rs rfl) q
 | ow fl =>
  cases hf:d.flat with
  | true=>exact f.flat w r hf (by simpa [Q.itm,hf] using q)
  | false=>exact f.bo w r (by simpa [Q.itm,hf] using q)
 | bo =>
  cases hf:d.flat with
  | true=>exact f.flat w r hf (by simpa [Q.itm,hf] using q)
  | false=>exact f.bo w r (by simpa [Q.itm,hf] using q)
theorem Fin.lst {Qd:Md→D→Prop} {Qv:VK} {ds:List D} {vs:List V} (f:Fin K Hs H Qd Qv) (w:Wf Hs H) (hz:ds.length≤sizeLine) (r:Reps K H ds vs) (hf:flats ds=true) (q:Qd (.ow true) (.list ds)):∀ p,H p=none→Qv (.ref p) (upd H p (.lst vs)):=fun p hp =>
 f _ _ Hs (.ow true) (.list ds) [p] (newL w hp fun _ z=>nomatch z) ⟨.list (by rw [← r.length]; exact hz) upd_same ((r.gr w.tups hf).owned hf),by simp⟩ ⟨by simp,fun a h=>by
  obtain rfl:a=p:=by simpa using h
  exact ⟨w.sub.free hp,hp⟩⟩ q
theorem Fin.lstS {Qd:Md→D→Prop} {Qv:VK} {ds:List D} {vs:List V} (f:Fin K Hs H Qd Qv) (w:Wf Hs H) (hz:ds.length≤sizeLine) (r:Reps K Hs ds vs) (q:Qd (.ow false) (.list ds)):∀ p,H p=none→Qv (.ref p) (upd H p (.lst vs)):=fun p hp =>
 f _ _ Hs (.ow false) (.list ds) [p] (newL w hp fun _ z=>nomatch z) ⟨.list (by rw [← r.length]; exact hz) upd_same r.Bu,by simp⟩ ⟨by simp,fun a h=>by
  obtain rfl:a=p:=by simpa using h
  exact ⟨w.sub.free hp,hp⟩⟩ q
theorem Fin.tup {Qd:Md→D→Prop} {Qv:VK} {ds:List D} {vs:List V} (f:Fin K Hs H Qd Qv) (w:Wf Hs H) (hz:ds.length≤sizeLine) (r:Reps K H ds vs) (hf:flats ds=true) (q:Qd .sh (.tup ds)):∀ p,H p=none→Qv (.ref p) (upd H p (.tup vs)):=fun p hp =>
 f _ _ (upd Hs p (.tup vs)) .sh (.tup ds) [] (newT w hp) ⟨rfl,.tup (by rw [← r.length]; exact hz) upd_same ((r.gr w.tups hf).same ((Same.refl Hs).upd (w.sub.free hp)))⟩ bZ.nil q
end
section
variable {X:Cx} {K:PySem.W.Frag}
theorem PE.imp {e:Expr} {te te':TE} (h:PE X e te) (i:∀ σ H Q,te' σ H Q→te σ H Q):PE X e te':=fun pins s σ H Q I q=>h pins s σ H Q I (i σ H Q q)
theorem PT.imp {e:Expr} {te te':TT} (h:PT X e te) (i:∀ σ H Q,te' σ H Q→te σ H Q):PT X e te':=fun pins s σ H Q I q=>h pins s σ H Q I (i σ H Q q)
theorem PW.imp {e:Expr} {te te':TT} (h:PW X e te) (i:∀ σ H Q,te' σ H Q→te σ H Q):PW X e te':=fun wh pins s σ H Q I q=>h wh pins s σ H Q I (i σ H Q q)
theorem PA.imp {e:List Expr} {te te':TA} (h:PA X e te) (i:∀ σ H Q,te' σ H Q→te σ H Q):PA X e te':=fun p pins s σ H Q I q=>h p pins s σ H Q I (i σ H Q q)
noncomputable def useS:Option (Option Sl)→(Md→D→Prop)→Prop
 | some (some (.sh d)),Q=>Q .sh d
 | some (some (.ow _ d)),Q=>Q .bo d
 | some (some (.lk _ _ d)),Q=>Q .bo d
 | _,_=>False
noncomputable def wVar (i:Nat):WE:=fun ρ Q=>useS ρ[i]? Q
theorem DN {i:Nat} {e:Expr} (h:PE X e (tVar i)):QE X K e (wVar i):=by
 refine PE.imp h fun σ H Qv hx=>ex4 hx fun Hs ρ tot Q sr h f=>?_
 unfold wVar at h
 cases e:ρ[i]? with
 | none=>rw [e] at h; exact h.elim
 | some o =>
  cases o with
  | none=>rw [e] at h; exact h.elim
  | some sl =>
   obtain ⟨v,e1,r⟩:=sr.sr.get e
   rw [e] at h
   cases sl with
   | sh d=>exact ⟨v,e1,Fin.sh f sr.wf r h⟩
   | xc a=>exact h.elim
   | ow fl d =>
    obtain ⟨As,_,r,_⟩:=r
    exact ⟨v,e1,Fin.bo f sr.wf (r.rep sr.wf.sub fun _ _=>rfl) h⟩
   | lk a fl d =>
    obtain ⟨As,_,r,_⟩:=r
    exact ⟨v,e1,Fin.bo f sr.wf (r.rep sr.wf.sub fun _ _=>rfl) h⟩
theorem qv (i:Nat) {x:Str} {pos:Pos} (hN:X.N[i]? = some x:=by rfl) (hv:Vis X.env.scope x:=by first | exact Or.inl rfl | exact Or.inr (Or.inl rfl) | exact Or.inr (Or.inr rfl)) (hd:(x == ("__debug__" : Str))=false:=by decide)
  (hcd:(x == ("__classdict__" : Str))=false:=by decide):QE X K (.Name x pos) (wVar i):=DN (pe_var hN hv hd hcd)
noncomputable def wC (d:D):WE:=fun _ Q=>Q .sh d
theorem rZ {e:Expr} {v:V} {d:D} (h:PE X e (tC v)) (r:∀ H,Rep K H d v):QE X K e (wC d) :=
 PE.imp h fun σ H Qv hx=>ex4 hx fun Hs ρ tot Q sr h f=>Fin.sh f sr.wf (r _) h
theorem ao {i j pos}:QE X K (.Constant (.int i) j pos) (wC (.int i)):=rZ pe_int fun _=>.int i
theorem eU {i j pos} (h:i.length≤sizeLine:=by decide):QE X K (.Constant (.str i) j pos) (wC (.str i)):=rZ pe_str fun _=>.str h
theorem q_bl {i j pos}:QE X K (.Constant (.bool i) j pos) (wC (.bl i)):=rZ pe_bl fun _=>.bl i
theorem q_gs {x z:Str} {pos:Pos} (h:GlS X.mg x z) (hg:Gl X x:=by rfl) (hd:(x == ("__debug__" : Str))=false:=by decide) (hz:z.length≤sizeLine:=by decide):QE X K (.Name x pos) (wC (.str z)):=rZ (Dq h hg hd) fun _=>.str hz
theorem q_gi {x:Str} {i:Int} {pos:Pos} (h:GlI X.mg x i) (hg:Gl X x:=by rfl) (hd:(x == ("__debug__" : Str))=false:=by decide):QE X K (.Name x pos) (wC (.int i)):=rZ (De h hg hd) fun _=>.int i
noncomputable abbrev W2:=Md→D→Md→D→(Md→D→Prop)→Prop
noncomputable abbrev W1:=Md→D→(Md→D→Prop)→Prop
noncomputable def Br2 (K:PySem.W.Frag) (r:R2) (f:W2):Prop:=∀ Hs H m x v As n y u Bs Qd Qv,Wf Hs H→RM K Hs H m x v As→RM K Hs H n y u Bs→f m x n y Qd→Fin K Hs H Qd Qv→r v u H Qv
noncomputable def Br1 (K:PySem.W.Frag) (r:V→Hp→VK→Prop) (f:W1):Prop:=∀ Hs H m x v As Qd Qv,Wf Hs H→RM K Hs H m x v As→f m x Qd→Fin K Hs H Qd Qv→r v H Qv
noncomputable def wOp (f:W2) (ta tb:WE):WE:=fun ρ Q=>ta ρ fun m x=>tb ρ fun n y=>f m x n y Q
noncomputable def wUn (f:W1) (ta:WE):WE:=fun ρ Q=>ta ρ fun m x=>f m x Q
variable {a b c:Expr} {ta tb tc:WE} {pos:Pos}
theorem lg {r:R2} {f:W2} (br:Br2 K r f) (σ:St) (H:Hp) (Qv:VK) (h:tpE K (wOp f ta tb) σ H Qv):tOp r (tpE K ta) (tpE K tb) σ H Qv:=by
 obtain ⟨Hs,ρ,tot,Q,sr,h,fin⟩:=h
 refine ⟨Hs,ρ,tot,_,sr,h,fun v H1 Hs1 m x As g1 r1 f1 q1=>⟨Hs1,ρ,tot,_,sr.grow g1,q1,fun u H2 Hs2 n y Bs g2 r2 f2 q2=>?_⟩⟩
 exact br Hs2 H2 m x v As n y u Bs Q Qv g2.wf (r1.grow g2) r2 q2 (Fin.after fin (g1.trans g2))
theorem q_op {op:Operator} {r:R2} {f:W2} (ho:OpR X (binaryOp op) r) (br:Br2 K r f) (ha:QE X K a ta) (hb:QE X K b tb):QE X K (.BinOp a op b pos) (wOp f ta tb):=PE.imp (pe_op ho ha hb) (lg br)
theorem uh {op:CmpOp} {r:R2} {f:W2} (ho:OpR X (compareOp op) r) (br:Br2 K r f) (ha:QE X K a ta) (hb:QE X K b tb) (hm:behindInMarks op b=false):QE X K (.Compare a [op] [b] pos) (wOp f ta tb):=PE.imp (pe_cmpR ho ha hb hm) (lg br)
noncomputable def wB (t:WE):WT:=fun ρ Q=>t ρ fun _ x=>match x with
 | .bl b=>Q b
 | _=>False
theorem vI {t:WE} (σ:St) (H:Hp) (Qv:Bool→Hp→Prop) (h:tpT K (wB t) σ H Qv):tTest (tpE K t) σ H Qv:=by
 obtain ⟨Hs,ρ,tot,Q,sr,h,fin⟩:=h
 refine ⟨Hs,ρ,tot,_,sr,h,fun v H1 Hs1 m x As g1 r1 f1 q1=>?_⟩
 have r:=r1.rep g1.wf
 cases r with
 | bl b=>exact ⟨b,rfl,fin b H1 Hs1 g1 q1⟩
 | _=>exact q1.elim
theorem cL {op:CmpOp} {r:R2} {f:W2} (ho:OpR X (compareOp op) r) (br:Br2 K r f) (ha:QE X K a ta) (hb:QE X K b tb) (hm:behindInMarks op b=false):QT X K (.Compare a [op] [b] pos) (wB (wOp f ta tb)):=by
 refine PT.imp (pt_cmpR ho ha hb hm) fun σ H Qv h=>?_
 obtain ⟨Hs,ρ,tot,Q,sr,h,fin⟩:=h
 refine lg br σ H _ ⟨Hs,ρ,tot,_,sr,h,fun v H1 Hs1 m x As g1 r1 f1 q1=>?_⟩
 have r:=r1.rep g1.wf
 cases r with
 | bl b=>exact ⟨b,rfl,fin b H1 Hs1 g1 q1⟩
 | _=>exact q1.elim
theorem c7 {t:WE} (h:QE X K a t) (he:∀ whole,isTrue a X.env whole=(do let v ← whole; standAt a.pos; holding [v] (truthy v)):=by intro _; rfl):QT X K a (wB t):=PT.imp (pt_val h he) vI
noncomputable def mV (f g:W2) (ta tb tc:WE):WE:=fun ρ Q=>ta ρ fun m x=>tb ρ fun n y=>f m x n y fun _ z=>match z with
 | .bl k=>if k=true then tc ρ fun l w=>g n y l w Q else Q .sh (.bl false)
 | _=>False
end
end L2.Q
set_option Elab.async false
set_option linter.all false
set_option maxRecDepth 100000
set_option maxHeartbeats 4000000
namespace L2.Q
open PySem PySem.Spec PyProof.Rows
section
variable {X:Cx} {K:PySem.W.Frag} {a b c:Expr} {ta tb tc:WE} {pos:Pos}
theorem qR {r r':R2} {f g:W2} (br:Br2 K r f) (br':Br2 K r' g) (σ:St) (H:Hp) (Qv:VK) (h:tpE K (mV f g ta tb tc) σ H Qv):tChain r r' (tpE K ta) (tpE K tb) (tpE K tc) σ H Qv:=by
 obtain ⟨Hs,ρ,tot,Q,sr,h,fin⟩:=h
 refine ⟨Hs,ρ,tot,_,sr,h,fun v H1 Hs1 m x As g1 r1 f1 q1=>⟨Hs1,ρ,tot,_,sr.grow g1,q1,fun u H2 Hs2 n y Bs g2 r2 f2 q2=>?_⟩⟩
 refine br Hs2 H2 m x v As n y u Bs _ _ g2.wf (r1.grow g2) r2 q2 fun z H3 Hs3 m3 d3 As3 g3 r3 f3 q3=>?_
 have rr:=r3.rep g3.wf
 cases rr with
 | bl k =>
  refine ⟨k,rfl,?_⟩
  have fin3:Fin K Hs3 H3 Q Qv:=Fin.after fin ((g1.trans g2).trans g3)
  cases k with
  | false=>exact fin3.sh g3.wf (.bl false) q3
  | true =>
   refine ⟨Hs3,ρ,tot,_,((sr.grow g1).grow g2).grow g3,q3,fun w H4 Hs4 l z As4 g4 r4 f4 q4=>?_⟩
   exact br' Hs4 H4 n y u Bs l z w As4 Q Qv g4.wf ((r2.grow g3).grow g4) r4 q4 (Fin.after fin3 g4)
 | _=>exact q3.elim
theorem vB {op op':CmpOp} {r r':R2} {f g:W2} (ho:OpR X (compareOp op) r) (ho':OpR X (compareOp op') r') (br:Br2 K r f) (br':Br2 K r' g) (ha:QE X K a ta) (hb:QE X K b tb) (hc:QE X K c tc)
  (hm:lastMarks [op,op'] [b,c]=false:=by with_unfolding_all rfl):QT X K (.Compare a [op,op'] [b,c] pos) (wB (mV f g ta tb tc)):=by
 refine PT.imp (pt_chain ho ho' ha hb hc hm) fun σ H Qv h=>?_
 obtain ⟨Hs,ρ,tot,Q,sr,h,fin⟩:=h
 refine qR br br' σ H _ ⟨Hs,ρ,tot,_,sr,h,fun v H1 Hs1 m x As g1 r1 f1 q1=>?_⟩
 have r:=r1.rep g1.wf
 cases r with
 | bl b=>exact ⟨b,rfl,fin b H1 Hs1 g1 q1⟩
 | _=>exact q1.elim
noncomputable def wOr (t u:WT):WT:=fun ρ Q=>t ρ fun c=>if c=true then Q true else u ρ Q
noncomputable def wNot (t:WT):WT:=fun ρ Q=>t ρ fun c=>Q (!c)
variable {tA tB:WT} {rest:List Expr}
theorem qe {t u:WT} {f:Bool→TT} {σ:St} {H:Hp} {Qv:Bool→Hp→Prop} {G:Bool→(Bool→Prop)→Env→Prop}
  (h:tpT K (fun ρ Q=>t ρ fun c=>G c Q ρ) σ H Qv)
  (i:∀ c H1 Hs1 ρ tot Q,SRel K Hs1 ρ σ H1 tot→G c Q ρ→(∀ b H' Hs',Grow Hs1 H1 Hs' H'→Q b→Qv b H')→f c σ H1 Qv):tpT K t σ H fun c H1=>f c σ H1 Qv:=by
 obtain ⟨Hs,ρ,tot,Q,sr,h,fin⟩:=h
 exact ⟨Hs,ρ,tot,_,sr,h,fun c H1 Hs1 g1 q1=>i c H1 Hs1 ρ tot Q (sr.grow g1) q1 fun b H' Hs' g2=>fin b H' Hs' (g1.trans g2)⟩
theorem ju (ha:QT X K a tA):QW X K (.BoolOp .Or [a] pos) tA:=pw_or1 ha
theorem ie (ha:QT X K a tA) (hb:QW X K (.BoolOp .Or (b :: rest) pos) tB):QW X K (.BoolOp .Or (a :: b :: rest) pos) (wOr tA tB):=by
 refine PW.imp (pw_or ha hb) fun σ H Qv h=>?_
 refine qe (u:=tB) (f:=fun c σ H1 Q=>if c=true then Q true H1 else tpT K tB σ H1 Q) h fun c H1 Hs1 ρ tot Q sr q fin=>?_
 cases c with
 | true=>exact fin true H1 Hs1 (Grow.refl sr.wf) q
 | false=>exact ⟨Hs1,ρ,tot,Q,sr,q,fin⟩
theorem qt_w (h:QW X K a tA):QT X K a tA:=h _
theorem cJ (ha:QT X K a tA):QT X K (.UnaryOp .Not a pos) (wNot tA):=by
 refine PT.imp (pt_not ha) fun σ H Qv h=>?_
 exact qe (u:=tA) (f:=fun c σ H1 Q=>Q (!c) H1) h fun c H1 Hs1 ρ tot Q sr q fin=>fin _ H1 Hs1 (Grow.refl sr.wf) q
noncomputable def qy (ta tb:WE):WE:=fun ρ Q=>ta ρ fun _ x=>match x with
 | .bl c=>if c=true then tb ρ Q else Q .sh (.bl false)
 | _=>False
noncomputable def vJ (ta:WE):WE:=fun ρ Q=>ta ρ fun _ x=>match x with
 | .bl c=>Q .sh (.bl (!c))
 | _=>False
theorem Bp {op} (h:QE X K a ta):QE X K (.BoolOp op [a] pos) ta:=pe_one h
theorem xu (ha:QE X K a ta) (hb:QE X K (.BoolOp .And (b :: rest) pos) tb):QE X K (.BoolOp .And (a :: b :: rest) pos) (qy ta tb):=by
 refine PE.imp (pe_and ha hb) fun σ H Qv hx=>ex4 hx fun Hs ρ tot Q sr h fin=>?_
 refine ⟨Hs,ρ,tot,_,sr,h,fun v H1 Hs1 m x As g1 r1 f1 q1=>?_⟩
 have r:=r1.rep g1.wf
 cases r with
 | bl c =>
  refine ⟨c,rfl,?_⟩
  cases c with
  | true=>exact ⟨Hs1,ρ,tot,Q,sr.grow g1,q1,Fin.after fin g1⟩
  | false=>exact Fin.sh (Fin.after fin g1) g1.wf (.bl false) q1
 | _=>exact q1.elim
theorem Dr (ha:QE X K a ta):QE X K (.UnaryOp .Not a pos) (vJ ta):=by
 refine PE.imp (pe_not ha) fun σ H Qv hx=>ex4 hx fun Hs ρ tot Q sr h fin=>?_
 refine ⟨Hs,ρ,tot,_,sr,h,fun v H1 Hs1 m x As g1 r1 f1 q1=>?_⟩
 have r:=r1.rep g1.wf
 cases r with
 | bl c=>exact ⟨c,rfl,Fin.sh (Fin.after fin g1) g1.wf (.bl _) q1⟩
 | _=>exact q1.elim
noncomputable def truD:D→Option Bool
 | .non=>some false
 | .bl b=>some b
 | .int i=>some (i != 0)
 | .str x=>some ((x.length:Int) != 0)
 | .list xs=>some !xs.isEmpty
 | .tup xs=>some !xs.isEmpty
 | .dK kvs=>some !kvs.isEmpty
 | .dT kvs=>none
end
end L2.Q
set_option Elab.async false
set_option linter.all false
set_option maxRecDepth 100000
set_option maxHeartbeats 4000000
namespace L2.Q
open PySem PySem.Spec PyProof.Rows
noncomputable def fAdd:W2:=fun m x n y Q=>match x,y with
 | .int i,.int j=>Q .sh (.int (i+j))
 | .str i,.str j=>i.length+j.length≤sizeLine∧Q .sh (.str (i++j))
 | .list xs,.list ys=>xs.length+ys.length≤sizeLine∧((flats xs=true∧flats ys=true∧Q (.ow true) (.list (xs++ys)))∨(m=.sh∧n=.sh∧Q (.ow false) (.list (xs++ys))))
 | .tup xs,.tup ys=>xs≠[]∧xs.length+ys.length≤sizeLine∧flats xs=true∧flats ys=true∧Q .sh (.tup (xs++ys))
 | _,_=>False
noncomputable def int2 (P:Int→Int→(Md→D→Prop)→Prop):W2:=fun _ x _ y Q=>match x,y with
 | .int i,.int j=>P i j Q
 | _,_=>False
noncomputable def is2 (P:Int→Int→(Md→D→Prop)→Prop) (S:Str→Str→(Md→D→Prop)→Prop):W2:=fun _ x _ y Q=>match x,y with
 | .int i,.int j=>P i j Q
 | .str i,.str j=>S i j Q
 | _,_=>False
noncomputable def fMul:W2:=int2 fun i j Q=>CMul i j∧Q .sh (.int (i * j))
noncomputable def fDiv:W2:=int2 fun i j Q=>(0<j∧j<1073741824)∧Q .sh (.int (i / j))
noncomputable def fMod:W2:=int2 fun i j Q=>0<j∧Q .sh (.int (i % j))
noncomputable def fLt:W2:=is2 (fun i j Q=>Q .sh (.bl (decide (i<j)))) fun i j Q=>Q .sh (.bl (ltS i j))
noncomputable def fLe:W2:=is2 (fun i j Q=>Q .sh (.bl (decide (i≤j)))) fun i j Q=>Q .sh (.bl (!ltS j i))
noncomputable def fEq:W2:=fun _ x _ y Q=>match x,y with
 | .int i,.int j=>Q .sh (.bl (decide (i=j)))
 | .str i,.str j=>Q .sh (.bl (decide (i=j)))
 | .bl i,.bl j=>Q .sh (.bl (decide (i=j)))
 | _,_=>okD 12 x=true∧okD 12 y=true∧Q .sh (.bl (eqD x y))
noncomputable def fNe:W2:=fun _ x _ y Q=>match x,y with
 | .int i,.int j=>Q .sh (.bl (!decide (i=j)))
 | .str i,.str j=>Q .sh (.bl (!decide (i=j)))
 | .bl i,.bl j=>Q .sh (.bl (!decide (i=j)))
 | _,_=>okD 12 x=true∧okD 12 y=true∧Q .sh (.bl (!eqD x y))
noncomputable def d8:D→Bool
 | .non=>true
 | .bl _=>true
 | .int _=>true
 | .str _=>true
 | _=>false
noncomputable def inD (x:D) (ys:List D):Bool:=ys.any fun y=>eqD y x
noncomputable def fIn (neg:Bool):W2:=fun _ x _ y Q=>match y with
 | .str j=>match x with
  | .str i=>Q .sh (.bl (if neg then !inS i j else inS i j))
  | _=>False
 | .list ys=>d8 x=true∧ys.all d8=true∧Q .sh (.bl (if neg then !inD x ys else inD x ys))
 | .tup ys=>d8 x=true∧ys.all d8=true∧Q .sh (.bl (if neg then !inD x ys else inD x ys))
 | .dK kvs=>∃ k,x.key1=some k∧Q .sh (.bl (if neg then !(getG kvs k).isSome else (getG kvs k).isSome))
 | .dT kvs=>match x with
  | .tup xs=>∃ ks,gD xs=some ks∧Q .sh (.bl (if neg then !(getG kvs ks).isSome else (getG kvs ks).isSome))
  | _=>False
 | _=>False
section
variable {K:PySem.W.Frag}
theorem ug {Hs H:Hp} {Qd:Md→D→Prop} {Qv:VK} (f:Fin K Hs H Qd Qv) (w:Wf Hs H) {x:Str} (h:x.length≤sizeLine) (q:Qd .sh (.str x)):Qv (.str x) H:=f.sh w (.str h) q
theorem bC (i j:Str):(i++j).length=i.length+j.length:=by
 show ((i++j).cps.size)=_
 show (i.cps++j.cps).size=_
 simp [Str.length]
theorem Bk:Br2 K (fun x y H Q=>vh K x y H Q∨rCatT K x y H Q) fAdd:=by
 intro Hs H m x v As n y u Bs Qd Qv w rx ry h f
 have r1:=rx.rep w
 have r2:=ry.rep w
 unfold fAdd at h
 cases r1 with
 | int i=>cases r2 with
  | int j=>exact .inl (f.sh w (.int _) h)
  | _=>exact h.elim
 | str hi=>cases r2 with
  | str hj=>exact .inl ⟨h.1,ug f w (by rw [bC]; exact h.1) h.2⟩
  | _=>exact h.elim
 | list z1 s1 q1=>cases r2 with
  | list z2 s2 q2 =>
   have l1:=q1.length
   have l2:=q2.length
   have hz:=h.1
   rcases h.2 with ⟨f1,f2,q⟩ | ⟨rfl,rfl,q⟩
   ·refine .inl ⟨_,_,s1,s2,by walk_at "l",?_⟩
    exact f.lst w (by rw [List.length_append]; exact hz) (q1.append q2) (by rw [gk,f1,f2]; rfl) q
   ·obtain ⟨_,rx⟩:=rx
    obtain ⟨_,ry⟩:=ry
    cases rx with
    | list z1' s1' q1'=>cases ry with
     | list z2' s2' q2' =>
      have l1:=q1'.length
      have l2:=q2'.length
      refine .inl ⟨_,_,Same.seq w.sub s1',Same.seq w.sub s2',by walk_at "l",?_⟩
      exact f.lstS w (by rw [List.length_append]; exact hz) (q1'.append q2') q
  | _=>exact h.elim
 | tup t1 s1 q1=>cases r2 with
  | tup t2 s2 q2 =>
   have l1:=q1.length
   have l2:=q2.length
   obtain ⟨hne,hz,f1,f2,q⟩:=h
   refine .inr ⟨_,_,_,_,rfl,rfl,.inl (.inl s1),.inl (.inl s2),?_,by walk_at "l",?_⟩
   ·intro e
    subst e
    exact hne (List.length_eq_zero_iff.mp l1)
   ·refine ⟨fun e=>?_,fun _=>f.tup w (by rw [List.length_append]; exact hz) (q1.append q2) (by rw [gk,f1,f2]; rfl) q⟩
    subst e
    cases q2
    rw [List.append_nil] at q
    exact f.flat w (.tup t1 s1 q1) (by simpa [D.flat] using f1) q
  | _=>exact h.elim
 | _=>exact h.elim
theorem wg {H:Hp} {x y:D} {v u:V} {m n:Md} {P:Int→Int→(Md→D→Prop)→Prop} {S:Str→Str→(Md→D→Prop)→Prop} {Q:Md→D→Prop} {G:Prop} (r1:Rep K H x v) (r2:Rep K H y u) (h:is2 P S m x n y Q) (k:∀ i j,v=.int i→u=.int j→P i j Q→G) (ks:∀ i j,v=.str i→u=.str j→S i j Q→G):G:=by
 cases r1 with
 | int i=>cases r2 with
  | int j=>exact k i j rfl rfl h
  | _=>exact h.elim
 | str hi=>cases r2 with
  | str hj=>exact ks _ _ rfl rfl h
  | _=>exact h.elim
 | _=>exact h.elim
theorem nG {H:Hp} {x y:D} {v u:V} {m n:Md} {P:Int→Int→(Md→D→Prop)→Prop} {Q:Md→D→Prop} {G:Prop} (r1:Rep K H x v) (r2:Rep K H y u) (h:int2 P m x n y Q) (k:∀ i j,v=.int i→u=.int j→P i j Q→G):G:=by
 cases r1 with
 | int i=>cases r2 with
  | int j=>exact k i j rfl rfl h
  | _=>exact h.elim
 | _=>exact h.elim
theorem Al:Br2 K yu fMul:=by
 intro Hs H m x v As n y u Bs Qd Qv w rx ry h f
 exact nG (rx.rep w) (ry.rep w) h fun i j e1 e2 q=>by
  subst e1 e2
  exact ⟨q.1,f.sh w (.int _) q.2⟩
theorem Ak:Br2 K yF fDiv:=by
 intro Hs H m x v As n y u Bs Qd Qv w rx ry h f
 exact nG (rx.rep w) (ry.rep w) h fun i j e1 e2 q=>by
  subst e1 e2
  exact ⟨q.1,f.sh w (.int _) q.2⟩
theorem Br:Br2 K yP fMod:=by
 intro Hs H m x v As n y u Bs Qd Qv w rx ry h f
 exact nG (rx.rep w) (ry.rep w) h fun i j e1 e2 q=>by
  subst e1 e2
  exact ⟨q.1,f.sh w (.int _) q.2⟩
theorem BZ:Br2 K rLtU fLt:=by
 intro Hs H m x v As n y u Bs Qd Qv w rx ry h f
 exact wg (rx.rep w) (ry.rep w) h (fun i j e1 e2 q=>by
  subst e1 e2
  exact f.sh w (.bl _) q) fun i j e1 e2 q=>by
  subst e1 e2
  exact f.sh w (.bl _) q
theorem zX:Br2 K rLeU fLe:=by
 intro Hs H m x v As n y u Bs Qd Qv w rx ry h f
 exact wg (rx.rep w) (ry.rep w) h (fun i j e1 e2 q=>by
  subst e1 e2
  exact f.sh w (.bl _) q) fun i j e1 e2 q=>by
  subst e1 e2
  exact f.sh w (.bl _) q
theorem eq_data {Hs H:Hp} {x y:D} {v u:V} {Qd:Md→D→Prop} {Qv:VK} (w:Wf Hs H) (rx:Rep K H x v) (ry:Rep K H y u) (f:Fin K Hs H Qd Qv) (h:okD 12 x=true∧okD 12 y=true∧Qd .sh (.bl (eqD x y))):rEqD K v u H Qv:=by
 obtain ⟨h1,h2,q⟩:=h
 have l1:=pB 12 x h1
 have l2:=pB 12 y h2
 exact ⟨x.py,y.py,rx.l2 h1,ry.l2 h2,l1.1,l2.1,by walk_at "l",f.sh w (.bl _) q⟩
theorem ne_data {Hs H:Hp} {x y:D} {v u:V} {Qd:Md→D→Prop} {Qv:VK} (w:Wf Hs H) (rx:Rep K H x v) (ry:Rep K H y u) (f:Fin K Hs H Qd Qv) (h:okD 12 x=true∧okD 12 y=true∧Qd .sh (.bl (!eqD x y))):rNeD K v u H Qv:=by
 obtain ⟨h1,h2,q⟩:=h
 have l1:=pB 12 x h1
 have l2:=pB 12 y h2
 exact ⟨x.py,y.py,rx.l2 h1,ry.l2 h2,l1.1,l2.1,by walk_at "l",f.sh w (.bl _) q⟩
theorem kW:Br2 K (rEqU K) fEq:=by
 intro Hs H m x v As n y u Bs Qd Qv w rx ry h f
 have r1:=rx.rep w
 have r2:=ry.rep w
 have d:=fun h=>eq_data (Qd:=Qd) (Qv:=Qv) w r1 r2 f h
 cases r1 with
 | int i=>cases r2 with
  | int j=>exact f.sh w (.bl _) h
  | _=>exact d h
 | str i=>cases r2 with
  | str j=>exact f.sh w (.bl _) h
  | _=>exact d h
 | bl i=>cases r2 with
  | bl j=>exact f.sh w (.bl _) h
  | _=>exact d h
 | _=>exact d h
theorem nP:Br2 K (rNeU K) fNe:=by
 intro Hs H m x v As n y u Bs Qd Qv w rx ry h f
 have r1:=rx.rep w
 have r2:=ry.rep w
 have d:=fun h=>ne_data (Qd:=Qd) (Qv:=Qv) w r1 r2 f h
 cases r1 with
 | int i=>cases r2 with
  | int j=>exact f.sh w (.bl _) h
  | _=>exact d h
 | str i=>cases r2 with
  | str j=>exact f.sh w (.bl _) h
  | _=>exact d h
 | bl i=>cases r2 with
  | bl j=>exact f.sh w (.bl _) h
  | _=>exact d h
 | _=>exact d h
theorem ik {H:Hp} {x:D} {v:V} (r:Rep K H x v) (h:d8 x=true):flatV v=true:=by
 cases r <;> first | rfl | (simp [d8] at h)
theorem xW {H:Hp} {x y:D} {v u:V} (r:Rep K H x v) (s:Rep K H y u) (h:d8 x=true) (g:d8 y=true):eqV v u=eqD x y:=by
 cases r <;> simp [d8] at h <;> cases s <;> simp [d8] at g <;> rfl
theorem Ac {H:Hp} {x:D} {v:V} (r:Rep K H x v) (h:d8 x=true) {ys:List D} {us:List V} (rs:Reps K H ys us) (g:ys.all d8=true):us.all flatV=true∧inV v us=inD x ys:=by
 induction ys generalizing us with
 | nil=>rw [rs.n0]; exact ⟨rfl,rfl⟩
 | cons y ys ih =>
  obtain ⟨u,us,rfl,s,ss⟩:=rs.c
  simp only [List.all_cons,Bool.and_eq_true] at g
  obtain ⟨e1,e2⟩:=ih ss g.2
  refine ⟨by simp only [List.all_cons,ik s g.1,e1,Bool.and_self],?_⟩
  unfold inV inD at *
  rw [List.any_cons,List.any_cons,e2,xW s r g.1 h]
theorem mZ {κ:Type} [DecidableEq κ] {H:Hp} {k:κ} {kvs:List (κ × D)} {vs:List V} (r:Reps K H (kvs.map (·.2)) vs):(valV ((kvs.map (·.1)).zip vs) k).isSome=(getG kvs k).isSome:=by
 have:=zip_get (k:=k) r
 split at this
 ·rename_i e
  obtain ⟨v,e1,_⟩:=this
  rw [e1,e]; rfl
 ·rename_i e
  rw [this,e]; rfl
theorem Cg {neg:Bool}:Br2 K (rInU K neg) (fIn neg):=by
 intro Hs H m x v As n y u Bs Qd Qv w rx ry h f
 have r1:=rx.rep w
 have r2:=ry.rep w
 cases r2 with
 | str j=>cases r1 with
  | str i=>exact f.sh w (.bl _) h
  | _=>exact h.elim
 | list z s q =>
  obtain ⟨h1,h2,h3⟩:=h
  obtain ⟨e1,e2⟩:=Ac r1 h1 q h2
  have h4:=ik r1 h1
  have g:rIn K neg v (.ref _) H Qv:=⟨_,_,rfl,.inl s,h4,e1,by rw [e2]; exact f.sh w (.bl _) h3⟩
  cases r1 <;> exact .inr g
 | tup _ s q =>
  obtain ⟨h1,h2,h3⟩:=h
  obtain ⟨e1,e2⟩:=Ac r1 h1 q h2
  have h4:=ik r1 h1
  have g:rIn K neg v (.ref _) H Qv:=⟨_,_,rfl,.inr (.inl (.inl s)),h4,e1,by rw [e2]; exact f.sh w (.bl _) h3⟩
  cases r1 <;> exact .inr g
 | dK kk e q =>
  obtain ⟨k,hk,h3⟩:=h
  have ev:=r1.key hk
  subst ev
  have eg:=mZ (k:=k) q
  cases k <;> exact .inl ⟨_,DGet.k e,by rw [eg]; exact f.sh w (.bl _) h3⟩
 | dT kk e q =>
  cases r1 with
  | tup t1 e1 q1 =>
   obtain ⟨ks,hk,h3⟩:=h
   obtain ⟨b,eb,e2⟩:=Rep.keyT (.tup t1 e1 q1) hk
   cases eb
   have eg:=mZ (k:=ks) q
   exact .inl ⟨_,DGet.t e e2,by rw [eg]; exact f.sh w (.bl _) h3⟩
  | _=>exact h.elim
 | _=>exact h.elim
end
section
variable {X:Cx} {K:PySem.W.Frag} {a b:Expr} {ta tb:WE} {pos:Pos}
theorem DG (hK:X.K=K:=by rfl):OpR X (binaryOp .Add) (fun x y H Q=>vh K x y H Q∨rCatT K x y H Q):=by subst hK; exact xX.or op_catT
theorem d9 (ha:QE X K a ta) (hb:QE X K b tb) (hK:X.K=K:=by rfl):QE X K (.BinOp a .Add b pos) (wOp fAdd ta tb):=q_op (DG hK) Bk ha hb
theorem rG (ha:QE X K a ta) (hb:QE X K b tb):QE X K (.BinOp a .Mult b pos) (wOp fMul ta tb):=q_op yl Al ha hb
theorem dq (ha:QE X K a ta) (hb:QE X K b tb):QE X K (.BinOp a .FloorDiv b pos) (wOp fDiv ta tb):=q_op xM Ak ha hb
theorem b7 (ha:QE X K a ta) (hb:QE X K b tb):QE X K (.BinOp a .Mod b pos) (wOp fMod ta tb):=q_op yx Br ha hb
end
end L2.Q
set_option Elab.async false
set_option linter.all false
set_option maxRecDepth 100000
set_option maxHeartbeats 4000000
namespace L2.Q
open PySem PySem.Spec PyProof.Rows
noncomputable def wNil:WA:=fun _ Q=>Q []
noncomputable def ak (te:WE) (t:WA):WA:=fun ρ Q=>te ρ fun m x=>t ρ fun ps=>Q ((m,x) :: ps)
noncomputable def okSh:Md × D→Bool
 | (.sh,_)=>true
 | (_,d)=>d.flat
noncomputable def okOw:Md × D→Bool
 | (.bo,d)=>d.flat
 | _=>true
noncomputable def okFl:Md × D→Bool
 | (.ow true,_)=>true
 | (_,d)=>d.flat
noncomputable def qT (ps:List (Md × D)):Md:=bif ps.all okSh then .sh else bif ps.all okOw then .ow (ps.all okFl) else .bo
noncomputable def yM (ps:List (Md × D)):Md:=bif ps.all okOw then .ow (ps.all okFl) else .bo
noncomputable def wTup (t:WA):WE:=fun ρ Q=>t ρ fun ps=>ps.length≤sizeLine∧Q (qT ps) (.tup (ps.map (·.2)))
noncomputable def wLst (t:WA):WE:=fun ρ Q=>t ρ fun ps=>ps.length≤sizeLine∧Q (yM ps) (.list (ps.map (·.2)))
section
variable {X:Cx} {K:PySem.W.Frag} {e:Expr} {es:List Expr} {te:WE} {t:WA} {pos:Pos} {Hs H:Hp}
theorem aA:QA X K [] wNil:=PA.imp pa_nil fun σ H Qv hx=>ex4 hx fun Hs ρ tot Q sr h f=>f [] H Hs [] [] (Grow.refl sr.wf) .nil bZ.nil h
theorem bZ.app {Hs1 Hs2 H1:Hp} {As Bs:List Addr} (f1:bZ Hs1 H As) (o:∀ a∈As,H1 a≠none) (f2:bZ Hs2 H1 Bs) (s:Same H H1) (k:∀ a,Hs1 a=none→H1 a≠none→Hs2 a=none):bZ Hs2 H (As++Bs) :=
 ⟨List.nodup_append.mpr ⟨f1.1,f2.1,fun a ha b hb e=>by subst e; exact o a ha (f2.2 a hb).2⟩,fun a h=>by
  rcases List.mem_append.mp h with h | h
  ·exact ⟨k a (f1.2 a h).1 (o a h),(f1.2 a h).2⟩
  ·exact ⟨(f2.2 a h).1,s.free (f2.2 a h).2⟩⟩
theorem aa (ha:QE X K e te) (hr:QA X K es t) (hs:starEach (e :: es) X.env=(false,eval e X.env) :: starEach es X.env:=by rfl):QA X K (e :: es) (ak te t):=by
 refine PA.imp (pa_cons ha hr hs) fun σ H Qv hx=>ex4 hx fun Hs ρ tot Q sr h f=>?_
 refine ⟨Hs,ρ,tot,_,sr,h,fun v H1 Hs1 m x As g1 r1 f1 q1=>⟨Hs1,ρ,tot,_,sr.grow g1,q1,fun vs H2 Hs2 ps Bs g2 r2 f2 q2=>?_⟩⟩
 exact f (v :: vs) H2 Hs2 _ _ (g1.trans g2) (.cons (r1.grow g2) r2) (f1.app (fun a h=>(r1.own a h).ne) f2 g1.all fun a h1 h2=>g2.hsn h1 h2) q2
theorem RMs.sh (w:Wf Hs H) {ps:List (Md × D)} {vs:List V} {As:List Addr} (r:RMs K Hs H ps vs As):ps.all okSh=true→Reps K Hs (ps.map (·.2)) vs:=by
 induction r with
 | nil=>exact fun _=>.nil
 | @cons m d v ps vs As Bs r rs ih =>
  intro h
  simp only [List.all_cons,Bool.and_eq_true] at h
  refine .cons ?_ (ih h.2)
  cases m with
  | sh=>exact r.2
  | ow fl=>exact r.flat w h.1
  | bo=>exact r.flat w h.1
theorem RMs.ow {fl:Bool} (w:Wf Hs H) {ps:List (Md × D)} {vs:List V} {As:List Addr} (r:RMs K Hs H ps vs As):ps.all okOw=true→(fl=true→ps.all okFl=true)→∃ Bs,Bs.Sublist As∧(ps.all okSh=false→Bs≠[])∧aq K Hs H fl (ps.map (·.2)) vs Bs:=by
 induction r with
 | nil=>exact fun _ _=>⟨[],List.nil_sublist _,(fun z=>Bool.noConfusion z),.nil⟩
 | @cons m d v ps vs A1 Cs r rs ih =>
  intro h hf
  simp only [List.all_cons,Bool.and_eq_true] at h hf
  obtain ⟨Bs,sb,ne,q⟩:=ih h.2 fun z=>(hf z).2
  have sk:([]++Bs).Sublist (A1++Cs):=by simpa using sb.trans (List.sublist_append_right _ _)
  have flt:d.flat=true→okSh (m,d)=true→∃ Bs,Bs.Sublist (A1++Cs)∧(((m,d) :: ps).all okSh=false→Bs≠[])∧aq K Hs H fl (((m,d) :: ps).map (·.2)) (v :: vs) Bs:=fun hd ho =>
   ⟨[]++Bs,sk,fun z=>ne (by rw [List.all_cons,ho] at z; simpa using z),.cons (.sh (fun _=>hd) (r.flat w hd)) q⟩
  cases m with
  | sh=>exact ⟨[]++Bs,sk,fun z=>ne (by simpa [okSh] using z),.cons (.sh (fun z=>(hf z).1) r.2) q⟩
  | bo=>exact flt h.1 h.1
  | ow b =>
   cases hd:d.flat with
   | true=>exact flt hd hd
   | false =>
    refine ⟨A1++Bs,sb.append_left _,fun _ z=>r.2 (List.append_eq_nil_iff.mp z).1,.cons ?_ q⟩
    cases fl with
    | false=>exact RepO.fls r.1
    | true =>
     have:=(hf rfl).1
     cases b with
     | true=>exact r.1
     | false=>simp [okFl,hd] at this
theorem jX:∀ {ps:List (Md × D)},flats (ps.map (·.2))=true→ps.all okSh=true
 | [],_=>rfl
 | (m,d) :: ps,h=>by
  simp only [List.map_cons,flats,Bool.and_eq_true] at h
  simp only [List.all_cons,Bool.and_eq_true]
  exact ⟨by cases m <;> simp [okSh,h.1],jX h.2⟩
theorem fK {x1} (h:QA X K es t):QE X K (.Tuple es x1 pos) (wTup t):=by
 refine PE.imp (pe_tup h) fun σ H Qv hx=>ex4 hx fun Hs ρ tot Q sr h f=>?_
 refine ⟨Hs,ρ,tot,_,sr,h,fun vs H1 Hs1 ps As g1 r1 f1 q1=>?_⟩
 obtain ⟨hz,q⟩:=q1
 have rl:=(r1.reps g1.wf)
 have hl:=rl.length
 rw [List.length_map] at hl
 refine ⟨by walk_at "l",fun p hp=>?_⟩
 have g2:=newT (vs:=vs) g1.wf hp
 have fin:=Fin.after f g1
 unfold qT at q
 cases h1:ps.all okSh with
 | true =>
  rw [h1] at q
  exact fin _ _ _ .sh _ [] g2 ⟨rfl,.tup (by walk_at "l") upd_same ((r1.sh g1.wf h1).same g2.sh)⟩ bZ.nil q
 | false =>
  rw [h1] at q
  cases h2:ps.all okOw with
  | false =>
   rw [h2] at q
   exact fin _ _ _ .bo _ [] g2 ⟨rfl,.tup (by walk_at "l") upd_same (rl.same g2.all)⟩ bZ.nil q
  | true =>
   rw [h2] at q
   obtain ⟨Bs,sb,nz,ro⟩:=r1.ow (fl:=ps.all okFl) g1.wf h2 fun z=>z
   have hne:flats (ps.map (·.2))=false:=by
    cases hf:flats (ps.map (·.2)) with
    | false=>rfl
    | true=>rw [jX hf] at h1; cases h1
   have own:=ro.own
   refine f _ _ _ (.ow _) _ Bs (g1.trans g2) ⟨.tup (by walk_at "l") upd_same hne (ro.grow g2.sh g2.all),nz h1⟩ ⟨sb.nodup f1.1,fun a ha=>⟨?_,(f1.2 a (sb.subset ha)).2⟩⟩ q
   exact g2.hsn (f1.2 a (sb.subset ha)).1 (own a ha).ne
theorem jg (h:QA X K es t):QE X K (.List es pos) (wLst t):=by
 refine PE.imp (pe_lst h) fun σ H Qv hx=>ex4 hx fun Hs ρ tot Q sr h f=>?_
 refine ⟨Hs,ρ,tot,_,sr,h,fun vs H1 Hs1 ps As g1 r1 f1 q1=>?_⟩
 obtain ⟨hz,q⟩:=q1
 have rl:=(r1.reps g1.wf)
 have hl:=rl.length
 rw [List.length_map] at hl
 refine ⟨by walk_at "l",fun p hp=>?_⟩
 have g2:=newL (o:=.lst vs) g1.wf hp fun _ z=>nomatch z
 have fin:=Fin.after f g1
 unfold yM at q
 cases h2:ps.all okOw with
 | false =>
  rw [h2] at q
  exact fin _ _ _ .bo _ [] g2 ⟨rfl,.list (by walk_at "l") (.inl (.inl upd_same)) (rl.same g2.all)⟩ bZ.nil q
 | true =>
  rw [h2] at q
  obtain ⟨Bs,sb,nz,ro⟩:=r1.ow (fl:=ps.all okFl) g1.wf h2 fun z=>z
  have own:=ro.own
  refine f _ _ _ (.ow _) _ (p :: Bs) (g1.trans g2) ⟨.list (by walk_at "l") upd_same (ro.grow g2.sh g2.all),by simp⟩ ⟨List.nodup_cons.mpr ⟨fun m=>(own p m).ne hp,sb.nodup f1.1⟩,fun a ha=>?_⟩ q
  rcases List.mem_cons.mp ha with rfl | ha
  ·exact ⟨g1.wf.sub.free hp,g1.all.free hp⟩
  ·exact ⟨g2.hsn (f1.2 a (sb.subset ha)).1 (own a ha).ne,(f1.2 a (sb.subset ha)).2⟩
end
theorem Reps.atI {K:PySem.W.Frag} {H:Hp} {ds:List D} {vs:List V} {i:Int} {d:D} (r:Reps K H ds vs) (h:atI ds i=some d):∃ v,L2.atI vs i=some v∧Rep K H d v:=by
 unfold L2.atI at *
 rw [← r.length]
 cases e:ixN ds.length i with
 | none=>rw [e] at h; cases h
 | some j =>
  rw [e] at h
  exact r.get h
noncomputable def fIx:W2:=fun m x _ y Q=>match x with
 | .list xs=>match y with
  | .int i=>∃ d,atI xs i=some d∧onK d (f:=fun d=>Q (itm m d) d) ⟨⟩
  | _=>False
 | .tup xs=>match y with
  | .int i=>∃ d,atI xs i=some d∧onK d (f:=fun d=>Q (itm m d) d) ⟨⟩
  | _=>False
 | .str z=>match y with
  | .int i=>∃ c,atI z.cps.toList i=some c∧Q .sh (.str ⟨#[c]⟩)
  | _=>False
 | .dK kvs=>∃ k d,y.key1=some k∧getG kvs k=some d∧onK d (f:=fun d=>Q (itm m d) d) ⟨⟩
 | .dT kvs=>match y with
  | .tup ys=>∃ ks d,gD ys=some ks∧getG kvs ks=some d∧onK d (f:=fun d=>Q (itm m d) d) ⟨⟩
  | _=>False
 | _=>False
noncomputable def rIxD (K:PySem.W.Frag):R2:=fun x y H Q=>rIxU K x y H Q∨∃ a v,x=.ref a∧DGet H a y (some v)∧Q v H
theorem sH (c:Nat):(⟨#[c]⟩:Str).length≤sizeLine:=by show 1≤sizeLine; decide
theorem RM.here {K:PySem.W.Frag} {Hs H:Hp} {m:Md} {d:D} {v:V} {As:List Addr} (w:Wf Hs H) (r:RM K Hs H m d v As):(m=.sh∧Rep K Hs d v)∨(m≠.sh∧Rep K H d v):=by
 cases m with
 | sh=>exact .inl ⟨rfl,r.2⟩
 | ow fl=>exact .inr ⟨(fun z=>nomatch z),r.rep w⟩
 | bo=>exact .inr ⟨(fun z=>nomatch z),r.2⟩
section
variable {X:Cx} {K:PySem.W.Frag}
theorem Cy:Br2 K (rIxD K) fIx:=by
 intro Hs H m x v As n y u Bs Qd Qv w rx ry h f
 have r2:=ry.rep w
 have core:∀ G:Hp,Same G H→(∀ d v,Rep K G d v→Rep K H d v∧(m=.sh→Rep K Hs d v))→Rep K G x v→rIxD K v u H Qv:=by
  intro G sg up r1
  cases r1 with
  | list z s q =>
   cases r2 with
   | int i =>
    obtain ⟨d,e,h⟩:=h
    obtain ⟨v',e',r'⟩:=q.atI e
    obtain ⟨u1,u2⟩:=up _ _ r'
    exact .inl (.inl ⟨_,v',Same.seq sg s,e',f.itm w u1 u2 h⟩)
   | _=>exact h.elim
  | tup _ s q =>
   cases r2 with
   | int i =>
    obtain ⟨d,e,h⟩:=h
    obtain ⟨v',e',r'⟩:=q.atI e
    obtain ⟨u1,u2⟩:=up _ _ r'
    exact .inl (.inr ⟨_,v',.inl (.inl (sg _ _ s)),e',f.itm w u1 u2 h⟩)
   | _=>exact h.elim
  | str hz =>
   cases r2 with
   | int i =>
    obtain ⟨c,e,h⟩:=h
    exact .inl ⟨hz,c,e,f.sh w (.str (sH c)) h⟩
   | _=>exact h.elim
  | dK kk s q =>
   obtain ⟨k,d,hk,hg,h⟩:=h
   have ev:=r2.key hk
   subst ev
   have z:=zip_get (k:=k) q
   rw [hg] at z
   obtain ⟨v',e',r'⟩:=z
   obtain ⟨u1,u2⟩:=up _ _ r'
   exact .inr ⟨_,v',rfl,by rw [← e']; exact DGet.k (sg _ _ s),f.itm w u1 u2 h⟩
  | dT kk s q =>
   cases r2 with
   | tup t2 e2 q2 =>
    obtain ⟨ks,d,hk,hg,h⟩:=h
    obtain ⟨b,eb,e3⟩:=Rep.keyT (.tup t2 e2 q2) hk
    cases eb
    have z:=zip_get (k:=ks) q
    rw [hg] at z
    obtain ⟨v',e',r'⟩:=z
    obtain ⟨u1,u2⟩:=up _ _ r'
    exact .inr ⟨_,v',rfl,by rw [← e']; exact DGet.t (sg _ _ s) e3,f.itm w u1 u2 h⟩
   | _=>exact h.elim
  | _=>exact h.elim
 rcases rx.here w with ⟨hm,r⟩ | ⟨hm,r⟩
 ·exact core Hs w.sub (fun d v q=>And.intro (q.same w.sub) fun _=>q) r
 ·exact core H (Same.refl H) (fun d v q=>And.intro q fun z=>absurd z hm) r
theorem kIxD (hu:X.A.units+64<cLine) (hK:X.K=K:=by rfl):IxR X (rIxD K):=by
 subst hK
 refine IxR.or zK ?_
 intro value slice pins s σ H x y v u Q I rx ry h hs
 obtain ⟨a,w,rfl,g,q⟩:=h
 cases rx
 exact tail_any (dict_typeIs I g) F.slot_dict_getitem.lookup (d_getItem (by walk_at "l") I g ry fun w' s3 I3 rw'=>⟨w,H,I3,rw',q⟩) hs
variable {a b:Expr} {ta tb:WE} {pos:Pos}
theorem q_ix (hu:X.A.units+64<cLine) (ha:QE X K a ta) (hb:QE X K b tb) (hs:PlainIx b:=by exact fun _ _=>rfl) (hK:X.K=K:=by rfl):QE X K (.Subscript a b pos) (wOp fIx ta tb):=PE.imp (pe_ix (kIxD hu hK) ha hb hs) (lg Cy)
end
noncomputable def cutG {α:Type} (xs:List α) (lo hi:Option Int):List α:=(xs.drop (HT.sIx xs.length 0 lo)).take (HT.sIx xs.length xs.length hi - HT.sIx xs.length 0 lo)
noncomputable abbrev WO:=Env→(Option Int→Prop)→Prop
noncomputable def fW:WO:=fun _ Q=>Q none
noncomputable def iI (t:WE):WO:=fun ρ Q=>t ρ fun _ x=>match x with
 | .int i=>Q (some i)
 | _=>False
noncomputable def fSl (m:Md) (x:D) (lo hi:Option Int) (Q:Md→D→Prop):Prop:=match x with
 | .str z=>Q .sh (.str (cutS z lo hi))
 | .list xs=>(flats xs=true∧Q (.ow true) (.list (cutG xs lo hi)))∨(m=.sh∧Q (.ow false) (.list (cutG xs lo hi)))
 | .tup xs=>flats xs=true∧¬ (HT.sIx xs.length 0 lo=0∧HT.sIx xs.length xs.length hi=xs.length)∧Q .sh (.tup (cutG xs lo hi))
 | _=>False
noncomputable def wSl (te:WE) (tl th:WO):WE:=fun ρ Q=>te ρ fun m x=>tl ρ fun lo=>th ρ fun hi=>fSl m x lo hi Q
noncomputable def tpO (K:PySem.W.Frag) (t:WO):TO:=fun σ H Qv=>∃ Hs ρ tot Q,SRel K Hs ρ σ H tot∧t ρ Q∧∀ o H' Hs',Grow Hs H Hs' H'→Q o→Qv o H'
noncomputable abbrev QO (X:Cx) (K:PySem.W.Frag) (e:Option Expr) (t:WO):Prop:=PO X e (tpO K t)
theorem vQ (z:Str) (lo hi:Option Int):(cutS z lo hi).length≤z.length:=by
 unfold cutS Str.length
 simp only [List.size_toArray,List.length_take,List.length_drop,Array.length_toList]
 walk_at "l"
theorem dU {α:Type} (xs:List α) (lo hi:Option Int):(cutG xs lo hi).length≤xs.length:=by
 unfold cutG
 rw [List.length_take,List.length_drop]
 walk_at "l"
theorem lN {xs:List D} {lo hi:Option Int} (h:flats xs=true):flats (cutG xs lo hi)=true:=by
 rw [gR] at *
 intro x hx
 exact h x (List.mem_of_mem_drop (List.mem_of_mem_take hx))
section
variable {X:Cx} {K:PySem.W.Frag} {e:Expr} {lo hi:Option Expr} {te:WE} {tl th:WO} {pos p2:Pos}
theorem jT:QO X K none fW:=fun pins s σ H Q I h=>po_none pins s σ H Q I (by
 obtain ⟨Hs,ρ,tot,Qd,sr,h,f⟩:=h
 exact f none H Hs (Grow.refl sr.wf) h)
theorem dR (h:QE X K e te):QO X K (some e) (iI te):=fun pins s σ H Q I hh=>po_some h pins s σ H Q I (by
 obtain ⟨Hs,ρ,tot,Qd,sr,h,f⟩:=hh
 refine ⟨Hs,ρ,tot,_,sr,h,fun v H1 Hs1 m x As g1 r1 f1 q1=>?_⟩
 have r:=r1.rep g1.wf
 cases r with
 | int i=>exact ⟨i,rfl,f _ H1 Hs1 g1 q1⟩
 | _=>exact q1.elim)
theorem gW {H:Hp} {ds:List D} {vs:List V} {lo hi:Option Int} (r:Reps K H ds vs):Reps K H (cutG ds lo hi) (cutV vs lo hi):=by
 unfold cutG cutV
 rw [r.length]
 exact (r.drop _).take _
theorem kSl2 (hK:X.K=K:=by rfl):SlR X (fun x lo hi H Q=>rSlS K x lo hi H Q∨rSlT K x lo hi H Q):=by
 subst hK
 intro pins s σ H x v vl vu lo hi sl Q I rx hs pl pu h
 rcases h with h | h
 ·exact zH pins s σ H x v vl vu lo hi sl Q I rx hs pl pu h
 ·exact sl_tup pins s σ H x v vl vu lo hi sl Q I rx hs pl pu h
theorem gj (he:QE X K e te) (hl:QO X K lo tl) (hh:QO X K hi th) (hK:X.K=K:=by rfl):QE X K (.Subscript e (.Slice lo hi none p2) pos) (wSl te tl th):=by
 refine PE.imp (pe_slice (kSl2 hK) he hl hh) fun σ H Qv hx=>ex4 hx fun Hs ρ tot Q sr h f=>?_
 refine ⟨Hs,ρ,tot,_,sr,h,fun v H1 Hs1 m x As g1 r1 f1 q1=>⟨Hs1,ρ,tot,_,sr.grow g1,q1,fun l H2 Hs2 g2 q2=>⟨Hs2,ρ,tot,_,(sr.grow g1).grow g2,q2,fun u H3 Hs3 g3 q3=>?_⟩⟩⟩
 have r3:=(r1.grow g2).grow g3
 have fin:Fin K Hs3 H3 Q Qv:=Fin.after f ((g1.trans g2).trans g3)
 have rr:=r3.rep g3.wf
 cases rr with
 | str hz=>exact .inl ⟨hz,fin.sh g3.wf (.str (Nat.le_trans (vQ _ _ _) hz)) q3⟩
 | list z s q =>
  have hz:=q.length
  rcases q3 with ⟨hf,q3⟩ | ⟨rfl,q3⟩
  ·exact .inl ⟨_,s,fin.lst g3.wf (Nat.le_trans (dU _ _ _) (by walk_at "l")) (gW q) (lN hf) q3⟩
  ·obtain ⟨_,r3⟩:=r3
   cases r3 with
   | list z' s' q' =>
    have hz:=q'.length
    exact .inl ⟨_,Same.seq g3.wf.sub s',fin.lstS g3.wf (Nat.le_trans (dU _ _ _) (by walk_at "l")) (gW q') q3⟩
 | tup z s q =>
  have hz:=q.length
  obtain ⟨hf,hn,q3⟩:=q3
  exact .inr ⟨_,_,rfl,.inl (.inl s),by rw [← hz]; exact hn,fin.tup g3.wf (Nat.le_trans (dU _ _ _) (by walk_at "l")) (gW q) (lN hf) q3⟩
 | _=>exact q3.elim
end
noncomputable def fLen:W1:=fun _ x Q=>match x with
 | .str z=>Q .sh (.int z.length)
 | .list xs=>Q .sh (.int xs.length)
 | .tup xs=>Q .sh (.int xs.length)
 | .dK kvs=>Q .sh (.int kvs.length)
 | .dT kvs=>Q .sh (.int kvs.length)
 | _=>False
noncomputable def fIsi (T:String):W1:=fun _ x Q=>Q .sh (.bl (isiT x.ty T))
noncomputable def BrC (K:PySem.W.Frag) (r:List V→Hp→VK→Prop) (f:W1):Prop:=∀ Hs H m x v As Qd Qv,Wf Hs H→RM K Hs H m x v As→f m x Qd→Fin K Hs H Qd Qv→r [v] H Qv
section
variable {X:Cx} {K:PySem.W.Frag} {e e2:Expr} {te:WE} {pos p:Pos} {x:Str} {id T:String}
theorem jt {r:List V→Hp→VK→Prop} {f:W1} (br:BrC K r f) (σ:St) (H:Hp) (Qv:VK) (h:tpE K (wUn f te) σ H Qv):tCB r (tCons (tpE K te) tNil) σ H Qv:=by
 obtain ⟨Hs,ρ,tot,Q,sr,h,fin⟩:=h
 exact ⟨Hs,ρ,tot,_,sr,h,fun v H1 Hs1 m x As g1 r1 f1 q1=>br Hs1 H1 m x v As Q Qv g1.wf r1 q1 (Fin.after fin g1)⟩
theorem cG {r:List V→Hp→VK→Prop} {f:W1} (hc:CallR X (.builtin id) r) (br:BrC K r f) (hg:Gl X x) (hm:X.mg x=none) (hv:bootBuiltins x=some (.builtin id)) (he:QE X K e te)
  (hs:starEach [e] X.env=(false,eval e X.env) :: starEach [] X.env:=by rfl) (hn:x ≠ "__name__" := by decide) (hdb:(x == ("__debug__" : Str))=false:=by decide):QE X K (.Call (.Name x p) [e] [] pos) (wUn f te) :=
 PE.imp (pe_callB hc hg hm hv (pa_cons he pa_nil hs) hn hdb hs) (jt br)
theorem j7 {r:List V→Hp→VK→Prop} {f:W1} (hc:CallR X (.type T) r) (br:BrC K r f) (hg:Gl X x) (hm:X.mg x=none) (hv:bootBuiltins x=some (.type T)) (he:QE X K e te)
  (hs:starEach [e] X.env=(false,eval e X.env) :: starEach [] X.env:=by rfl) (hn:x ≠ "__name__" := by decide) (hdb:(x == ("__debug__" : Str))=false:=by decide):QE X K (.Call (.Name x p) [e] [] pos) (wUn f te) :=
 PE.imp (pe_callTy hc hg hm hv (pa_cons he pa_nil hs) hn hdb hs) (jt br)
theorem yZ {prog:Program} {w:World} {A:Around} {E:Value→Shared→Prop} {s:Shared} {d:Addr} {es:Ents} {ep:Nat} {Q:Value→Shared→Prop} (hd:(d == sysModules)=false) (x:RawD s.heap d es ep) (hfit:(es.size:Int)<2 ^ 63)
  (h:∀ t t',Q (.int es.size t) { s with toks:=t' }):wpAny (model prog w) A (call (.builtin "len") [.ref d]) Q E s:=by
 refine Calls.call_function_entry kind_len plain_len entry_len (args_len1 _) ?_
 have mt:MeetsIn prog w (Builtin.«dict.__len__» ⟨[.ref d],[]⟩) (fun _ R s=>RawD s.heap d es ep∧R (.ok (.ret (.int es.size s.toks))) { s with toks:=s.toks+1 }):=.of_wp fun A R s hx9=>by
  obtain ⟨hm,h⟩:=hx9
  obtain ⟨o,ho,hc,hdat⟩:=hm
  show wpAny _ _ (dictSize d >>= _) _ _ s
  unfold dictSize
  refine wpAny_bind (wpAny_bind (wpAny_dictEntries ho hdat (wpAny_pure ?_)))
  show wpAny _ _ (Builtin.Dict.pendingCount d >>= _) _ _ s
  refine wpAny_bind (wpAny_pendingCount_other hd ?_)
  refine wpAny_ret_mkInt ?_
  rw [Nat.add_zero]; exact h
 unfold Builtin.«len»
 refine wpAny_bind (m:=oneArg "len" _) (wpAny_pure ?_)
 refine wpAny_bind (m:=callSpecial? (.ref d) (Str.ofString "__len__")) (wpAny_callSpecial?_slot (name:=Str.ofString "__len__") x.typ F.slot_dict_len
  (call_meetsIn F.slot_dict_len x.typ F.entry_dict_len (F.args_dict_len_1 _) mt ⟨x,?_⟩))
 show wpAny _ _ _ _ _ { s with toks:=s.toks+1 }
 refine wpAny_bind (wpAny_holding (wpAny_pure ?_))
 refine wpAny_bind (wpAny_letGo ?_)
 show wpAny _ _ (if ((es.size:Nat):Int)<0 then _ else _) _ _ _
 rw [if_neg (by walk_at "l")]
 show wpAny _ _ (if ((es.size:Nat):Int) ≥ 2 ^ 63 then _ else _) _ _ _
 rw [if_neg (by walk_at "l")]
 exact wpAny_bind (wpAny_mkInt (wpAny_pure ⟨_,rfl,h _ _⟩))
theorem bH (hK:X.K=K:=by rfl):CallR X (.builtin "len") (fun xs H Q=>rLen K xs H Q∨∃ a kvs,xs=[.ref a]∧H a=some (.dT kvs)∧Q (.int kvs.length) H):=by
 subst hK
 intro pins s σ H xs us Q I r h
 rcases h with h | ⟨a,kvs,rfl,ha,q⟩
 ·exact tZ pins s σ H xs us Q I r h
 ·obtain ⟨u,rfl,ru⟩:=Vals.one r
  cases ru
  obtain ⟨z,hd,ys,rel,o,es,ep,h1,h2,h3,h4,h5⟩:=(show ObjOk X.prog X.w H s.heap a (.dT kvs) from I.hok a _ ha)
  have hl:es.size=kvs.length:=by
   have:=congrArg List.length h4
   rw [Array.length_toList,List.length_map] at this
   rw [this]; exact rel.length.symm
  exact yZ hd ⟨o,h1,h2,h3⟩ (by rw [sizeLine_eq] at z; walk_at "l") fun t t'=>⟨.int kvs.length,H,I.tok _,⟨t,by rw [hl]⟩,q⟩
theorem fj:BrC K (fun xs H Q=>rLen K xs H Q∨∃ a kvs,xs=[.ref a]∧H a=some (.dT kvs)∧Q (.int kvs.length) H) fLen:=by
 intro Hs H m x v As Qd Qv w rx h f
 have r1:=rx.rep w
 cases r1 with
 | str hz=>exact .inl ⟨hz,f.sh w (.int _) h⟩
 | list z s q=>exact .inl (.inl ⟨_,s,by rw [← q.length]; exact f.sh w (.int _) h⟩)
 | tup _ s q=>exact .inl (.inr (.inl ⟨_,.inl (.inl s),by rw [← q.length]; exact f.sh w (.int _) h⟩))
 | dK kk s q=>exact .inl (.inr (.inr ⟨_,s,by
   have:=q.length
   rw [List.length_map] at this
   rw [List.length_zip,List.length_map,← this,Nat.min_self]
   exact f.sh w (.int _) h⟩))
 | dT kk s q=>exact .inr ⟨_,_,rfl,s,by
   have:=q.length
   rw [List.length_map] at this
   rw [List.length_zip,List.length_map,← this,Nat.min_self]
   exact f.sh w (.int _) h⟩
 | _=>exact h.elim
end
end L2.Q
set_option Elab.async false
set_option linter.all false
set_option maxRecDepth 100000
set_option maxHeartbeats 4000000
namespace L2.Q
open PySem PySem.Spec PyProof.Rows
section
variable {X:Cx} {K:PySem.W.Frag} {e e2:Expr} {te:WE} {pos p:Pos} {T:String}
theorem rH (hK:X.K=K:=by rfl):CallR X (.builtin "isinstance") (fun xs H Q=>∃ x d T,xs=[x,.ty T]∧Rep K H d x∧okTy T=true∧Q (.bl (isiT d.ty T)) H):=by
 subst hK
 intro pins s σ H xs us Q I r h
 obtain ⟨x,d,T,rfl,rd,hT,q⟩:=h
 obtain ⟨u,v,rfl,ru,rv⟩:=Vals.two r
 obtain rfl:v=Value.type T:=rv
 have hb:T∈["str", "int", "bool", "list", "tuple", "dict"]:=by simpa [okTy] using hT
 have fin:∀ tk,EP X pins σ Q (.bool (isiT d.ty T)) { s with toks:=tk }:=fun tk=>⟨.bl (isiT d.ty T),H,I.tok tk,rfl,q⟩
 cases rd with
 | non=>exact isinst_ok I ru .non (gB X.K _ T (by simp) hb) fin
 | bl b=>exact isinst_ok I ru (.bl b) (gB X.K _ T (by simp) hb) fin
 | int i=>exact isinst_ok I ru (.int i) (gB X.K _ T (by simp) hb) fin
 | str y=>exact isinst_ok I ru (.str _) (gB X.K _ T (by simp) hb) fin
 | list z s' q' =>
  cases ru
  obtain ⟨its,_,pl,_⟩:=I.list s'
  obtain ⟨o,h1,h2,_⟩:=pl.isList
  exact PySem.W.kia_one PySem.W.kitx_list I.kIn ⟨o,h1,h2⟩ (gB X.K "list" T (by simp) hb) (fun z=>nomatch z) fin
 | tup _ s' q'=>exact isinst_ok I ru (.tup s') (gB X.K _ T (by simp) hb) fin
 | dK _ s' q'=>exact isinst_ok I ru (.dK s') (gB X.K _ T (by simp) hb) fin
 | dT _ s' q'=>exact isinst_ok I ru (.dT s') (gB X.K _ T (by simp) hb) fin
theorem ou (hm:X.mg "isinstance" = none) (he:QE X K e te) (ht:PE X e2 (tC (.ty T))) (hT:okTy T=true:=by rfl) (hg:Gl X "isinstance" := by rfl) (hK:X.K=K:=by rfl)
  (hs:starEach (e :: [e2]) X.env=(false,eval e X.env) :: starEach [e2] X.env:=by rfl) (hs2:starEach (e2 :: []) X.env=(false,eval e2 X.env) :: starEach [] X.env:=by rfl) (hpl:(backTo pos (starEach [e2] X.env)).any (·.1)=false:=by rfl) :
  QE X K (.Call (.Name "isinstance" p) [e,e2] [] pos) (wUn (fIsi T) te):=by
 refine PE.imp (pe_callB (rH hK) hg hm cY (pa_cons he (pa_cons ht pa_nil hs2) hs) (by decide) (by decide) hs hpl) fun σ H Qv hx=>ex4 hx fun Hs ρ tot Q sr h f=>?_
 refine ⟨Hs,ρ,tot,_,sr,h,fun v H1 Hs1 m x As g1 r1 f1 q1=>⟨v,x,T,rfl,r1.rep g1.wf,hT,Fin.sh (Fin.after f g1) g1.wf (.bl _) q1⟩⟩
end
noncomputable def keyD:Key→D
 | .inl i=>.int i
 | .inr x=>.str x
noncomputable def oG:W1:=fun m x Q=>match x with
 | .list xs=>(flats xs=true∧Q (.ow true) (.list xs))∨(m=.sh∧Q (.ow false) (.list xs))
 | .tup xs=>(flats xs=true∧Q (.ow true) (.list xs))∨(m=.sh∧Q (.ow false) (.list xs))
 | .dT kvs=>Q (.ow true) (.list (kvs.map fun kv=>.tup (kv.1.map keyD)))
 | _=>False
section
variable {X:Cx} {K:PySem.W.Frag}
theorem pA {H:Hp}:∀ {ks:List Key},(∀ k∈ks,kOk k=true)→Reps K H (ks.map keyD) (ks.map kV)
 | [],_=>.nil
 | k :: ks,h=>by
  refine .cons ?_ (pA fun j m=>h j (List.mem_cons_of_mem _ m))
  have:=h k List.mem_cons_self
  cases k with
  | inl i=>exact .int i
  | inr x=>exact .str (by simpa [kOk] using this)
theorem mQ:∀ (ks:List Key),flats (ks.map keyD)=true
 | []=>rfl
 | k :: ks=>by simp only [List.map_cons,flats,mQ ks,Bool.and_true]; cases k <;> rfl
theorem oO {H:Hp} {ks:List (List Key)} {ys:List V} (t:cN H ys ks) (h:∀ l∈ks,l.length≤sizeLine∧∀ k∈l,kOk k=true):Reps K H (ks.map fun l=>.tup (l.map keyD)) ys:=by
 induction ys generalizing ks with
 | nil=>rw [show ks=[] from Paired.n0 t]; exact .nil
 | cons y ys ih =>
  obtain ⟨k,ks,rfl,⟨b,rfl,e⟩,t2⟩:=Paired.c t
  exact .cons (.tup (by rw [List.length_map]; exact (h _ List.mem_cons_self).1) e (pA (h _ List.mem_cons_self).2)) (ih t2 fun l m=>h l (List.mem_cons_of_mem _ m))
theorem iC:∀ (ks:List (List Key)),flats (ks.map fun l=>.tup (l.map keyD))=true
 | []=>rfl
 | l :: ks=>by simp only [List.map_cons,flats,iC ks,Bool.and_true,D.flat,mQ]
theorem fQ (hc:X.calm=true:=by rfl) (hK:X.K=K:=by rfl):CallR X (.type "list") (fun xs H Q=>(∃ p ys,xs=[.ref p]∧(SqL K H p ys∨SqT K H p ys)∧∀ l,H l=none→Q (.ref l) (upd H l (.lst ys)))∨p6 xs H Q):=by
 subst hK; exact call_list_of.or (qG hc)
theorem nU:BrC K (fun xs H Q=>(∃ p ys,xs=[.ref p]∧(SqL K H p ys∨SqT K H p ys)∧∀ l,H l=none→Q (.ref l) (upd H l (.lst ys)))∨p6 xs H Q) oG:=by
 intro Hs H m x v As Qd Qv w rx h f
 have r1:=rx.rep w
 cases r1 with
 | list z s q =>
  have hl:=q.length
  rcases h with ⟨hf,h⟩ | ⟨rfl,h⟩
  ·exact .inl ⟨_,_,rfl,.inl s,f.lst w (by walk_at "l") q hf h⟩
  ·obtain ⟨_,rx⟩:=rx
   cases rx with
   | list z' s' q' =>
    have hl:=q'.length
    exact .inl ⟨_,_,rfl,.inl (Same.seq w.sub s'),f.lstS w (by walk_at "l") q' h⟩
 | tup z s q =>
  have hl:=q.length
  rcases h with ⟨hf,h⟩ | ⟨rfl,h⟩
  ·exact .inl ⟨_,_,rfl,.inr (.inl (.inl s)),f.lst w (by walk_at "l") q hf h⟩
  ·obtain ⟨_,rx⟩:=rx
   cases rx with
   | tup z' s' q' =>
    have hl:=q'.length
    exact .inl ⟨_,_,rfl,.inr (.inl (.inl (w.sub _ _ s'))),f.lstS w (by walk_at "l") q' h⟩
 | @dT _ vs kvs kk s q =>
  refine .inr ⟨_,s,fun ys l ht hl=>?_⟩
  have hlen:=q.length
  rw [List.length_map] at hlen
  have e:((kvs.map (·.1)).zip vs).map (·.1)=kvs.map (·.1):=List.map_fst_zip (by rw [List.length_map]; exact Nat.le_of_eq hlen)
  rw [e] at ht
  have rr:=oO (K:=K) ht (fun l m=>by
   obtain ⟨p,hp,rfl⟩:=List.mem_map.mp m
   exact kk.2 p hp)
  have ff:=iC (kvs.map (·.1))
  rw [List.map_map] at rr ff
  exact f.lst w (by rw [List.length_map]; exact kk.1) rr ff h l hl
 | _=>exact h.elim
end
end L2.Q
set_option Elab.async false
set_option linter.all false
set_option maxRecDepth 100000
set_option maxHeartbeats 4000000
namespace L2.Q
open PySem PySem.Spec PyProof.Rows
section
variable {K:PySem.W.Frag} {Hs H:Hp}
theorem SR.v_ {d:D} {v:V} (r:Rep K Hs d v) {ρ:Env} {σ:St} {tot:List Addr} (i:Nat) (s:SR K Hs H ρ σ tot):∃ tot',tot'.Sublist tot∧SR K Hs H (ρ.set i (some (.sh d))) (σ.set i (some v)) tot':=by
 induction s generalizing i with
 | nil=>exact ⟨[],List.nil_sublist _,.nil⟩
 | non s ih =>
  cases i with
  | zero=>exact ⟨_,List.Sublist.refl _,.sh r s⟩
  | succ i=>obtain ⟨t,a,b⟩:=ih i; exact ⟨t,a,.non b⟩
 | sh q s ih =>
  cases i with
  | zero=>exact ⟨_,List.Sublist.refl _,.sh r s⟩
  | succ i=>obtain ⟨t,a,b⟩:=ih i; exact ⟨t,a,.sh q b⟩
 | xc s ih =>
  cases i with
  | zero=>exact ⟨_,List.Sublist.refl _,.sh r s⟩
  | succ i=>obtain ⟨t,a,b⟩:=ih i; exact ⟨t,a,.xc b⟩
 | ow ne q s ih =>
  cases i with
  | zero=>exact ⟨_,List.sublist_append_right _ _,.sh r s⟩
  | succ i=>obtain ⟨t,a,b⟩:=ih i; exact ⟨_,a.append_left _,.ow ne q b⟩
 | lk ne q s ih =>
  cases i with
  | zero=>exact ⟨_,List.sublist_append_right _ _,.sh r s⟩
  | succ i=>obtain ⟨t,a,b⟩:=ih i; exact ⟨_,a.append_left _,.lk ne q b⟩
theorem lQ {As tot:List Addr} (nd:As.Nodup) (n:tot.Nodup) (dj:∀ a∈As,a∉tot):(As++tot).Nodup:=List.nodup_append.mpr ⟨nd,n,fun a ha b hb e=>dj a ha (e ▸ hb)⟩
theorem dY {As tot B t:List Addr} (n:(B++tot).Nodup) (dj:∀ a∈As,a∉B++tot) (a:t.Nodup) (b:∀ x∈t,x∈tot∨x∈As):(B++t).Nodup∧∀ x∈B++t,x∈B++tot∨x∈As:=by
 obtain ⟨n1,n2,n3⟩:=List.nodup_append.mp n
 refine ⟨List.nodup_append.mpr ⟨n1,a,fun x hx y hy e=>?_⟩,fun x hx=>?_⟩
 ·subst e
  rcases b x hy with z | z
  ·exact n3 x hx x z rfl
  ·exact dj x z (List.mem_append_left _ hx)
 ·rcases List.mem_append.mp hx with z | z
  ·exact .inl (List.mem_append_left _ z)
  ·exact (b x z).imp (fun z=>List.mem_append_right _ z) fun z=>z
theorem SR.zA {d:D} {v:V} {fl:Bool} {As:List Addr} (ne:As≠[]) (r:RepO K Hs H fl d v As) (nd:As.Nodup) {ρ:Env} {σ:St} {tot:List Addr} (i:Nat) (s:SR K Hs H ρ σ tot):tot.Nodup→(∀ a∈As,a∉tot) →
  ∃ tot',tot'.Nodup∧(∀ a∈tot',a∈tot∨a∈As)∧SR K Hs H (ρ.set i (some (.ow fl d))) (σ.set i (some v)) tot':=by
 induction s generalizing i with
 | nil=>exact fun n _=>⟨[],List.nodup_nil,(fun a h=>mem0 h),.nil⟩
 | non s ih =>
  intro n dj
  cases i with
  | zero=>exact ⟨_,lQ nd n dj,fun a h=>(List.mem_append.mp h).symm,.ow ne r s⟩
  | succ i=>obtain ⟨t,a,b,c⟩:=ih i n dj; exact ⟨t,a,b,.non c⟩
 | sh q s ih =>
  intro n dj
  cases i with
  | zero=>exact ⟨_,lQ nd n dj,fun a h=>(List.mem_append.mp h).symm,.ow ne r s⟩
  | succ i=>obtain ⟨t,a,b,c⟩:=ih i n dj; exact ⟨t,a,b,.sh q c⟩
 | xc s ih =>
  intro n dj
  cases i with
  | zero=>exact ⟨_,lQ nd n dj,fun a h=>(List.mem_append.mp h).symm,.ow ne r s⟩
  | succ i=>obtain ⟨t,a,b,c⟩:=ih i n dj; exact ⟨t,a,b,.xc c⟩
 | ow ne' q s ih =>
  intro n dj
  obtain ⟨n1,n2,n3⟩:=List.nodup_append.mp n
  have dj':=fun a ha m=>dj a ha (List.mem_append_right _ m)
  cases i with
  | zero=>exact ⟨_,lQ nd n2 dj',fun a h=>(List.mem_append.mp h).symm.imp (fun z=>List.mem_append_right _ z) fun z=>z,.ow ne r s⟩
  | succ i=>obtain ⟨t,a,b,c⟩:=ih i n2 dj'; exact ⟨_,(dY n dj a b).1,(dY n dj a b).2,.ow ne' q c⟩
 | lk ne' q s ih =>
  intro n dj
  obtain ⟨n1,n2,n3⟩:=List.nodup_append.mp n
  have dj':=fun a ha m=>dj a ha (List.mem_append_right _ m)
  cases i with
  | zero=>exact ⟨_,lQ nd n2 dj',fun a h=>(List.mem_append.mp h).symm.imp (fun z=>List.mem_append_right _ z) fun z=>z,.ow ne r s⟩
  | succ i=>obtain ⟨t,a,b,c⟩:=ih i n2 dj'; exact ⟨_,(dY n dj a b).1,(dY n dj a b).2,.lk ne' q c⟩
theorem SR.wY {ρ:Env} {σ:St} {tot:List Addr}:∀ (i:Nat),SR K Hs H ρ σ tot→∃ tot',tot'.Sublist tot∧SR K Hs H (ρ.set i none) σ tot':=by
 intro i s
 induction s generalizing i with
 | nil=>exact ⟨[],List.nil_sublist _,.nil⟩
 | non s ih =>
  cases i with
  | zero=>exact ⟨_,List.Sublist.refl _,.non s⟩
  | succ i=>obtain ⟨t,a,b⟩:=ih i; exact ⟨t,a,.non b⟩
 | sh q s ih =>
  cases i with
  | zero=>exact ⟨_,List.Sublist.refl _,.non s⟩
  | succ i=>obtain ⟨t,a,b⟩:=ih i; exact ⟨t,a,.sh q b⟩
 | xc s ih =>
  cases i with
  | zero=>exact ⟨_,List.Sublist.refl _,.non s⟩
  | succ i=>obtain ⟨t,a,b⟩:=ih i; exact ⟨t,a,.xc b⟩
 | ow ne q s ih =>
  cases i with
  | zero=>exact ⟨_,List.sublist_append_right _ _,.non s⟩
  | succ i=>obtain ⟨t,a,b⟩:=ih i; exact ⟨_,a.append_left _,.ow ne q b⟩
 | lk ne q s ih =>
  cases i with
  | zero=>exact ⟨_,List.sublist_append_right _ _,.non s⟩
  | succ i=>obtain ⟨t,a,b⟩:=ih i; exact ⟨_,a.append_left _,.lk ne q b⟩
noncomputable def asg:Md→D→Option Sl
 | .sh,d=>some (.sh d)
 | .ow fl,d=>some (.ow fl d)
 | .bo,d=>bif d.flat then some (.sh d) else none
theorem SRel.set {ρ:Env} {σ:St} {tot As:List Addr} {m:Md} {d:D} {v:V} {sl:Sl} (i:Nat) (s:SRel K Hs ρ σ H tot) (r:RM K Hs H m d v As) (nd:As.Nodup) (dj:∀ a∈As,Hs a=none∧a∉tot) (e:asg m d=some sl) :
  ∃ tot',SRel K Hs (ρ.set i (some sl)) (σ.set i (some v)) H tot':=by
 have shc:Rep K Hs d v→∃ tot',SRel K Hs (ρ.set i (some (.sh d))) (σ.set i (some v)) H tot':=fun r=>by
  obtain ⟨t,a,b⟩:=s.sr.v_ r i
  exact ⟨t,b,s.wf,a.nodup s.nod,fun x hx=>s.own x (a.subset hx)⟩
 cases m with
 | sh=>cases e; exact shc r.2
 | ow fl =>
  cases e
  obtain ⟨t,a,b,c⟩:=SR.zA r.2 r.1 nd i s.sr s.nod fun a ha=>(dj a ha).2
  exact ⟨t,c,s.wf,a,fun x hx=>(b x hx).elim (s.own x) fun z=>(dj x z).1⟩
 | bo =>
  cases hf:d.flat with
  | true =>
   simp only [asg,hf,cond_true,Option.some.injEq] at e
   subst e
   exact shc (r.flat s.wf hf)
  | false=>simp [asg,hf] at e
end
section
variable {X:Cx} {K:PySem.W.Frag} {e c:Expr} {te:WE} {tc:WT} {pos:Pos} {st:Stmt} {a b rest:List Stmt} {t u:WS}
theorem PS.imp {te te':TS} (h:PS X st te) (i:∀ D σ H,te' D σ H→te D σ H):PS X st te':=fun pins s σ H D I q=>h pins s σ H D I (i D σ H q)
theorem PSs.imp {te te':TS} (h:PSs X a te) (i:∀ D σ H,te' D σ H→te D σ H):PSs X a te':=fun pins s σ H D I q=>h pins s σ H D I (i D σ H q)
noncomputable def du:WS:=fun E ρ=>E.nx ρ
noncomputable def wSeq (t u:WS):WS:=fun E ρ=>t { E with nx:=u E } ρ
noncomputable def wRet (te:WE):WS:=fun E ρ=>te ρ E.rt
noncomputable def wSet (i:Nat) (te:WE):WS:=fun E ρ=>te ρ fun m d=>match asg m d with
 | some sl=>E.nx (ρ.set i (some sl))
 | none=>False
noncomputable def wIfS (c:WT) (t u:WS):WS:=fun E ρ=>c ρ fun b=>if b=true then t E ρ else u E ρ
theorem bM:QSs X K L [] du:=PSs.imp pss_nil fun D σ H hx=>dH hx fun Hs ρ tot E sr h k1 _ _ _=>k1 σ H Hs ρ tot (Same.refl _) sr h
theorem vV {D:Ends} {σ:St} {H:Hp} (h:tpS K L (wSeq t u) D σ H):tSeq (tpS K L t) (tpS K L u) D σ H:=by
 obtain ⟨Hs,ρ,tot,E,sr,h,k1,k2,k3,k4,kx⟩:=h
 refine ⟨Hs,ρ,tot,{ E with nx:=u E },sr,h,fun σ' H' Hs' ρ' tot' s sr' q=>?_,k2,k3,k4,kx⟩
 exact ⟨Hs',ρ',tot',E,sr',q,fun σ2 H2 Hs2 ρ2 tot2 s2=>k1 σ2 H2 Hs2 ρ2 tot2 (s.trans s2),fun σ2 H2 Hs2 ρ2 tot2 s2=>k2 σ2 H2 Hs2 ρ2 tot2 (s.trans s2),fun σ2 H2 Hs2 ρ2 tot2 s2=>k3 σ2 H2 Hs2 ρ2 tot2 (s.trans s2),
  fun v H2 Hs2 m d As s2=>k4 v H2 Hs2 m d As (s.trans s2),fun n H2 s2=>kx n H2 (s.trans s2)⟩
theorem aj (h1:QS X K L st t) (h2:QSs X K L rest u):QSs X K L (st :: rest) (wSeq t u):=PSs.imp (pss_cons h1 h2) fun D σ H h=>vV h
theorem au (h1:QS X K L st t):QSs X K L [st] t:=pss_one h1
theorem bN (he:QE X K e te):QS X K L (.Return (some e) pos) (wRet te):=PS.imp (ps_ret he) fun D σ H hx=>dH hx fun Hs ρ tot E sr h k1 k2 k3 k4 =>
 ⟨Hs,ρ,tot,_,sr,h,fun v H1 Hs1 m d As g1 r1 f1 q1=>k4 v H1 Hs1 m d As g1.sh g1.wf r1 f1.1 (fun a ha=>(f1.2 a ha).1) q1⟩
noncomputable def t6 (i:Nat):WS:=fun E ρ=>match ρ[i]? with
 | some (some (.sh d))=>E.rt .sh d
 | some (some (.ow fl d))=>E.rt (.ow fl) d
 | _=>False
theorem SR.at {ρ:Env} {σ:St} {tot:List Addr} {i:Nat} {fl:Bool} {d:D} {Hs H:Hp} (s:SR K Hs H ρ σ tot) (e:ρ[i]? = some (some (.ow fl d))):∃ v As,σ[i]? = some (some v)∧As≠[]∧RepO K Hs H fl d v As∧As.Sublist tot:=by
 induction s generalizing i with
 | nil=>simp at e
 | non s ih =>
  cases i with
  | zero=>simp at e
  | succ i=>exact ih e
 | sh r s ih =>
  cases i with
  | zero=>simp at e
  | succ i=>exact ih e
 | xc s ih =>
  cases i with
  | zero=>simp at e
  | succ i=>exact ih e
 | ow ne r s ih =>
  cases i with
  | zero=>simp at e; obtain ⟨rfl,rfl⟩:=e; exact ⟨_,_,rfl,ne,r,List.sublist_append_left _ _⟩
  | succ i =>
   obtain ⟨v,As,a,b,c,d⟩:=ih e
   exact ⟨v,As,a,b,c,d.trans (List.sublist_append_right _ _)⟩
 | lk ne r s ih =>
  cases i with
  | zero=>simp at e
  | succ i =>
   obtain ⟨v,As,a,b,c,d⟩:=ih e
   exact ⟨v,As,a,b,c,d.trans (List.sublist_append_right _ _)⟩
theorem rA {i:Nat} (he:PE X e (tVar i)):QS X K L (.Return (some e) pos) (t6 i):=PS.imp (ps_ret he) fun D σ H hx=>dH hx fun Hs ρ tot E sr h k1 k2 k3 k4=>by
 unfold t6 at h
 split at h
 ·rename_i d e1
  obtain ⟨v,e2,r⟩:=sr.sr.get e1
  exact ⟨v,e2,k4 v H Hs .sh d [] (Same.refl _) sr.wf ⟨rfl,r⟩ List.nodup_nil (fun a ha=>nomatch ha) h⟩
 ·rename_i fl d e1
  obtain ⟨v,As,e2,ne,r,sb⟩:=sr.sr.at e1
  exact ⟨v,e2,k4 v H Hs (.ow fl) d As (Same.refl _) sr.wf ⟨r,ne⟩ (sb.nodup sr.nod) (fun a ha=>sr.own a (sb.subset ha)) h⟩
 ·exact h.elim
theorem aP {i:Nat} {x:Str} {pos':Pos} (hN:X.N.Nodup) (hi:X.N[i]? = some x) (hx:Loc X.env.scope x) (he:QE X K e te) (hs:swapsWith e (some (.Name x pos')) pos.line X.env=pure false:=by rfl)
  (hf:X.fn x=true∨X.env.scope.names.lookup x=some .local:=by first | exact .inl rfl | exact .inr rfl | assumption):QS X K L (.Assign [.Name x pos'] e pos) (wSet i te):=PS.imp (ps_set hN hi hx he hs hf) fun D σ H hx=>dH hx fun Hs ρ tot E sr h k1 k2 k3 k4=>by
 refine ⟨Hs,ρ,tot,_,sr,h,fun v H1 Hs1 m d As g1 r1 f1 q1=>?_⟩
 have q1:match asg m d with
  | some sl=>E.nx (ρ.set i (some sl))
  | none=>False:=q1
 cases e:asg m d with
 | none=>rw [e] at q1; exact q1.elim
 | some sl =>
  rw [e] at q1
  obtain ⟨tot',s'⟩:=(sr.grow g1).set i r1 f1.1 (fun a ha=>⟨(f1.2 a ha).1,fun m=>(sr.sr.own a m).ne (f1.2 a ha).2⟩) e
  exact k1 _ H1 Hs1 _ tot' g1.sh s' q1
theorem eG (hc:QT X K c tc) (ha:QSs X K L a t) (hb:QSs X K L b u):QS X K L (.If c a b pos) (wIfS tc t u):=PS.imp (ps_if hc ha hb) fun D σ H hx=>iR hx fun Hs ρ tot E sr h k1 k2 k3 k4 kx=>by
 refine ⟨Hs,ρ,tot,_,sr,h,fun k H1 Hs1 g1 q1=>?_⟩
 have k1':∀ σ' H' Hs' ρ' tot',Same Hs1 Hs'→SRel K Hs' ρ' σ' H' tot'→E.nx ρ'→D.nx σ' H':=fun σ2 H2 Hs2 ρ2 tot2 s2=>k1 σ2 H2 Hs2 ρ2 tot2 (g1.sh.trans s2)
 have k2':∀ σ' H' Hs' ρ' tot',Same Hs1 Hs'→SRel K Hs' ρ' σ' H' tot'→E.bk ρ'→D.bk σ' H':=fun σ2 H2 Hs2 ρ2 tot2 s2=>k2 σ2 H2 Hs2 ρ2 tot2 (g1.sh.trans s2)
 have k3':∀ σ' H' Hs' ρ' tot',Same Hs1 Hs'→SRel K Hs' ρ' σ' H' tot'→E.ct ρ'→D.ct σ' H':=fun σ2 H2 Hs2 ρ2 tot2 s2=>k3 σ2 H2 Hs2 ρ2 tot2 (g1.sh.trans s2)
 cases k with
 | true=>exact ⟨Hs1,ρ,tot,E,sr.grow g1,q1,k1',k2',k3',(fun v H2 Hs2 m d As s2=>k4 v H2 Hs2 m d As (g1.sh.trans s2)),fun n H2 s2=>kx n H2 (g1.sh.trans s2)⟩
 | false=>exact ⟨Hs1,ρ,tot,E,sr.grow g1,q1,k1',k2',k3',(fun v H2 Hs2 m d As s2=>k4 v H2 Hs2 m d As (g1.sh.trans s2)),fun n H2 s2=>kx n H2 (g1.sh.trans s2)⟩
noncomputable def frzH (Hs H:Hp) (As:List Addr):Hp:=fun a=>if a∈As then H a else Hs a
theorem gM {Hs H:Hp} {As:List Addr} (n:∀ a∈As,Hs a=none):Same Hs (frzH Hs H As):=fun a o e=>by
 unfold frzH
 rw [if_neg fun m=>by rw [n a m] at e; cases e]
 exact e
theorem wA {Hs H:Hp} {As:List Addr} (w:Wf Hs H) (o:∀ a∈As,Own H a):Wf (frzH Hs H As) H:=⟨fun a u e=>by
  unfold frzH at e
  by_cases m:a∈As
  ·rw [if_pos m] at e; exact e
  ·rw [if_neg m] at e; exact w.sub a u e,fun a vs e=>by
  unfold frzH
  rw [if_neg fun m=>(o a m).wK e]
  exact w.tups a vs e⟩
noncomputable def shS:Sl→Sl
 | .sh d=>.sh d
 | .ow _ d=>.sh d
 | .lk a fl d=>.lk a fl d
 | .xc a=>.xc a
noncomputable def shC:Sl→Sl
 | .sh d=>.sh d
 | .ow _ d=>.sh d
 | .lk _ _ d=>.sh d
 | .xc a=>.xc a
noncomputable def frzE (i:Nat) (ρ:Env):Env:=match ρ[i]? with
 | some (some sl)=>ρ.set i (some (shS sl))
 | _=>ρ
theorem uf {As tot B t:List Addr} (n:(B++tot).Nodup) (a:As.Sublist tot) (c:∀ x∈As,x∉t):∀ x∈As,x∉B++t:=fun x hx m=>by
 obtain ⟨n1,n2,n3⟩:=List.nodup_append.mp n
 rcases List.mem_append.mp m with z | z
 ·exact n3 x z x (a.subset hx) rfl
 ·exact c x hx z
theorem SR.frz {Hs H:Hp} {ρ:Env} {σ:St} {tot:List Addr} (i:Nat) {fl:Bool} {d:D} (s:SR K Hs H ρ σ tot):ρ[i]? = some (some (.ow fl d))→tot.Nodup →
  ∃ (As tot':List Addr),As.Sublist tot∧tot'.Sublist tot∧(∀ a∈As,a∉tot')∧∀ Hs',Same Hs Hs'→(∀ a∈As,Hs' a=H a)→SR K Hs' H (ρ.set i (some (.sh d))) σ tot':=by
 induction s generalizing i with
 | nil=>intro e; simp at e
 | non q ih =>
  intro e n
  cases i with
  | zero=>simp at e
  | succ i =>
   obtain ⟨As,t,a,b,c,d⟩:=ih i e n
   exact ⟨As,t,a,b,c,fun Hs' s k=>.non (d Hs' s k)⟩
 | sh r q ih =>
  intro e n
  cases i with
  | zero=>simp at e
  | succ i =>
   obtain ⟨As,t,a,b,c,d⟩:=ih i e n
   exact ⟨As,t,a,b,c,fun Hs' s k=>.sh (r.same s) (d Hs' s k)⟩
 | xc q ih =>
  intro e n
  cases i with
  | zero=>simp at e
  | succ i =>
   obtain ⟨As,t,a,b,c,d⟩:=ih i e n
   exact ⟨As,t,a,b,c,fun Hs' s k=>.xc (d Hs' s k)⟩
 | ow ne r q ih =>
  intro e n
  obtain ⟨n1,n2,n3⟩:=List.nodup_append.mp n
  cases i with
  | zero =>
   simp at e
   obtain ⟨rfl,rfl⟩:=e
   exact ⟨_,_,List.sublist_append_left _ _,List.sublist_append_right _ _,fun a h m=>n3 a h a m rfl,fun Hs' s k=>.sh (r.rep s k) (q.stay s fun _ _=>rfl)⟩
  | succ i =>
   obtain ⟨As,t,a,b,c,d⟩:=ih i e n2
   exact ⟨As,_,a.trans (List.sublist_append_right _ _),b.append_left _,uf n a c,fun Hs' s k=>.ow ne (r.stay s fun _ _=>rfl) (d Hs' s k)⟩
 | lk ne r q ih =>
  intro e n
  obtain ⟨n1,n2,n3⟩:=List.nodup_append.mp n
  cases i with
  | zero=>simp at e
  | succ i =>
   obtain ⟨As,t,a,b,c,d⟩:=ih i e n2
   exact ⟨As,_,a.trans (List.sublist_append_right _ _),b.append_left _,uf n a c,fun Hs' s k=>.lk ne (r.stay s fun _ _=>rfl) (d Hs' s k)⟩
theorem SRel.frz {ρ:Env} {σ:St} {tot:List Addr} {Hs H:Hp} (i:Nat) (s:SRel K Hs ρ σ H tot):∃ Hs' tot',Same Hs Hs'∧SRel K Hs' (frzE i ρ) σ H tot':=by
 unfold frzE
 split
 ·rename_i sl e
  have keep:shS sl=sl→∃ Hs' tot',Same Hs Hs'∧SRel K Hs' (ρ.set i (some (shS sl))) σ H tot':=fun hs=>by
   have e2:ρ.set i (some (shS sl))=ρ:=by
    apply List.ext_getElem?
    intro j
    rw [List.getElem?_set]
    by_cases h:i=j
    ·subst h
     rw [if_pos rfl,e]
     have:i<ρ.length:=(List.getElem?_eq_some_iff.mp e).1
     simp [this,hs]
    ·rw [if_neg h]
   rw [e2]
   exact ⟨Hs,tot,Same.refl _,s⟩
  cases sl with
  | sh d=>exact keep rfl
  | xc a=>exact keep rfl
  | lk a fl d=>exact keep rfl
  | ow fl d =>
   obtain ⟨As,t,a,b,c,g⟩:=SR.frz i s.sr e s.nod
   have hn:∀ a∈As,Hs a=none:=fun x hx=>s.own x (a.subset hx)
   have ho:∀ a∈As,Own H a:=fun x hx=>s.sr.own x (a.subset hx)
   refine ⟨frzH Hs H As,t,gM hn,g _ (gM hn) fun x hx=>by unfold frzH; rw [if_pos hx],wA s.wf ho,b.nodup s.nod,fun x hx=>?_⟩
   unfold frzH
   rw [if_neg fun m=>c x m hx]
   exact s.own x (b.subset hx)
 ·exact ⟨Hs,tot,Same.refl _,s⟩
noncomputable def wFrz (i:Nat) (t:WS):WS:=fun E ρ=>t E (frzE i ρ)
theorem u5 {i:Nat} {D:Ends} {σ:St} {H:Hp} (h:tpS K L (wFrz i t) D σ H):tpS K L t D σ H:=by
 obtain ⟨Hs,ρ,tot,E,sr,h,k1,k2,k3,k4,kx⟩:=h
 obtain ⟨Hs',tot',s,sr'⟩:=sr.frz i
 exact ⟨Hs',_,tot',E,sr',h,fun σ2 H2 Hs2 ρ2 tot2 s2=>k1 σ2 H2 Hs2 ρ2 tot2 (s.trans s2),fun σ2 H2 Hs2 ρ2 tot2 s2=>k2 σ2 H2 Hs2 ρ2 tot2 (s.trans s2),fun σ2 H2 Hs2 ρ2 tot2 s2=>k3 σ2 H2 Hs2 ρ2 tot2 (s.trans s2),
  fun v H2 Hs2 m d As s2=>k4 v H2 Hs2 m d As (s.trans s2),fun n H2 s2=>kx n H2 (s.trans s2)⟩
theorem bO (i:Nat) (h:QS X K L st t):QS X K L st (wFrz i t):=PS.imp h fun D σ H h=>u5 h
noncomputable def iQ (Hs1 H1 Hs' H':Hp):Hp:=fun a=>match H' a with
 | some (.tup vs)=>some (.tup vs)
 | _=>match H1 a with
  | none=>Hs' a
  | some _=>Hs1 a
theorem eN {Hs1 H1 Hs' H':Hp} (w:Wf Hs1 H1) (s:Same H1 Hs') (w':Wf Hs' H'):Grow Hs1 H1 (iQ Hs1 H1 Hs' H') H':=by
 have sa:Same H1 H':=s.trans w'.sub
 have tp:∀ a vs,H' a=some (.tup vs)→iQ Hs1 H1 Hs' H' a=some (.tup vs):=fun a vs e=>by unfold iQ; rw [e]
 have nt:∀ a,(∀ vs,H' a≠some (.tup vs))→iQ Hs1 H1 Hs' H' a=match H1 a with
  | none=>Hs' a
  | some _=>Hs1 a:=fun a h=>by
  unfold iQ
  split
  ·rename_i vs e; exact absurd e (h vs)
  ·rfl
 refine ⟨sa,fun a o e=>?_,⟨fun a o e=>?_,tp⟩,fun a h=>?_⟩
 ·have e1:=w.sub a o e
  have e2:=sa a o e1
  by_cases ht:∃ vs,o=.tup vs
  ·obtain ⟨vs,rfl⟩:=ht
   exact tp a vs e2
  ·rw [nt a fun vs z=>ht ⟨vs,by rw [e2] at z; exact Option.some.inj z⟩,e1]
   exact e
 ·by_cases ht:∃ vs,H' a=some (.tup vs)
  ·obtain ⟨vs,z⟩:=ht
   rw [tp a vs z] at e
   rw [z]; exact e
  ·rw [nt a fun vs z=>ht ⟨vs,z⟩] at e
   cases q:H1 a with
   | none=>rw [q] at e; exact w'.sub a o e
   | some u =>
    rw [q] at e
    have:=w.sub a o e
    exact sa a o this
 ·cases q:H1 a with
  | none=>exact .inr rfl
  | some u =>
   refine .inl ?_
   by_cases ht:∃ vs,H' a=some (.tup vs)
   ·obtain ⟨vs,z⟩:=ht
    have:=sa a u q
    rw [z] at this
    cases this
    rw [w.tups a vs q]
    exact fun z=>nomatch z
   ·rw [nt a fun vs z=>ht ⟨vs,z⟩,q] at h
    exact h
theorem rK {Hs1 H1 Hs' H':Hp} {a:Addr} (s:Same H1 Hs') (h:Hs' a=none) (o:Own H' a):iQ Hs1 H1 Hs' H' a=none∧H1 a=none:=by
 have h1:=s.free h
 refine ⟨?_,h1⟩
 unfold iQ
 split
 ·rename_i vs e; exact absurd e o.wK
 ·rw [h1]; exact h
noncomputable def retM:Md→D→Md
 | .ow true,_=>.ow true
 | _,d=>bif d.flat then .sh else .bo
theorem oH {Hs1 H1 Hs' H':Hp} {m:Md} {d:D} {v:V} {As:List Addr} (w:Wf Hs1 H1) (s:Same H1 Hs') (w':Wf Hs' H') (r:RM K Hs' H' m d v As) (nd:As.Nodup) (own:∀ a∈As,Hs' a=none) :
  ∃ As',RM K (iQ Hs1 H1 Hs' H') H' (retM m d) d v As'∧bZ (iQ Hs1 H1 Hs' H') H1 As':=by
 have g:=eN w s w'
 have other:∃ As',RM K (iQ Hs1 H1 Hs' H') H' (bif d.flat then .sh else .bo) d v As'∧bZ (iQ Hs1 H1 Hs' H') H1 As':=by
  cases hf:d.flat with
  | true=>exact ⟨[],⟨rfl,(r.rep w').gr g.wf.tups hf⟩,bZ.nil⟩
  | false=>exact ⟨[],⟨rfl,r.rep w'⟩,bZ.nil⟩
 cases m with
 | sh=>exact other
 | bo=>exact other
 | ow fl =>
  cases fl with
  | false=>exact other
  | true=>exact ⟨As,⟨RepO.leaves (fun a vs e=>g.wf.tups a vs (w'.sub _ _ e)) r.1,r.2⟩,nd,fun a h=>rK s (own a h) (r.own a h)⟩
noncomputable abbrev SpD:=List D→(Md→D→Prop)→Prop
noncomputable def az (K:PySem.W.Frag) (sp:SpD):Sp:=fun vs H Qv _=>∃ ds Qd,Reps K H ds vs∧sp ds Qd ∧
 ∀ v H' Hs' m d As,Same H Hs'→Wf Hs' H'→RM K Hs' H' m d v As→As.Nodup→(∀ a∈As,Hs' a=none)→Qd m d→Qv v H'
noncomputable def bK (n:Nat) (ds:List D):Env:=ds.map (fun d=>some (.sh d))++List.replicate (n - ds.length) none
theorem SR.start {H:Hp} {ds:List D} {vs:List V} {n:Nat} (r:Reps K H ds vs):SR K H H (ds.map (fun d=>some (.sh d))++List.replicate n none) (vs.map some++List.replicate n none) []:=by
 induction ds generalizing vs with
 | nil =>
  rw [r.n0]
  induction n with
  | zero=>exact .nil
  | succ n ih=>exact .non ih
 | cons d ds ih =>
  obtain ⟨u,us,rfl,r,rs⟩:=r.c
  exact .sh r (ih rs)
theorem sZ {sp:SpD} {N:List Str} {vs:List V} {H:Hp} {Qv:VK} {E:XK} (h:az K sp vs H Qv E) (hp:∀ ds Q,sp ds Q→t { nx:=fun _=>Q .sh .non,rt:=Q } (bK N.length ds)) :
  tpS K L0 t { nx:=fun _ H'=>Qv .non H',rt:=Qv } (start N vs) H:=by
 obtain ⟨ds,Qd,rs,hs,fin⟩:=h
 have hl:=rs.length
 refine ⟨H,bK N.length ds,[],{ nx:=fun _=>Qd .sh .non,rt:=Qd },⟨?_,⟨Same.refl _,fun _ _ e=>e⟩,List.nodup_nil,fun a h=>nomatch h⟩,hp ds Qd hs,?_,?_,?_,?_,fun _ _ _ _=>trivial⟩
 ·unfold bK start
  rw [hl]
  exact SR.start rs
 ·exact fun σ' H' Hs' ρ' tot' s sr q=>fin .non H' Hs' .sh .non [] s sr.wf ⟨rfl,.non⟩ List.nodup_nil (fun a h=>nomatch h) q
 ·exact fun σ' H' Hs' ρ' tot' s sr q=>q.elim
 ·exact fun σ' H' Hs' ρ' tot' s sr q=>q.elim
 ·exact fun v H' Hs' m d As s w r nd own q=>fin v H' Hs' m d As s w r nd own q
theorem FunQ.ok {P:Program} {w:World} {mg:Str→Option Value} {base:Heap} {x qual:Str} {st:Stmt} {f:Addr} {fd:FuncData} {N ps:List Str} {k:Nat} {sp:SpD} {t:WS} (F:Fun K x qual st f fd) (S:FnScope N ps (defScope st)) (len:∀ ds Q,sp ds Q→ds.length=ps.length)
  (hbody:∀ (cdv:Value) (A:Around) (outer:List PySem.Env) (s:Shared) (H:Hp) (E:XK),Room k (A.deeper (envOfC qual (defScope st) s.heap.objs.size f cdv))→QSs (cxOf CX0 P w K mg base N qual (defScope st) f cdv A outer s H E).nox K L0 (defBody st) t)
  (hp:∀ ds Q,sp ds Q→t { nx:=fun _=>Q .sh .non,rt:=Q } (bK N.length ds)):FnOk P w K mg base CX0 (k+1) f fd ps (az K sp) :=
 F.ok S (fun vs H Q E ⟨ds,Qd,rs,hs,_⟩=>by rw [← rs.length]; exact len ds Qd hs) fun cdv A outer s H vs Q E hr hs=>⟨_,hbody cdv A outer s H E hr,sZ hs hp⟩
noncomputable def b_ (sp:SpD) (t:WA):WE:=fun ρ Q=>t ρ fun ps=>sp (ps.map (·.2)) fun m d=>onK (m,d) (f:=fun p=>Q (retM p.1 p.2) p.2) ⟨⟩
theorem uv {sp:SpD} {t:WA} {σ:St} {H:Hp} {Qv:VK} {E:XK} (h:tpE K (b_ sp t) σ H Qv):tCall (az K sp) [] E (tpA K t) σ H Qv:=by
 obtain ⟨Hs,ρ,tot,Q,sr,h,f⟩:=h
 refine ⟨Hs,ρ,tot,_,sr,h,fun vs H1 Hs1 ps As g1 r1 f1 q1=>?_⟩
 refine ⟨_,_,by rw [List.append_nil]; exact r1.reps g1.wf,q1,fun v H' Hs' m d As s w r nd own q=>?_⟩
 obtain ⟨As',r',fr⟩:=oH g1.wf s w r nd own
 exact Fin.after f g1 v H' _ (retM m d) d As' (eN g1.wf s w) r' fr q
theorem cF {k:Nat} {x:Str} {ps:List Str} {sp:SpD} {p:Pos} {es:List Expr} {t:WA} (C:Cal X.prog X.w X.K X.mg X.base k x ps (az K sp)) (hr:Room k X.A) (ha:QA X K (e :: es) t) (hg:Gl X x:=by rfl) (hdb:(x == ("__debug__" : Str))=false:=by decide) (he:starEach (e :: es) X.env=(false,eval e X.env) :: starEach es X.env:=by rfl)
  (hpl:(backTo pos (starEach es X.env)).any (·.1)=false:=by rfl):QE X K (.Call (.Name x p) (e :: es) [] pos) (b_ sp t):=PE.imp (Ab C hr ha hg hdb he hpl) fun σ H Qv h=>uv h
end
end L2.Q
set_option Elab.async false
set_option linter.all false
set_option maxRecDepth 100000
set_option maxHeartbeats 4000000
namespace L2.Q
open PySem PySem.Spec PyProof.Rows
noncomputable abbrev WG:=D→Env→(Env→Prop)→Prop
noncomputable def tpG (K:PySem.W.Frag) (g:WG):TG:=fun v σ H Qv=>∃ Hs ρ tot d Q,SRel K Hs ρ σ H tot∧Rep K Hs d v∧g d ρ Q∧∀ σ' ρ' tot',SRel K Hs ρ' σ' H tot'→(∀ a∈tot',a∈tot)→Q ρ'→Qv σ' H
noncomputable abbrev QG (X:Cx) (K:PySem.W.Frag) (e:Expr) (g:WG):Prop:=PG X e (tpG K g)
noncomputable def gN (i:Nat):WG:=fun d ρ Q=>Q (ρ.set i (some (.sh d)))
noncomputable abbrev WGs:=List D→Env→(Env→Prop)→Prop
noncomputable def tpGs (K:PySem.W.Frag) (g:WGs):TGs:=fun vs σ H Qv=>∃ Hs ρ tot ds Q,SRel K Hs ρ σ H tot∧Reps K Hs ds vs∧g ds ρ Q∧∀ σ' ρ' tot',SRel K Hs ρ' σ' H tot'→(∀ a∈tot',a∈tot)→Q ρ'→Qv σ' H
noncomputable abbrev QGs (X:Cx) (K:PySem.W.Frag) (es:List Expr) (g:WGs):Prop:=PGs X es (tpGs K g)
noncomputable def qP:WGs:=fun ds ρ Q=>ds=[]∧Q ρ
noncomputable def fu (g:WG) (gs:WGs):WGs:=fun ds ρ Q=>match ds with
 | d :: ds=>g d ρ fun ρ'=>gs ds ρ' Q
 | []=>False
noncomputable def gT (n:Nat) (gs:WGs):WG:=fun d ρ Q=>match d with
 | .tup ds=>ds.length=n∧gs ds ρ Q
 | _=>False
section
variable {X:Cx} {K:PySem.W.Frag} {e:Expr} {es:List Expr} {g:WG} {gs:WGs} {pos:Pos}
theorem PG.imp {t t':TG} (h:PG X e t) (i:∀ v σ H Q,t' v σ H Q→t v σ H Q):PG X e t':=fun pins s σ H v u Q I r q=>h pins s σ H v u Q I r (i v σ H Q q)
theorem PGs.imp {t t':TGs} (h:PGs X es t) (i:∀ v σ H Q,t' v σ H Q→t v σ H Q):PGs X es t':=fun pins s σ H v u Q I r q=>h pins s σ H v u Q I r (i v σ H Q q)
theorem SRel.Dh {ρ:Env} {σ:St} {tot:List Addr} {Hs H:Hp} {d:D} {v:V} (i:Nat) (s:SRel K Hs ρ σ H tot) (r:Rep K Hs d v):∃ tot',(∀ a∈tot',a∈tot)∧SRel K Hs (ρ.set i (some (.sh d))) (σ.set i (some v)) H tot':=by
 obtain ⟨t,a,b⟩:=s.sr.v_ r i
 exact ⟨t,fun x hx=>a.subset hx,b,s.wf,a.nodup s.nod,fun x hx=>s.own x (a.subset hx)⟩
theorem bz {i:Nat} {x:Str} (hN:X.N.Nodup) (hi:X.N[i]? = some x) (hx:Loc X.env.scope x) (hf:X.fn x=true∨X.env.scope.names.lookup x=some .local:=by first | exact .inl rfl | exact .inr rfl | assumption):QG X K (.Name x pos) (gN i) :=
 PG.imp (pg_name hN hi hx hf) fun v σ H Qv hx9=>by
  obtain ⟨Hs,ρ,tot,d,Q,sr,r,h,k⟩:=hx9
  obtain ⟨t,m,s⟩:=sr.Dh i r
  exact k _ _ t s m h
theorem oE:QGs X K [] qP:=PGs.imp pgs_nil fun v σ H Qv hx9=>by
 obtain ⟨Hs,ρ,tot,ds,Q,sr,r,h,k⟩:=hx9
 obtain ⟨rfl,h⟩:=h
 cases r
 exact ⟨rfl,k σ ρ tot sr (fun _ z=>z) h⟩
theorem cZ (h1:QG X K e g) (h2:QGs X K es gs) (hs:(assignEach (e :: es) X.env).map (·.2)=assign e X.env :: (assignEach es X.env).map (·.2):=by rfl):QGs X K (e :: es) (fu g gs) :=
 PGs.imp (pgs_cons h1 h2 hs) fun v σ H Qv hx9=>by
  obtain ⟨Hs,ρ,tot,ds,Q,sr,r,h,k⟩:=hx9
  cases r with
  | nil=>exact h.elim
  | cons r rs=>exact ⟨_,_,rfl,Hs,ρ,tot,_,_,sr,r,h,fun σ2 ρ2 tot2 sr2 m2 q2=>⟨Hs,ρ2,tot2,_,Q,sr2,rs,q2,fun σ3 ρ3 tot3 sr3 m3=>k σ3 ρ3 tot3 sr3 fun a h=>m2 a (m3 a h)⟩⟩
theorem sG {k n:Nat} (hc:X.calm=true) (h:QGs X K es gs) (hn:(assignEach es X.env).length=n:=by rfl) (hst:(assignEach es X.env).findIdx? (·.1)=none:=by rfl):QG X K (.Tuple es k pos) (gT n gs) :=
 PG.imp (pg_tup hc h hn hst) fun v σ H Qv hx9=>by
  obtain ⟨Hs,ρ,tot,d,Q,sr,r,h,k⟩:=hx9
  cases r with
  | tup z e rs=>exact ⟨_,_,rfl,.inl (.inl (sr.wf.sub _ _ e)),by rw [← rs.length]; exact h.1,Hs,ρ,tot,_,Q,sr,rs,h.2,k⟩
  | _=>exact h.elim
end
noncomputable abbrev WI:=Env→(List D→Prop)→Prop
structure oh (K:PySem.W.Frag) (J:It) (ds:List D) (C:Hp→Hp→Prop):Prop where
 go:∀ i Hs H,C Hs H→Wf Hs H→i<ds.length→J.go i H
 yld:∀ i Hs H x H' d,C Hs H→Wf Hs H→ds[i]? = some d→J.yld i H x H'→∃ Hs',Grow Hs H Hs' H'∧Rep K Hs' d x
 stop:∀ Hs H,C Hs H→Wf Hs H→J.stop ds.length H
noncomputable abbrev tH (K:PySem.W.Frag) (Hs:Hp) (J:It) (ds:List D):Prop:=oh K J ds fun G _=>Same Hs G
section
variable {K:PySem.W.Frag} {Hs:Hp} {J:It} {ds es:List D} {C C':Hp→Hp→Prop} {a b:Addr}
theorem oh.imp (S:oh K J ds C) (h:∀ Hs H,C' Hs H→C Hs H):oh K J ds C':=⟨fun i Hs H c=>S.go i Hs H (h _ _ c),fun i Hs H x H' d c=>S.yld i Hs H x H' d (h _ _ c),fun Hs H c=>S.stop Hs H (h _ _ c)⟩
theorem oh.seq {vs:List V} (rs:Reps K Hs ds vs) (S:f9 J vs fun H=>Same Hs H):tH K Hs J ds where
 go:=fun i G H s w h=>S.go i H (s.trans w.sub) (by rw [← rs.length]; exact h)
 yld:=fun i G H x H' d s w h y=>by
  have hi:i<ds.length:=by
   rcases Nat.lt_or_ge i ds.length with q | q
   ·exact q
   ·rw [List.getElem?_eq_none q] at h; cases h
  obtain ⟨e,z⟩:=S.yld i H x H' (s.trans w.sub) (by rw [← rs.length]; exact hi) y
  subst e
  obtain ⟨d',ed,rd⟩:=rs.getV z
  rw [h] at ed; cases ed
  exact ⟨G,Grow.refl w,rd.same s⟩
 stop:=fun G H s w=>by rw [rs.length]; exact S.stop H (s.trans w.sub)
noncomputable abbrev wu (K:PySem.W.Frag) (a:Addr) (ds:List D) (C:Hp→Hp→Prop):Prop:=∀ Hs H,C Hs H→Wf Hs H→∃ vs,SqL K H a vs∧Reps K Hs ds vs
theorem oh.list (h:wu K a ds C):oh K (Itl K a) ds C where
 go:=fun i G H c w hi=>by
  obtain ⟨vs,q,rs⟩:=h G H c w
  exact ⟨vs,vs[i]'(by rw [← rs.length]; exact hi),q,by simp⟩
 yld:=fun i G H x H' d c w hd y=>by
  obtain ⟨vs,q,rs⟩:=h G H c w
  obtain ⟨rfl,y⟩:=y
  obtain ⟨d',ed,rd⟩:=rs.getV (y vs q)
  rw [hd] at ed; cases ed
  exact ⟨G,Grow.refl w,rd⟩
 stop:=fun G H c w=>by
  obtain ⟨vs,q,rs⟩:=h G H c w
  exact ⟨vs,q,by rw [rs.length]; exact Nat.le_refl _⟩
theorem qW {vs:List V} (s:SqL K Hs a vs) (rs:Reps K Hs ds vs):wu K a ds fun G _=>Same Hs G:=fun G H c w=>⟨vs,Same.seq (c.trans w.sub) s,rs.same c⟩
end
noncomputable def tpI (K:PySem.W.Frag) (wi:WI):TI:=fun σ H R=>∃ Hs ρ tot Q,SRel K Hs ρ σ H tot∧wi ρ Q∧∀ J H' Hs' ds,Grow Hs H Hs' H'→tH K Hs' J ds→ds.length≤sizeLine→Q ds→R J H'
noncomputable abbrev QI (X:Cx) (K:PySem.W.Frag) (tg iter:Expr) (wi:WI):Prop:=PI X tg iter (tpI K wi)
noncomputable def lM:Md→Prop
 | .bo=>False
 | _=>True
noncomputable def gw (te:WE):WI:=fun ρ Q=>te ρ fun m d=>lM m∧match d with
 | .list xs=>Q xs
 | _=>False
noncomputable def sgnD (z:Str):List D:=z.cps.toList.map fun c=>.str ⟨#[c]⟩
noncomputable def vN (te:WE):WI:=fun ρ Q=>te ρ fun _ d=>match d with
 | .str z=>Q (sgnD z)
 | _=>False
noncomputable def fZ (lo:Int) (n:Nat):List D:=(List.range n).map fun i=>.int (lo+(i:Nat))
noncomputable def iw (te:WE):WI:=fun ρ Q=>te ρ fun _ d=>match d with
 | .int j=>j≤16777216∧-(2 ^ 62)≤j∧Q (fZ 0 j.toNat)
 | _=>False
noncomputable def qi (ta tb:WE):WI:=fun ρ Q=>ta ρ fun _ x=>tb ρ fun _ y=>match x,y with
 | .int i,.int j=>j - i≤16777216∧(-(2 ^ 62)≤i∧i<2 ^ 62∧-(2 ^ 62)≤j∧j<2 ^ 62)∧Q (fZ i (j - i).toNat)
 | _,_=>False
section
variable {X:Cx} {K:PySem.W.Frag} {e e2 tg:Expr} {te te2:WE} {pos p:Pos}
theorem PI.imp {iter:Expr} {t t':TI} (h:PI X tg iter t) (i:∀ σ H R,t' σ H R→t σ H R):PI X tg iter t':=fun pins s σ H R I q=>h pins s σ H R I (i σ H R q)
theorem f9.imp {J:It} {vs:List V} {c c':Hp→Prop} (s:f9 J vs c) (h:∀ H,c' H→c H):f9 J vs c':=⟨fun i H q=>s.go i H (h H q),fun i H x H' q=>s.yld i H x H' (h H q),fun H q=>s.stop H (h H q)⟩
theorem RM.ud {Hs H Hs1 H1:Hp} {m:Md} {d:D} {v:V} {As:List Addr} (g:Grow Hs H Hs1 H1) (r:RM K Hs1 H1 m d v As) (f:bZ Hs1 H As) (h:lM m):∃ Hs2,Grow Hs H Hs2 H1∧Rep K Hs2 d v:=by
 cases m with
 | sh=>exact ⟨Hs1,g,r.2⟩
 | bo=>exact h.elim
 | ow fl =>
  have n:∀ a∈As,Hs1 a=none:=fun a ha=>(f.2 a ha).1
  have o:=r.own
  refine ⟨frzH Hs1 H1 As,⟨g.all,g.sh.trans (gM n),wA g.wf o,fun a h=>?_⟩,RepO.rep (gM n) r.1 fun a ha=>by unfold frzH; rw [if_pos ha]⟩
  unfold frzH at h
  by_cases m:a∈As
  ·exact .inr (f.2 a m).2
  ·rw [if_neg m] at h; exact g.new a h
theorem iu (he:QE X K e te) (hK:X.K=K:=by rfl):QI X K tg e (gw te):=by
 subst hK
 refine PI.imp (pi_list he) fun σ H R hx=>ex4 hx fun Hs ρ tot Q sr h k=>⟨Hs,ρ,tot,_,sr,h,fun v H1 Hs1 m d As g1 r1 f1 q1=>?_⟩
 obtain ⟨nb,q1⟩:=q1
 obtain ⟨Hs2,g2,r2⟩:=r1.ud g1 f1 nb
 cases r2 with
 | list z s rs=>exact ⟨_,rfl,⟨_,Same.seq g2.wf.sub s⟩,k _ H1 Hs2 _ g2 (.seq rs (f9.imp (uY X.K _ _) fun H' s'=>Same.seq s' s)) (by rw [rs.length]; exact z) q1⟩
 | _=>exact q1.elim
theorem pY {H:Hp}:∀ (l:List Nat),Reps K H (l.map fun c=>.str ⟨#[c]⟩) (l.map fun c=>V.str ⟨#[c]⟩)
 | []=>.nil
 | c :: l=>.cons (.str (sH c)) (pY l)
theorem Af (he:QE X K e te):QI X K tg e (vN te):=by
 refine PI.imp (Am he) fun σ H R hx=>ex4 hx fun Hs ρ tot Q sr h k=>⟨Hs,ρ,tot,_,sr,h,fun v H1 Hs1 m d As g1 r1 f1 q1=>?_⟩
 have r:=r1.rep g1.wf
 cases r with
 | str hz=>exact ⟨_,rfl,k _ H1 Hs1 _ g1 (.seq (pY _) (f9.imp (wZ _) fun _ _=>trivial)) (by rw [List.length_map,Array.length_toList]; exact hz) q1⟩
 | _=>exact q1.elim
theorem iz {H:Hp} (lo:Int):∀ (l:List Nat),Reps K H (l.map fun i=>.int (lo+(i:Nat))) (l.map fun i=>V.int (lo+(i:Nat)))
 | []=>.nil
 | c :: l=>.cons (.int _) (iz lo l)
theorem jW (hm:X.mg "range" = none) (he:QE X K e te) (hg:Gl X "range" := by rfl) (hs:starEach [e] X.env=(false,eval e X.env) :: starEach [] X.env:=by rfl) (hs':starEach [e] X.env=[(false,eval e X.env)]:=by rfl):QI X K tg (.Call (.Name "range" p) [e] [] pos) (iw te):=by
 refine PI.imp (pi_range1 hg hm (pa_cons he pa_nil hs) hs') fun σ H R hx=>ex4 hx fun Hs ρ tot Q sr h k=>⟨Hs,ρ,tot,_,sr,h,fun v H1 Hs1 m d As g1 r1 f1 q1=>?_⟩
 have r:=r1.rep g1.wf
 cases r with
 | int j =>
  obtain ⟨h1,h2,q1⟩:=q1
  exact ⟨j,rfl,h2,by walk_at "l",k _ H1 Hs1 _ g1 (.seq (iz 0 _) (f9.imp (tE _ _) fun _ _=>trivial)) (by rw [List.length_map,List.length_range,sizeLine_eq]; walk_at "l") q1⟩
 | _=>exact q1.elim
theorem wN (hm:X.mg "range" = none) (he:QE X K e te) (he2:QE X K e2 te2) (hg:Gl X "range" := by rfl) (hs:starEach (e :: [e2]) X.env=(false,eval e X.env) :: starEach [e2] X.env:=by rfl) (hs2:starEach (e2 :: []) X.env=(false,eval e2 X.env) :: starEach [] X.env:=by rfl)
  (hs':starEach [e,e2] X.env=[(false,eval e X.env),(false,eval e2 X.env)]:=by rfl) (hs'':starEach [e2] X.env=[(false,eval e2 X.env)]:=by rfl):QI X K tg (.Call (.Name "range" p) [e,e2] [] pos) (qi te te2):=by
 refine PI.imp (pi_range2 hg hm (pa_cons he (pa_cons he2 pa_nil hs2) hs) hs' hs'') fun σ H R hx=>ex4 hx fun Hs ρ tot Q sr h k=>⟨Hs,ρ,tot,_,sr,h,fun v H1 Hs1 m d As g1 r1 f1 q1=>⟨Hs1,ρ,tot,_,sr.grow g1,q1,fun u H2 Hs2 n y Bs g2 r2 f2 q2=>?_⟩⟩
 have r:=(r1.grow g2).rep g2.wf
 have r':=r2.rep g2.wf
 cases r with
 | int i=>cases r' with
  | int j =>
   obtain ⟨h1,h2,q2⟩:=q2
   exact ⟨i,j,rfl,h2,k _ H2 Hs2 _ (g1.trans g2) (.seq (iz i _) (f9.imp (tE _ _) fun _ _=>trivial)) (by rw [List.length_map,List.length_range,sizeLine_eq]; walk_at "l") q2⟩
  | _=>exact q2.elim
 | _=>cases r' <;> exact q2.elim
section
variable {X:Cx} {K:PySem.W.Frag} {e e2 tg:Expr} {te te2:WE} {pos p:Pos}
noncomputable def tpIb (K:PySem.W.Frag) (wi:WI):TI:=fun σ H R=>∃ Hs ρ tot Q,SRel K Hs ρ σ H tot∧wi ρ Q∧∀ J H' Hs' ds,Grow Hs H Hs' H'→tH K H' J ds→ds.length≤sizeLine→Q ds→R J H'
noncomputable abbrev QIb (X:Cx) (K:PySem.W.Frag) (tg iter:Expr) (wi:WI):Prop:=PI X tg iter (tpIb K wi)
theorem uA {iter:Expr} {wi:WI} (h:QI X K tg iter wi):QIb X K tg iter wi:=PI.imp h fun σ H R hx=>ex4 hx fun Hs ρ tot Q sr h k=>⟨Hs,ρ,tot,Q,sr,h,fun J H' Hs' ds g w z q=>k J H' Hs' ds g (w.imp fun G H s=>g.wf.sub.trans s) z q⟩
noncomputable def lD (te:WE):WI:=fun ρ Q=>te ρ fun _ d=>match d with
 | .list xs=>Q xs
 | _=>False
theorem rD (he:QE X K e te) (hK:X.K=K:=by rfl):QIb X K tg e (lD te):=by
 subst hK
 refine PI.imp (pi_list he) fun σ H R hx=>ex4 hx fun Hs ρ tot Q sr h k=>⟨Hs,ρ,tot,_,sr,h,fun v H1 Hs1 m d As g1 r1 f1 q1=>?_⟩
 have r:=r1.rep g1.wf
 cases r with
 | list z s rs=>exact ⟨_,rfl,⟨_,s⟩,k _ H1 Hs1 _ g1 (.list (qW s rs)) (by rw [rs.length]; exact z) q1⟩
 | _=>exact q1.elim
end
section
variable {X:Cx} {K:PySem.W.Frag} {e e2 tg:Expr} {te te2:WE} {pos p:Pos}
end
noncomputable def mO (g:WG) (b:WS) (E:jb):List D→Env→Prop
 | [],ρ=>E.nx ρ
 | x :: xs,ρ=>g x ρ fun ρ1=>b { E with nx:=mO g b E xs,ct:=mO g b E xs,bk:=E.nx } ρ1
noncomputable def wFor (wi:WI) (g:WG) (b:WS):WS:=fun E ρ=>wi ρ fun ds=>mO g b E ds ρ
variable {wi:WI} {g:WG} {b:WS} {body:List Stmt}
theorem fD {iter:Expr} (hp:PassesOwn (model X.prog X.w) X.A X.env X.xe) (hc:X.calm=true) (hi:QI X K tg iter wi) (hg:QG X K tg g) (hb:QSs X K L body b) (hs:∀ x,foldedSetIterable iter X.env x=pure x:=by intro _; rfl) :
  QS X K L (.For tg iter body [] pos) (wFor wi g b):=by
 refine PS.imp (ps_for hp hc hi hg hb hs) fun D σ H hx=>iR hx fun Hs ρ tot E sr h k1 k2 k3 k4 kx=>?_
 rw [yw]
 refine ⟨Hs,ρ,tot,_,sr,h,fun J H1 Hs1 ds g1 S hz q1=>?_⟩
 refine ⟨fun i m σ H=>m=ds.length - i∧i≤ds.length∧∃ Hs' ρ' tot',Same Hs1 Hs'∧SRel K Hs' ρ' σ H tot'∧mO g b E (ds.drop i) ρ',⟨ds.length,by simp,Nat.zero_le _,Hs1,ρ,tot,Same.refl _,sr.grow g1,by simpa using q1⟩,?_⟩
 rintro i m σ2 H2 ⟨rfl,hi,Hs2,ρ2,tot2,s2,sr2,q2⟩
 by_cases hlt:i<ds.length
 ·refine .inr ⟨S.go i Hs2 H2 s2 sr2.wf hlt,fun σ3 H3=>∃ Hs' ρ' tot',Same Hs1 Hs'∧SRel K Hs' ρ' σ3 H3 tot'∧mO g b E (ds.drop (i+1)) ρ',fun σ3 H3 h3=>⟨ds.length - (i+1),by walk_at "l",rfl,hlt,h3⟩,fun x H3 y=>?_⟩
  obtain ⟨Hs3,g3,rd⟩:=S.yld i Hs2 H2 x H3 ds[i] s2 sr2.wf (by simp [hlt]) y
  rw [List.drop_eq_getElem_cons hlt] at q2
  have s3:=s2.trans g3.sh
  refine ⟨Hs3,ρ2,tot2,ds[i],_,sr2.grow g3,rd,q2,fun σ4 ρ4 tot4 sr4 _ q4=>?_⟩
  refine ⟨Hs3,ρ4,tot4,_,sr4,q4,?_,?_,?_,?_,fun n H5 s5=>kx n H5 ((g1.sh.trans s3).trans s5)⟩
  ·exact fun σ5 H5 Hs5 ρ5 tot5 s5 sr5 q5=>⟨Hs5,ρ5,tot5,s3.trans s5,sr5,q5⟩
  ·exact fun σ5 H5 Hs5 ρ5 tot5 s5 sr5 q5=>k1 σ5 H5 Hs5 ρ5 tot5 ((g1.sh.trans s3).trans s5) sr5 q5
  ·exact fun σ5 H5 Hs5 ρ5 tot5 s5 sr5 q5=>⟨Hs5,ρ5,tot5,s3.trans s5,sr5,q5⟩
  ·exact fun v H5 Hs5 m d As s5=>k4 v H5 Hs5 m d As ((g1.sh.trans s3).trans s5)
 ·have e:i=ds.length:=by walk_at "l"
  subst e
  refine .inl ⟨S.stop Hs2 H2 s2 sr2.wf,?_⟩
  rw [List.drop_length] at q2
  exact k1 σ2 H2 Hs2 ρ2 tot2 (g1.sh.trans s2) sr2 q2
theorem cU {g:WG} {b:WS} {E:jb} (xs:List D) (Pv:Nat→Env→Prop) {ρ:Env} (h0:Pv 0 ρ)
  (hs:∀ i x ρ,xs[i]? = some x→Pv i ρ→∀ N:Env→Prop,(∀ ρ',Pv (i+1) ρ'→N ρ')→g x ρ fun ρ1=>b { E with nx:=N,ct:=N,bk:=E.nx } ρ1)
  (hd:∀ ρ,Pv xs.length ρ→E.nx ρ):mO g b E xs ρ:=by
 have go:∀ (k i:Nat) (ρ:Env),i+k=xs.length→Pv i ρ→mO g b E (xs.drop i) ρ:=by
  intro k
  induction k with
  | zero =>
   intro i ρ e p
   have:i=xs.length:=by walk_at "l"
   subst this
   rw [List.drop_length]
   exact hd ρ p
  | succ k ih =>
   intro i ρ e p
   have hi:i<xs.length:=by walk_at "l"
   rw [List.drop_eq_getElem_cons hi]
   exact hs i xs[i] ρ (by simp [hi]) p _ fun ρ2 h2=>ih (i+1) ρ2 (by walk_at "l") h2
 have:=go xs.length 0 ρ (by exact Nat.add_comm ..) h0
 simpa using this
end
end L2.Q
set_option Elab.async false
set_option linter.all false
set_option maxRecDepth 100000
set_option maxHeartbeats 4000000
namespace L2.Q
open PySem PySem.Spec PyProof.Rows
noncomputable def wYes:WT:=fun _ Q=>Q true
noncomputable def okEl (m:Md) (d:D):Prop:=d.flat=true∨m=.ow true
noncomputable def gq (g:WG) (tc:WT) (te:WE):List D→Env→(List D→Prop)→Prop
 | [],_,k=>k []
 | x :: xs,ρ,k=>g x ρ fun ρ1=>tc ρ1 fun b=>if b=true then te ρ1 fun m d=>okEl m d∧gq g tc te xs ρ1 (fun out=>k (d :: out)) else gq g tc te xs ρ1 k
noncomputable def yQ (tn:Nat) (ix:List Nat) (ρ:Env):Env:=List.replicate tn none++ix.map fun j=>(ρ[j]?).join.map shC
noncomputable def jP (wi:WI) (g:WG) (tc:WT) (te:WE) (tn:Nat) (ix:List Nat):WE:=fun ρ Q=>wi ρ fun ds=>gq g tc te ds (yQ tn ix ρ) fun out=>Q (.ow true) (.list out)
section
variable {X:Cx} {K:PySem.W.Frag}
theorem jC {Hs H G:Hp} {ρ:Env} {σ:St} {tot:List Addr} (sr:SRel K Hs ρ σ H tot) (G':Hp):∀ (ix:List Nat),SR K H G' (ix.map fun j=>(ρ[j]?).join.map shC) (ix.map fun j=>(σ[j]?).join) []
 | []=>.nil
 | j :: ix=>by
  have ih:=jC sr G' ix (G:=G)
  simp only [List.map_cons]
  cases e:ρ[j]? with
  | none=>exact .non ih
  | some o =>
   cases o with
   | none=>exact .non ih
   | some sl =>
    obtain ⟨v,e1,r⟩:=sr.sr.get e
    rw [e1]
    cases sl with
    | sh d=>exact .sh (Rep.same sr.wf.sub r) ih
    | xc a=>subst r; exact .xc ih
    | ow fl d =>
     obtain ⟨As,_,r,_⟩:=r
     exact .sh (r.rep sr.wf.sub fun _ _=>rfl) ih
    | lk a fl d =>
     obtain ⟨As,_,r,_⟩:=r
     exact .sh (r.rep sr.wf.sub fun _ _=>rfl) ih
theorem mJ {H G:Hp} {ρ:Env} {σ:St} (s:SR K H G ρ σ []):∀ (n:Nat),SR K H G (List.replicate n none++ρ) (List.replicate n none++σ) []
 | 0=>s
 | n+1=>.non (mJ s n)
theorem SR.heap {Hs H H':Hp} {ρ:Env} {σ:St} (s:SR K Hs H ρ σ []):SR K Hs H' ρ σ []:=s.stay (Same.refl _) fun a h=>nomatch h
theorem v9 {Hs H:Hp} {p:Addr} {o:HO} (w:Wf Hs H) (n:Hs p=none) (ho:∀ vs,o≠.tup vs):Wf Hs (upd H p o):=⟨fun b u q=>by
  rw [upd_ne (fun z=>by subst z; rw [n] at q; cases q)]; exact w.sub b u q,fun b us q=>by
  by_cases hb:b=p
  ·subst hb; rw [upd_same] at q; exact absurd (Option.some.inj q) (ho us)
  ·rw [upd_ne hb] at q; exact w.tups b us q⟩
structure CompI (K:PySem.W.Frag) (H1:Hp) (b:Addr) (acc:List D) (ys:List V) (As:List Addr) (Hs:Hp) (ρ:Env) (τ:St) (H:Hp):Prop where
 sm:Same H1 Hs
 sr:SRel K Hs ρ τ H []
 eD:H b=some (.lst ys)
 nD:Hs b=none
 ra:aq K Hs H true acc ys As
 nd:(b :: As).Nodup
 own:∀ a∈As,Hs a=none
theorem CompI.grow {H1:Hp} {b:Addr} {acc:List D} {ys:List V} {As:List Addr} {Hs H Hs' H':Hp} {ρ:Env} {τ:St} (c:CompI K H1 b acc ys As Hs ρ τ H) (g:Grow Hs H Hs' H'):CompI K H1 b acc ys As Hs' ρ τ H' :=
 ⟨c.sm.trans g.sh,c.sr.grow g,g.all _ _ c.eD,g.hsn c.nD (by rw [c.eD]; exact fun z=>nomatch z),c.ra.grow g.sh g.all,c.nd,fun a ha=>g.hsn (c.own a ha) (c.ra.own a ha).ne⟩
theorem CompI.push {H1:Hp} {b:Addr} {acc:List D} {ys:List V} {As Bs:List Addr} {Hs H:Hp} {ρ:Env} {τ:St} {m:Md} {d:D} {v:V} (c:CompI K H1 b acc ys As Hs ρ τ H) (r:RM K Hs H m d v Bs) (ok:okEl m d) (nb:Bs.Nodup) (fb:∀ a∈Bs,Hs a=none∧a∉b :: As):∃ As',CompI K H1 b (acc++[d]) (ys++[v]) As' Hs ρ τ (upd H b (.lst (ys++[v]))):=by
 obtain ⟨B,sb,rb⟩:∃ B,B.Sublist Bs∧RepO K Hs H true d v B:=by
  rcases ok with hf | rfl
  ·exact ⟨[],List.nil_sublist _,.sh (fun _=>hf) (r.flat c.sr.wf hf)⟩
  ·exact ⟨Bs,List.Sublist.refl _,r.1⟩
 obtain ⟨na,nA⟩:=List.nodup_cons.mp c.nd
 have fb':=fun a ha=>fb a (sb.subset ha)
 refine ⟨As++(B++[]),c.sm,⟨c.sr.sr.heap,v9 c.sr.wf c.nD (fun _ z=>nomatch z),List.nodup_nil,fun a h=>nomatch h⟩,upd_same,c.nD,(c.ra.stay (H':=upd H b (.lst (ys++[v]))) (Same.refl _) fun a ha=>upd_ne fun z=>na (by subst z; exact ha)).append (.cons (rb.stay (Same.refl _) fun a ha=>upd_ne fun z=>(fb' a ha).2 (by subst z; exact List.mem_cons_self)) .nil),?_,?_⟩
 ·rw [List.append_nil]
  refine List.nodup_cons.mpr ⟨fun m=>(List.mem_append.mp m).elim na fun m=>(fb' b m).2 List.mem_cons_self,List.nodup_append.mpr ⟨nA,sb.nodup nb,fun x hx y hy e=>(fb' y hy).2 (e ▸ List.mem_cons_of_mem _ hx)⟩⟩
 ·rw [List.append_nil]
  exact fun a ha=>(List.mem_append.mp ha).elim (c.own a) fun m=>(fb' a m).1
theorem lK {wi:WI} {g:WG} {tc:WT} {te:WE} {tn:Nat} {ix:List Nat} {σ:St} {H:Hp} {Qv:VK} (h:tpE K (jP wi g tc te tn ix) σ H Qv):rT (tpIb K wi) (tpG K g) (tpT K tc) (tpE K te) tn ix σ H Qv:=by
 obtain ⟨Hs,ρ,tot,Q,sr,h,f⟩:=h
 rw [vC]
 refine ⟨Hs,ρ,tot,_,sr,h,fun J H1 Hs1 ds g1 S hz q1 b hb=>?_⟩
 have st:CompI K H1 b [] [] [] H1 (yQ tn ix ρ) (kj tn ix σ) (upd H1 b (.lst [])):=by
  refine ⟨Same.refl _,⟨mJ (jC (G:=H1) (sr.grow g1) _ ix) tn,⟨(Same.refl H1).upd hb,fun a xs e=>?_⟩,List.nodup_nil,fun a h=>nomatch h⟩,upd_same,hb,.nil,by simp,fun a h=>nomatch h⟩
  by_cases ha:a=b
  ·subst ha; rw [upd_same] at e; cases e
  ·rw [upd_ne ha] at e; exact e
 refine ⟨fun i m τ H2=>m=ds.length - i∧i≤ds.length∧∃ Hs2 ρ2 acc ys As,CompI K H1 b acc ys As Hs2 ρ2 τ H2∧acc.length≤i∧gq g tc te (ds.drop i) ρ2 (fun out=>Q (.ow true) (.list (acc++out))),
  ⟨ds.length,by simp,Nat.zero_le _,H1,_,[],[],[],st,Nat.le_refl _,by simpa using q1⟩,?_⟩
 rintro i m τ H2 ⟨rfl,hi,Hs2,ρ2,acc,ys,As,c,la,q2⟩
 by_cases hlt:i<ds.length
 ·refine .inr ⟨S.go i Hs2 H2 c.sm c.sr.wf hlt,
   fun τ3 v H4=>∃ Hs4 ρ4 d,CompI K H1 b acc ys As Hs4 ρ4 τ3 H4∧(∃ As',CompI K H1 b (acc++[d]) (ys++[v]) As' Hs4 ρ4 τ3 (upd H4 b (.lst (ys++[v]))))∧gq g tc te (ds.drop (i+1)) ρ4 (fun out=>Q (.ow true) (.list (acc++d :: out))),
   fun τ3 H3=>∃ Hs3 ρ3,CompI K H1 b acc ys As Hs3 ρ3 τ3 H3∧gq g tc te (ds.drop (i+1)) ρ3 (fun out=>Q (.ow true) (.list (acc++out))),?_,?_,?_⟩
  ·rintro τ3 v H4 ⟨Hs4,ρ4,d,c4,⟨As',c5⟩,q4⟩
   have lya:=c4.ra.length
   exact ⟨ys,ds.length - (i+1),c4.eD,by walk_at "l",by walk_at "l",rfl,hlt,Hs4,ρ4,acc++[d],ys++[v],As',c5,by rw [List.length_append]; simpa using la,by simpa using q4⟩
  ·rintro τ3 H3 ⟨Hs3,ρ3,c3,q3⟩
   exact ⟨ds.length - (i+1),by walk_at "l",rfl,hlt,Hs3,ρ3,acc,ys,As,c3,by walk_at "l",q3⟩
  ·intro x H3 y
   obtain ⟨Hs3,g3,rd⟩:=S.yld i Hs2 H2 x H3 ds[i] c.sm c.sr.wf (by simp [hlt]) y
   rw [List.drop_eq_getElem_cons hlt] at q2
   have c3:=c.grow g3
   refine ⟨Hs3,ρ2,[],ds[i],_,c3.sr,rd,q2,fun τ4 ρ4 tot4 sr4 m4 q4=>?_⟩
   have t4:tot4=[]:=List.eq_nil_iff_forall_not_mem.mpr fun a ha=>nomatch m4 a ha
   subst t4
   have c4:CompI K H1 b acc ys As Hs3 ρ4 τ4 H3:=⟨c3.sm,sr4,c3.eD,c3.nD,c3.ra,c3.nd,c3.own⟩
   refine ⟨Hs3,ρ4,[],_,sr4,q4,fun k H5 Hs5 g5 q5=>?_⟩
   have c5:=c4.grow g5
   cases k with
   | false=>exact ⟨Hs5,ρ4,c5,q5⟩
   | true =>
    refine ⟨Hs5,ρ4,[],_,c5.sr,q5,fun v H6 Hs6 m6 d6 As6 g6 r6 f6 q6=>?_⟩
    have c6:=c5.grow g6
    refine ⟨Hs6,ρ4,d6,c6,c6.push r6 q6.1 f6.1 fun a ha=>⟨(f6.2 a ha).1,fun m=>?_⟩,q6.2⟩
    rcases List.mem_cons.mp m with rfl | m
    ·have:=(f6.2 _ ha).2
     rw [c5.eD] at this; cases this
    ·exact (c5.ra.own a m).ne (f6.2 a ha).2
 ·have e:i=ds.length:=by walk_at "l"
  subst e
  refine .inl ⟨S.stop Hs2 H2 c.sm c.sr.wf,?_⟩
  rw [List.drop_length] at q2
  have q2:Q (.ow true) (.list (acc++[])):=q2
  rw [List.append_nil] at q2
  have lya:=c.ra.length
  have rm:RM K Hs2 H2 (.ow true) (.list acc) (.ref b) (b :: As):=⟨.list (by walk_at "l") c.eD c.ra,by simp⟩
  obtain ⟨As',r',fr⟩:=oH g1.wf c.sm c.sr.wf rm c.nd fun a ha=>(List.mem_cons.mp ha).elim (fun z=>z ▸ c.nD) (c.own a)
  exact Fin.after f g1 (.ref b) H2 _ (.ow true) (.list acc) As' (eN g1.wf c.sm c.sr.wf) r' fr q2
theorem PTs.imp {ifs:List Expr} {t t':TT} (h:PTs X ifs t) (i:∀ σ H Q,t' σ H Q→t σ H Q):PTs X ifs t':=fun pins s σ H Q I q=>h pins s σ H Q I (i σ H Q q)
noncomputable abbrev QTs (X:Cx) (K:PySem.W.Frag) (ifs:List Expr) (t:WT):Prop:=PTs X ifs (tpT K t)
theorem gQ:QTs X K [] wYes:=PTs.imp xP fun σ H Qv hx=>ex4 hx fun Hs ρ tot Q sr h k=>k true H Hs (Grow.refl sr.wf) h
theorem pq {tg iter elt:Expr} {ifs:List Expr} {scope:Scope} {pos:Pos} {wi:WI} {g:WG} {tc:WT} {te:WE} {tn cn:List Str} {ix:List Nat} (hc:X.calm=true) (hi:QIb X K tg iter wi) (O:cO X scope tn cn ix)
  (hg:∀ C fp s₃ H₃,QG (a_ X scope C (tn++cn) fp s₃ H₃) K tg g) (hcs:∀ C fp s₃ H₃,QTs (a_ X scope C (tn++cn) fp s₃ H₃) K ifs tc) (he:∀ C fp s₃ H₃,QE (a_ X scope C (tn++cn) fp s₃ H₃) K elt te)
  (hs:∀ x,foldedSetIterable iter X.env x=pure x:=by intro _; rfl):QE X K (.ListComp elt [⟨tg,iter,ifs,0⟩] scope pos) (jP wi g tc te tn.length ix) :=
 PE.imp (yh hc hi O hg hcs he hs) fun σ H Qv h=>lK h
end
theorem cT {g:WG} {tc:WT} {te:WE} (p:D→Bool) (f:D→D) (Iv:Env→Prop):∀ (xs:List D) (ρ:Env) (k:List D→Prop),Iv ρ →
  (∀ x∈xs,∀ ρ,Iv ρ→∀ N1:Env→Prop,∀ N2:Env→D→Prop,(∀ ρ',Iv ρ'→p x=false→N1 ρ')→(∀ ρ',Iv ρ'→p x=true→N2 ρ' (f x))→g x ρ fun ρ1=>tc ρ1 fun b=>if b=true then te ρ1 fun m d=>okEl m d∧N2 ρ1 d else N1 ρ1) →
  k ((xs.filter p).map f)→gq g tc te xs ρ k
 | [],_,k,_,_,h=>h
 | x :: xs,ρ,k,iv,hs,h=>by
  refine hs x List.mem_cons_self ρ iv _ _ (fun ρ' iv' hp=>?_) (fun ρ' iv' hp=>?_)
  ·exact cT p f Iv xs ρ' k iv' (fun y hy=>hs y (List.mem_cons_of_mem _ hy)) (by simpa [hp] using h)
  ·exact cT p f Iv xs ρ' _ iv' (fun y hy=>hs y (List.mem_cons_of_mem _ hy)) (by simpa [hp] using h)
end L2.Q
set_option Elab.async false
set_option linter.all false
set_option maxRecDepth 100000
set_option maxHeartbeats 4000000
namespace L2.Q
open PySem PySem.Spec PyProof.Rows
noncomputable def Upd (K:PySem.W.Frag) (Hs H:Hp) (σ:St) (fl:Bool) (v:V) (up:Bool→D→Env) (As':List Addr):Prop:=∀ Hs2 H2 fl2 d2 As2,Same Hs Hs2→Wf Hs2 H2→(∀ a,Hs a=none→H a≠none→Hs2 a=none)→(fl2=true→fl=true) →
  RepO K Hs2 H2 fl2 d2 v As2→As2≠[]→As2.Nodup→(∀ a∈As2,Hs2 a=none∧(a∈As'∨H a=none))→(∀ a,H a≠none→a∉As'→H2 a=H a)→∃ tot2,SRel K Hs2 (up fl2 d2) σ H2 tot2
structure Place (K:PySem.W.Frag) (Hs H:Hp) (σ:St) (fl:Bool) (d:D) (v:V) (up:Bool→D→Env):Prop where
 ex:∃ As',RepO K Hs H fl d v As'∧As'≠[]∧As'.Nodup∧(∀ a∈As',Hs a=none)∧Upd K Hs H σ fl v up As'
theorem Upd.node {K:PySem.W.Frag} {Hs H Hs2 H2:Hp} {σ:St} {fl fl2:Bool} {up:Bool→D→Env} {a:Addr} {A C:List Addr} {o:HO} {d2:D} (k:Upd K Hs H σ fl (.ref a) up (a :: A)) (g:Grow Hs H Hs2 H2) (own:∀ x∈a :: A,Hs x=none∧H x≠none) (ho:∀ vs,o≠.tup vs) (hf:fl2=true→fl=true)
  (r:RepO K Hs2 (upd H2 a o) fl2 d2 (.ref a) (a :: C)) (nC:C.Nodup) (naC:a∉C) (hC:∀ x∈C,x∈A∨(Hs2 x=none∧H x=none)):∃ tot2,SRel K Hs2 (up fl2 d2) σ (upd H2 a o) tot2:=by
 have hn:∀ x∈a :: A,Hs2 x=none:=fun x hx=>g.hsn (own x hx).1 (own x hx).2
 refine k Hs2 _ fl2 d2 (a :: C) g.sh (v9 g.wf (hn a List.mem_cons_self) ho) (fun b h1 h2=>g.hsn h1 h2) hf r (List.cons_ne_nil _ _) (List.nodup_cons.mpr ⟨naC,nC⟩) (fun b hb=>?_) fun b h1 h2=>?_
 ·rcases List.mem_cons.mp hb with rfl | hb
  ·exact ⟨hn _ List.mem_cons_self,.inl List.mem_cons_self⟩
  ·exact (hC b hb).elim (fun q=>⟨hn b (List.mem_cons_of_mem _ q),.inl (List.mem_cons_of_mem _ q)⟩) fun q=>⟨q.1,.inr q.2⟩
 ·rw [upd_ne fun z=>h2 (by subst z; exact List.mem_cons_self)]
  cases q:H b with
  | none=>exact absurd q h1
  | some o=>exact g.all b o q
noncomputable abbrev WP:=Env→(Bool→D→(Bool→D→Env)→Prop)→Prop
noncomputable def tpP (K:PySem.W.Frag) (t:WP):TE:=fun σ H Qv=>∃ Hs ρ tot Q,SRel K Hs ρ σ H tot∧t ρ Q∧∀ v H' Hs' fl d up,Grow Hs H Hs' H'→Place K Hs' H' σ fl d v up→Q fl d up→Qv v H'
noncomputable abbrev QP (X:Cx) (K:PySem.W.Frag) (e:Expr) (t:WP):Prop:=PE X e (tpP K t)
section
variable {K:PySem.W.Frag} {Hs H Hs' H':Hp} {σ:St} {fl:Bool} {d:D} {v:V} {up:Bool→D→Env}
theorem Place.grow (p:Place K Hs H σ fl d v up) (g:Grow Hs H Hs' H'):Place K Hs' H' σ fl d v up:=by
 obtain ⟨As',r,ne,nd,own,k⟩:=p.ex
 refine ⟨As',r.grow g.sh g.all,ne,nd,fun a h=>g.hsn (own a h) (r.own a h).ne,fun Hs2 H2 fl2 d2 As2 s2 w2 n2 hf r2 ne2 nd2 o2 st=>?_⟩
 refine k Hs2 H2 fl2 d2 As2 (g.sh.trans s2) w2 (fun a h1 h2=>n2 a (g.hsn h1 h2) ?_) hf r2 ne2 nd2 (fun a h=>⟨(o2 a h).1,(o2 a h).2.imp id g.all.free⟩) fun a h1 h2=>?_
 ·cases e:H a with
  | none=>exact absurd e h2
  | some o=>rw [g.all a o e]; exact fun z=>nomatch z
 ·cases e:H a with
  | none=>exact absurd e h1
  | some o =>
   have:=g.all a o e
   rw [← this]
   exact st a (by rw [this]; exact fun z=>nomatch z) h2
theorem RepO.ne2:(∀ {d:D} {v:V} {As:List Addr},RepO K Hs H true d v As→d.flat=false→As≠[])∧∀ {ds:List D} {vs:List V} {As:List Addr},aq K Hs H true ds vs As→flats ds=false→As≠[] :=
 RepO.ind (m1:=fun d _ As=>d.flat=false→As≠[]) (m2:=fun ds _ As=>flats ds=false→As≠[]) (fun _ _ f _ h=>by rw [f rfl] at h; cases h) (fun _ _ _ _ _ _ _ _ _=>List.cons_ne_nil _ _) (fun _ _ _ _ _ _ n _ ih _=>ih n) (fun _ _ _ _ _ _ _ _ _=>List.cons_ne_nil _ _) (fun _ _ _ _ _ _ _ _ _=>List.cons_ne_nil _ _)
  (fun h=>by simp [flats] at h) fun d _ _ _ _ _ _ _ i1 i2 h=>by
   cases e:d.flat with
   | false=>exact fun z=>i1 e (List.append_eq_nil_iff.mp z).1
   | true =>
    simp only [flats,e,Bool.true_and] at h
    exact fun z=>i2 h (List.append_eq_nil_iff.mp z).2
theorem RepO.ne {d:D} {v:V} {As:List Addr} (r:RepO K Hs H true d v As) (h:d.flat=false):As≠[]:=RepO.ne2.1 r h
theorem RepO.nil_of {fl:Bool} {d:D} {v:V} {As:List Addr} (r:RepO K Hs H fl d v As) (h:d.flat=true):As=[]:=by
 cases r with
 | sh _ _=>rfl
 | tup _ _ n _=>simp [D.flat,n] at h
 | _=>simp [D.flat] at h
noncomputable def wpN (i:Nat):WP:=fun ρ Q=>match ρ[i]? with
 | some (some (.ow fl d))=>Q fl d fun fl2 d2=>ρ.set i (some (.ow fl2 d2))
 | _=>False
theorem SR.put {Hs H:Hp} {fl:Bool} {d:D} {ρ:Env} {σ:St} {tot:List Addr} (i:Nat) (s:SR K Hs H ρ σ tot):ρ[i]? = some (some (.ow fl d))→tot.Nodup →
  ∃ (v:V) (As tot':List Addr),σ[i]? = some (some v)∧As≠[]∧RepO K Hs H fl d v As∧As.Sublist tot∧∀ Hs2 H2 fl2 d2 As2,Same Hs Hs2→RepO K Hs2 H2 fl2 d2 v As2→As2≠[]→As2.Nodup→(∀ a∈As2,a∈tot→a∈As)→(∀ a∈tot,a∉As→H2 a=H a) →
   ∃ tot2,tot2.Nodup∧(∀ a∈tot2,a∈tot∨a∈As2)∧SR K Hs2 H2 (ρ.set i (some (.ow fl2 d2))) σ tot2:=by
 induction s generalizing i with
 | nil=>intro e; simp at e
 | @non ρ σ tot o q ih =>
  intro e n
  cases i with
  | zero=>simp at e
  | succ i =>
   obtain ⟨v,As,t,a,b,c,d,g⟩:=ih i (by simpa using e) n
   refine ⟨v,As,t,by simpa using a,b,c,d,fun Hs2 H2 fl2 d2 As2 s2 r2 ne2 nd2 dj st=>?_⟩
   obtain ⟨t2,x,y,z⟩:=g Hs2 H2 fl2 d2 As2 s2 r2 ne2 nd2 dj st
   exact ⟨t2,x,y,.non z⟩
 | sh r q ih =>
  intro e n
  cases i with
  | zero=>simp at e
  | succ i =>
   obtain ⟨v,As,t,a,b,c,d,g⟩:=ih i (by simpa using e) n
   refine ⟨v,As,t,by simpa using a,b,c,d,fun Hs2 H2 fl2 d2 As2 s2 r2 ne2 nd2 dj st=>?_⟩
   obtain ⟨t2,x,y,z⟩:=g Hs2 H2 fl2 d2 As2 s2 r2 ne2 nd2 dj st
   exact ⟨t2,x,y,.sh (r.same s2) z⟩
 | xc q ih =>
  intro e n
  cases i with
  | zero=>simp at e
  | succ i =>
   obtain ⟨v,As,t,a,b,c,d,g⟩:=ih i (by simpa using e) n
   refine ⟨v,As,t,by simpa using a,b,c,d,fun Hs2 H2 fl2 d2 As2 s2 r2 ne2 nd2 dj st=>?_⟩
   obtain ⟨t2,x,y,z⟩:=g Hs2 H2 fl2 d2 As2 s2 r2 ne2 nd2 dj st
   exact ⟨t2,x,y,.xc z⟩
 | @ow ρ σ t2 B fl0 d0 v ne r q ih =>
  intro e n
  obtain ⟨n1,n2,n3⟩:=List.nodup_append.mp n
  cases i with
  | zero =>
   simp at e
   obtain ⟨rfl,rfl⟩:=e
   refine ⟨v,B,t2,rfl,ne,r,List.sublist_append_left _ _,fun Hs2 H2 fl2 d2 As2 s2 r2 ne2 nd2 dj st=>⟨As2++t2,List.nodup_append.mpr ⟨nd2,n2,fun a ha b hb e=>?_⟩,fun a h=>?_,.ow ne2 r2 (q.stay s2 fun a h=>st a (List.mem_append_right _ h) fun z=>n3 a z a h rfl)⟩⟩
   ·subst e
    exact n3 a (dj a ha (List.mem_append_right _ hb)) a hb rfl
   ·exact (List.mem_append.mp h).symm.imp (fun z=>List.mem_append_right _ z) id
  | succ i =>
   obtain ⟨v,As,t,a,b,c,d,g⟩:=ih i (by simpa using e) n2
   have hB:∀ x∈B,x∉As:=fun x hx m=>n3 x hx x (d.subset m) rfl
   refine ⟨v,As,B++t,by simpa using a,b,c,d.trans (List.sublist_append_right _ _),fun Hs2 H2 fl2 d2 As2 s2 r2 ne2 nd2 dj st=>?_⟩
   obtain ⟨t2,x,y,z⟩:=g Hs2 H2 fl2 d2 As2 s2 r2 ne2 nd2 (fun a ha m=>dj a ha (List.mem_append_right _ m)) fun a ha m=>st a (List.mem_append_right _ ha) m
   refine ⟨B++t2,List.nodup_append.mpr ⟨n1,x,fun a ha b hb e=>?_⟩,fun a h=>?_,.ow ne (r.stay s2 fun a h=>st a (List.mem_append_left _ h) (hB a h)) z⟩
   ·subst e
    rcases y a hb with w | w
    ·exact n3 a ha a w rfl
    ·exact hB a ha (dj a w (List.mem_append_left _ ha))
   ·rcases List.mem_append.mp h with w | w
    ·exact .inl (List.mem_append_left _ w)
    ·exact (y a w).imp (fun w=>List.mem_append_right _ w) id
 | @lk ρ σ t2 B a0 fl0 d0 ne r q ih =>
  intro e n
  obtain ⟨n1,n2,n3⟩:=List.nodup_append.mp n
  cases i with
  | zero=>simp at e
  | succ i =>
   obtain ⟨v,As,t,a,b,c,d,g⟩:=ih i (by simpa using e) n2
   have hB:∀ x∈B,x∉As:=fun x hx m=>n3 x hx x (d.subset m) rfl
   refine ⟨v,As,B++t,by simpa using a,b,c,d.trans (List.sublist_append_right _ _),fun Hs2 H2 fl2 d2 As2 s2 r2 ne2 nd2 dj st=>?_⟩
   obtain ⟨t2,x,y,z⟩:=g Hs2 H2 fl2 d2 As2 s2 r2 ne2 nd2 (fun a ha m=>dj a ha (List.mem_append_right _ m)) fun a ha m=>st a (List.mem_append_right _ ha) m
   refine ⟨B++t2,List.nodup_append.mpr ⟨n1,x,fun a ha b hb e=>?_⟩,fun a h=>?_,.lk ne (r.stay s2 fun a h=>st a (List.mem_append_left _ h) (hB a h)) z⟩
   ·subst e
    rcases y a hb with w | w
    ·exact n3 a ha a w rfl
    ·exact hB a ha (dj a w (List.mem_append_left _ ha))
   ·rcases List.mem_append.mp h with w | w
    ·exact .inl (List.mem_append_left _ w)
    ·exact (y a w).imp (fun w=>List.mem_append_right _ w) id
theorem cu {X:Cx} {i:Nat} {e:Expr} (h:PE X e (tVar i)):QP X K e (wpN i):=PE.imp h fun σ H Qv hx=>ex4 hx fun Hs ρ tot Q sr h f=>by
 unfold wpN at h
 split at h
 ·rename_i fl d e1
  obtain ⟨v,As,t,e2,ne,r,sb,g⟩:=SR.put i sr.sr e1 sr.nod
  refine ⟨v,e2,f v H Hs fl d _ (Grow.refl sr.wf) ⟨As,r,ne,sb.nodup sr.nod,fun a h=>sr.own a (sb.subset h),fun Hs2 H2 fl2 d2 As2 s2 w2 n2 _ r2 ne2 nd2 o2 st=>?_⟩ h⟩
  obtain ⟨t2,x,y,z⟩:=g Hs2 H2 fl2 d2 As2 s2 r2 ne2 nd2 (fun a ha m=>(o2 a ha).2.elim id fun q=>absurd q (sr.sr.own a m).ne) fun a ha m=>st a (sr.sr.own a ha).ne m
  exact ⟨t2,z,w2,x,fun a h=>(y a h).elim (fun q=>n2 a (sr.own a q) (sr.sr.own a q).ne) fun q=>(o2 a q).1⟩
 ·exact h.elim
theorem RepO.wk {fl fl2:Bool} {d:D} {v:V} {As:List Addr} (h:fl2=true→fl=true) (r:RepO K Hs H fl d v As):RepO K Hs H fl2 d v As:=by
 cases fl2 with
 | false=>exact r.fls
 | true=>rw [h rfl] at r; exact r
theorem aq.wk {fl fl2:Bool} {d:List D} {v:List V} {As:List Addr} (h:fl2=true→fl=true) (r:aq K Hs H fl d v As):aq K Hs H fl2 d v As:=by
 cases fl2 with
 | false=>exact r.fls
 | true=>rw [h rfl] at r; exact r
theorem aq.at {fl:Bool} {ds:List D} {vs:List V} {As:List Addr} {j:Nat} {d:D} (r:aq K Hs H fl ds vs As) (e:ds[j]? = some d) (n:As.Nodup) :
  ∃ (v:V) (B:List Addr),vs[j]? = some v∧RepO K Hs H fl d v B∧B.Sublist As∧∀ Hs2 H2 fl2 d2 B2,Same Hs Hs2→(fl2=true→fl=true)→RepO K Hs2 H2 fl2 d2 v B2→B2.Nodup→(∀ a∈B2,a∈As→a∈B)→(∀ a∈As,a∉B→H2 a=H a) →
   ∃ As2,As2.Nodup∧(∀ a∈As2,(a∈As∧a∉B)∨a∈B2)∧(B2≠[]→As2≠[])∧aq K Hs2 H2 fl2 (ds.set j d2) vs As2:=by
 induction ds generalizing vs As j with
 | nil=>simp at e
 | cons x ds ih =>
  obtain ⟨v,us,A,B,rfl,rfl,r,rs⟩:=r.c
  obtain ⟨n1,n2,n3⟩:=List.nodup_append.mp n
  cases j with
  | zero =>
   simp at e
   subst e
   refine ⟨v,A,rfl,r,List.sublist_append_left _ _,fun Hs2 H2 fl2 d2 B2 s2 hf r2 nd2 dj st=>⟨B2++B,List.nodup_append.mpr ⟨nd2,n2,fun a ha b hb e=>?_⟩,fun a h=>?_,fun ne z=>ne (List.append_eq_nil_iff.mp z).1,.cons r2 ((rs.wk hf).stay s2 fun a h=>st a (List.mem_append_right _ h) fun z=>n3 a z a h rfl)⟩⟩
   ·subst e
    exact n3 a (dj a ha (List.mem_append_right _ hb)) a hb rfl
   ·rcases List.mem_append.mp h with w | w
    ·exact .inr w
    ·exact .inl ⟨List.mem_append_right _ w,fun z=>n3 a z a w rfl⟩
  | succ j =>
   obtain ⟨v,C,a,b,c,g⟩:=ih (j:=j) rs (by simpa using e) n2
   have hA:∀ x∈A,x∉C:=fun x hx m=>n3 x hx x (c.subset m) rfl
   refine ⟨v,C,by simpa using a,b,c.trans (List.sublist_append_right _ _),fun Hs2 H2 fl2 d2 B2 s2 hf r2 nd2 dj st=>?_⟩
   obtain ⟨As2,x,y,w,z⟩:=g Hs2 H2 fl2 d2 B2 s2 hf r2 nd2 (fun a ha m=>dj a ha (List.mem_append_right _ m)) fun a ha m=>st a (List.mem_append_right _ ha) m
   refine ⟨A++As2,List.nodup_append.mpr ⟨n1,x,fun a ha b hb e=>?_⟩,fun a h=>?_,fun ne q=>w ne (List.append_eq_nil_iff.mp q).2,.cons ((r.wk hf).stay s2 fun a h=>st a (List.mem_append_left _ h) (hA a h)) z⟩
   ·subst e
    rcases y a hb with q | q
    ·exact n3 a ha a q.1 rfl
    ·exact hA a ha (dj a q (List.mem_append_left _ ha))
   ·rcases List.mem_append.mp h with q | q
    ·exact .inl ⟨List.mem_append_left _ q,hA a q⟩
    ·exact (y a q).imp (fun q=>⟨List.mem_append_right _ q.1,q.2⟩) id
noncomputable def wpIx (p:WP) (t:WE):WP:=fun ρ Q=>p ρ fun fl d up=>t ρ fun _ y=>fl=true∧match y with
 | .int i=>match d with
  | .list ds=>∃ j d',ixN ds.length i=some j∧ds[j]? = some d'∧d'.flat=false∧Q true d' fun fl2 d2=>up fl2 (.list (ds.set j d2))
  | .tup ds=>∃ j d',ixN ds.length i=some j∧ds[j]? = some d'∧d'.flat=false∧Q true d' fun fl2 d2=>up fl2 (.tup (ds.set j d2))
  | _=>False
 | _=>False
theorem zB {α:Type} {xs:List α} {i:Int} {j:Nat} {x:α} (h:ixN xs.length i=some j) (e:xs[j]? = some x):atI xs i=some x:=by unfold L2.atI; rw [h]; exact e
theorem uT {ds:List D} {j:Nat} {d:D} (e:ds[j]? = some d) (h:d.flat=false):flats ds=false:=by
 cases q:flats ds with
 | false=>rfl
 | true=>rw [gR.mp q d (List.mem_of_getElem? e)] at h; cases h
theorem rB {ds:List D} {j:Nat} {d d2:D} (e:ds[j]? = some d) (h:d2.flat=false):flats (ds.set j d2)=false:=by
 have hj:j<ds.length:=(List.getElem?_eq_some_iff.mp e).1
 exact uT (j:=j) (d:=d2) (by simp [hj]) h
theorem A_ {X:Cx} {a b:Expr} {p:WP} {t:WE} {pos:Pos} (hu:X.A.units+64<cLine) (ha:QP X K a p) (hb:QE X K b t) (hs:PlainIx b:=by exact fun _ _=>rfl) (hK:X.K=K:=by rfl):QP X K (.Subscript a b pos) (wpIx p t):=by
 refine PE.imp (pe_ix (kIxD hu hK) ha hb hs) fun σ H Qv hx=>ex4 hx fun Hs ρ tot Q sr h f=>?_
 refine ⟨Hs,ρ,tot,_,sr,h,fun v H1 Hs1 fl d up g1 p1 q1=>⟨Hs1,ρ,tot,_,sr.grow g1,q1,fun u H2 Hs2 m y As g2 r2 f2 q2=>?_⟩⟩
 have p2:=p1.grow g2
 have gg:=g1.trans g2
 obtain ⟨rfl,q2⟩:=q2
 have ry:=r2.rep g2.wf
 cases ry with
 | int i =>
  obtain ⟨As',r,ne,nd,own,k⟩:=p2.ex
  cases r with
  | sh hf _=>exact absurd rfl ne
  | @list a0 vs0 ds0 A0 hz e rs =>
   obtain ⟨j,d',e1,e2,hd,q⟩:=q2
   obtain ⟨na,nb⟩:=List.nodup_cons.mp nd
   obtain ⟨w,B,e3,r3,sb,g⟩:=rs.at e2 nb
   refine .inl (.inl ⟨_,w,.inl (.inl e),zB (by rw [← rs.length]; exact e1) e3,f w H2 Hs2 true d' _ gg ⟨B,r3,r3.ne hd,sb.nodup nb,fun a h=>own a (List.mem_cons_of_mem _ (sb.subset h)),fun Hs3 H3 fl3 d3 As3 s3 w3 n3 hf r4 ne3 nd3 o3 st=>?_⟩ q⟩)
   have st':∀ x∈A0,x∉B→H3 x=H2 x:=fun x hx m=>st x (rs.own x hx).ne m
   obtain ⟨As4,x4,y4,z4,r5⟩:=g Hs3 H3 fl3 d3 As3 s3 hf r4 nd3 (fun a ha m=>(o3 a ha).2.elim id fun q=>absurd q (rs.own a m).ne) st'
   have eA:H3 a0=H2 a0:=st a0 (by rw [e]; exact fun z=>nomatch z) fun m=>na (sb.subset m)
   have cl:∀ a∈As4,Hs3 a=none∧(a∈a0 :: A0∨H2 a=none):=fun a h=>by
    rcases y4 a h with ⟨m,_⟩ | m
    ·exact ⟨n3 a (own a (List.mem_cons_of_mem _ m)) (rs.own a m).ne,.inl (List.mem_cons_of_mem _ m)⟩
    ·exact ⟨(o3 a m).1,(o3 a m).2.imp (fun q=>List.mem_cons_of_mem _ (sb.subset q)) id⟩
   refine k Hs3 H3 fl3 (.list _) (_ :: As4) s3 w3 n3 hf (.list hz (eA.trans e) r5) (by simp) (List.nodup_cons.mpr ⟨fun m=>?_,x4⟩) (fun a h=>?_) fun a h1 h2=>st a h1 fun m=>h2 (List.mem_cons_of_mem _ (sb.subset m))
   ·rcases y4 _ m with ⟨q,_⟩ | q
    ·exact na q
    ·rcases (o3 _ q).2 with q | q
     ·exact na (sb.subset q)
     ·rw [e] at q; cases q
   ·rcases List.mem_cons.mp h with rfl | h
    ·exact ⟨n3 _ (own _ List.mem_cons_self) (by rw [e]; exact fun z=>nomatch z),.inl List.mem_cons_self⟩
    ·exact cl a h
  | tup hz e hn rs =>
   obtain ⟨j,d',e1,e2,hd,q⟩:=q2
   obtain ⟨w,B,e3,r3,sb,g⟩:=rs.at e2 nd
   refine .inl (.inr ⟨_,w,.inl (.inl (g2.wf.sub _ _ e)),zB (by rw [← rs.length]; exact e1) e3,f w H2 Hs2 true d' _ gg ⟨B,r3,r3.ne hd,sb.nodup nd,fun a h=>own a (sb.subset h),fun Hs3 H3 fl3 d3 As3 s3 w3 n3 hf r4 ne3 nd3 o3 st=>?_⟩ q⟩)
   obtain ⟨As4,x4,y4,z4,r5⟩:=g Hs3 H3 fl3 d3 As3 s3 hf r4 nd3 (fun a ha m=>(o3 a ha).2.elim id fun q=>absurd q (rs.own a m).ne) (fun x hx m=>st x (rs.own x hx).ne m)
   have hn2:flats (List.set _ j d3)=false:=rB e2 (by
    cases hh:d3.flat with
    | false=>rfl
    | true=>exact absurd (r4.nil_of hh) ne3)
   refine k Hs3 H3 fl3 (.tup _) As4 s3 w3 n3 hf (.tup hz (s3 _ _ e) hn2 r5) (z4 ne3) x4 (fun a h=>?_) fun a h1 h2=>st a h1 fun m=>h2 (sb.subset m)
   rcases y4 a h with ⟨m,_⟩ | m
   ·exact ⟨n3 a (own a m) (rs.own a m).ne,.inl m⟩
   ·exact ⟨(o3 a m).1,(o3 a m).2.imp (fun q=>sb.subset q) id⟩
  | _=>exact q2.elim
 | _=>exact q2.elim
end
section
variable {X:Cx} {K:PySem.W.Frag} {e:Expr} {p:WP} {te:WE} {apos cpos pos:Pos}
noncomputable def jB (fl:Bool) (m:Md) (d:D):Option Bool:=match m with
 | .sh=>some (fl && d.flat)
 | .ow b=>some (fl && b)
 | .bo=>bif d.flat then some fl else none
noncomputable def wApp (p:WP) (te:WE):WS:=fun E ρ=>p ρ fun fl d up=>match d with
 | .list xs=>te ρ fun m x=>xs.length<sizeLine∧match jB fl m x with
  | some fl2=>E.nx (up fl2 (.list (xs++[x])))
  | none=>False
 | _=>False
theorem uR {Hs H:Hp} {fl fl2:Bool} {m:Md} {d:D} {v:V} {As:List Addr} (w:Wf Hs H) (r:RM K Hs H m d v As) (h:jB fl m d=some fl2):(fl2=true→fl=true)∧∃ B,B.Sublist As∧RepO K Hs H fl2 d v B:=by
 cases m with
 | sh =>
  cases h
  exact ⟨fun z=>by cases fl <;> simp_all,[],List.nil_sublist _,.sh (fun z=>by cases fl <;> simp_all) r.2⟩
 | ow b =>
  cases h
  refine ⟨fun z=>by cases fl <;> simp_all,As,List.Sublist.refl _,r.1.wk fun z=>by cases fl <;> simp_all⟩
 | bo =>
  cases hf:d.flat with
  | true =>
   simp only [jB,hf,cond_true,Option.some.injEq] at h
   subst h
   exact ⟨id,[],List.nil_sublist _,.sh (fun _=>hf) (r.flat w hf)⟩
  | false=>simp [jB,hf] at h
theorem Place.put {Hs1 H1 Hs2 H2:Hp} {σ:St} {fl:Bool} {xs:List D} {v:V} {up:Bool→D→Env} (pl:Place K Hs1 H1 σ fl (.list xs) v up) (g:Grow Hs1 H1 Hs2 H2) :
  ∃ a vs A,v=.ref a∧H2 a=some (.lst vs)∧H1 a=some (.lst vs)∧aq K Hs2 H2 fl xs vs A∧(a :: A).Nodup∧(∀ x∈a :: A,Hs2 x=none∧H1 x≠none) ∧
   ∀ fl2 ys ws C,(fl2=true→fl=true)→aq K Hs2 H2 fl2 ys ws C→ws.length≤sizeLine→C.Nodup→a∉C→(∀ x∈C,x∈A∨(Hs2 x=none∧H1 x=none))→∃ tot2,SRel K Hs2 (up fl2 (.list ys)) σ (upd H2 a (.lst ws)) tot2:=by
 obtain ⟨As',r,ne,nd,own,k⟩:=pl.ex
 cases r with
 | sh hf _=>exact absurd rfl ne
 | @list a vs _ A hz e rs =>
  have e2:=g.all _ _ e
  have rs2:=rs.grow g.sh g.all
  have hw:∀ x∈a :: A,Hs1 x=none∧H1 x≠none:=fun x hx=>⟨own x hx,by
   rcases List.mem_cons.mp hx with rfl | hx
   ·rw [e]; exact fun z=>nomatch z
   ·exact (rs.own x hx).ne⟩
  exact ⟨a,vs,A,rfl,e2,e,rs2,nd,fun x hx=>⟨g.hsn (hw x hx).1 (hw x hx).2,(hw x hx).2⟩,fun fl2 ys ws C hf rw' hz ndC naC hC=>k.node g hw (fun _ z=>by cases z) hf (.list hz upd_same (rw'.stay (Same.refl _) fun b hb=>upd_ne fun z=>naC (by subst z; exact hb))) ndC naC hC⟩
theorem Place.isL {Hs1 H1:Hp} {σ:St} {fl:Bool} {xs:List D} {v:V} {up:Bool→D→Env} (w:Wf Hs1 H1) (pl:Place K Hs1 H1 σ fl (.list xs) v up):∃ a vs,v=.ref a∧SqL K H1 a vs:=by
 obtain ⟨As',r,ne,nd,own,k⟩:=pl.ex
 cases r with
 | sh hf _=>exact absurd rfl ne
 | list hz e rs=>exact ⟨_,_,rfl,.inl (.inl e)⟩
theorem mR (ho:QP X K e p) {e2:Expr} (he:QE X K e2 te) (hK:X.K=K:=by rfl) (hs:swapsWith (.Call (.Attribute e "append" apos) [e2] [] cpos) none pos.line X.env=pure false:=by rfl)
  (hbase:attributeBase e "append" X.env (eval e X.env)=eval e X.env:=by rfl)
  (hfew:((backTo cpos (starEach [e2] X.env)).all (fun x=>!x.1) && (backToKw cpos (keywordEach [] X.env)).all (fun x=>x.1.isSome)
   && decide ([e2].length+([]:List Keyword).length+(if ([]:List Keyword).isEmpty then 0 else 1)<30))=true:=by rfl)
  (hline:(apos.endLine == cpos.line)=true:=by rfl) (hss:starEach (e2 :: []) X.env=(false,eval e2 X.env) :: starEach [] X.env:=by rfl) (hplain:(backTo cpos (starEach [] X.env)).any (·.1)=false:=by rfl) :
  QS X K L (.Expr (.Call (.Attribute e "append" apos) [e2] [] cpos) pos) (wApp p te):=by
 subst hK
 refine PS.imp (ps_expr (pe_bm PySem.F.plainAttrs_list PySem.F.slot_list_append PySem.F.type_list_append mt_append ho (pa_cons he pa_nil hss) hbase hfew hline hss hplain) hs) fun D σ H hx=>dH hx fun Hs ρ tot E sr h k1 k2 k3 k4=>?_
 refine ⟨Hs,ρ,tot,_,sr,h,fun v H1 Hs1 fl d up g1 p1 q1=>?_⟩
 cases d with
 | list xs =>
  obtain ⟨a1,vs1,e1,s1⟩:=p1.isL g1.wf
  subst e1
  refine ⟨.inl ⟨rfl,_,s1⟩,Hs1,ρ,tot,_,sr.grow g1,q1,fun y H2 Hs2 m x As g2 r2 f2 q2=>?_⟩
  obtain ⟨hz,q2⟩:=q2
  obtain ⟨a,vs,A,ea,e2,_,rs,nd,hn,k⟩:=p1.put g2
  cases ea
  have hl:=rs.length
  refine ⟨a1,vs,y,rfl,rfl,e2,by walk_at "l",?_⟩
  cases hp:jB fl m x with
  | none=>rw [hp] at q2; exact q2.elim
  | some fl2 =>
   rw [hp] at q2
   obtain ⟨hf,B,sb,rb⟩:=uR g2.wf r2 hp
   obtain ⟨na,nA⟩:=List.nodup_cons.mp nd
   have fB:∀ x∈B,Hs2 x=none∧H1 x=none:=fun x hx=>f2.2 x (sb.subset hx)
   have c1:(A++(B++[])).Nodup:=by
    rw [List.append_nil]
    exact List.nodup_append.mpr ⟨nA,sb.nodup f2.1,fun x hx z hz e=>by subst e; exact (hn x (List.mem_cons_of_mem _ hx)).2 (fB x hz).2⟩
   have c2:a1∉A++(B++[]):=by
    rw [List.append_nil]
    intro m
    rcases List.mem_append.mp m with m | m
    ·exact na m
    ·exact (hn _ List.mem_cons_self).2 (fB _ m).2
   have c3:∀ x∈A++(B++[]),x∈A∨(Hs2 x=none∧H1 x=none):=by
    rw [List.append_nil]
    intro x hx
    exact (List.mem_append.mp hx).imp id fun z=>fB x z
   obtain ⟨tot2,sr2⟩:=k fl2 (xs++[x]) (vs++[y]) (A++(B++[])) hf ((rs.wk hf).append (.cons rb .nil)) (by rw [List.length_append]; simp; walk_at "l") c1 c2 c3
   exact k1 σ _ Hs2 _ tot2 (g1.sh.trans g2.sh) sr2 q2
 | _=>exact q1.elim
noncomputable def lY (p:WP):WS:=fun E ρ=>p ρ fun fl d up=>match d with
 | .list xs=>E.nx (up fl (.list []))
 | _=>False
theorem pG (ho:QP X K e p) (hK:X.K=K:=by rfl) (hs:swapsWith (.Call (.Attribute e "clear" apos) [] [] cpos) none pos.line X.env=pure false:=by rfl)
  (hbase:attributeBase e "clear" X.env (eval e X.env)=eval e X.env:=by rfl) (hline:(apos.endLine == cpos.line)=true:=by rfl):QS X K L (.Expr (.Call (.Attribute e "clear" apos) [] [] cpos) pos) (lY p):=by
 subst hK
 refine PS.imp (ps_expr (pe_bm0 PySem.F.plainAttrs_list PySem.F.slot_list_clear PySem.F.type_list_clear mt_clear ho hbase hline) hs) fun D σ H hx=>dH hx fun Hs ρ tot E sr h k1 k2 k3 k4=>?_
 refine ⟨Hs,ρ,tot,_,sr,h,fun v H1 Hs1 fl d up g1 p1 q1=>?_⟩
 cases d with
 | list xs =>
  obtain ⟨a,vs,A,ea,e2,_,rs,nd,hn,k⟩:=p1.put (Grow.refl g1.wf)
  subst ea
  refine ⟨.inl ⟨rfl,_,.inl (.inl e2)⟩,a,vs,rfl,rfl,e2,?_⟩
  obtain ⟨tot2,sr2⟩:=k fl [] [] [] id .nil (Nat.zero_le _) List.nodup_nil (by simp) (fun x hx=>nomatch hx)
  exact k1 σ _ Hs1 _ tot2 g1.sh sr2 q1
 | _=>exact q1.elim
noncomputable def tL:WE:=fun _ Q=>Q (.ow true) (.dK [])
theorem yI:QE X K (.Dict [] [] pos) tL:=PE.imp pe_dnewK fun σ H Qv hx=>ex4 hx fun Hs ρ tot Q sr h f=>fun a ha =>
 f _ _ Hs (.ow true) (.dK []) [a] (newL sr.wf ha fun _ z=>nomatch z) ⟨.dK (vs:=[]) ⟨Nat.zero_le _,fun p hp=>nomatch hp⟩ upd_same .nil,by simp⟩ ⟨by simp,fun b hb=>by
  obtain rfl:b=a:=by simpa using hb
  exact ⟨sr.wf.sub.free ha,ha⟩⟩ h
section
variable {κ:Type} [DecidableEq κ]
theorem sI {Hs H:Hp} {fl:Bool} {k:κ} {d:D} {v:V} (r:RepO K Hs H fl d v []) {kvs:List (κ × D)} {vs:List V} {As:List Addr} (qs:aq K Hs H fl (kvs.map (·.2)) vs As):∃ ws Bs,Bs.Sublist As ∧
  aq K Hs H fl ((kvs.map fun kv=>if kv.1=k then (kv.1,d) else kv).map (·.2)) ws Bs∧((kvs.map (·.1)).zip vs).map (fun kv=>if kv.1=k then (kv.1,v) else kv)=(((kvs.map fun kv=>if kv.1=k then (kv.1,d) else kv)).map (·.1)).zip ws:=by
 induction kvs generalizing vs As with
 | nil=>exact ⟨[],[],List.nil_sublist _,.nil,rfl⟩
 | cons p kvs ih =>
  obtain ⟨u,vs,A,B,rfl,rfl,q,qs⟩:=aq.c (d:=p.2) qs
  obtain ⟨ws,Bs,sb,rs,e⟩:=ih qs
  by_cases h:p.1=k
  ·refine ⟨v :: ws,[]++Bs,by simpa using sb.trans (List.sublist_append_right _ _),?_,?_⟩
   ·simp only [List.map_cons,h,if_true]
    exact .cons r rs
   ·simp only [List.map_cons,List.zip_cons_cons,h,if_true,e]
  ·refine ⟨u :: ws,A++Bs,sb.append_left _,?_,?_⟩
   ·simp only [List.map_cons,h,if_false]
    exact .cons q rs
   ·simp only [List.map_cons,List.zip_cons_cons,h,if_false,e]
theorem uQ {Hs H:Hp} {fl:Bool} {k:κ} {d:D} {v:V} (r:RepO K Hs H fl d v []) {kvs:List (κ × D)} {vs:List V} {As:List Addr} (q:aq K Hs H fl (kvs.map (·.2)) vs As) :
  ∃ ws Bs,Bs.Sublist As∧aq K Hs H fl ((putG kvs k d).map (·.2)) ws Bs∧putK ((kvs.map (·.1)).zip vs) k v=((putG kvs k d).map (·.1)).zip ws:=by
 have hl:=q.length
 rw [List.length_map] at hl
 unfold putK putG
 rw [xf hl]
 cases h:kvs.any fun kv=>decide (kv.1=k) with
 | true =>
  simp only [if_true]
  exact sI r q
 | false =>
  simp only [Bool.false_eq_true,if_false]
  refine ⟨vs++[v],As++([]++[]),by simp,?_,?_⟩
  ·rw [List.map_append]
   exact q.append (.cons r .nil)
  ·rw [List.map_append,List.zip_append (by rw [List.length_map]; exact hl)]
   rfl
theorem yG {Hs H:Hp} {fl:Bool} {k:κ} {d:D} {v:V} (r:Rep K Hs d v) (hd:d.flat=true) {kvs:List (κ × D)} {vs:List V} {As:List Addr} (q:aq K Hs H fl (kvs.map (·.2)) vs As) :
  ∃ ws Bs,Bs.Sublist As∧aq K Hs H fl ((putG kvs k d).map (·.2)) ws Bs∧putK ((kvs.map (·.1)).zip vs) k v=((putG kvs k d).map (·.1)).zip ws:=uQ (.sh (fun _=>hd) r) q
theorem pI {β:Type} (kvs:List (κ × β)) (k:κ) (v:β):(putG kvs k v).length≤kvs.length+1:=by
 unfold putG
 split
 ·rw [List.length_map]; exact Nat.le_add_right _ _
 ·simp
theorem u_ {β:Type} {kvs:List (κ × β)} {k:κ} {v:β} {p:κ × β} (h:p∈putG kvs k v):p.1=k∨p.1∈kvs.map (·.1):=by
 unfold putG at h
 split at h
 ·obtain ⟨q,hq,e⟩:=List.mem_map.mp h
  by_cases hk:q.1=k
  ·rw [if_pos hk] at e; subst e; exact .inl hk
  ·rw [if_neg hk] at e; subst e; exact .inr (List.mem_map.mpr ⟨q,hq,rfl⟩)
 ·rcases List.mem_append.mp h with h | h
  ·exact .inr (List.mem_map.mpr ⟨p,h,rfl⟩)
  ·have:p=(k,v):=by simpa using h
   subst this; exact .inl rfl
end
theorem ym {H:Hp} {d:D} {v:V} {k:Key} (r:Rep K H d v) (h:d.key1=some k):kOk k=true:=by
 cases r <;> simp [D.key1] at h <;> subst h
 ·rfl
 ·rename_i hz; simp [kOk,hz]
end
end L2.Q
set_option Elab.async false
set_option linter.all false
set_option maxRecDepth 100000
set_option maxHeartbeats 4000000
namespace L2.Q
open PySem PySem.Spec PyProof.Rows
noncomputable abbrev WJ:=Env→Str→(Str→Prop)→Prop
section
variable {X:Cx} {K:PySem.W.Frag} {e v₁ v₂:Expr} {es rest:List Expr} {te:WE} {j:WJ} {pos:Pos}
noncomputable def gY:List D→Option (List Str)
 | []=>some []
 | .str x :: xs=>(gY xs).map (x :: ·)
 | _ :: _=>none
noncomputable def pL (to te:WE):WE:=fun ρ Q=>to ρ fun _ x=>match x with
 | .str z=>te ρ fun _ y=>match y with
  | .list ys=>∃ zs,gY ys=some zs∧(zs.map (·.length)).sum+zs.length * z.length≤16777216∧Q .sh (.str (Str.join z zs))
  | _=>False
 | _=>False
theorem uP {H:Hp} {ds:List D} {vs:List V} {us:List Value} {zs:List Str} (r:Reps K H ds vs) (q:Vals vs us) (h:gY ds=some zs):StrsAre us zs:=by
 induction ds generalizing vs us zs with
 | nil =>
  simp [gY] at h
  subst h
  have:=r.n0
  subst this
  rw [Paired.n0 q]; exact .nil
 | cons d ds ih =>
  obtain ⟨v,vs,rfl,r1,rs⟩:=r.c
  obtain ⟨u,us,rfl,q1,qs⟩:=Paired.c q
  cases r1 with
  | str hz =>
   simp only [gY] at h
   cases e:gY ds with
   | none=>rw [e] at h; cases h
   | some ys =>
    rw [e] at h
    cases h
    obtain ⟨t,rfl⟩:=q1
    exact .cons _ t (ih rs qs e)
  | _=>simp [gY] at h
theorem yN (hK:X.K=K:=by rfl):MtR X "str.join" (fun x xs H Q=>∃ z a ds vs zs,x=.str z∧xs=[.ref a]∧SqL K H a vs∧Reps K H ds vs∧gY ds=some zs∧(zs.map (·.length)).sum+zs.length * z.length≤16777216∧Q (.str (Str.join z zs)) H):=by
 subst hK
 intro pins s σ H x xs v us Q I rx rs h
 obtain ⟨z,a,ds,vs,zs,rfl,rfl,hs,rr,e,hz,q⟩:=h
 obtain ⟨t,rfl⟩:=rx
 obtain ⟨u,rfl,ru⟩:=Vals.one rs
 cases ru
 obtain ⟨its,rv,pl,_⟩:=I.list hs
 exact join_list pl.isList (by simpa using uP rr rv e) hz fun t' k=>⟨.str _,H,I.tok _,⟨t',rfl⟩,by rw [show Txt.join z zs=Str.join z zs from StrLaws.glued_eq_join z zs]; exact q⟩
theorem pO {z:Str}:∀ {zs:List Str},(Str.join z zs).length≤(zs.map (·.length)).sum+zs.length * z.length
 | []=>by show Str.empty.length≤_; exact Nat.le_trans (show Str.empty.length≤0 by decide) (Nat.zero_le _)
 | [x]=>by simp [Str.join]
 | x :: y :: r=>by
  have ih:=pO (z:=z) (zs:=y :: r)
  show (x++z++Str.join z (y :: r)).length≤_
  rw [bC,bC]
  simp only [List.map_cons,List.sum_cons,List.length_cons,Nat.add_mul,Nat.one_mul] at ih ⊢
  walk_at "l"
theorem Bf {o:Expr} {to:WE} {apos cpos:Pos} (ho:QE X K o to) (he:QE X K e te) (hK:X.K=K:=by rfl)
  (hbase:attributeBase o "join" X.env (eval o X.env)=eval o X.env:=by rfl)
  (hfew:((backTo cpos (starEach [e] X.env)).all (fun x=>!x.1) && (backToKw cpos (keywordEach [] X.env)).all (fun x=>x.1.isSome)
   && decide ([e].length+([]:List Keyword).length+(if ([]:List Keyword).isEmpty then 0 else 1)<30))=true:=by rfl)
  (hline:(apos.endLine == cpos.line)=true:=by rfl) (hss:starEach (e :: []) X.env=(false,eval e X.env) :: starEach [] X.env:=by rfl) (hplain:(backTo cpos (starEach [] X.env)).any (·.1)=false:=by rfl) :
  QE X K (.Call (.Attribute o "join" apos) [e] [] cpos) (pL to te):=by
 subst hK
 refine PE.imp (pe_bm PySem.F.plainAttrs_str PySem.F.slot_str_join PySem.F.type_str_join yN ho (pa_cons he pa_nil hss) hbase hfew hline hss hplain) fun σ H Qv hx=>ex4 hx fun Hs ρ tot Q sr h f=>?_
 refine ⟨Hs,ρ,tot,_,sr,h,fun v H1 Hs1 m x As g1 r1 f1 q1=>?_⟩
 have r:=r1.rep g1.wf
 cases r with
 | str hz =>
  refine ⟨rfl,Hs1,ρ,tot,_,sr.grow g1,q1,fun y H2 Hs2 m2 x2 As2 g2 r2 f2 q2=>?_⟩
  have rr:=r2.rep g2.wf
  cases rr with
  | list z s rs =>
   obtain ⟨zs,e,hz,q⟩:=q2
   exact ⟨_,_,_,_,zs,rfl,rfl,s,rs,e,hz,Fin.sh (Fin.after f (g1.trans g2)) g2.wf (.str (Nat.le_trans pO (by rw [sizeLine_eq]; exact hz))) q⟩
  | _=>exact q2.elim
 | _=>exact q1.elim
noncomputable def keyT (k:List Key):D:=.tup (k.map keyD)
noncomputable def Fz:W1:=fun _ x Q=>match x with
 | .list xs=>∃ ks sh,xs=ks.map keyT∧(∀ k∈ks,shOf k=true :: sh)∧∀ ms:List (List Key),ms.Perm ks→(ms.Pairwise fun a b=>ltK b a=false)→Q (.ow true) (.list (ms.map keyT))
 | _=>False
theorem xQ {H:Hp} {ks:List Key} {vs:List V} (r:Reps K H (ks.map keyD) vs):vs=ks.map kV∧∀ k∈ks,kOk k=true:=by
 induction ks generalizing vs with
 | nil=>exact ⟨r.n0,fun k h=>nomatch h⟩
 | cons k ks ih =>
  obtain ⟨u,us,rfl,r1,rs⟩:=Reps.c (d:=keyD k) r
  obtain ⟨e,o⟩:=ih rs
  subst e
  cases k with
  | inl i=>cases r1; exact ⟨rfl,fun j hj=>by rcases List.mem_cons.mp hj with rfl | hj; rfl; exact o j hj⟩
  | inr x =>
   cases r1 with
   | str hz=>exact ⟨rfl,fun j hj=>by rcases List.mem_cons.mp hj with rfl | hj; simp [kOk,hz]; exact o j hj⟩
theorem xj {H:Hp} {ks:List (List Key)} {vs:List V} (r:Reps K H (ks.map keyT) vs):cN H vs ks∧∀ k∈ks,k.length≤sizeLine∧∀ j∈k,kOk j=true:=by
 induction ks generalizing vs with
 | nil=>rw [r.n0]; exact ⟨.nil,fun k h=>nomatch h⟩
 | cons k ks ih =>
  obtain ⟨u,us,rfl,r1,rs⟩:=Reps.c (d:=keyT k) r
  obtain ⟨t,o⟩:=ih rs
  cases r1 with
  | tup hz e q =>
   obtain ⟨e2,o2⟩:=xQ q
   subst e2
   exact ⟨.cons ⟨_,rfl,e⟩ t,fun j hj=>by
    rcases List.mem_cons.mp hj with rfl | hj
    ·exact ⟨by simpa using hz,o2⟩
    ·exact o j hj⟩
theorem rE:bootBuiltins "sorted" = some (.builtin "sorted"):=by decide +kernel
end
end L2.Q
set_option Elab.async false
set_option linter.all false
set_option maxRecDepth 100000
set_option maxHeartbeats 4000000
namespace L2.Q
open PySem PySem.Spec PyProof.Rows
noncomputable def shF (A:List Addr) (F:Nat→List Addr):Nat→List Addr
 | 0=>A
 | i+1=>F i
noncomputable def Adr (K:PySem.W.Frag) (Hs H:Hp) (ρ:Env) (σ:St) (tot:List Addr) (F:Nat→List Addr):Prop:=(∀ i fl d,ρ[i]? = some (some (.ow fl d))→∃ v,σ[i]? = some (some v)∧F i≠[]∧RepO K Hs H fl d v (F i)) ∧
  (∀ i,(F i).Sublist tot)∧∀ i j,i≠j→∀ a∈F i,a∉F j
theorem Adr.skip {K:PySem.W.Frag} {Hs H:Hp} {ρ:Env} {σ:St} {tot:List Addr} {F:Nat→List Addr} {o:Option Sl} {u:Option V} (h:Adr K Hs H ρ σ tot F) (no:∀ fl d,o≠some (.ow fl d)):Adr K Hs H (o :: ρ) (u :: σ) tot (shF [] F):=by
 obtain ⟨a,b,c⟩:=h
 refine ⟨fun i fl d e=>?_,fun i=>?_,fun i j ne x hx=>?_⟩
 ·cases i with
  | zero=>simp at e; exact absurd e (no fl d)
  | succ i=>exact a i fl d (by simpa using e)
 ·cases i with
  | zero=>exact List.nil_sublist _
  | succ i=>exact b i
 ·cases i with
  | zero=>exact mem0 hx
  | succ i =>
   cases j with
   | zero=>exact fun z=>mem0 z
   | succ j=>exact c i j (fun z=>ne (by rw [z])) x hx
theorem Adr.own {K:PySem.W.Frag} {Hs H:Hp} {ρ:Env} {σ:St} {tot B:List Addr} {F:Nat→List Addr} {sl:Sl} {v:V} (h:Adr K Hs H ρ σ tot F) (n:(B++tot).Nodup) (hs:∀ fl d,sl=.ow fl d→B≠[]∧RepO K Hs H fl d v B):Adr K Hs H (some sl :: ρ) (some v :: σ) (B++tot) (shF B F):=by
 obtain ⟨a,b,c⟩:=h
 obtain ⟨n1,n2,n3⟩:=List.nodup_append.mp n
 refine ⟨fun i fl d e=>?_,fun i=>?_,fun i j ne x hx=>?_⟩
 ·cases i with
  | zero=>simp at e; exact ⟨v,rfl,hs fl d e⟩
  | succ i=>exact a i fl d (by simpa using e)
 ·cases i with
  | zero=>exact List.sublist_append_left _ _
  | succ i=>exact (b i).trans (List.sublist_append_right _ _)
 ·cases i with
  | zero =>
   cases j with
   | zero=>exact absurd rfl ne
   | succ j=>exact fun z=>n3 x hx x ((b j).subset z) rfl
  | succ i =>
   cases j with
   | zero=>exact fun z=>n3 x z x ((b i).subset hx) rfl
   | succ j=>exact c i j (fun z=>ne (by rw [z])) x hx
theorem SR.addrs {K:PySem.W.Frag} {Hs H:Hp} {ρ:Env} {σ:St} {tot:List Addr} (s:SR K Hs H ρ σ tot):tot.Nodup→∃ F:Nat→List Addr,Adr K Hs H ρ σ tot F:=by
 induction s with
 | nil=>exact fun _=>⟨fun _=>[],fun i fl d e=>by simp at e,fun i=>List.nil_sublist _,fun i j _ a h=>mem0 h⟩
 | non s ih =>
  intro n
  obtain ⟨F,h⟩:=ih n
  exact ⟨_,h.skip fun fl d z=>by cases z⟩
 | sh r s ih =>
  intro n
  obtain ⟨F,h⟩:=ih n
  exact ⟨_,h.skip fun fl d z=>by cases z⟩
 | xc s ih =>
  intro n
  obtain ⟨F,h⟩:=ih n
  exact ⟨_,h.skip fun fl d z=>by cases z⟩
 | ow ne r s ih =>
  intro n
  obtain ⟨F,h⟩:=ih (List.nodup_append.mp n).2.1
  exact ⟨_,h.own n fun fl d e=>by cases e; exact ⟨ne,r⟩⟩
 | lk ne r s ih =>
  intro n
  obtain ⟨F,h⟩:=ih (List.nodup_append.mp n).2.1
  exact ⟨_,h.own n fun fl d e=>by cases e⟩
noncomputable abbrev Plan:=List (WE ⊕ Nat)
noncomputable def mvs:Plan→List Nat
 | []=>[]
 | .inl _ :: r=>mvs r
 | .inr i :: r=>i :: mvs r
noncomputable def movS:Option (Option Sl)→Option (Md × D)
 | some (some (.sh d))=>some (.sh,d)
 | some (some (.ow fl d))=>some (.ow fl,d)
 | _=>none
noncomputable def iM:Plan→Env→(List (Md × D)→Prop)→Prop
 | [],_,Q=>Q []
 | .inl t :: r,ρ,Q=>t ρ fun m x=>iM r ρ fun ps=>Q ((m,x) :: ps)
 | .inr i :: r,ρ,Q=>match movS ρ[i]? with
  | some p=>iM r ρ fun ps=>Q (p :: ps)
  | none=>False
noncomputable def tpM (K:PySem.W.Frag) (pl:Plan):TA:=fun σ H Qv=>∃ (Hs:Hp) (ρ:Env) (tot:List Addr) (F:Nat→List Addr) (Q:List (Md × D)→Prop),SRel K Hs ρ σ H tot∧(∀ i fl d,ρ[i]? = some (some (.ow fl d))→∃ v,σ[i]? = some (some v)∧F i≠[]∧RepO K Hs H fl d v (F i))∧(∀ i,(F i).Sublist tot)∧(∀ i j,i≠j→∀ a∈F i,a∉F j) ∧
 iM pl ρ Q∧∀ vs H' Hs' ps As,Grow Hs H Hs' H'→RMs K Hs' H' ps vs As→As.Nodup→(∀ a∈As,Hs' a=none∧(H a=none∨∃ i∈mvs pl,a∈F i))→Q ps→Qv vs H'
noncomputable abbrev QM (X:Cx) (K:PySem.W.Frag) (es:List Expr) (pl:Plan):Prop:=PA X es (tpM K pl)
section
variable {X:Cx} {K:PySem.W.Frag} {e:Expr} {es:List Expr} {te:WE} {pl:Plan} {pos:Pos}
theorem wj:QM X K [] []:=PA.imp pa_nil fun σ H Qv hx=>by
 obtain ⟨Hs,ρ,tot,F,Q,sr,h1,h2,h3,h,f⟩:=hx
 exact f [] H Hs [] [] (Grow.refl sr.wf) .nil List.nodup_nil (fun a h=>mem0 h) h
theorem qm_e (ha:QE X K e te) (hr:QM X K es pl) (hs:starEach (e :: es) X.env=(false,eval e X.env) :: starEach es X.env:=by rfl):QM X K (e :: es) (.inl te :: pl):=by
 refine PA.imp (pa_cons ha hr hs) fun σ H Qv hx9=>?_
 obtain ⟨Hs,ρ,tot,F,Q,sr,h1,h2,h3,h,f⟩:=hx9
 refine ⟨Hs,ρ,tot,_,sr,h,fun v H1 Hs1 m x As g1 r1 f1 q1=>⟨Hs1,ρ,tot,F,_,sr.grow g1,(fun i fl d e=>?_),h2,h3,q1,fun vs H2 Hs2 ps Bs g2 r2 nd2 o2 q2=>?_⟩⟩
 ·obtain ⟨v,a,b,c⟩:=h1 i fl d e
  exact ⟨v,a,b,c.grow g1.sh g1.all⟩
 ·refine f (v :: vs) H2 Hs2 _ _ (g1.trans g2) (.cons (r1.grow g2) r2) (List.nodup_append.mpr ⟨f1.1,nd2,fun a ha b hb e=>?_⟩) (fun a ha=>?_) q2
  ·subst e
   rcases (o2 a hb).2 with z | ⟨i,_,z⟩
   ·exact (r1.own a ha).ne z
   ·exact (sr.sr.own a ((h2 i).subset z)).ne (f1.2 a ha).2
  ·rcases List.mem_append.mp ha with z | z
   ·exact ⟨g2.hsn (f1.2 a z).1 (r1.own a z).ne,.inl (f1.2 a z).2⟩
   ·exact ⟨(o2 a z).1,(o2 a z).2.imp g1.all.free id⟩
theorem qm_v {i:Nat} (ha:PE X e (tVar i)) (hr:QM X K es pl) (hi:i∉mvs pl:=by decide) (hs:starEach (e :: es) X.env=(false,eval e X.env) :: starEach es X.env:=by rfl):QM X K (e :: es) (.inr i :: pl):=by
 refine PA.imp (pa_cons ha hr hs) fun σ H Qv hx9=>?_
 obtain ⟨Hs,ρ,tot,F,Q,sr,h1,h2,h3,h,f⟩:=hx9
 unfold iM at h
 cases hm:movS ρ[i]? with
 | none=>rw [hm] at h; exact h.elim
 | some p =>
  rw [hm] at h
  have key:∃ v A,σ[i]? = some (some v)∧RM K Hs H p.1 p.2 v A∧A.Nodup∧∀ a∈A,a∈F i:=by
   cases e1:ρ[i]? with
   | none=>rw [e1] at hm; cases hm
   | some o =>
    cases o with
    | none=>rw [e1] at hm; cases hm
    | some sl =>
     cases sl with
     | sh d =>
      rw [e1] at hm; cases hm
      obtain ⟨v,a,b⟩:=sr.sr.get e1
      exact ⟨v,[],a,⟨rfl,b⟩,List.nodup_nil,fun a h=>nomatch h⟩
     | lk a fl d=>rw [e1] at hm; cases hm
     | xc a=>rw [e1] at hm; cases hm
     | ow fl d =>
      rw [e1] at hm; cases hm
      obtain ⟨v,a,b,c⟩:=h1 i fl d e1
      exact ⟨v,F i,a,⟨c,b⟩,(h2 i).nodup sr.nod,fun a h=>h⟩
  obtain ⟨v,A,ev,rm,ndA,hA⟩:=key
  refine ⟨v,ev,Hs,ρ,tot,F,_,sr,h1,h2,h3,h,fun vs H2 Hs2 ps Bs g2 r2 nd2 o2 q2=>?_⟩
  refine f (v :: vs) H2 Hs2 _ _ g2 (.cons (rm.grow g2) r2) (List.nodup_append.mpr ⟨ndA,nd2,fun a ha b hb e=>?_⟩) (fun a ha=>?_) q2
  ·subst e
   rcases (o2 a hb).2 with z | ⟨j,hj,z⟩
   ·exact (rm.own a ha).ne z
   ·exact h3 i j (fun z=>hi (by rw [z]; exact hj)) a (hA a ha) z
  ·rcases List.mem_append.mp ha with z | z
   ·have:a∈tot:=(h2 i).subset (hA a z)
    exact ⟨g2.hsn (sr.own a this) (sr.sr.own a this).ne,.inr ⟨i,List.mem_cons_self,hA a z⟩⟩
   ·exact ⟨(o2 a z).1,(o2 a z).2.imp id fun ⟨j,hj,q⟩=>⟨j,List.mem_cons_of_mem _ hj,q⟩⟩
noncomputable def vz (pl:Plan):WS:=fun E ρ=>iM pl ρ fun ps=>ps.length≤sizeLine∧E.rt (qT ps) (.tup (ps.map (·.2)))
theorem rM {x1} {tpos:Pos} (h:QM X K es pl):QS X K L (.Return (some (.Tuple es x1 tpos)) pos) (vz pl):=by
 refine PS.imp (ps_ret (pe_tup h)) fun D σ H hx=>dH hx fun Hs ρ tot E sr h k1 k2 k3 k4=>?_
 obtain ⟨F,h1,h2,h3⟩:=sr.sr.addrs sr.nod
 refine ⟨Hs,ρ,tot,F,_,sr,h1,h2,h3,h,fun vs H1 Hs1 ps As g1 r1 nd1 o1 q1=>?_⟩
 obtain ⟨hz,q⟩:=q1
 have rl:=r1.reps g1.wf
 have hl:=rl.length
 rw [List.length_map] at hl
 refine ⟨by walk_at "l",fun p hp=>?_⟩
 have g2:=newT (vs:=vs) g1.wf hp
 have sm:Same Hs (upd Hs1 p (.tup vs)):=g1.sh.trans g2.sh
 unfold qT at q
 cases e1:ps.all okSh with
 | true =>
  rw [e1] at q
  exact k4 _ _ _ .sh _ [] sm g2.wf ⟨rfl,.tup (by walk_at "l") upd_same ((r1.sh g1.wf e1).same g2.sh)⟩ List.nodup_nil (fun a h=>nomatch h) q
 | false =>
  rw [e1] at q
  cases e2:ps.all okOw with
  | false =>
   rw [e2] at q
   exact k4 _ _ _ .bo _ [] sm g2.wf ⟨rfl,.tup (by walk_at "l") upd_same (rl.same g2.all)⟩ List.nodup_nil (fun a h=>nomatch h) q
  | true =>
   rw [e2] at q
   obtain ⟨Bs,sb,nz,ro⟩:=r1.ow (fl:=ps.all okFl) g1.wf e2 fun z=>z
   have hne:flats (ps.map (·.2))=false:=by
    cases hf:flats (ps.map (·.2)) with
    | false=>rfl
    | true=>rw [jX hf] at e1; cases e1
   exact k4 _ _ _ (.ow _) _ Bs sm g2.wf ⟨.tup (by walk_at "l") upd_same hne (ro.grow g2.sh g2.all),nz e1⟩ (sb.nodup nd1) (fun a ha=>g2.hsn (o1 a (sb.subset ha)).1 (ro.own a ha).ne) q
end
end L2.Q
set_option Elab.async false
set_option linter.all false
set_option maxRecDepth 100000
set_option maxHeartbeats 4000000
namespace L2.Q
open PySem PySem.Spec PyProof.Rows
noncomputable def spLaw:SpD:=fun ds Q=>∃ ns:List Int,ds=[.list (ns.map .int)]∧ns.length≤63∧∀ m,Q m (.bl true)
theorem ints_rep {K:PySem.W.Frag} {H:Hp}:∀ (ns:List Int),Reps K H (ns.map .int) (ns.map V.int)
 | []=>.nil
 | n :: ns=>.cons (.int n) (ints_rep ns)
theorem vq {K:PySem.W.Frag} {H:Hp} {a:Addr} {ns:List Int} {E:XK} (hl:ns.length≤63) (hS:SqL K H a (ns.map V.int)):az K spLaw [.ref a] H (fun v _=>v=.bl true) E:=by
 refine ⟨[.list (ns.map .int)],fun _ d=>d=.bl true,.cons (.list (by rw [List.length_map]; exact Nat.le_trans hl (by decide)) hS (ints_rep ns)) .nil,⟨ns,rfl,hl,fun _=>rfl⟩,?_⟩
 intro v H' Hs' m d As s w r nd own q
 subst q
 have:=r.rep w
 cases this
 rfl
noncomputable abbrev sg (x:Str):List Nat:=x.cps.toList
theorem mF (x y:Str):sg (x++y)=sg x++sg y:=by
 show (x.cps++y.cps).toList=_
 simp [sg]
theorem empty_app (x:Str):Str.empty++x=x:=rR (by rw [← sg,mF]; rfl)
noncomputable def okS (x:Str):Prop:=∀ c∈sg x,c<0x110000
theorem xm (x:Str):PyData.strOk x=true↔okS x:=by
 unfold PyData.strOk okS sg
 rw [Array.all_eq_true']
 simp
end L2.Q
namespace L2.Q
open PySem PySem.Spec PyProof.Rows
theorem atI0 {α:Type} (x:α) (l:List α):atI (x :: l) 0=some x:=by simp [L2.atI,ixN]
theorem atI1 {α:Type} (x y:α) (l:List α):atI (x :: y :: l) 1=some y:=by
 have:=atI_nat (xs:=x :: y :: l) (j:=1) (v:=y) rfl
 exact this
theorem atI2 {α:Type} (x y z:α) (l:List α):atI (x :: y :: z :: l) 2=some z:=by
 have:=atI_nat (xs:=x :: y :: z :: l) (j:=2) (v:=z) rfl
 exact this
theorem zx:Str.empty.length=0:=by decide
end L2.Q
set_option Elab.async false
set_option linter.all false
set_option maxRecDepth 100000
set_option maxHeartbeats 4000000
namespace L2.Q.R
open PySem PySem.Spec PyProof.Rows L2.Q
section
variable {f:D→Prop} {k:Kt f}
theorem Fp:onK .non k=f .non:=rfl
theorem Gn {b:Bool}:onK (.bl b) k=f (.bl b):=rfl
theorem Ff {i:Int}:onK (.int i) k=f (.int i):=rfl
theorem E_ {x:Str}:onK (.str x) k=f (.str x):=rfl
theorem Ck {xs:List D}:onK (.list xs) k=f (.list xs):=rfl
theorem Ew {xs:List D}:onK (.tup xs) k=f (.tup xs):=rfl
theorem Hd {xs:List (Key × D)}:onK (.dK xs) k=f (.dK xs):=rfl
theorem Gv {xs:List (List Key × D)}:onK (.dT xs) k=f (.dT xs):=rfl
end
theorem Cv {f:Bool→Prop} {k:Kt f}:onK true k=f true:=rfl
theorem BV {f:Bool→Prop} {k:Kt f}:onK false k=f false:=rfl
theorem Fx {d:D} {f:Md × D→Prop} {k:Kt f}:onK (Md.sh,d) k=f (.sh,d):=rfl
theorem Fd {b:Bool} {d:D} {f:Md × D→Prop} {k:Kt f}:onK (Md.ow b,d) k=f (.ow b,d):=rfl
theorem Gh {d:D} {f:Md × D→Prop} {k:Kt f}:onK (Md.bo,d) k=f (.bo,d):=rfl
theorem Ei {d:D} {f:Option Sl→Prop} {k:Kt f}:onK (some (.sh d)) k=f (some (.sh d)):=rfl
theorem Fi {b:Bool} {d:D} {f:Option Sl→Prop} {k:Kt f}:onK (some (.ow b d)) k=f (some (.ow b d)):=rfl
theorem Et {p:Md × D} {f:Option (Md × D)→Prop} {k:Kt f}:onK (some p) k=f (some p):=rfl
theorem Hc {p:Bool} {f:Option Bool→Prop} {k:Kt f}:onK (some p) k=f (some p):=rfl
theorem Ey {d:D} {f:Option (Option Sl)→Prop} {k:Kt f}:onK (some (some (.sh d))) k=f (some (some (.sh d))):=rfl
theorem F_ {b:Bool} {d:D} {f:Option (Option Sl)→Prop} {k:Kt f}:onK (some (some (.ow b d))) k=f (some (some (.ow b d))):=rfl
section
variable {E:jb} {ρ:Env} {Q:Md→D→Prop} {B:Bool→Prop} {t u:WS} {te ta tb tc to':WE} {tt tu:WT} {tar:WA} {i j n:Nat} {m m':Md} {d d':D} {sp:SpD} {p:WP} {R:List (Md × D)→Prop}
theorem DY:du E ρ=E.nx ρ:=rfl
theorem Hk:wSeq t u E ρ=t { E with nx:=u E } ρ:=rfl
theorem Hb:wRet te E ρ=te ρ E.rt:=rfl
noncomputable def put (sl:Option Sl) (k:Sl→Prop):Prop:=match sl with
 | some s=>k s
 | none=>False
theorem Ga {k:Sl→Prop}:put (some (.sh d)) k=k (.sh d):=rfl
theorem Fb {b:Bool} {k:Sl→Prop}:put (some (.ow b d)) k=k (.ow b d):=rfl
theorem Ht:wSet i te E ρ=te ρ fun m d=>onK (asg m d) (f:=fun o=>put o fun sl=>E.nx (ρ.set i (some sl))) ⟨⟩:=rfl
theorem Gy:wIfS tt t u E ρ=tt ρ fun b=>onK b (f:=fun b=>if b=true then t E ρ else u E ρ) ⟨⟩:=rfl
theorem FN:t6 i E ρ=onK ρ[i]? (f:=fun o=>match o with
 | some (some (.sh d))=>E.rt .sh d
 | some (some (.ow fl d))=>E.rt (.ow fl) d
 | _=>False) ⟨⟩:=rfl
theorem Fy {pl:Plan}:vz pl E ρ=iM pl ρ fun ps=>ps.length≤sizeLine∧E.rt (qT ps) (.tup (ps.map (·.2))):=rfl
theorem Aw:iM [] ρ R=R []:=rfl
theorem Dt {r:Plan}:iM (.inl te :: r) ρ R=te ρ fun m x=>iM r ρ fun ps=>R ((m,x) :: ps):=rfl
noncomputable def mov (o:Option (Md × D)) (k:Md × D→Prop):Prop:=match o with
 | some p=>k p
 | none=>False
theorem BR {p:Md × D} {k:Md × D→Prop}:mov (some p) k=k p:=rfl
theorem Ci {r:Plan}:iM (.inr i :: r) ρ R=onK (movS ρ[i]?) (f:=fun o=>mov o fun p=>iM r ρ fun ps=>R (p :: ps)) ⟨⟩:=rfl
theorem HB:wFrz i t E ρ=t E (frzE i ρ):=rfl
-- tests
noncomputable def bol (d:D) (B:Bool→Prop):Prop:=match d with
 | .bl b=>B b
 | _=>False
theorem Gf {b:Bool}:bol (.bl b) B=B b:=rfl
theorem wB_:wB te ρ B=te ρ fun _ x=>onK x (f:=fun x=>bol x B) ⟨⟩:=rfl
theorem Hu:wNot tt ρ B=tt ρ fun c=>B (!c):=rfl
theorem wOr_:wOr tt tu ρ B=tt ρ fun c=>onK c (f:=fun c=>if c=true then B true else tu ρ B) ⟨⟩:=rfl
theorem G4:wYes ρ B=B true:=rfl
-- expressions
theorem Hg:wVar i ρ Q=onK ρ[i]? (f:=fun o=>useS o Q) ⟨⟩:=rfl
theorem Dj:useS (some (some (.sh d))) Q=Q .sh d:=rfl
theorem DK {b:Bool}:useS (some (some (.ow b d))) Q=Q .bo d:=rfl
theorem wC_:wC d ρ Q=Q .sh d:=rfl
theorem wOp_ {f:W2}:wOp f ta tb ρ Q=ta ρ fun m x=>tb ρ fun n y=>f m x n y Q:=rfl
theorem wUn_ {f:W1}:wUn f ta ρ Q=ta ρ fun m x=>f m x Q:=rfl
theorem CT {f g:W2}:mV f g ta tb tc ρ Q=ta ρ fun m x=>tb ρ fun n y=>f m x n y fun _ z=>onK z (f:=fun z=>bol z fun k=>onK k (f:=fun k=>if k=true then tc ρ fun l w=>g n y l w Q else Q .sh (.bl false)) ⟨⟩) ⟨⟩:=by
 unfold mV onK bol
 rfl
theorem Eg:qy ta tb ρ Q=ta ρ fun _ x=>onK x (f:=fun x=>bol x fun c=>onK c (f:=fun c=>if c=true then tb ρ Q else Q .sh (.bl false)) ⟨⟩) ⟨⟩:=by unfold qy onK bol; rfl
theorem DR:vJ ta ρ Q=ta ρ fun _ x=>onK x (f:=fun x=>bol x fun c=>Q .sh (.bl (!c))) ⟨⟩:=by unfold vJ onK bol; rfl
theorem En:ak te tar ρ R=te ρ fun m x=>tar ρ fun ps=>R ((m,x) :: ps):=rfl
theorem GC:wNil ρ R=R []:=rfl
theorem G6:wTup tar ρ Q=tar ρ fun ps=>ps.length≤sizeLine∧Q (qT ps) (.tup (ps.map (·.2))):=rfl
theorem GX:wLst tar ρ Q=tar ρ fun ps=>ps.length≤sizeLine∧Q (yM ps) (.list (ps.map (·.2))):=rfl
theorem Fj:b_ sp tar ρ Q=tar ρ fun ps=>sp (ps.map (·.2)) fun m d=>onK (m,d) (f:=fun p=>Q (retM p.1 p.2) p.2) ⟨⟩:=rfl
-- operators
section
variable {x y:Str} {a b:Int} {xs ys:List D} {kvs:List (Key × D)} {kts:List (List Key × D)}
theorem Cq:fAdd m (.int a) m' (.int b) Q=Q .sh (.int (a+b)):=rfl
theorem CN:fAdd m (.str x) m' (.str y) Q=(x.length+y.length≤sizeLine∧Q .sh (.str (x++y))):=rfl
theorem CJ:fAdd m (.list xs) m' (.list ys) Q=(xs.length+ys.length≤sizeLine∧((flats xs=true∧flats ys=true∧Q (.ow true) (.list (xs++ys)))∨(m=.sh∧m'=.sh∧Q (.ow false) (.list (xs++ys))))):=rfl
theorem Ds:fAdd m (.tup xs) m' (.tup ys) Q=(xs≠[]∧xs.length+ys.length≤sizeLine∧flats xs=true∧flats ys=true∧Q .sh (.tup (xs++ys))):=rfl
theorem Cj:fMul m (.int a) m' (.int b) Q=(CMul a b∧Q .sh (.int (a * b))):=rfl
theorem BW:fDiv m (.int a) m' (.int b) Q=((0<b∧b<1073741824)∧Q .sh (.int (a / b))):=rfl
theorem Dv:fMod m (.int a) m' (.int b) Q=(0<b∧Q .sh (.int (a % b))):=rfl
theorem Ep:fLt m (.int a) m' (.int b) Q=Q .sh (.bl (decide (a<b))):=rfl
theorem Es:fLt m (.str x) m' (.str y) Q=Q .sh (.bl (ltS x y)):=rfl
theorem FQ:fLe m (.int a) m' (.int b) Q=Q .sh (.bl (decide (a≤b))):=rfl
theorem Ft:fLe m (.str x) m' (.str y) Q=Q .sh (.bl (!ltS y x)):=rfl
theorem DX:fEq m (.int a) m' (.int b) Q=Q .sh (.bl (decide (a=b))):=rfl
theorem Fw:fEq m (.str x) m' (.str y) Q=Q .sh (.bl (decide (x=y))):=rfl
theorem Ec {k l:Bool}:fEq m (.bl k) m' (.bl l) Q=Q .sh (.bl (decide (k=l))):=rfl
theorem G5:fEq m (.list xs) m' d Q=(okD 12 (.list xs)=true∧okD 12 d=true∧Q .sh (.bl (eqD (.list xs) d))):=by cases d <;> rfl
theorem GF:fEq m (.tup xs) m' d Q=(okD 12 (.tup xs)=true∧okD 12 d=true∧Q .sh (.bl (eqD (.tup xs) d))):=by cases d <;> rfl
theorem Gs:fEq m .non m' d Q=(okD 12 .non=true∧okD 12 d=true∧Q .sh (.bl (eqD .non d))):=by cases d <;> rfl
theorem DW:fNe m (.int a) m' (.int b) Q=Q .sh (.bl (!decide (a=b))):=rfl
theorem Eo:fNe m (.str x) m' (.str y) Q=Q .sh (.bl (!decide (x=y))):=rfl
theorem Gp:fNe m (.list xs) m' d Q=(okD 12 (.list xs)=true∧okD 12 d=true∧Q .sh (.bl (!eqD (.list xs) d))):=by cases d <;> rfl
theorem Hi:fNe m (.tup xs) m' d Q=(okD 12 (.tup xs)=true∧okD 12 d=true∧Q .sh (.bl (!eqD (.tup xs) d))):=by cases d <;> rfl
theorem Hl:fNe m .non m' d Q=(okD 12 .non=true∧okD 12 d=true∧Q .sh (.bl (!eqD .non d))):=by cases d <;> rfl
theorem Hy {neg:Bool}:fIn neg m (.str x) m' (.str y) Q=Q .sh (.bl (if neg then !inS x y else inS x y)):=rfl
theorem HH {neg:Bool}:fIn neg m d m' (.list ys) Q=(d8 d=true∧ys.all d8=true∧Q .sh (.bl (if neg then !inD d ys else inD d ys))):=rfl
theorem Gz {neg:Bool}:fIn neg m d m' (.tup ys) Q=(d8 d=true∧ys.all d8=true∧Q .sh (.bl (if neg then !inD d ys else inD d ys))):=rfl
theorem HJ {neg:Bool}:fIn neg m d m' (.dK kvs) Q = ∃ k,d.key1=some k∧Q .sh (.bl (if neg then !(getG kvs k).isSome else (getG kvs k).isSome)):=rfl
theorem Gm {neg:Bool}:fIn neg m (.tup xs) m' (.dT kts) Q = ∃ ks,gD xs=some ks∧Q .sh (.bl (if neg then !(getG kts ks).isSome else (getG kts ks).isSome)):=rfl
theorem GK:fIx m (.list xs) m' (.int a) Q = ∃ d,atI xs a=some d∧onK d (f:=fun d=>Q (itm m d) d) ⟨⟩:=rfl
theorem Hw:fIx m (.tup xs) m' (.int a) Q = ∃ d,atI xs a=some d∧onK d (f:=fun d=>Q (itm m d) d) ⟨⟩:=rfl
theorem Gk:fIx m (.str x) m' (.int a) Q = ∃ c,atI x.cps.toList a=some c∧Q .sh (.str ⟨#[c]⟩):=rfl
theorem Ha:fIx m (.dK kvs) m' d Q = ∃ k d',d.key1=some k∧getG kvs k=some d'∧onK d' (f:=fun d'=>Q (itm m d') d') ⟨⟩:=rfl
theorem G7:fIx m (.dT kts) m' (.tup ys) Q = ∃ ks d',gD ys=some ks∧getG kts ks=some d'∧onK d' (f:=fun d'=>Q (itm m d') d') ⟨⟩:=rfl
theorem Ea:fLen m (.str x) Q=Q .sh (.int x.length):=rfl
theorem Eb:fLen m (.list xs) Q=Q .sh (.int xs.length):=rfl
theorem FW:fLen m (.tup xs) Q=Q .sh (.int xs.length):=rfl
theorem Gb:fLen m (.dK kvs) Q=Q .sh (.int kvs.length):=rfl
theorem Fv:fLen m (.dT kts) Q=Q .sh (.int kts.length):=rfl
theorem Hv {T:String}:fIsi T m d Q=Q .sh (.bl (isiT d.ty T)):=rfl
theorem CP:oG m (.list xs) Q=((flats xs=true∧Q (.ow true) (.list xs))∨(m=.sh∧Q (.ow false) (.list xs))):=rfl
theorem Cd:oG m (.tup xs) Q=((flats xs=true∧Q (.ow true) (.list xs))∨(m=.sh∧Q (.ow false) (.list xs))):=rfl
theorem Dw:oG m (.dT kts) Q=Q (.ow true) (.list (kts.map fun kv=>.tup (kv.1.map keyD))):=rfl
theorem wSl_ {tl th:WO}:wSl te tl th ρ Q=te ρ fun m x=>tl ρ fun lo=>th ρ fun hi=>fSl m x lo hi Q:=rfl
theorem Bw {O:Option Int→Prop}:fW ρ O=O none:=rfl
noncomputable def int' (d:D) (k:Int→Prop):Prop:=match d with
 | .int i=>k i
 | _=>False
theorem Gg {k:Int→Prop}:int' (.int a) k=k a:=rfl
theorem Em {O:Option Int→Prop}:iI te ρ O=te ρ fun _ x=>onK x (f:=fun x=>int' x fun i=>O (some i)) ⟨⟩:=by unfold iI onK int'; rfl
theorem Gx {lo hi:Option Int}:fSl m (.str x) lo hi Q=Q .sh (.str (cutS x lo hi)):=rfl
theorem G_ {lo hi:Option Int}:fSl m (.list xs) lo hi Q=((flats xs=true∧Q (.ow true) (.list (cutG xs lo hi)))∨(m=.sh∧Q (.ow false) (.list (cutG xs lo hi)))):=rfl
theorem GJ {lo hi:Option Int}:fSl m (.tup xs) lo hi Q=(flats xs=true∧¬ (HT.sIx xs.length 0 lo=0∧HT.sIx xs.length xs.length hi=xs.length)∧Q .sh (.tup (cutG xs lo hi))):=rfl
end
-- texts
noncomputable def str' (d:D) (k:Str→Prop):Prop:=match d with
 | .str x=>k x
 | _=>False
theorem Fe {x:Str} {k:Str→Prop}:str' (.str x) k=k x:=rfl
noncomputable def list' (d:D) (k:List D→Prop):Prop:=match d with
 | .list x=>k x
 | _=>False
theorem Dd {x:List D} {k:List D→Prop}:list' (.list x) k=k x:=rfl
theorem Cz:pL to' te ρ Q=to' ρ fun _ x=>onK x (f:=fun x=>str' x fun z=>te ρ fun _ y=>onK y (f:=fun y=>list' y fun ys=>∃ zs,gY ys=some zs∧(zs.map (·.length)).sum+zs.length * z.length≤16777216∧Q .sh (.str (Str.join z zs))) ⟨⟩) ⟨⟩:=by unfold pL onK str' list'; rfl
-- places
theorem wpN_ {P:Bool→D→(Bool→D→Env)→Prop}:wpN i ρ P=onK ρ[i]? (f:=fun o=>match o with
 | some (some (.ow fl d))=>P fl d fun fl2 d2=>ρ.set i (some (.ow fl2 d2))
 | _=>False) ⟨⟩:=rfl
noncomputable def fl' (o:Option Bool) (k:Bool→Prop):Prop:=match o with
 | some b=>k b
 | none=>False
theorem Bx {b:Bool} {k:Bool→Prop}:fl' (some b) k=k b:=rfl
theorem Hj:wApp p te E ρ=p ρ fun fl d up=>onK d (f:=fun d=>list' d fun xs=>te ρ fun m x=>xs.length<sizeLine∧onK (jB fl m x) (f:=fun o=>fl' o fun fl2=>E.nx (up fl2 (.list (xs++[x])))) ⟨⟩) ⟨⟩:=by unfold wApp onK list' fl'; rfl
theorem Ce:lY p E ρ=p ρ fun fl d up=>onK d (f:=fun d=>list' d fun xs=>E.nx (up fl (.list []))) ⟨⟩:=by unfold lY onK list'; rfl
theorem CV:tL ρ Q=Q (.ow true) (.dK []):=rfl
noncomputable def dct (d y:D) (k1:List (Key × D)→Prop) (k2:List (List Key × D)→List D→Prop):Prop:=match d with
 | .dK kvs=>k1 kvs
 | .dT kvs=>match y with
  | .tup ys=>k2 kvs ys
  | _=>False
 | _=>False
theorem Hz {y:D} {kvs:List (Key × D)} {k1:List (Key × D)→Prop} {k2:List (List Key × D)→List D→Prop}:dct (.dK kvs) y k1 k2=k1 kvs:=rfl
theorem Gq {ys:List D} {kvs:List (List Key × D)} {k1:List (Key × D)→Prop} {k2:List (List Key × D)→List D→Prop}:dct (.dT kvs) (.tup ys) k1 k2=k2 kvs ys:=rfl
-- loops
variable {LQ:List D→Prop}
theorem GQ {wi:WI} {g:WG} {b:WS}:wFor wi g b E ρ=wi ρ fun ds=>mO g b E ds ρ:=rfl
theorem Ca:gw te ρ LQ=te ρ fun m d=>lM m∧onK d (f:=fun d=>list' d LQ) ⟨⟩:=by unfold gw onK list'; rfl
noncomputable def tup' (d:D) (k:List D→Prop):Prop:=match d with
 | .tup x=>k x
 | _=>False
theorem Gi {x:List D} {k:List D→Prop}:tup' (.tup x) k=k x:=rfl
theorem Ej:vN te ρ LQ=te ρ fun _ d=>onK d (f:=fun d=>str' d fun z=>LQ (sgnD z)) ⟨⟩:=by unfold vN onK str'; rfl
theorem Cp:iw te ρ LQ=te ρ fun _ d=>onK d (f:=fun d=>int' d fun j=>j≤16777216∧-(2 ^ 62)≤j∧LQ (fZ 0 j.toNat)) ⟨⟩:=by unfold iw onK int'; rfl
theorem BX:qi ta tb ρ LQ=ta ρ fun _ x=>tb ρ fun _ y=>onK x (f:=fun x=>int' x fun i=>onK y (f:=fun y=>int' y fun j=>j - i≤16777216∧(-(2 ^ 62)≤i∧i<2 ^ 62∧-(2 ^ 62)≤j∧j<2 ^ 62)∧LQ (fZ i (j - i).toNat)) ⟨⟩) ⟨⟩:=by
 unfold qi onK int'
 congr 1
 funext _ x
 congr 1
 funext _ y
 cases x <;> cases y <;> rfl
theorem BK:lM .sh=True:=rfl
theorem BP {b:Bool}:lM (.ow b)=True:=rfl
theorem By:lM .bo=False:=rfl
theorem gN_ {N:Env→Prop}:gN i d ρ N=N (ρ.set i (some (.sh d))):=rfl
theorem gT_ {gs:WGs} {N:Env→Prop}:gT n gs d ρ N=onK d (f:=fun d=>tup' d fun ds=>ds.length=n∧gs ds ρ N) ⟨⟩:=by unfold gT onK tup'; rfl
theorem DQ {g:WG} {gs:WGs} {ds:List D} {N:Env→Prop}:fu g gs (d :: ds) ρ N=g d ρ fun ρ'=>gs ds ρ' N:=rfl
theorem Hx {N:Env→Prop}:qP [] ρ N=N ρ:=by simp [qP]
theorem Eh {wi:WI} {g:WG} {tn:Nat} {ix:List Nat}:jP wi g tt te tn ix ρ Q=wi ρ fun ds=>gq g tt te ds (yQ tn ix ρ) fun out=>Q (.ow true) (.list out):=rfl
end
theorem B {c:Bool} {f:Bool→Prop} {k:Kt f} (h1:c=true→f true) (h2:c=false→f false):onK c k:=by
 cases c with
 | true=>exact h1 rfl
 | false=>exact h2 rfl
theorem D {p:Prop} [Decidable p] {f:Bool→Prop} {k:Kt f} (h1:p→f true) (h2:¬ p→f false):onK (decide p) k :=
 B (fun h=>h1 (of_decide_eq_true h)) fun h=>h2 (of_decide_eq_false h)
theorem T {c:Bool} {f:Bool→Prop} {k:Kt f} (h:c=true) (h1:f true):onK c k:=by subst h; exact h1
theorem F {c:Bool} {f:Bool→Prop} {k:Kt f} (h:c=false) (h1:f false):onK c k:=by subst h; exact h1
end L2.Q.R
set_option Elab.async false
set_option linter.all false
set_option maxRecDepth 100000
set_option maxHeartbeats 4000000
namespace L2
open PySem PySem.Spec PyProof.Rows
section
variable {X:Cx}
end
end L2
namespace L2.Q
open PySem PySem.Spec PyProof.Rows
section
variable {X:Cx} {K:PySem.W.Frag} {e e2 tg:Expr} {te te2:WE} {pos p p2 pos2 cpos apos:Pos}
noncomputable def Fl:W1:=fun _ x Q=>match x with
 | .list xs=>∃ ks b,xs=ks.map keyD∧(∀ k∈ks,isI k=b)∧∀ ms:List Key,ms.Perm ks→(ms.Pairwise fun a b=>lt1 b a=false)→Q (.ow true) (.list (ms.map keyD))
 | .dK kvs=>∃ b,(∀ p∈kvs,isI p.1=b)∧∀ ms:List Key,ms.Perm (kvs.map (·.1))→(ms.Pairwise fun a b=>lt1 b a=false)→Q (.ow true) (.list (ms.map keyD))
 | _=>False
section
variable {Hs H:Hp} {fl:Bool}
theorem aq.erase {ds:List D} {vs:List V} {As:List Addr} (k:Nat) (r:aq K Hs H fl ds vs As):∃ Bs,Bs.Sublist As∧aq K Hs H fl (ds.eraseIdx k) (vs.eraseIdx k) Bs:=by
 induction ds generalizing vs As k with
 | nil =>
  obtain ⟨rfl,rfl⟩:=r.n0
  exact ⟨[],List.Sublist.refl _,.nil⟩
 | cons d ds ih =>
  obtain ⟨u,us,A,B,rfl,rfl,r,rs⟩:=r.c
  cases k with
  | zero=>exact ⟨B,List.sublist_append_right _ _,rs⟩
  | succ k =>
   obtain ⟨C,sb,q⟩:=ih k rs
   exact ⟨A++C,sb.append_left _,.cons r q⟩
theorem aq.getF {ds:List D} {vs:List V} {As:List Addr} {k:Nat} {d:D} (r:aq K Hs H fl ds vs As) (e:ds[k]? = some d) (hf:d.flat=true) (w:Wf Hs H):∃ v,vs[k]? = some v∧Rep K Hs d v:=by
 induction ds generalizing vs As k with
 | nil=>simp at e
 | cons x ds ih =>
  obtain ⟨u,us,A,B,rfl,rfl,r,rs⟩:=r.c
  cases k with
  | zero =>
   simp at e
   subst e
   exact ⟨_,rfl,(r.rep w.sub fun _ _=>rfl).gr w.tups hf⟩
  | succ k=>exact ih (k:=k) rs (by simpa using e)
end
end
section
variable {K:PySem.W.Frag} {Hs H:Hp} {fl:Bool} {d:D} {a:Addr}
end
noncomputable abbrev WIL:=Env→(List D→Prop)→Prop
section
variable {X:Cx} {K:PySem.W.Frag} {e tg:Expr} {i:Nat} {pos p:Pos} {wi:WIL} {g:WG} {b:WS} {body:List Stmt}
end
section
variable {X:Cx} {K:PySem.W.Frag}
theorem qI {i:Nat} {x:Str} {tg iter elt:Expr} {ifs:List Expr} {scope:Scope} {pos pos' spos:Pos} {wi:WI} {g:WG} {tc:WT} {te:WE} {tn cn:List Str} {ix:List Nat} (hN:X.N.Nodup) (hi0:X.N[i]? = some x) (hx:Loc X.env.scope x) (hc:X.calm=true)
  (hi:QIb X K tg iter wi) (O:cO X scope tn cn ix)
  (hg:∀ C fp s₃ H₃,QG (a_ X scope C (tn++cn) fp s₃ H₃) K tg g) (hcs:∀ C fp s₃ H₃,QTs (a_ X scope C (tn++cn) fp s₃ H₃) K ifs tc) (he:∀ C fp s₃ H₃,QE (a_ X scope C (tn++cn) fp s₃ H₃) K elt te)
  (hsw:swapsWith (.ListComp elt [⟨tg,iter,ifs,0⟩] scope pos) (some (.Name x pos')) spos.line X.env=pure true:=by rfl)
  (hs:∀ x,foldedSetIterable iter X.env x=pure x:=by intro _; rfl) (hf:X.fn x=true∨X.env.scope.names.lookup x=some .local:=by first | exact .inl rfl | exact .inr rfl | assumption) :
  QS X K L (.Assign [.Name x pos'] (.ListComp elt [⟨tg,iter,ifs,0⟩] scope pos) spos) (wSet i (jP wi g tc te tn.length ix)) :=
 PS.imp (qt hN hi0 hx hc hi O hg hcs he hsw hs hf) fun D σ H hx=>dH hx fun Hs ρ tot E sr h k1 k2 k3 k4=>by
  refine lK ⟨Hs,ρ,tot,_,sr,h,fun v H1 Hs1 m d As g1 r1 f1 q1=>?_⟩
  have q1:match asg m d with
   | some sl=>E.nx (ρ.set i (some sl))
   | none=>False:=q1
  cases e:asg m d with
  | none=>rw [e] at q1; exact q1.elim
  | some sl =>
   rw [e] at q1
   obtain ⟨tot',s'⟩:=(sr.grow g1).set i r1 f1.1 (fun a ha=>⟨(f1.2 a ha).1,fun m=>(sr.sr.own a m).ne (f1.2 a ha).2⟩) e
   exact k1 _ H1 Hs1 _ tot' g1.sh s' q1
end
end L2.Q
set_option Elab.async false
set_option linter.all false
set_option maxRecDepth 100000
set_option maxHeartbeats 4000000
namespace L2.Q.R
open PySem PySem.Spec PyProof.Rows L2.Q
section
variable {E:jb} {ρ:Env} {Q:Md→L2.Q.D→Prop} {te te2 tk:WE} {i:Nat} {d:L2.Q.D} {p:WP} {a:Addr} {b:Bool} {LQ:List L2.Q.D→Prop}
theorem Fq {f:Option Sl→Prop} {k:Kt f}:onK (some (.lk a b d)) k=f (some (.lk a b d)):=rfl
theorem EY {f:Option (Option Sl)→Prop} {k:Kt f}:onK (some (some (.lk a b d))) k=f (some (some (.lk a b d))):=rfl
theorem Dl:useS (some (some (.lk a b d))) Q=Q .bo d:=rfl
noncomputable def own' (o:Option (Option Sl)) (k:Bool→L2.Q.D→Prop):Prop:=match o with
 | some (some (.ow fl d))=>k fl d
 | _=>False
theorem Cm {k:Bool→L2.Q.D→Prop}:own' (some (some (.ow b d))) k=k b d:=rfl
theorem Dk:lD te ρ LQ=te ρ fun _ d=>onK d (f:=fun d=>list' d LQ) ⟨⟩:=by unfold lD onK list'; rfl
noncomputable def wpAt (d:L2.Q.D) (i:Int) (P:Bool→L2.Q.D→(Bool→L2.Q.D→Env)→Prop) (up:Bool→L2.Q.D→Env):Prop:=match d with
 | .list ds=>∃ j d',ixN ds.length i=some j∧ds[j]? = some d'∧d'.flat=false∧onK d' (f:=fun d'=>P true d' fun fl2 d2=>up fl2 (.list (ds.set j d2))) ⟨⟩
 | .tup ds=>∃ j d',ixN ds.length i=some j∧ds[j]? = some d'∧d'.flat=false∧onK d' (f:=fun d'=>P true d' fun fl2 d2=>up fl2 (.tup (ds.set j d2))) ⟨⟩
 | _=>False
section
variable {P:Bool→L2.Q.D→(Bool→L2.Q.D→Env)→Prop} {up:Bool→L2.Q.D→Env} {ds:List L2.Q.D} {j:Int}
theorem D_:wpAt (.list ds) j P up = ∃ k d',ixN ds.length j=some k∧ds[k]? = some d'∧d'.flat=false∧onK d' (f:=fun d'=>P true d' fun fl2 d2=>up fl2 (.list (ds.set k d2))) ⟨⟩:=rfl
theorem Ek:wpAt (.tup ds) j P up = ∃ k d',ixN ds.length j=some k∧ds[k]? = some d'∧d'.flat=false∧onK d' (f:=fun d'=>P true d' fun fl2 d2=>up fl2 (.tup (ds.set k d2))) ⟨⟩:=rfl
theorem GR:wpIx p te ρ P=p ρ fun fl d up=>te ρ fun _ y=>fl=true∧onK y (f:=fun y=>int' y fun i=>onK d (f:=fun d=>wpAt d i P up) ⟨⟩) ⟨⟩:=by
 unfold wpIx onK int' wpAt
 rfl
end
end
end L2.Q.R
set_option Elab.async false
set_option linter.all false
set_option maxRecDepth 100000
set_option maxHeartbeats 4000000
namespace L2
open PySem PySem.Spec PyProof.Rows Builtin Builtin.Str Builtin.Int
section
variable {prog:Program} {w:World} {A:Around} {E:Value→Shared→Prop} {s:Shared} {x:Str} {n:Int} {t u:Tok}
theorem nH {Q:Value→Shared→Prop} (hok:MulOk x n) (h:∀ t' k,Q (.str (Txt.mul x n) t') { s with toks:=k }):wpAny (model prog w) A (binaryOp .Mult (.int n u) (.str x t)) Q E s:=by
 refine lm_binaryOp_repeat_right (T := "str") (U := "int") (by decide) (fun s'=>typeIs_int s' n u) (typeIs_str s x t) F.fills_int_mul noFill_str_mul F.slot_int_mul lm_noRepeat_int repeat_str F.slot_int_index.lookup
  (call_gives F.slot_int_mul (typeIs_int s n u) F.entry_int_mul (F.args_int_mul_2 _ _) (AutoIntG3.int___mul___int_str_0 n u x t)
   ⟨rfl,typeIs_str _ x t,call_gives F.slot_str_mul (typeIs_str _ x t) F.entry_str_mul (F.args_str_mul_2 _ _) (gives_str_mul x n t u hok.1 hok.2.1 hok.2.2) ?_⟩)
 unfold Txt.mul at h
 by_cases h1:n<1
 ·rw [if_pos h1]; have h':=h s.toks (s.toks+1); rw [if_pos h1] at h'; exact ⟨by decide,h'⟩
 ·rw [if_neg h1]; refine post_val_or_made (fun hc=>fits_reps (hok.2.2 h1 (by simpa using hc))) fun t' k=>?_
  have h':=h t' k; rw [if_neg h1] at h'; exact h'
end
noncomputable def repS (n:Int) (z:Str):Str:=⟨(List.replicate n.toNat z.cps.toList).flatten.toArray⟩
theorem jy (xs:Array Nat):∀ (k:Nat) (acc:Array Nat),(List.replicate k xs).foldl (· ++ ·) acc=acc++(List.replicate k xs.toList).flatten.toArray
 | 0,acc=>by simp
 | k+1,acc=>by
  rw [List.replicate_succ,List.foldl_cons,jy xs k,List.replicate_succ,List.flatten_cons]
  apply Array.ext'
  simp
theorem xK {n:Int} {z:Str} (h:1≤n):Txt.mul z n=repS n z:=by
 unfold Txt.mul repS
 rw [if_neg (by walk_at "l")]
 by_cases h1:n=1
 ·subst h1
  simp
 ·by_cases h0:z.length=0
  ·have hz:z.cps = #[]:=Array.eq_empty_of_size_eq_zero h0
   rw [if_pos (by simp [h0])]
   obtain ⟨c⟩:=z
   cases hz
   simp
  ·rw [if_neg (by simp [h1,h0]),jy]
   simp
noncomputable def yD:R2:=fun x y H Q=>match x,y with
 | .int n,.str z=>(1≤n∧n≤100∧z.length≤100)∧Q (.str (repS n z)) H
 | _,_=>False
section
variable {X:Cx}
theorem xV:OpR X (binaryOp .Mult) yD:=by
 intro pins s σ H x y v u Q I rx ry h
 unfold yD at h
 split at h
 ·rename_i n z
  obtain ⟨⟨h1,h2,h3⟩,q⟩:=h
  obtain ⟨t,rfl⟩:=rx
  obtain ⟨t',rfl⟩:=ry
  refine nH ⟨?_,fun _ _=>?_,fun _ _=>?_⟩ fun t' k=>⟨.str (repS n z),H,I.tok _,⟨_,by rw [xK h1]⟩,q⟩
  ·have a1:¬ n < -(2 ^ 63:Int):=by walk_at "l"
   have a2:¬ n ≥ 2 ^ 63:=by walk_at "l"
   rw [decide_eq_false a1,decide_eq_false a2]; rfl
  ·have:(2 ^ 63 - 1:Int) / 100≤(2 ^ 63 - 1) / n:=by
    apply Int.le_ediv_of_mul_le (by walk_at "l")
    have:(2 ^ 63 - 1:Int) / 100 * n≤(2 ^ 63 - 1:Int) / 100 * 100:=Int.mul_le_mul_of_nonneg_left h2 (by decide)
    walk_at "l"
   have e:(2 ^ 63 - 1:Int) / 100=92233720368547758:=by decide
   walk_at "l"
  ·have:z.length * n.toNat≤100 * 100:=Nat.mul_le_mul h3 (by walk_at "l")
   have hs:=sizeLine_eq
   simp only [tooLong,decide_eq_false_iff_not]
   generalize z.length * n.toNat=m at this ⊢
   walk_at "l"
 ·exact h.elim
end
section
variable {prog:Program} {w:World} {A:Around} {R:Result→Shared→Prop} {E:Value→Shared→Prop} {I:Addr} {fp wr:List Addr} {P:Nat→Value→Prop} {St:Nat→Heap→Prop}
end
end L2
namespace L2
open PySem PySem.Spec PyProof.Rows
section
variable {X:Cx} {K:PySem.W.Frag} {e e2:Expr} {te td:TE} {p pos kpos:Pos}
end
end L2
namespace L2.Q
open PySem PySem.Spec PyProof.Rows
section
variable {X:Cx} {K:PySem.W.Frag} {e e2 a b:Expr} {te ta tb td:WE} {p pos kpos:Pos} {x:Str} {id:String}
noncomputable def fAll:W1:=fun _ x Q=>match x with
 | .list xs=>∃ bs:List Bool,xs=bs.map D.bl∧Q .sh (.bl (bs.all (fun b=>b)))
 | _=>False
theorem zc {H:Hp} {bs:List Bool} {vs:List V} (r:Reps K H (bs.map D.bl) vs):vs=bs.map V.bl:=by
 induction bs generalizing vs with
 | nil=>exact r.n0
 | cons b bs ih =>
  obtain ⟨u,us,rfl,r1,rs⟩:=Reps.c (d:=D.bl b) r
  cases r1
  rw [ih rs]; rfl
theorem Bb:BrC K (rAll K) fAll:=by
 intro Hs H m x v As Qd Qv w rx h f
 have r1:=rx.rep w
 cases r1 with
 | list z s q =>
  obtain ⟨bs,rfl,h⟩:=h
  cases zc q
  exact ⟨bs,s,f.sh w (.bl _) h⟩
 | _=>exact h.elim
theorem oU (n:Int) (z:Str):(repS n z).length=n.toNat * z.length:=by
 unfold repS Str.length
 rw [List.size_toArray,len_rep,Array.length_toList]
noncomputable def uG:W2:=fun _ x _ y Q=>match x,y with
 | .int n,.str z=>(1≤n∧n≤100∧z.length≤100)∧Q .sh (.str (repS n z))
 | _,_=>False
theorem xO:Br2 K yD uG:=by
 intro Hs H m x v As n y u Bs Qd Qv w rx ry h f
 have r1:=rx.rep w
 have r2:=ry.rep w
 cases r1 with
 | int i=>cases r2 with
  | str hz =>
   refine ⟨h.1,ug f w ?_ h.2⟩
   obtain ⟨⟨h1,h2,h3⟩,_⟩:=h
   rw [oU,sizeLine_eq]
   have:=Nat.mul_le_mul (show i.toNat≤100 by walk_at "l") h3
   walk_at "l"
  | _=>exact h.elim
 | _=>cases r2 <;> exact h.elim
theorem zr (ha:QE X K a ta) (hb:QE X K b tb):QE X K (.BinOp a .Mult b pos) (wOp uG ta tb):=q_op xV xO ha hb
end
end L2.Q
namespace L2.Q.R
open PySem PySem.Spec PyProof.Rows L2.Q
section
variable {Q:Md→L2.Q.D→Prop} {m m':Md} {xs:List L2.Q.D} {a b:Int} {x:Str}
theorem Hr:fAll m (.list xs) Q = ∃ bs:List Bool,xs=bs.map L2.Q.D.bl∧Q .sh (.bl (bs.all (fun b=>b))):=rfl
theorem Ef:uG m (.int a) m' (.str x) Q=((1≤a∧a≤100∧x.length≤100)∧Q .sh (.str (repS a x))):=rfl
end
end L2.Q.R
namespace L2.Q
open PySem PySem.Spec PyProof.Rows
end L2.Q
set_option Elab.async false
set_option linter.all false
set_option maxRecDepth 100000
set_option maxHeartbeats 4000000
namespace TS
open PySem PySem.SetTable
noncomputable def fk:Nat→Nat→Nat
 | 0,s=>s
 | k+1,s=>5 * fk k s+1
theorem Av (a b s:Nat):fk (a+b) s=fk b (fk a s):=by
 induction b with
 | zero=>rfl
 | succ b ih=>show 5 * fk (a+b) s+1=5 * fk b (fk a s)+1; rw [ih]
theorem tO (n s:Nat):4 * fk n s+1=5 ^ n * (4 * s+1):=by
 induction n with
 | zero=>simp [fk]
 | succ n ih =>
  show 4 * (5 * fk n s+1)+1=5 ^ (n+1) * (4 * s+1)
  rw [Nat.pow_succ,Nat.mul_comm (5 ^ n) 5,Nat.mul_assoc,← ih]; walk_at "l"
theorem vo (m:Nat):∃ q,5 ^ 2 ^ m=1+2 ^ (m+2) * q∧q % 2=1:=by
 induction m with
 | zero=>exact ⟨1,by decide,by decide⟩
 | succ m ih =>
  obtain ⟨q,e,o⟩:=ih
  refine ⟨q+2 ^ (m+1) * (q * q),?_,?_⟩
  ·have hp:5 ^ 2 ^ (m+1)=(5 ^ 2 ^ m) ^ 2:=by rw [Nat.pow_succ 2 m,Nat.pow_mul]
   rw [hp,e]
   clear e hp
   have e1:2 ^ (m+1+2)=2 * 2 ^ (m+2):=by rw [show m+1+2=(m+2)+1 by exact Nat.add_assoc ..,Nat.pow_succ]; walk_at "l"
   have e2:2 ^ (m+2)=2 * 2 ^ (m+1):=by rw [show m+2=(m+1)+1 by rfl,Nat.pow_succ]; walk_at "l"
   rw [e1,e2]
   generalize 2 ^ (m+1)=y
   rw [Nat.pow_two]
   simp only [Nat.mul_add,Nat.add_mul,Nat.one_mul,Nat.mul_one]
   have a1:2 * y * q * (2 * y * q)=2 * (2 * y) * (y * (q * q)):=by
    simp only [Nat.mul_assoc,Nat.mul_left_comm,Nat.mul_comm]
   have a2:2 * (2 * y) * q=2 * y * q+2 * y * q:=by
    rw [Nat.mul_assoc 2 (2 * y) q]; walk_at "l"
   rw [a1,a2]; walk_at "l"
  ·have:2 ^ (m+1) * (q * q) % 2=0:=by
    rw [Nat.pow_succ,Nat.mul_comm (2 ^ m) 2,Nat.mul_assoc,Nat.mul_mod_right]
   walk_at "l"
theorem yH (m x:Nat):∃ r,fk (2 ^ m) x=x+2 ^ m * r∧r % 2=1:=by
 obtain ⟨q,e,o⟩:=vo m
 have c:=tO (2 ^ m) x
 rw [e] at c
 refine ⟨q * (4 * x+1),?_,?_⟩
 ·have e2:2 ^ (m+2)=4 * 2 ^ m:=by rw [Nat.pow_add]; walk_at "l"
  rw [e2,Nat.add_mul,Nat.one_mul,Nat.mul_assoc,Nat.mul_assoc] at c
  walk_at "l"
 ·rw [Nat.mul_mod,o,Nat.one_mul]; walk_at "l"
theorem Aa (m s e:Nat):∃ k,k+1≤2 ^ m∧fk k s % 2 ^ m=e % 2 ^ m:=by
 induction m with
 | zero=>exact ⟨0,by decide,by simp [Nat.mod_one]⟩
 | succ m ih =>
  obtain ⟨k,hk,h⟩:=ih
  have hp:2 ^ (m+1)=2 ^ m * 2:=Nat.pow_succ ..
  have hpos:0<2 ^ m:=Nat.pow_pos (by decide)
  have key:∀ a:Nat,a % (2 ^ m * 2)=a % 2 ^ m+2 ^ m * (a / 2 ^ m % 2):=fun a=>Nat.mod_mul
  by_cases c:fk k s / 2 ^ m % 2=e / 2 ^ m % 2
  ·exact ⟨k,by walk_at "s4",by rw [hp,key,key,h,c]⟩
  ·refine ⟨k+2 ^ m,by walk_at "l",?_⟩
   obtain ⟨r,er,ro⟩:=yH m (fk k s)
   rw [Av,er,hp,key,key,Nat.add_mul_mod_self_left,h,Nat.add_mul_div_left _ _ hpos]
   have:(fk k s / 2 ^ m+r) % 2=e / 2 ^ m % 2:=by walk_at "l"
   rw [this]
noncomputable def adv (M:Nat) (p:Probe):Probe :=
 if p.more>0 then { p with j:=p.j+1,more:=p.more - 1 } else
 { p with j:=(leap M p.i p.perturb).1,more:=runEnd M (leap M p.i p.perturb).1 - (leap M p.i p.perturb).1,i:=(leap M p.i p.perturb).1,perturb:=(leap M p.i p.perturb).2 }
noncomputable def ps (M:Nat) (h:Int):Nat→Probe
 | 0=>{ j:=bits h % (M+1),more:=runEnd M (bits h % (M+1)) - bits h % (M+1),i:=bits h % (M+1),perturb:=bits h,dummy:=none }
 | n+1=>adv M (ps M h n)
noncomputable def J (M:Nat) (h:Int) (n:Nat):Nat:=(ps M h n).j
theorem p8 {M i:Nat} (h:i≤M):i≤runEnd M i∧runEnd M i≤M∧runEnd M i≤i+9:=by
 unfold runEnd; split <;> walk_at "l"
theorem xn (M:Nat) (h:Int):∀ n,(ps M h n).i≤M∧(ps M h n).j+(ps M h n).more≤M∧(ps M h n).dummy=none∧(ps M h n).more≤9
 | 0=>by
  have h0:bits h % (M+1)≤M:=Nat.le_of_lt_succ (Nat.mod_lt _ (Nat.succ_pos _))
  have:=p8 h0
  exact ⟨h0,by show bits h % (M+1)+(runEnd M (bits h % (M+1)) - bits h % (M+1))≤M; walk_at "l",rfl,by show runEnd M (bits h % (M+1)) - bits h % (M+1)≤9; walk_at "l"⟩
 | n+1=>by
  obtain ⟨a,b,c,d⟩:=xn M h n
  show (adv M (ps M h n)).i≤M∧_∧(adv M (ps M h n)).dummy=none∧_
  unfold adv
  by_cases hm:(ps M h n).more>0
  ·simp only [hm,if_true]
   show _∧(adv M (ps M h n)).j+(adv M (ps M h n)).more≤M∧_∧(adv M (ps M h n)).more≤9
   simp only [adv,hm,if_true]
   exact ⟨a,by walk_at "l",c,by walk_at "s4"⟩
  ·simp only [hm,if_false]
   show _∧(adv M (ps M h n)).j+(adv M (ps M h n)).more≤M∧_∧(adv M (ps M h n)).more≤9
   simp only [adv,hm,if_false]
   have h0:(leap M (ps M h n).i (ps M h n).perturb).1≤M:=Nat.le_of_lt_succ (Nat.mod_lt _ (Nat.succ_pos _))
   have:=p8 h0
   exact ⟨h0,by walk_at "l",c,by walk_at "l"⟩
theorem J_le (M:Nat) (h:Int) (n:Nat):J M h n≤M:=by
 have:=xn M h n
 unfold J; walk_at "l"
theorem sU (M:Nat) (h:Int) (n:Nat):∀ r,r≤(ps M h n).more→ps M h (n+r)={ ps M h n with j:=(ps M h n).j+r,more:=(ps M h n).more - r }
 | 0,_=>rfl
 | r+1,hr=>by
  show adv M (ps M h (n+r))=_
  rw [sU M h n r (by exact Nat.le_of_lt ‹_›)]
  unfold adv
  rw [if_pos (show (ps M h n).more - r>0 by walk_at "l")]
  simp only [Probe.mk.injEq,true_and,and_true]
  walk_at "s1"
noncomputable def lp (M:Nat) (h:Int):Nat→Nat × Nat
 | 0=>(bits h % (M+1),bits h)
 | k+1=>leap M (lp M h k).1 (lp M h k).2
noncomputable def blk (M:Nat) (h:Int):Nat→Nat
 | 0=>0
 | k+1=>blk M h k+(runEnd M (lp M h k).1 - (lp M h k).1)+1
theorem yE (M:Nat) (h:Int):∀ k,(lp M h k).1≤M
 | 0=>Nat.le_of_lt_succ (Nat.mod_lt _ (Nat.succ_pos _))
 | k+1=>Nat.le_of_lt_succ (Nat.mod_lt _ (Nat.succ_pos _))
theorem uw (M:Nat) (h:Int):∀ k,blk M h k≤10 * k
 | 0=>Nat.le_refl _
 | k+1=>by
  have:=uw M h k
  have:=p8 (yE M h k)
  show blk M h k+_+1≤_; walk_at "l"
theorem pW (M:Nat) (h:Int):∀ k,ps M h (blk M h k)={ j:=(lp M h k).1,more:=runEnd M (lp M h k).1 - (lp M h k).1,i:=(lp M h k).1,perturb:=(lp M h k).2,dummy:=none }
 | 0=>rfl
 | k+1=>by
  have ih:=pW M h k
  have e:=sU M h (blk M h k) (runEnd M (lp M h k).1 - (lp M h k).1) (by rw [ih]; exact Nat.le_refl _)
  show adv M (ps M h (blk M h k+(runEnd M (lp M h k).1 - (lp M h k).1)))=_
  rw [e,ih]
  unfold adv
  rw [if_neg (by simp)]
  rfl
theorem v7 (M:Nat) (h:Int):∀ k,(lp M h k).2=bits h / 32 ^ k
 | 0=>by simp [lp]
 | k+1=>by
  show (lp M h k).2 / 32=_
  rw [v7 M h k,Nat.div_div_eq_div_mul,Nat.pow_succ]
theorem yz (h:Int):bits h<2 ^ 64:=by
 unfold bits
 have h1:=Int.emod_nonneg h (show (2 ^ 64:Int)≠0 by decide)
 have h2:=Int.emod_lt_of_pos h (show (0:Int)<2 ^ 64 by decide)
 walk_at "l"
theorem tM (M:Nat) (h:Int):∀ k,(lp M h (13+k)).1 % (M+1)=fk k (lp M h 13).1 % (M+1)
 | 0=>rfl
 | k+1=>by
  have e:(lp M h (13+k)).2=0:=by
   rw [v7]
   refine Nat.div_eq_of_lt (Nat.lt_of_lt_of_le (yz h) ?_)
   exact Nat.le_trans (by decide:2 ^ 64≤32 ^ 13) (Nat.pow_le_pow_right (by decide) (by exact Nat.le_add_right _ _))
  show (leap M (lp M h (13+k)).1 (lp M h (13+k)).2).1 % (M+1)=_
  unfold leap
  rw [e]
  show ((lp M h (13+k)).1 * 5+1+0 / 32) % (M+1) % (M+1)=(5 * fk k (lp M h 13).1+1) % (M+1)
  rw [Nat.mod_mod,Nat.zero_div,Nat.add_zero,Nat.add_mod,Nat.mul_mod,tM M h k,← Nat.mul_mod,← Nat.add_mod,Nat.mul_comm]
theorem cover {M m:Nat} (hM:M+1=2 ^ m) (h:Int) {e:Nat} (he:e≤M):∃ k,k≤M+13∧(lp M h k).1=e:=by
 obtain ⟨k,hk,q⟩:=Aa m (lp M h 13).1 e
 rw [← hM] at hk q
 refine ⟨13+k,by walk_at "l",?_⟩
 have:=tM M h k
 rw [q] at this
 rwa [Nat.mod_eq_of_lt (Nat.lt_succ_of_le (yE M h _)),Nat.mod_eq_of_lt (Nat.lt_succ_of_le he)] at this
theorem zz (M:Nat) (h:Int) (k:Nat):J M h (blk M h k)=(lp M h k).1:=by unfold J; rw [pW]
theorem qJ {M m:Nat} (hM:M+1=2 ^ m) (h:Int) (occ:Nat→Bool) {e:Nat} (he:e≤M) (hf:occ e=false):∃ n,n≤10 * (M+13)∧occ (J M h n)=false∧∀ k<n,occ (J M h k)=true:=by
 obtain ⟨k,hk,q⟩:=cover hM h he
 have hb:=uw M h k
 have hB:occ (J M h (blk M h k))=false:=by rw [zz,q]; exact hf
 generalize blk M h k=b at hb hB
 have go:∀ b,occ (J M h b)=false→∃ n,n≤b∧occ (J M h n)=false∧∀ k<n,occ (J M h k)=true:=by
  intro b
  induction b using Nat.strongRecOn with
  | ind b ih =>
   intro hB
   by_cases c:∃ k,k<b∧occ (J M h k)=false
   ·obtain ⟨k,h1,h2⟩:=c
    obtain ⟨n,a1,a2,a3⟩:=ih k h1 h2
    exact ⟨n,by walk_at "s2",a2,a3⟩
   ·refine ⟨b,Nat.le_refl _,hB,fun k hk=>?_⟩
    cases z:occ (J M h k) with
    | true=>rfl
    | false=>exact absurd ⟨k,hk,z⟩ c
 obtain ⟨n,a1,a2,a3⟩:=go b hB
 exact ⟨n,by walk_at "l",a2,a3⟩
end TS
set_option Elab.async false
set_option linter.all false
set_option maxRecDepth 100000
set_option maxHeartbeats 4000000
namespace TS
open PySem PySem.SetTable
noncomputable def Up (xs:Array Nat):Prop:=∀ i j:Nat,i<j→j<xs.size→xs.getD i 0<xs.getD j 0
theorem qd {xs:Array Nat} {i d d':Nat} (h:i<xs.size):xs.getD i d=xs.getD i d':=by simp [Array.getD,h]
theorem kZ {xs:Array Nat} (U:Up xs) (j:Nat):∀ (fuel lo hi:Nat),hi - lo≤fuel→lo≤hi→hi≤xs.size→(∀ i<lo,xs.getD i 0<j)→(∀ i,hi≤i→i<xs.size→j≤xs.getD i 0) →
  below.go xs j fuel lo hi≤xs.size∧(∀ i<below.go xs j fuel lo hi,xs.getD i 0<j)∧(∀ i,below.go xs j fuel lo hi≤i→i<xs.size→j≤xs.getD i 0)
 | 0,lo,hi,hf,h1,h2,h3,h4=>by
  obtain rfl:lo=hi:=by walk_at "l"
  exact ⟨h2,h3,h4⟩
 | fuel+1,lo,hi,hf,h1,h2,h3,h4=>by
  unfold below.go
  by_cases c:lo<hi
  ·rw [if_pos c]
   dsimp only
   have hm:(lo+hi) / 2<xs.size:=by walk_at "l"
   by_cases d:xs.getD ((lo+hi) / 2) j<j
   ·rw [if_pos d]
    rw [qd (d':=0) hm] at d
    refine kZ U j fuel _ _ (by walk_at "l") (by walk_at "l") h2 (fun i hi'=>?_) h4
    by_cases e:i=(lo+hi) / 2
    ·rw [e]; exact d
    ·exact Nat.lt_trans (U i _ (by walk_at "l") hm) d
   ·rw [if_neg d]
    rw [qd (d':=0) hm] at d
    refine kZ U j fuel _ _ (by walk_at "l") (by walk_at "l") (by exact Nat.le_of_lt ‹_›) h3 fun i hi' hs=>?_
    by_cases e:i=(lo+hi) / 2
    ·rw [e]; exact Nat.le_of_not_lt ‹_›
    ·have:=U ((lo+hi) / 2) i (by walk_at "l") hs; walk_at "l"
  ·rw [if_neg c]
   obtain rfl:lo=hi:=by walk_at "l"
   exact ⟨h2,h3,h4⟩
theorem bx {xs:Array Nat} (U:Up xs) (j:Nat):below xs j≤xs.size∧(∀ i<below xs j,xs.getD i 0<j)∧(∀ i,below xs j≤i→i<xs.size→j≤xs.getD i 0) :=
 kZ U j xs.size 0 xs.size (by exact Nat.sub_le _ _) (by exact Nat.zero_le _) (Nat.le_refl _) (fun i h=>absurd h (Nat.not_lt_zero i)) fun i h1 h2=>by walk_at "l"
theorem below_at {xs:Array Nat} (U:Up xs) {i:Nat} (h:i<xs.size):below xs (xs.getD i 0)=i:=by
 obtain ⟨a,b,c⟩:=bx U (xs.getD i 0)
 by_cases h1:below xs (xs.getD i 0)<i
 ·have:=c _ (Nat.le_refl _) (by walk_at "s2")
  have:=U _ i h1 h
  walk_at "l"
 ·by_cases h2:i<below xs (xs.getD i 0)
  ·have:=b i h2; exact absurd ‹_› (Nat.lt_irrefl _)
  ·walk_at "l"
theorem qN {xs:Array Nat} (U:Up xs) {i:Nat} (h:i<xs.size):below xs (xs.getD i 0+1)=i+1:=by
 obtain ⟨a,b,c⟩:=bx U (xs.getD i 0+1)
 by_cases h1:below xs (xs.getD i 0+1)<i+1
 ·have:=c i (by walk_at "l") h; exact absurd ‹_› (Nat.lt_irrefl _)
 ·by_cases h2:i+1<below xs (xs.getD i 0+1)
  ·have:=b (i+1) h2
   have:=U i (i+1) (by exact Nat.le_refl _) (by walk_at "s1"); walk_at "l"
  ·walk_at "l"
noncomputable def taken (xs:Array Nat) (j:Nat):Bool:=xs[below xs j]? == some j
theorem tD {xs:Array Nat} {i j:Nat} (h:xs[i]? = some j):i<xs.size∧xs.getD i 0=j:=by
 obtain ⟨h1,h2⟩:=Array.getElem?_eq_some_iff.mp h
 exact ⟨h1,by simp [Array.getD,h1,h2]⟩
theorem sX {xs:Array Nat} {i:Nat} (h:i<xs.size):xs[i]? = some (xs.getD i 0):=by simp [Array.getD,h]
theorem dN {xs:Array Nat} (U:Up xs) {j:Nat}:taken xs j=true↔∃ i,i<xs.size∧xs.getD i 0=j:=by
 unfold taken
 rw [beq_iff_eq]
 constructor
 ·intro h; exact ⟨_,tD h⟩
 ·rintro ⟨i,h,rfl⟩
  rw [below_at U h]
  exact sX h
theorem gK {xs:Array Nat} (U:Up xs) {j:Nat} (h:taken xs j=true):below xs j<xs.size∧xs.getD (below xs j) 0=j:=by
 unfold taken at h
 rw [beq_iff_eq] at h
 exact tD h
theorem b8 {α:Type} (xs:Array α) {p:Nat} (x:α) (h:p≤xs.size):(insertAt xs p x).size=xs.size+1:=by
 unfold insertAt
 simp
 walk_at "l"
theorem ins_get {α:Type} (xs:Array α) {p:Nat} (x:α) (h:p≤xs.size) (i:Nat):(insertAt xs p x)[i]? = if i<p then xs[i]? else if i=p then some x else xs[i - 1]? := by
 unfold insertAt
 have hs:((xs.extract 0 p).push x).size=p+1:=by simp; exact Nat.min_eq_left ‹_›
 by_cases h1:i<p
 ·rw [if_pos h1,Array.getElem?_append_left (by walk_at "l"),Array.getElem?_push,if_neg (by simp; walk_at "l"),Array.getElem?_extract]
  rw [if_pos (by walk_at "l")]; simp
 ·rw [if_neg h1]
  by_cases h2:i=p
  ·rw [if_pos h2,Array.getElem?_append_left (by walk_at "l"),Array.getElem?_push,if_pos (by simp; walk_at "l")]
  ·rw [if_neg h2,Array.getElem?_append_right (by walk_at "l"),hs,Array.getElem?_extract]
   by_cases h3:i - (p+1)<min xs.size xs.size - p
   ·rw [if_pos h3]
    congr 1; walk_at "l"
   ·rw [if_neg h3,Array.getElem?_eq_none (by walk_at "l")]
theorem cz {xs:Array Nat} {p x:Nat} (h:p≤xs.size) (i:Nat):(insertAt xs p x).getD i 0=if i<p then xs.getD i 0 else if i=p then x else xs.getD (i - 1) 0:=by
 have e:∀ (ys:Array Nat) (k:Nat),ys.getD k 0=ys[k]?.getD 0:=fun ys k=>by
  simp [Array.getD_eq_getD_getElem?]
 rw [e,ins_get xs x h]
 split
 ·rw [e]
 ·split
  ·rfl
  ·rw [e]
theorem wz {xs:Array Nat} (U:Up xs) {j:Nat} (hj:taken xs j=false):Up (insertAt xs (below xs j) j):=by
 obtain ⟨a,b,c⟩:=bx U j
 have ne:∀ i,i<xs.size→xs.getD i 0≠j:=fun i hi e=>by
  have:=(dN U (j:=j)).mpr ⟨i,hi,e⟩
  rw [hj] at this; cases this
 intro i k hik hk
 rw [b8 xs j a] at hk
 rw [cz a,cz a]
 by_cases h1:k<below xs j
 ·rw [if_pos (by walk_at "s2"),if_pos h1]; exact U i k hik (by walk_at "s1")
 ·rw [if_neg h1]
  by_cases h2:k=below xs j
  ·rw [if_pos h2,if_pos (by walk_at "l")]; exact b i (by walk_at "l")
  ·rw [if_neg h2]
   by_cases h3:i<below xs j
   ·rw [if_pos h3]; exact U i (k - 1) (by walk_at "l") (by walk_at "l")
   ·rw [if_neg h3]
    by_cases h4:i=below xs j
    ·rw [if_pos h4]
     have:=c (k - 1) (by walk_at "l") (by walk_at "l")
     have:=ne (k - 1) (by walk_at "l")
     walk_at "l"
    ·rw [if_neg h4]; exact U (i - 1) (k - 1) (by walk_at "l") (by walk_at "l")
theorem rW {xs:Array Nat} (U:Up xs) {j k:Nat} (hj:taken xs j=false):taken (insertAt xs (below xs j) j) k=(decide (k=j) || taken xs k):=by
 have a:=(bx U j).1
 have U':=wz U hj
 apply Bool.eq_iff_iff.mpr
 rw [dN U',Bool.or_eq_true,decide_eq_true_eq,dN U]
 rw [b8 xs j a]
 constructor
 ·rintro ⟨i,hi,e⟩
  rw [cz a] at e
  by_cases h1:i<below xs j
  ·rw [if_pos h1] at e; exact .inr ⟨i,by walk_at "l",e⟩
  ·rw [if_neg h1] at e
   by_cases h2:i=below xs j
   ·rw [if_pos h2] at e; exact .inl e.symm
   ·rw [if_neg h2] at e; exact .inr ⟨i - 1,by walk_at "l",e⟩
 ·rintro (rfl | ⟨i,hi,e⟩)
  ·exact ⟨below xs k,by exact Nat.lt_succ_of_le ‹_›,by rw [cz a,if_neg (by walk_at "l"),if_pos rfl]⟩
  ·by_cases h1:i<below xs j
   ·exact ⟨i,by exact Nat.lt_succ_of_lt ‹_›,by rw [cz a,if_pos h1]; exact e⟩
   ·exact ⟨i+1,by exact Nat.lt_succ_of_le ‹_›,by rw [cz a,if_neg (by walk_at "l"),if_neg (by walk_at "l")]; exact e⟩
noncomputable def Reach (M:Nat) (place:Array Nat) (h:Int) (j:Nat):Prop:=∃ n,n≤10 * (M+13)∧J M h n=j∧∀ k<n,taken place (J M h k)=true
structure TI {α:Type} (t:SetTable) (es:Array (Int × α)):Prop where
 pw:∃ m,t.mask+1=2 ^ m∧3≤m
 sz:t.place.size=es.size
 up:Up t.place
 le:∀ i,i<t.place.size→t.place.getD i 0≤t.mask
 dm:t.dummies = #[]
 few:es.size * 5<t.mask * 3
 path:∀ i h x,es[i]? = some (h,x)→Reach t.mask t.place h (t.place.getD i 0)
section
variable {α:Type} {t:SetTable} {es:Array (Int × α)}
theorem TI.slot (T:TI t es) (j:Nat):t.slot j=if taken t.place j then .live (below t.place j) else .empty:=by
 unfold SetTable.slot taken
 dsimp only
 split
 ·rfl
 ·have:has t.dummies j=false:=by rw [T.dm]; rfl
  rw [this]; rfl
theorem TI.fits (T:TI t es):t.fits es.size=true:=by
 have:=T.few
 simp only [SetTable.fits,fill,T.dm,T.sz,Bool.and_eq_true,beq_iff_eq,decide_eq_true_eq,true_and]
 simp; walk_at "l"
theorem TI.odd (T:TI t es):t.gaveWay=false:=by
 obtain ⟨m,h,h3⟩:=T.pw
 unfold SetTable.gaveWay
 rw [beq_eq_false_iff_ne]
 have:2 ^ m=2 * 2 ^ (m - 1):=by
  rw [show m=(m - 1)+1 by walk_at "l",Nat.pow_succ]; simp; walk_at "l"
 walk_at "l"
theorem TI.free (T:TI t es):∃ e,e≤t.mask∧taken t.place e=false:=by
 have hf:=T.few
 have hs:=T.sz
 by_cases c:∃ e,e≤t.mask∧taken t.place e=false
 ·exact c
 ·exfalso
  have all:∀ e,e≤t.mask→taken t.place e=true:=fun e he=>by
   cases z:taken t.place e with
   | true=>rfl
   | false=>exact absurd ⟨e,he,z⟩ c
  -- slot e stands at place at most e
  have go:∀ e,e≤t.mask→e≤below t.place e:=by
   intro e
   induction e with
   | zero=>intro _; exact Nat.zero_le _
   | succ e ih =>
    intro he
    have h1:=gK T.up (all e (by exact Nat.le_of_lt ‹_›))
    have h2:=gK T.up (all (e+1) he)
    have:=ih (by exact Nat.le_of_lt ‹_›)
    obtain ⟨_,b,c⟩:=bx T.up (e+1)
    by_cases z:below t.place e<below t.place (e+1)
    ·walk_at "s1"
    ·have:=c (below t.place e) (by exact Nat.le_of_not_lt ‹_›) h1.1
     walk_at "l"
  have:=go t.mask (Nat.le_refl _)
  have:=(gK T.up (all t.mask (Nat.le_refl _))).1
  walk_at "l"
theorem TI.put (T:TI t es) {h:Int} {x:α} {j:Nat} (hj:j≤t.mask) (hn:taken t.place j=false) (hr:Reach t.mask t.place h j) {t':SetTable} (ht:t'.mask=t.mask) (hp:t'.place=insertAt t.place (below t.place j) j) (hd:t'.dummies = #[])
  (hf:(es.size+1) * 5<t.mask * 3):TI t' (insertAt es (below t.place j) (h,x)):=by
 have a:=(bx T.up j).1
 have a':below t.place j≤es.size:=by rw [← T.sz]; exact a
 refine ⟨by rw [ht]; exact T.pw,by rw [hp,b8 _ _ a,b8 _ _ a',T.sz],by rw [hp]; exact wz T.up hn,fun i hi=>?_,hd,by rw [b8 _ _ a',ht]; exact hf,fun i g y e=>?_⟩
 ·rw [hp,b8 _ _ a] at hi
  rw [hp,cz a,ht]
  split
  ·exact T.le i (by walk_at "s1")
  ·split
   ·exact hj
   ·exact T.le (i - 1) (by walk_at "l")
 ·have mono:∀ {g:Int} {k:Nat},Reach t.mask t.place g k→Reach t'.mask t'.place g k:=fun {g k} ⟨n,h1,h2,h3⟩=>⟨n,by rw [ht]; exact h1,by rw [ht]; exact h2,fun q hq=>by
   rw [hp,ht,rW T.up hn,h3 q hq,Bool.or_true]⟩
  rw [ins_get es _ a'] at e
  rw [hp,cz a,← hp]
  by_cases h1:i<below t.place j
  ·rw [if_pos h1] at e ⊢
   exact mono (T.path i g y e)
  ·rw [if_neg h1] at e ⊢
   by_cases h2:i=below t.place j
   ·rw [if_pos h2] at e ⊢
    cases e
    exact mono hr
   ·rw [if_neg h2] at e ⊢
    exact mono (T.path (i - 1) g y e)
end
end TS
set_option Elab.async false
set_option linter.all false
set_option maxRecDepth 100000
set_option maxHeartbeats 4000000
namespace TS
open PySem PySem.SetTable
theorem di {α:Type} [DecidableEq α]:∀ {l m:List α},l.Nodup→(∀ x∈l,x∈m)→l.length≤m.length
 | [],_,_,_=>Nat.zero_le _
 | x :: l,m,nd,h=>by
  rw [List.nodup_cons] at nd
  have hx:=h x List.mem_cons_self
  have:=di (l:=l) (m:=m.erase x) nd.2 fun y hy=>(List.mem_erase_of_ne (fun e=>nd.1 (by rw [← e]; exact hy))).mpr (h y (List.mem_cons_of_mem _ hy))
  rw [List.length_erase_of_mem hx] at this
  have:0<m.length:=List.length_pos_of_mem hx
  simp only [List.length_cons]; walk_at "l"
noncomputable def occ (owner:Array (Option Nat)) (j:Nat):Bool:=(owner.getD j (some 0)).isSome
theorem lr {M:Nat} (h:Int) (owner:Array (Option Nat)):∀ (fuel k:Nat),(∀ q<blk M h k,occ owner (J M h q)=true)→(∃ K,k≤K∧K<k+fuel∧K≤M+13∧occ owner (lp M h K).1=false) →
  ∃ j n,layClean.free M owner fuel (lp M h k).1 (lp M h k).2=some j∧J M h n=j∧n≤10 * (M+13)∧occ owner j=false∧∀ q<n,occ owner (J M h q)=true
 | 0,k,_,⟨K,h1,h2,_⟩=>by walk_at "l"
 | fuel+1,k,hq,⟨K,h1,h2,h3,h4⟩=>by
  have hrun:∀ r,r≤runEnd M (lp M h k).1 - (lp M h k).1→J M h (blk M h k+r)=(lp M h k).1+r:=fun r hr=>by
   unfold J
   rw [sU M h (blk M h k) r (by rw [pW]; exact hr),pW]
  have hle:=p8 (yE M h k)
  have e:∀ r,(owner.getD ((lp M h k).1+r) (some 0)).isNone = !occ owner ((lp M h k).1+r):=fun r=>by
   unfold occ; cases owner.getD ((lp M h k).1+r) (some 0) <;> rfl
  unfold layClean.free
  cases hf:(List.range (runEnd M (lp M h k).1+1 - (lp M h k).1)).find? fun r=>(owner.getD ((lp M h k).1+r) (some 0)).isNone with
  | some r =>
   obtain ⟨a1,a2,a3⟩:=List.find?_range_eq_some.mp hf
   have a2:r<runEnd M (lp M h k).1+1 - (lp M h k).1:=by simpa using a2
   rw [e] at a1
   have a1:occ owner ((lp M h k).1+r)=false:=by simpa using a1
   have occs:∀ q<blk M h k+r,occ owner (J M h q)=true:=fun q hqq=>by
    by_cases z:q<blk M h k
    ·exact hq q z
    ·have:=a3 (q - blk M h k) (by walk_at "l")
     rw [e] at this
     have hj:=hrun (q - blk M h k) (by walk_at "l")
     rw [show blk M h k+(q - blk M h k)=q by exact Nat.add_sub_of_le (Nat.le_of_not_lt ‹_›)] at hj
     rw [hj]
     simpa using this
   refine ⟨_,blk M h k+r,rfl,hrun r (by walk_at "l"),?_,a1,occs⟩
   have hb:=uw M h K
   by_cases z:blk M h k+r≤blk M h K
   ·walk_at "l"
   ·have:=occs (blk M h K) (by exact Nat.lt_of_not_le ‹_›)
    rw [zz,h4] at this; cases this
  | none =>
   have hn:=List.find?_eq_none.mp hf
   have occr:∀ r,r≤runEnd M (lp M h k).1 - (lp M h k).1→occ owner ((lp M h k).1+r)=true:=fun r hr=>by
    have:=hn r (by simp; walk_at "l")
    rw [e] at this
    simpa using this
   dsimp only
   have hK:K≠k:=fun z=>by
    subst z
    have:=occr 0 (Nat.zero_le _)
    rw [Nat.add_zero,h4] at this; cases this
   refine lr h owner fuel (k+1) (fun q hqq=>?_) ⟨K,by walk_at "l",by walk_at "l",h3,h4⟩
   by_cases z:q<blk M h k
   ·exact hq q z
   ·have hqq:q<blk M h k+(runEnd M (lp M h k).1 - (lp M h k).1)+1:=hqq
    have hj:=hrun (q - blk M h k) (by walk_at "l")
    rw [show blk M h k+(q - blk M h k)=q by exact Nat.add_sub_of_le (Nat.le_of_not_lt ‹_›)] at hj
    rw [hj]
    exact occr _ (by walk_at "l")
structure OI (M:Nat) (hs:List Int) (owner:Array (Option Nat)):Prop where
 sz:owner.size=M+1
 lt:∀ j v:Nat,owner[j]? = some (some v)→v<hs.length
 inj:∀ j j' v:Nat,owner[j]? = some (some v)→owner[j']? = some (some v)→j=j'
 all:∀ v:Nat,v<hs.length→∃ j:Nat,owner[j]? = some (some v)
 path:∀ j v:Nat,owner[j]? = some (some v)→∃ n,n≤10 * (M+13)∧J M (hs.getD v 0) n=j∧∀ q<n,occ owner (J M (hs.getD v 0) q)=true
theorem nZ {owner:Array (Option Nat)} {j:Nat} (h:j<owner.size):occ owner j=true↔∃ v,owner[j]? = some (some v):=by
 unfold occ
 rw [Array.getElem?_eq_getElem h]
 simp only [Array.getD,h,dite_true,Option.some.injEq]
 cases hh:owner[j] with
 | none =>
  have:owner.getInternal j h=none:=hh
  rw [this]; simp
 | some v =>
  have:owner.getInternal j h=some v:=hh
  rw [this]; simp
theorem OI.free {M:Nat} {hs:List Int} {owner:Array (Option Nat)} (O:OI M hs owner) (hl:hs.length≤M):∃ e,e≤M∧occ owner e=false:=by
 by_cases c:∃ e,e≤M∧occ owner e=false
 ·exact c
 ·exfalso
  have all:∀ e,e≤M→∃ v,owner[e]? = some (some v):=fun e he=>by
   refine (nZ (by rw [O.sz]; exact Nat.lt_succ_of_le ‹_›)).mp ?_
   cases z:occ owner e with
   | true=>rfl
   | false=>exact absurd ⟨e,he,z⟩ c
  have nd:((List.range (M+1)).map fun j=>(owner.getD j none).getD 0).Nodup:=by
   rw [List.nodup_iff_pairwise_ne,List.pairwise_map]
   refine List.Pairwise.imp_of_mem ?_ (List.nodup_iff_pairwise_ne.mp List.nodup_range)
   intro a b ha hb hne z
   obtain ⟨va,ea⟩:=all a (by have:=List.mem_range.mp ha; walk_at "l")
   obtain ⟨vb,eb⟩:=all b (by have:=List.mem_range.mp hb; walk_at "l")
   rw [Array.getD_eq_getD_getElem?,Array.getD_eq_getD_getElem?,ea,eb] at z
   have z:va=vb:=z
   subst z
   exact hne (O.inj _ _ _ ea eb)
  have:=di (m:=List.range hs.length) nd fun x hx=>by
   obtain ⟨j,hj,rfl⟩:=List.mem_map.mp hx
   obtain ⟨v,e⟩:=all j (by have:=List.mem_range.mp hj; walk_at "l")
   rw [Array.getD_eq_getD_getElem?,e]
   exact List.mem_range.mpr (O.lt _ _ e)
  simp at this
  walk_at "l"
theorem OI.lay {M m:Nat} {hs:List Int} {owner:Array (Option Nat)} (hM:M+1=2 ^ m) (O:OI M hs owner) (hl:hs.length≤M) (h:Int) :
  ∃ j,layClean.free M owner (turns M) (bits h % (M+1)) (bits h)=some j∧OI M (hs++[h]) (owner.setIfInBounds j (some hs.length)):=by
 obtain ⟨e,he,hf⟩:=O.free hl
 obtain ⟨K,hK,hKe⟩:=cover hM h he
 obtain ⟨j,n,e1,e2,e3,e4,e5⟩:=lr h owner (turns M) 0 (fun q hq=>absurd hq (Nat.not_lt_zero q)) ⟨K,Nat.zero_le _,by unfold turns; walk_at "l",hK,by rw [hKe]; exact hf⟩
 refine ⟨j,e1,?_⟩
 have hj:j<owner.size:=by rw [O.sz,← e2]; exact Nat.lt_succ_of_le (J_le M h n)
 have get:∀ i,(owner.setIfInBounds j (some hs.length))[i]? = if j=i then some (some hs.length) else owner[i]? := fun i=>by
  rw [Array.getElem?_setIfInBounds]
  by_cases z:j=i
  ·subst z; simp [hj]
  ·simp [z]
 have oc:∀ i,occ owner i=true→occ (owner.setIfInBounds j (some hs.length)) i=true:=fun i hi=>by
  unfold occ at hi ⊢
  rw [Array.getD_eq_getD_getElem?] at hi ⊢
  rw [get]
  split
  ·rfl
  ·exact hi
 have hne:∀ v,owner[j]?≠some (some v):=fun v z=>by
  have:=(nZ hj).mpr ⟨v,z⟩
  rw [e4] at this; cases this
 refine ⟨by rw [Array.size_setIfInBounds]; exact O.sz,fun i v z=>?_,fun i i' v z z'=>?_,fun v hv=>?_,fun i v z=>?_⟩
 ·rw [get] at z
  split at z
  ·cases z; simp
  ·have:=O.lt i v z; simp; exact Nat.lt_succ_of_lt ‹_›
 ·rw [get] at z z'
  split at z
  ·cases z
   split at z'
   ·walk_at "l"
   ·exact absurd (O.lt _ _ z') (Nat.lt_irrefl _)
  ·split at z'
   ·cases z'
    exact absurd (O.lt _ _ z) (Nat.lt_irrefl _)
   ·exact O.inj i i' v z z'
 ·simp at hv
  by_cases c:v=hs.length
  ·exact ⟨j,by rw [get,if_pos rfl,c]⟩
  ·obtain ⟨i,hi⟩:=O.all v (by walk_at "l")
   refine ⟨i,?_⟩
   rw [get,if_neg (fun z=>hne v (by rw [z]; exact hi))]
   exact hi
 ·rw [get] at z
  split at z
  ·rename_i hji
   cases z
   refine ⟨n,e3,?_,fun q hq=>oc _ ?_⟩
   ·rw [List.getD_eq_getElem?_getD,List.getElem?_append_right (Nat.le_refl _)]
    simp [e2,hji]
   ·have:=e5 q hq
    rw [List.getD_eq_getElem?_getD,List.getElem?_append_right (Nat.le_refl _)]
    simpa using this
  ·have hv:=O.lt i v z
   obtain ⟨n',a1,a2,a3⟩:=O.path i v z
   have eg:(hs++[h]).getD v 0=hs.getD v 0:=by
    rw [List.getD_eq_getElem?_getD,List.getD_eq_getElem?_getD,List.getElem?_append_left hv]
   rw [eg]
   exact ⟨n',a1,a2,fun q hq=>oc _ (a3 q hq)⟩
theorem OI.nil (M:Nat):OI M [] (Array.replicate (M+1) none):=by
 have no:∀ (j v:Nat),¬ (Array.replicate (M+1) (none:Option Nat))[j]? = some (some v):=fun j v z=>by
  rw [Array.getElem?_replicate] at z
  split at z <;> cases z
 exact ⟨by simp,fun j v z=>absurd z (no j v),fun j j' v z _=>absurd z (no j v),fun v hv=>absurd hv (Nat.not_lt_zero v),fun j v z=>absurd z (no j v)⟩
theorem wU {M m:Nat} (hM:M+1=2 ^ m) (hs:Array Int) (hl:hs.size≤M):∃ owner,layClean M hs=some owner∧OI M hs.toList owner:=by
 have go:∀ (l pre:List Int) (owner:Array (Option Nat)),OI M pre owner→pre.length+l.length≤M→∃ owner',l.foldl (fun acc h=>do
   let (owner,k) ← acc
   let j ← layClean.free M owner (turns M) (bits h % (M+1)) (bits h)
   pure (owner.setIfInBounds j (some k),k+1)) (some (owner,pre.length))=some (owner',pre.length+l.length)∧OI M (pre++l) owner':=by
  intro l
  induction l with
  | nil=>intro pre owner O _; exact ⟨owner,rfl,by rw [List.append_nil]; exact O⟩
  | cons h l ih =>
   intro pre owner O hz
   rw [List.length_cons] at hz
   obtain ⟨j,e,O'⟩:=O.lay hM (by walk_at "l") h
   obtain ⟨o2,e2,O2⟩:=ih (pre++[h]) _ O' (by simp; walk_at "l")
   refine ⟨o2,?_,by rw [List.append_assoc] at O2; exact O2⟩
   rw [List.foldl_cons]
   have:(do
    let (owner,k) ← (some (owner,pre.length):Option (Array (Option Nat) × Nat))
    let j ← layClean.free M owner (turns M) (bits h % (M+1)) (bits h)
    pure (owner.setIfInBounds j (some k),k+1))=some (owner.setIfInBounds j (some pre.length),(pre++[h]).length):=by
    simp [e]
   rw [this,e2]
   simp; exact Nat.add_right_comm ..
 obtain ⟨o,e,O⟩:=go hs.toList [] _ (OI.nil M) (by simpa using hl)
 refine ⟨o,?_,by simpa using O⟩
 unfold layClean
 rw [← Array.foldl_toList]
 have e':=e
 simp only [List.length_nil] at e'
 rw [e']
 rfl
end TS
set_option Elab.async false
set_option linter.all false
set_option maxRecDepth 100000
set_option maxHeartbeats 4000000
namespace TS
open PySem PySem.SetTable
theorem gm {n:Nat}:∀ (fuel a:Nat),3≤a→n<2 ^ (a+fuel)→∃ b,3≤b∧sizeAbove.go n fuel (2 ^ a)=2 ^ b∧n<2 ^ b∧(2 ^ b≤2 * n∨b=a)
 | 0,a,ha,h=>⟨a,ha,rfl,by simpa using h,.inr rfl⟩
 | fuel+1,a,ha,h=>by
  unfold sizeAbove.go
  by_cases c:2 ^ a≤n
  ·rw [if_pos c]
   obtain ⟨b,h1,h2,h3,h4⟩:=gm fuel (a+1) (by exact Nat.lt_succ_of_lt ‹_›) (by rw [show a+1+fuel=a+(fuel+1) by exact Nat.add_right_comm ..]; exact h)
   refine ⟨b,h1,by rw [Nat.pow_succ] at h2; exact h2,h3,?_⟩
   rcases h4 with h4 | h4
   ·exact .inl h4
   ·left
    rw [h4,Nat.pow_succ]; walk_at "l"
  ·rw [if_neg c]
   exact ⟨a,ha,rfl,by exact Nat.lt_of_not_le ‹_›,.inr rfl⟩
theorem iZ {n:Nat} (h:n<2 ^ 60):∃ b,3≤b∧sizeAbove n=2 ^ b∧n<2 ^ b∧(2 ^ b≤2 * n∨b=3) :=
 gm 64 3 (Nat.le_refl _) (Nat.lt_trans h (by decide))
section
variable {α:Type}
noncomputable def bB (M:Nat) (owner:Array (Option Nat)):List (Nat × Nat):=(List.range (M+1)).filterMap fun j=>(owner.getD j none).map (j,·)
theorem cW {M:Nat} {owner:Array (Option Nat)} {p:Nat × Nat}:p∈bB M owner↔p.1<M+1∧owner[p.1]? = some (some p.2):=by
 unfold bB
 rw [List.mem_filterMap]
 constructor
 ·rintro ⟨j,hj,e⟩
  rw [Array.getD_eq_getD_getElem?] at e
  cases h:owner[j]? with
  | none=>rw [h] at e; cases e
  | some o =>
   rw [h] at e
   cases o with
   | none=>cases e
   | some v =>
    cases e
    exact ⟨List.mem_range.mp hj,h⟩
 ·rintro ⟨h1,h2⟩
  exact ⟨p.1,List.mem_range.mpr h1,by rw [Array.getD_eq_getD_getElem?,h2]; rfl⟩
theorem oA (M:Nat) (owner:Array (Option Nat)):((bB M owner).map (·.1)).Pairwise (· < ·):=by
 unfold bB
 rw [List.pairwise_map,List.pairwise_filterMap]
 refine List.Pairwise.imp ?_ List.pairwise_lt_range
 intro a b hab p hp q hq
 cases h1:owner.getD a none with
 | none=>rw [h1] at hp; cases hp
 | some x =>
  cases h2:owner.getD b none with
  | none=>rw [h2] at hq; cases hq
  | some y =>
   rw [h1] at hp; rw [h2] at hq
   cases hp; cases hq
   exact hab
theorem pP {l:List Nat} (h:l.Pairwise (· < ·)):Up l.toArray:=fun i j hij hj=>by
 have hj:j<l.length:=by simpa using hj
 have:=List.pairwise_iff_getElem.mp h i j (by walk_at "s1") hj hij
 have e:∀ k (hk:k<l.length),l.toArray.getD k 0=l[k]:=fun k hk=>by simp [Array.getD,hk]
 rw [e i (by walk_at "s1"),e j hj]
 exact this
theorem pC {β:Type} {f:α→Option β}:∀ {l:List α},(∀ x∈l,(f x).isSome=true)→(l.filterMap f).length=l.length∧∀ i:Nat,(l.filterMap f)[i]? = (l[i]?).bind f
 | [],_=>⟨rfl,fun i=>by simp⟩
 | x :: l,h=>by
  obtain ⟨a,b⟩:=pC (f:=f) (l:=l) fun y hy=>h y (List.mem_cons_of_mem _ hy)
  have hx:=h x List.mem_cons_self
  cases e:f x with
  | none=>rw [e] at hx; cases hx
  | some y =>
   rw [List.filterMap_cons,e]
   refine ⟨by simp [a],fun i=>?_⟩
   cases i with
   | zero=>simp [e]
   | succ i=>simpa using b i
theorem oV (es:Array (Int × α)):(List.range es.size).filterMap (fun i=>es[i]?)=es.toList:=by
 apply List.ext_getElem?
 intro i
 rw [(pC (l:=List.range es.size) fun x hx=>by
  have:=List.mem_range.mp hx
  simp [this]).2 i]
 by_cases h:i<es.size
 ·rw [List.getElem?_range h,Array.getElem?_toList]; rfl
 ·rw [List.getElem?_eq_none (by simpa using h),List.getElem?_eq_none (by simpa using h)]; rfl
theorem xH {M m finger moves:Nat} {led plain:Bool} (hM:M+1=2 ^ m) (hm:3≤m) {es:Array (Int × α)} (hf:es.size * 5<M * 3) :
  ∃ t order,laid M finger moves led plain (es.map (·.1))=some (t,order)∧t.plain=plain∧t.led=led∧t.mask=M∧TI t (order.filterMap fun i=>es[i]?)∧(order.filterMap fun i=>es[i]?).size=es.size∧(order.filterMap fun i=>es[i]?).toList.Perm es.toList∧order.toList.Perm (List.range es.size):=by
 obtain ⟨owner,e,O⟩:=wU hM (es.map (·.1)) (by rw [Array.size_map]; walk_at "l")
 have hn:(es.map (·.1)).toList.length=es.size:=by simp
 refine ⟨{ mask:=M,place:=((bB M owner).map (·.1)).toArray,dummies:=#[],finger,led,moves,plain },((bB M owner).map (·.2)).toArray,?_,rfl,rfl,rfl,?_⟩
 ·unfold laid
  rw [e]; rfl
 have vlt:∀ p∈bB M owner,p.2<es.size:=fun p hp=>by
  have:=O.lt _ _ (cW.mp hp).2
  walk_at "l"
 have nd:((bB M owner).map (·.2)).Nodup:=by
  rw [List.nodup_iff_pairwise_ne,List.pairwise_map]
  have:=oA M owner
  rw [List.pairwise_map] at this
  refine List.Pairwise.imp_of_mem ?_ this
  intro p q hp hq hlt z
  have:=O.inj _ _ _ (cW.mp hp).2 (by rw [z]; exact (cW.mp hq).2)
  walk_at "l"
 have pm:((bB M owner).map (·.2)).Perm (List.range es.size):=by
  refine (List.perm_ext_iff_of_nodup nd List.nodup_range).mpr fun v=>⟨fun hv=>?_,fun hv=>?_⟩
  ·obtain ⟨p,hp,rfl⟩:=List.mem_map.mp hv
   exact List.mem_range.mpr (vlt p hp)
  ·obtain ⟨j,hj⟩:=O.all v (by rw [hn]; exact List.mem_range.mp hv)
   have hjs:=(Array.getElem?_eq_some_iff.mp hj).1
   rw [O.sz] at hjs
   exact List.mem_map.mpr ⟨(j,v),cW.mpr ⟨hjs,hj⟩,rfl⟩
 have hlen:(bB M owner).length=es.size:=by
  have:=pm.length_eq
  simpa using this
 have hes:(((bB M owner).map (·.2)).toArray.filterMap fun i=>es[i]?).toList=(bB M owner).filterMap fun p=>es[p.2]? := by
  rw [Array.toList_filterMap,List.filterMap_map]; rfl
 obtain ⟨f1,f2⟩:=pC (l:=bB M owner) (f:=fun p=>es[p.2]?) fun p hp=>by simp [vlt p hp]
 have hget:∀ i:Nat,(((bB M owner).map (·.2)).toArray.filterMap fun i=>es[i]?)[i]? = ((bB M owner)[i]?).bind fun p=>es[p.2]? := fun i=>by
  rw [← Array.getElem?_toList,hes]; exact f2 i
 have hsz:(((bB M owner).map (·.2)).toArray.filterMap fun i=>es[i]?).size=es.size:=by
  rw [← Array.length_toList,hes,f1,hlen]
 have hpl:∀ i:Nat,∀ p,(bB M owner)[i]? = some p→((bB M owner).map (·.1)).toArray.getD i 0=p.1:=fun i p hp=>by
  rw [Array.getD_eq_getD_getElem?]
  simp [hp]
 have tk:∀ j,occ owner j=true→j≤M→taken ((bB M owner).map (·.1)).toArray j=true:=fun j hj hM'=>by
  obtain ⟨v,hv⟩:=(nZ (by rw [O.sz]; exact Nat.lt_succ_of_le ‹_›)).mp hj
  obtain ⟨i,hi⟩:=List.mem_iff_getElem?.mp (cW.mpr (show ((j,v):Nat × Nat).1<M+1∧owner[((j,v):Nat × Nat).1]? = some (some ((j,v):Nat × Nat).2) from ⟨by show j<M+1; exact Nat.lt_succ_of_le ‹_›,hv⟩))
  exact (dN (pP (oA M owner))).mpr ⟨i,by
   have:=(List.getElem?_eq_some_iff.mp hi).1
   simpa using this,hpl i _ hi⟩
 refine ⟨?_,hsz,?_,by simpa using pm⟩
 ·refine ⟨⟨m,hM,hm⟩,?_,pP (oA M owner),fun i hi=>?_,rfl,by rw [hsz]; exact hf,fun i h x hx=>?_⟩
  ·rw [hsz]; simp [hlen]
  ·have hi:i<(bB M owner).length:=by simpa using hi
   have e1:=List.getElem?_eq_getElem hi
   show ((bB M owner).map (·.1)).toArray.getD i 0≤M
   rw [hpl i _ e1]
   have:=(cW.mp (List.mem_of_getElem? e1)).1
   walk_at "l"
  ·rw [hget] at hx
   cases hp:(bB M owner)[i]? with
   | none=>rw [hp] at hx; cases hx
   | some p =>
    rw [hp] at hx
    have hx:es[p.2]? = some (h,x):=hx
    have hm':=cW.mp (List.mem_of_getElem? hp)
    obtain ⟨n,a1,a2,a3⟩:=O.path _ _ hm'.2
    have hh:(es.map (·.1)).toList.getD p.2 0=h:=by
     rw [List.getD_eq_getElem?_getD,Array.getElem?_toList,Array.getElem?_map,hx]; rfl
    rw [hh] at a2 a3
    refine ⟨n,a1,?_,fun q hq=>tk _ (a3 q hq) (J_le M h q)⟩
    show J M h n=((bB M owner).map (·.1)).toArray.getD i 0
    rw [hpl i _ hp]; exact a2
 ·rw [hes]
  have:=pm.filterMap fun i=>es[i]?
  rw [oV,List.filterMap_map] at this
  exact this
theorem qZ {t:SetTable} {es:Array (Int × α)} (hn:es.size≤10000) :
  ∃ t' order,t.relaid (es.map (·.1)) (grown es.size)=some (t',order)∧t'.plain=t.plain∧t'.led=t.led∧sizeAbove (grown es.size)≤16777216∧(es.size≤1000→t'.mask≤8191)∧TI t' (order.filterMap fun i=>es[i]?)∧(order.filterMap fun i=>es[i]?).size=es.size∧(order.filterMap fun i=>es[i]?).toList.Perm es.toList∧order.toList.Perm (List.range es.size):=by
 have hg:grown es.size=es.size * 4:=by unfold grown; rw [if_neg (by walk_at "l")]
 obtain ⟨b,h3,e,hlt,hle⟩:=iZ (n:=es.size * 4) (by walk_at "l")
 have h8:8≤2 ^ b:=Nat.pow_le_pow_right (n:=2) (by decide) h3
 unfold relaid
 rw [hg,e]
 obtain ⟨t',order,q1,q2,q3,qm,q4⟩:=xH (M:=2 ^ b - 1) (m:=b) (finger:=t.finger) (moves:=t.movedTo (2 ^ b - 1)) (led:=t.led) (plain:=t.plain) (by walk_at "l") h3 (es:=es) (by walk_at "l")
 refine ⟨t',order,q1,q2,q3,?_,fun hz=>?_,q4⟩
 ·rcases hle with hle | rfl
  ·walk_at "l"
  ·decide
 ·rw [qm]
  rcases hle with hle | rfl
  ·walk_at "l"
  ·decide
end
end TS
set_option Elab.async false
set_option linter.all false
set_option maxRecDepth 100000
set_option maxHeartbeats 4000000
namespace TS
open PySem PySem.SetTable
section
variable {α:Type} {t:SetTable} {es:Array (Int × α)}
theorem oR (T:TI t es) (hashAt:Nat→Int) (h:Int):∀ (fuel n:Nat),(∃ N,n≤N∧N<n+fuel∧taken t.place (J t.mask h N)=false) →
  ∃ n',n≤n'∧n'<n+fuel∧(∀ q,n≤q→q<n'→taken t.place (J t.mask h q)=true∧hashAt (below t.place (J t.mask h q))≠h) ∧
   ((taken t.place (J t.mask h n')=false∧probe.go t hashAt h fuel (ps t.mask h n)=some (.empty (J t.mask h n') none)) ∨
    (taken t.place (J t.mask h n')=true∧hashAt (below t.place (J t.mask h n'))=h∧probe.go t hashAt h fuel (ps t.mask h n)=some (.candidate (J t.mask h n') (below t.place (J t.mask h n')) (ps t.mask h (n'+1)))))
 | 0,n,⟨N,h1,h2,_⟩=>by walk_at "l"
 | fuel+1,n,⟨N,h1,h2,h3⟩=>by
  unfold probe.go
  have hs:=T.slot (J t.mask h n)
  have hd:=(xn t.mask h n).2.2.1
  by_cases c:taken t.place (J t.mask h n)=true
  ·rw [if_pos c] at hs
   have hs:t.slot (ps t.mask h n).j=.live (below t.place (J t.mask h n)):=hs
   rw [hs]
   dsimp only
   by_cases e:hashAt (below t.place (J t.mask h n))=h
   ·rw [if_pos (by simpa using e)]
    exact ⟨n,Nat.le_refl _,by (clear h1 h2 h3 hd c hs e; walk_at "l"),fun q a b=>by (clear h1 h2 h3 hd c hs e; walk_at "l"),.inr ⟨c,e,rfl⟩⟩
   ·rw [if_neg (by simpa using e)]
    have hN:N≠n:=fun z=>by rw [z,c] at h3; cases h3
    obtain ⟨n',a1,a2,a3,a4⟩:=oR T hashAt h fuel (n+1) ⟨N,by (clear h2 h3 hd c hs e; walk_at "l"),by (clear h1 h3 hd c hs e hN; walk_at "l"),h3⟩
    refine ⟨n',by (clear h1 h2 h3 hd c hs e hN a2 a4; exact Nat.le_of_lt ‹_›),by (clear h1 h2 h3 hd c hs e hN a1 a4; walk_at "l"),fun q b1 b2=>?_,a4⟩
    by_cases z:q=n
    ·subst z; exact ⟨c,e⟩
    ·exact a3 q (by (clear h1 h2 h3 hd c hs e hN a1 a2 a4 b2; walk_at "l")) b2
  ·have c:taken t.place (J t.mask h n)=false:=by simpa using c
   rw [if_neg (by rw [c]; exact Bool.false_ne_true)] at hs
   have hs:t.slot (ps t.mask h n).j=.empty:=hs
   rw [hs]
   dsimp only
   rw [hd]
   exact ⟨n,Nat.le_refl _,by (clear h1 h2 h3 hd c hs; walk_at "l"),fun q a b=>by (clear h1 h2 h3 hd c hs; walk_at "l"),.inl ⟨c,rfl⟩⟩
end
section
variable {prog:Program} {w:World} {K:Type} [DecidableEq K] {knd:KeyKind prog w K}
noncomputable abbrev aW (knd:KeyKind prog w K) (k:List K):Int:=tupleKeyHash knd k
noncomputable def vG (knd:KeyKind prog w K) (p:List K × Addr):Int × Value:=(aW knd p.1,.ref p.2)
structure SetT (knd:KeyKind prog w K) (h:Heap) (a:Addr) (ks:List (List K × Addr)):Prop where
 ob:∃ o es ep t,h.get? a=some o∧o.ExactSet∧o.data=.set es ep t∧TI t es∧t.mask≤8191∧t.led=(!w.params.followText "set-order")∧es.toList=ks.map (vG knd)
 nd:(ks.map (·.1)).Nodup
 is:∀ p∈ks,IsTupleKey knd h p.1 p.2
variable {A:Around} {E:Value→Shared→Prop} {s:Shared}
theorem g_ {k:List K} {a:Addr} {Q:Bool→Shared→Prop} (hk:IsTupleKey knd s.heap k a) (h:Q false s):wpAny (model prog w) A (ofAClassStatement 8 (.ref a)) Q E s:=by
 have hT:=hk.typeIs
 obtain ⟨o,items,n,ho,_,hd,hi⟩:=hk
 unfold ofAClassStatement
 refine wpAny_bind (wpAny_typeOf hT ?_)
 dsimp only
 refine wpAny_bind ?_
 refine wpAny_pure ?_
 simp only [Bool.not_true,Bool.false_eq_true,if_false]
 refine wpAny_bind (wpAny_seqItems ho hd ?_)
 dsimp only
 refine wpAny_bind ?_
 rw [← Array.forIn_toList]
 refine wpAny_forIn_list _ (fun rest r s'=>r.1=none∧s'=s∧∀ v∈rest,carriedByValue v=true) _ ?_ ?_ _ _ ⟨rfl,rfl,hi.byValue⟩
 ·rintro v rest r s' ⟨hr,rfl,hall⟩
  have hv:=hall v List.mem_cons_self
  have e:ofAClassStatement 7 v=pure false:=by
   cases v with
   | ref a=>cases hv
   | _=>rfl
  rw [e]
  refine wpAny_bind (wpAny_pure ?_)
  simp only [Bool.false_eq_true,if_false]
  exact wpAny_pure ⟨rfl,rfl,fun u hu'=>hall u (List.mem_cons_of_mem _ hu')⟩
 ·rintro ⟨r1,r2⟩ s' ⟨hr,rfl,_⟩
  simp only at hr
  subst hr
  exact wpAny_pure h
theorem fU {k:List K} {a:Addr} {Q:Bool→Shared→Prop} (hk:IsTupleKey knd s.heap k a) (hsc:∀ k v,knd.is k v=true→v.scannable=true) (h:∀ b,Q b s):wpAny (model prog w) A (hashByValue 8 (.ref a)) Q E s:=by
 have hT:=hk.typeIs
 obtain ⟨o,items,n,ho,_,hd,hi⟩:=hk
 have hsc':∀ v∈items.toList,v.scannable=true:=by
  clear ho hd
  generalize items.toList=l at hi
  induction hi with
  | nil=>intro v hv; cases hv
  | cons h1 _ ih =>
   intro v hv
   rcases List.mem_cons.mp hv with rfl | hv
   ·exact hsc _ _ h1
   ·exact ih v hv
 unfold hashByValue
 refine wpAny_bind (wpAny_specialOf hT F.slot_tuple_hash.lookup ?_)
 dsimp only
 refine wpAny_bind (wpAny_seqItems ho hd ?_)
 dsimp only [Option.getD]
 refine wpAny_bind ?_
 rw [← Array.forIn_toList]
 refine wpAny_forIn_list _ (fun rest r s'=>s'=s∧∀ v∈rest,v.scannable=true) _ ?_ ?_ _ _ ⟨rfl,hsc'⟩
 ·rintro v rest r s' ⟨rfl,hall⟩
  rw [hashByValue_scannable 7 (hall v List.mem_cons_self)]
  refine wpAny_bind (wpAny_pure ?_)
  split
  ·exact wpAny_pure (wpAny_pure (h _))
  ·exact wpAny_pure ⟨rfl,fun u hu'=>hall u (List.mem_cons_of_mem _ hu')⟩
 ·rintro ⟨r1,r2⟩ s' ⟨rfl,_⟩
  cases r1 with
  | none=>exact wpAny_pure (h true)
  | some b=>exact wpAny_pure (h b)
end
end TS
namespace TS
open PySem PySem.SetTable
local macro_rules | `(tactic| walk_at $s:str) => do
 let x:=s.getString
 if x.startsWith "PV" then `(tactic| exact $(Lean.mkIdent (.str (.str (.num (.str (.str (.str .anonymous "_private") "PySem") "SetOps") 0) "PySem") (x.drop 2).toString)))
 else Lean.Macro.throwUnsupported
noncomputable abbrev q_:Array (Int × Value)→Nat→Int:=by walk_at "PVstoredHashAt"
noncomputable abbrev yO:Array (Int × Value)→Option (SetTable × Array Nat)→Sem (Array (Int × Value) × SetTable):=by walk_at "PVreordered"
noncomputable abbrev j_:Array (Int × Value)→SetTable→Bool:=by walk_at "PVdrawn"
noncomputable abbrev C_:Array (Int × Value)→SetTable→Sem Unit:=by walk_at "PVmustBeLedForItsPlaces"
noncomputable def n8:Array (Int × Value)→Nat→Int:=q_
theorem lu (es:Array (Int × Value)) (i:Nat):n8 es i=(es[i]?.map (·.1)).getD 0:=rfl
section
variable {prog:Program} {w:World} {K:Type} [DecidableEq K] {knd:KeyKind prog w K} {A:Around} {E:Value→Shared→Prop} {s:Shared}
theorem qK {k:List K} {a:Addr} {ys:List Value} {Q:Bool→Shared→Prop} (hk:IsTupleKey knd s.heap k a) (hy:∀ y∈ys,∃ k' b,y=.ref b∧IsTupleKey knd s.heap k' b) (h:Q false s):wpAny (model prog w) A (searchCouldBeSeen (.ref a) ys) Q E s:=by
 unfold searchCouldBeSeen
 refine wpAny_bind ?_
 refine wpAny_forIn_list _ (fun rest r s'=>r.1=none∧s'=s∧∀ y∈rest,∃ k' b,y=.ref b∧IsTupleKey knd s.heap k' b) _ ?_ ?_ _ _ ⟨rfl,rfl,hy⟩
 ·rintro y rest r s' ⟨hr,rfl,hall⟩
  obtain ⟨k',b,rfl,hb⟩:=hall y List.mem_cons_self
  have go:∀ (P:Prop),P→P:=fun _ p=>p
  dsimp only
  split
  ·exact wpAny_pure ⟨rfl,rfl,fun u hu'=>hall u (List.mem_cons_of_mem _ hu')⟩
  ·refine wpAny_bind (wpAny_eqIsQuiet_tuple hk ?_)
   simp only [Bool.not_true,Bool.false_eq_true,if_false]
   refine wpAny_bind (wpAny_eqIsQuiet_tuple hb ?_)
   simp only [Bool.not_true,Bool.false_eq_true,if_false]
   refine wpAny_bind (g_ hk ?_)
   simp only [Bool.false_eq_true,if_false]
   refine wpAny_bind (g_ hb ?_)
   simp only [Bool.false_eq_true,if_false]
   exact wpAny_pure ⟨rfl,rfl,fun u hu'=>hall u (List.mem_cons_of_mem _ hu')⟩
 ·rintro ⟨r1,r2⟩ s' ⟨hr,rfl,_⟩
  simp only at hr
  subst hr
  exact wpAny_pure h
theorem Cr {K G:Prop} (pk:K) (h:K→G):G:=h pk
theorem lH {a x:Addr} {k:List K} {ks:List (List K × Addr)} {o:Obj} {es:Array (Int × Value)} {ep:Nat} {t:SetTable} (hu:A.units<cLine) (ho:s.heap.get? a=some o) (hd:o.data=.set es ep t) (T:TI t es) (he:es.toList=ks.map (vG knd))
  (his:∀ p∈ks,IsTupleKey knd s.heap p.1 p.2) (hx:IsTupleKey knd s.heap k x) {Q:SetFound→Shared→Prop} (hyes:k∈ks.map (·.1)→Q (.there none) s)
  (nf:Nat) (hnf:nf≤10 * (t.mask+13)) (hfr:taken t.place (J t.mask (aW knd k) nf)=false) (hbf:∀ q<nf,taken t.place (J t.mask (aW knd k) q)=true)
  (hno:k∉ks.map (·.1)→Q (.free (J t.mask (aW knd k) nf) false) s) :
  ∀ (fuel n:Nat) (stand:Option Probe),stand.getD (t.probeStart (aW knd k))=ps t.mask (aW knd k) n→n≤nf→nf<n+fuel →
   (∀ q<n,∀ p,ks[below t.place (J t.mask (aW knd k) q)]? = some p→p.1≠k)→wpAny (model prog w) A (setSearchFrom a (.ref x) (aW knd k) true fuel stand) Q E s
 | 0,n,stand,_,h1,h2,_=>by (clear hu ho hd he hyes hnf hfr hno; walk_at "l")
 | fuel+1,n,stand,hst,h1,h2,hq=>by
  have hel:∀ i:Nat,es[i]? = (ks[i]?).map (vG knd):=fun i=>by rw [← Array.getElem?_toList,he,List.getElem?_map]
  unfold setSearchFrom
  refine wpAny_bind (wpAny_setState_of ho hd T.fits ?_)
  dsimp only
  rw [if_neg (by rw [T.odd]; exact Bool.false_ne_true)]
  obtain ⟨n',a1,a2,a3,a4⟩:=oR T (n8 es) (aW knd k) (10 * turns t.mask) n ⟨nf,h1,by unfold turns; (clear hu ho hd he hyes hfr hno hst h1 h2; walk_at "l"),hfr⟩
  have hn':n'≤nf:=by
   by_cases z:n'≤nf
   ·exact z
   ·have:=(a3 nf h1 (by (clear hu ho hd he hyes hnf hfr hno hst h1 h2 a1 a2 a4; exact Nat.lt_of_not_le ‹_›))).1
    rw [hfr] at this; cases this
  rcases a4 with ⟨c1,c2⟩ | ⟨c1,c2,c3⟩
  ·have c2:t.probe (n8 es) (aW knd k) (stand.getD (t.probeStart (aW knd k)))=some (.empty (J t.mask (aW knd k) n') none):=by rw [hst]; exact c2
   have e:n'=nf:=by
    by_cases z:n'<nf
    ·have:=hbf n' z
     rw [c1] at this; cases this
    ·(clear hu ho hd he hyes hnf hfr hno hst h1 h2 a1 a2 c1 c2; walk_at "l")
   have c2:t.probe (q_ es) (aW knd k) (stand.getD (t.probeStart (aW knd k)))=some (.empty (J t.mask (aW knd k) n') none):=c2
   rw [c2]
   dsimp only
   rw [e]
   refine wpAny_pure (hno fun hm=>?_)
   obtain ⟨p,hp,rfl⟩:=List.mem_map.mp hm
   obtain ⟨i,hi⟩:=List.mem_iff_getElem?.mp hp
   have ei:es[i]? = some (aW knd p.1,.ref p.2):=by rw [hel,hi]; rfl
   have his':i<t.place.size:=by rw [T.sz]; exact (Array.getElem?_eq_some_iff.mp ei).1
   obtain ⟨ni,b1,b2,b3⟩:=T.path i _ _ ei
   have bt:below t.place (J t.mask (aW knd p.1) ni)=i:=by rw [b2]; exact below_at T.up his'
   have tk:taken t.place (J t.mask (aW knd p.1) ni)=true:=by rw [b2]; exact (dN T.up).mpr ⟨i,his',rfl⟩
   have hlt:ni<nf:=by
    by_cases z:nf<ni
    ·have:=b3 nf z
     rw [hfr] at this; cases this
    ·have:ni≠nf:=fun z=>by rw [z,hfr] at tk; cases tk
     (clear hu ho hd he hnf h1 h2 a1 a2 hn' hyes hfr hno hst c1 c2 hi ei his' b1 b2 bt tk; walk_at "l")
   by_cases z:ni<n
   ·exact hq ni z p (by rw [bt]; exact hi) rfl
   ·refine (a3 ni (by (clear hu ho hd he hnf h1 h2 a1 a2 hn' e hyes hfr hno hst c1 c2 hi ei his' b1 b2 bt tk hlt; exact Nat.le_of_not_lt ‹_›)) (by (clear hu ho hd he hnf h1 h2 a1 a2 hn' hyes hfr hno hst c1 c2 hi ei his' b1 b2 bt tk z; walk_at "l"))).2 ?_
    rw [bt,lu,ei]; rfl
  ·have c3:t.probe (q_ es) (aW knd k) (stand.getD (t.probeStart (aW knd k)))=some (.candidate (J t.mask (aW knd k) n') (below t.place (J t.mask (aW knd k) n')) (ps t.mask (aW knd k) (n'+1))):=by rw [hst]; exact c3
   rw [c3]
   dsimp only
   have tk:=gK T.up c1
   have hsl:t.slot (J t.mask (aW knd k) n')=.live (below t.place (J t.mask (aW knd k) n')):=by rw [T.slot,if_pos c1]
   generalize hi:below t.place (J t.mask (aW knd k) n')=i at tk c2 hsl ⊢
   have hil:i<es.size:=by rw [← T.sz]; exact tk.1
   obtain ⟨p,hp⟩:∃ p,ks[i]? = some p:=by
    have:i<ks.length:=by
     have:=congrArg List.length he
     simp at this; (clear hu ho hd he hyes hnf hfr hno hst h1 h2 a1 a2 hn' c1 c3 hi tk c2 hsl; walk_at "l")
    exact ⟨_,List.getElem?_eq_getElem this⟩
   have ei:es[i]? = some (aW knd p.1,.ref p.2):=by rw [hel,hp]; rfl
   have hpm:=List.mem_of_getElem? hp
   have hne:n'≠nf:=fun z=>by rw [z,hfr] at c1; cases c1
   have again:¬ p.1=k→wpAny (model prog w) A (setSearchFrom a (.ref x) (aW knd k) true fuel (some (ps t.mask (aW knd k) (n'+1)))) Q E s:=fun hpk =>
    lH hu ho hd T he his hx hyes nf hnf hfr hbf hno fuel (n'+1) (some (ps t.mask (aW knd k) (n'+1))) rfl (by (clear hu ho hd he hyes hnf hfr hno hst h1 h2 a1 a2 c1 c3 hi tk c2 hsl hil hp ei hpk; walk_at "l")) (by (clear hu ho hd he hyes hnf hfr hno hst h1 a2 hn' c1 c3 hi tk c2 hsl hil hp ei hne hpk; walk_at "l")) fun q hqq p' hp'=>by
     by_cases z:q<n
     ·exact hq q z p' hp'
     ·by_cases z2:q=n'
      ·subst z2
       rw [hi,hp] at hp'
       cases hp'
       exact hpk
      ·intro e'
       have:=(a3 q (by (clear hu ho hd he hyes hnf hfr hno hst h1 h2 a1 a2 hn' c1 c3 hi tk c2 hsl hil hp ei hne hpk hqq hp' z2 e'; exact Nat.le_of_not_lt ‹_›)) (by (clear hu ho hd he hyes hnf hfr hno hst h1 h2 a1 a2 hn' c1 c3 hi tk c2 hsl hil hp ei hne hpk hp' z e'; walk_at "l"))).2
       refine this ?_
       rw [lu,hel,hp']
       show aW knd p'.1=_
       rw [e']
   have hin:p.1=k→k∈ks.map (·.1):=fun e=>e ▸ List.mem_map.mpr ⟨p,hpm,rfl⟩
   have seen:∀ y∈List.map (fun x=>x.snd) (Array.filter (fun x=>x.fst == aW knd k) es).toList,∃ k' b,y=.ref b∧IsTupleKey knd s.heap k' b:=fun y hy=>by
    obtain ⟨e',he',rfl⟩:=List.mem_map.mp hy
    rw [Array.toList_filter] at he'
    have:=(List.mem_filter.mp he').1
    rw [he] at this
    obtain ⟨p',hp',rfl⟩:=List.mem_map.mp this
    exact ⟨p'.1,p'.2,rfl,his p' hp'⟩
   refine Cr ?pk (K:=?K) fun key=>?main
   case main =>
    split
    ·refine wpAny_bind (qK hx seen ?_)
     rw [if_neg Bool.false_ne_true]
     exact key
    ·exact key
   rw [ei]
   dsimp only
   refine wpAny_bind (wpAny_holding (wpAny_eqBool_tuple hu (his p hpm) hx ?_))
   refine wpAny_bind (wpAny_setState_of ho hd T.fits ?_)
   dsimp only
   by_cases e:p.1=k
   ·rw [if_pos (by simp [e])]
    exact wpAny_pure (hyes (hin e))
   ·rw [if_neg (by simp [e])]
    have hsm:t.sameMemory t.moves t.mask=some true:=by unfold sameMemory; rw [if_pos (by simp)]
    rw [hsm]
    dsimp only
    rw [if_pos rfl,hsl]
    dsimp only
    rw [ei]
    dsimp only
    refine wpAny_bind (m:=isSame (.ref p.2) (.ref p.2)) ?_
    unfold isSame
    dsimp only
    rw [if_pos (by simp)]
    refine wpAny_pure (wpAny_bind (wpAny_pure ?_))
    rw [if_pos rfl]
    dsimp only
    rw [if_neg (by simp [e])]
    exact again e
end
end TS
set_option Elab.async false
set_option linter.all false
set_option maxRecDepth 100000
set_option maxHeartbeats 4000000
namespace TS
open PySem PySem.SetTable
theorem mH {α β:Type} {f:α→β}:∀ {l l2:List β},l.Perm l2→∀ {m:List α},l2=m.map f→∃ m':List α,l=m'.map f∧m'.Perm m:=by
 intro l l2 p
 induction p with
 | nil=>intro m e; exact ⟨m,by rw [← e],.refl _⟩
 | cons x _ ih =>
  intro m e
  cases m with
  | nil=>cases e
  | cons y m =>
   simp only [List.map_cons,List.cons.injEq] at e
   obtain ⟨m',e1,p1⟩:=ih e.2
   exact ⟨y :: m',by rw [List.map_cons,← e1,e.1],p1.cons _⟩
 | swap x y l =>
  intro m e
  match m,e with
  | a :: b :: m,e =>
   simp only [List.map_cons,List.cons.injEq] at e
   exact ⟨b :: a :: m,by simp [e.1,e.2.1,e.2.2],.swap ..⟩
 | trans _ _ ih1 ih2 =>
  intro m e
  obtain ⟨m',e1,p1⟩:=ih2 e
  obtain ⟨m2,e2,p2⟩:=ih1 e1
  exact ⟨m2,e2,p2.trans p1⟩
theorem qM {α:Type} (xs:Array α) (p:Nat) (x:α):(insertAt xs p x).toList=xs.toList.take p++x :: xs.toList.drop p:=by
 unfold insertAt
 simp
 rw [List.take_of_length_le (by simp)]
theorem lR {prog:Program} {w:World} {A:Around} {E:Value→Shared→Prop} {s:Shared} {es:Array (Int × Value)} {t:SetTable} {order:Array Nat} {Q:Array (Int × Value) × SetTable→Shared→Prop} (hz:(order.filterMap fun i=>es[i]?).size=es.size)
  (h:Q (order.filterMap fun i=>es[i]?,t) s):wpAny (model prog w) A (yO es (some (t,order))) Q E s:=by
 show wpAny _ _ (if ((order.filterMap fun i=>es[i]?).size != es.size)=true then (do unsupported "internal:set-table-lost-an-element"; pure (order.filterMap fun i=>es[i]?,t)) else pure (order.filterMap fun i=>es[i]?,t)) _ _ _
 rw [if_neg (by simp [hz])]
 exact wpAny_pure h
section
variable {prog:Program} {w:World} {K:Type} [DecidableEq K] {knd:KeyKind prog w K} {A:Around} {E:Value→Shared→Prop} {s:Shared}
theorem IsTupleKey.stay {h h':Heap} {k:List K} {a:Addr} (hk:IsTupleKey knd h k a) (e:∀ o,h.get? a=some o→h'.get? a=some o):IsTupleKey knd h' k a:=by
 obtain ⟨o,items,n,ho,r⟩:=hk
 exact ⟨o,items,n,e o ho,r⟩
theorem SetT.ne {h:Heap} {a x:Addr} {k:List K} {ks:List (List K × Addr)} (S:SetT knd h a ks) (hx:IsTupleKey knd h k x):x≠a:=by
 obtain ⟨⟨o,es,ep,t,ho,hex,_⟩,_,_⟩:=S
 obtain ⟨o',items,n,ho',hc,_⟩:=hx
 intro z
 subst z
 rw [ho] at ho'
 cases ho'
 rw [hex.1] at hc
 exact absurd hc (by decide)
theorem z_ {a x:Addr} {k:List K} {ks:List (List K × Addr)} (S:SetT knd s.heap a ks) (hx:IsTupleKey knd s.heap k x) (hz:ks.length<1000) (hu:A.units<cLine) (hsc:∀ k v,knd.is k v=true→v.scannable=true) {Q:Bool→Shared→Prop}
  (h:∀ (b:Bool) (h':Heap) (ks':List (List K × Addr)),Heap.SameBut a s.heap h'→SetT knd h' a ks'→(k∈ks.map (·.1)∧ks'=ks∨k∉ks.map (·.1)∧ks'.Perm ((k,x) :: ks))→Q b { s with heap:=h' }) :
  wpAny (model prog w) A (setAddHashed a (.ref x) (aW knd k)) Q E s:=by
 obtain ⟨⟨o,es,ep,t,ho,hex,hd,T,hM,hL,he⟩,nd,is⟩:=id S
 have hlen:es.size=ks.length:=by
  have:=congrArg List.length he
  simpa using this
 obtain ⟨m,hm,_⟩:=T.pw
 obtain ⟨e0,he0,hf0⟩:=T.free
 obtain ⟨nf,n1,n2,n3⟩:=qJ hm (aW knd k) (taken t.place) he0 hf0
 unfold setAddHashed setAddHashedIn
 refine wpAny_holding (wpAny_bind (wpAny_setState_of ho hd T.fits ?_))
 dsimp only
 have hbs:byScan (.ref x) es=false:=by simp [byScan,Value.scannable]
 rw [hbs]
 simp only [Bool.false_eq_true,if_false]
 refine wpAny_bind ?_
 unfold setSearch
 refine lH hu ho hd T he is hx (fun hin=>?_) nf n1 n2 n3 (fun hout=>?_) 100000 0 none rfl (Nat.zero_le _) (by walk_at "l") fun q hq=>absurd hq (Nat.not_lt_zero q)
 ·dsimp only
  refine wpAny_pure ?_
  have e:s={ s with heap:=s.heap }:=by cases s; rfl
  rw [e]
  exact h _ _ ks (Heap.SameBut.refl a s.heap) S (.inl ⟨hin,rfl⟩)
 ·dsimp only
  generalize hj:J t.mask (aW knd k) nf=j at n2 ⊢
  have hjm:j≤t.mask:=by rw [← hj]; exact J_le ..
  have hre:Reach t.mask t.place (aW knd k) j:=⟨nf,n1,hj,n3⟩
  refine wpAny_bind (wpAny_setState_of ho hd T.fits ?_)
  dsimp only
  have hput:t.put j=({ t with place:=insertAt t.place (below t.place j) j,dummies:=#[] },below t.place j):=by
   unfold SetTable.put
   have:has t.dummies j=false:=by rw [T.dm]; rfl
   simp only [this,Bool.false_eq_true,if_false]
   rw [T.dm]
  rw [hput]
  dsimp only
  have hin:(insertAt es (below t.place j) (aW knd k,.ref x)).toList=(ks.take (below t.place j)++(k,x) :: ks.drop (below t.place j)).map (vG knd):=by
   rw [qM,he,List.map_append,List.map_cons,List.map_take,List.map_drop]; rfl
  have hperm:(ks.take (below t.place j)++(k,x) :: ks.drop (below t.place j)).Perm ((k,x) :: ks):=by
   refine List.perm_middle.trans ?_
   rw [List.take_append_drop]
  have hbl:below t.place j≤es.size:=by rw [← T.sz]; exact (bx T.up j).1
  have hsz':(insertAt es (below t.place j) (aW knd k,Value.ref x)).size=es.size+1:=b8 _ _ hbl
  have hxa:=S.ne hx
  have isK:∀ h',Heap.SameBut a s.heap h'→∀ ks':List (List K × Addr),ks'.Perm ((k,x) :: ks)→∀ p∈ks',IsTupleKey knd h' p.1 p.2:=fun h' sb ks' pm p hp=>by
   have:IsTupleKey knd s.heap p.1 p.2:=by
    rcases List.mem_cons.mp (pm.mem_iff.mp hp) with rfl | hp
    ·exact hx
    ·exact is p hp
   exact IsTupleKey.stay this fun o' ho'=>sb.extBut _ _ (S.ne this) ho'
  have ndK:∀ ks':List (List K × Addr),ks'.Perm ((k,x) :: ks)→(ks'.map (·.1)).Nodup:=fun ks' pm=>by
   rw [(pm.map _).nodup_iff,List.map_cons,List.nodup_cons]
   exact ⟨hout,nd⟩
  -- behind the flag
  have main:∀ pl:Bool,wpAny (model prog w) A (do
    storeSet a (insertAt es (below t.place j) (aW knd k,.ref x)) { t with place:=insertAt t.place (below t.place j) j,dummies:=#[],plain:=pl }
    if (!false && ({ t with place:=insertAt t.place (below t.place j) j,dummies:=#[],plain:=pl }:SetTable).tooFull)=true then do
      setRelay a (grown (es.size+1))
      pure true
     else pure true) Q E s:=fun pl=>by
   generalize ht':({ t with place:=insertAt t.place (below t.place j) j,dummies:=#[],plain:=pl }:SetTable)=t'
   have tm:t'.mask=t.mask:=by rw [← ht']
   have tp:t'.place=insertAt t.place (below t.place j) j:=by rw [← ht']
   have td:t'.dummies = #[]:=by rw [← ht']
   have hfill:t'.fill=es.size+1:=by
    unfold SetTable.fill
    rw [tp,td,b8 _ _ (bx T.up j).1,T.sz]; simp
   refine wpAny_bind (wpAny_storeSet_of ho hd ?_ (by rw [hsz',sizeLine_eq]; walk_at "l"))
   have ho1:(s.heap.update a (Obj.putSet (insertAt es (below t.place j) (aW knd k,.ref x)) t')).get? a=some { o with data:=.set (insertAt es (below t.place j) (aW knd k,.ref x)) (ep+1) t' }:=by
    have:=Heap.get?_update_self (Obj.putSet (insertAt es (below t.place j) (aW knd k,.ref x)) t') ho (by rw [putSet_of _ _ hd]; rfl)
    rw [putSet_of _ _ hd] at this; exact this
   have sb1:=Heap.SameBut.update s.heap a (Obj.putSet (insertAt es (below t.place j) (aW knd k,.ref x)) t')
   by_cases c:t'.tooFull=true
   ·rw [if_pos (by rw [c]; rfl)]
    have hfit:t'.fits (insertAt es (below t.place j) (aW knd k,Value.ref x)).size=true:=by
     have:=T.few
     simp only [SetTable.fits,hfill,Bool.and_eq_true,beq_iff_eq,decide_eq_true_eq]
     rw [tp,b8 _ _ (bx T.up j).1,hsz',T.sz,tm]
     exact ⟨rfl,by walk_at "l"⟩
    obtain ⟨t2,order,r1,r2,r3,r4,r5,r6,r7,r8,_⟩:=qZ (t:=t') (es:=insertAt es (below t.place j) (aW knd k,Value.ref x)) (by walk_at "l")
    rw [hsz'] at r1 r4
    unfold setRelay
    refine wpAny_bind (wpAny_bind (wpAny_setState_of ho1 rfl hfit ?_))
    dsimp only
    rw [if_neg (by rw [sizeLine_eq]; walk_at "l")]
    refine wpAny_bind ?_
    rw [r1]
    obtain ⟨ks',ek,pk⟩:=mH r8 hin
    refine lR r7 ?_
    dsimp only
    refine wpAny_storeSet_of ho1 rfl ?_ (by rw [r7,hsz',sizeLine_eq]; walk_at "l")
    refine wpAny_pure ?_
    have sb2:=sb1.trans (Heap.SameBut.update _ a (Obj.putSet (order.filterMap fun i=>(insertAt es (below t.place j) (aW knd k,Value.ref x))[i]?) t2))
    have ho2:=Heap.get?_update_self (Obj.putSet (order.filterMap fun i=>(insertAt es (below t.place j) (aW knd k,Value.ref x))[i]?) t2) ho1 (by rw [putSet_of _ _ rfl]; rfl)
    rw [putSet_of _ _ rfl] at ho2
    exact h true _ ks' sb2 ⟨⟨_,_,_,_,ho2,hex,rfl,r6,r5 (by walk_at "l"),by rw [r3,← ht']; exact hL,ek⟩,ndK ks' (pk.trans hperm),isK _ sb2 ks' (pk.trans hperm)⟩ (.inr ⟨hout,pk.trans hperm⟩)
   ·rw [if_neg (by simpa using c)]
    refine wpAny_pure ?_
    have hfew:(es.size+1) * 5<t.mask * 3:=by
     unfold SetTable.tooFull at c
     rw [hfill,tm] at c
     simpa using c
    exact h true _ _ sb1 ⟨⟨_,_,_,_,ho1,hex,rfl,T.put hjm n2 hre tm tp td hfew,by rw [tm]; exact hM,by rw [← ht']; exact hL,hin⟩,ndK _ hperm,isK _ sb1 _ hperm⟩ (.inr ⟨hout,hperm⟩)
  split
  ·refine wpAny_bind (fU hx hsc fun b=>?_)
   cases b with
   | true=>exact main t.plain
   | false=>exact main false
  ·exact wpAny_bind (wpAny_pure (main t.plain))
end
end TS
set_option Elab.async false
set_option linter.all false
set_option maxRecDepth 100000
set_option maxHeartbeats 4000000
namespace TS
open PySem PySem.SetTable PyProof.Rows
section
variable {prog:Program} {w:World} {A:Around} {R:Result→Shared→Prop} {I:Addr} {fp wr:List Addr} {n:Nat} {P:Nat→Value→Prop} {St:Nat→Heap→Prop}
theorem uI (W:Walks prog w A.in1 I fp wr n P St) (S:Addr) (hSf:S∉fp) (SI:Nat→Heap→Prop) (keep:∀ i h h',SI i h→(∀ b o,b∉wr→h.get? b=some o→h'.get? b=some o)→SI i h')
  (step:∀ (i:Nat) (v:Value) (s':Shared) (E':Value→Shared→Prop) (Q:Bool→Shared→Prop),P i v→SI i s'.heap→(∀ b h' tk,Heap.SameBut S s'.heap h'→SI (i+1) h'→Q b { s' with heap:=h',toks:=tk })→wpAny (model prog w) A.in1 (setAdd S v) Q E' s') :
  ∀ (k i:Nat) (s:Shared),n - i=k→i≤n→St i s.heap→SI i s.heap →
   (∀ h' tk,SI n h'→(∀ b o,b∉wr→b≠S→s.heap.get? b=some o→h'.get? b=some o)→R (.ok (.ret .none)) { s with heap:=h',toks:=tk }) →
   codeAny (model prog w) A (.builtin "set.update.loop" ⟨[.ref S,.ref I],[]⟩) R s:=by
 have hSw:S∉wr:=fun h=>hSf (W.sub _ h)
 intro k
 induction k with
 | zero =>
  intro i s hk hi hst hS hR
  have hin:i=n:=by walk_at "l"
  subst hin
  refine codeAny_builtin F.entry_set_update_loop ?_
  rw [Around.under_plainId F.plain_set_update_loop _]
  show wpAny _ A.in1 (pyNext (.ref I) >>= _) _ _ s
  refine wpAny_bind (W.done s _ _ hst fun h' tk hk'=>?_)
  show wpAny _ A.in1 (ret Value.none) _ _ _
  exact wpAny_pure (hR h' tk (keep _ _ _ hS hk') fun b o hb _ e=>hk' b o hb e)
 | succ k ih =>
  intro i s hk hi hst hS hR
  have hlt:i<n:=by walk_at "l"
  refine codeAny_builtin F.entry_set_update_loop ?_
  rw [Around.under_plainId F.plain_set_update_loop _]
  show wpAny _ A.in1 (pyNext (.ref I) >>= _) _ _ s
  refine wpAny_bind (W.item i s _ _ hlt hst fun v h' tk hP hst' hk'=>?_)
  show wpAny _ A.in1 (holding [v] (setAdd S v) >>= _) _ _ _
  refine wpAny_bind (wpAny_holding (step i v _ _ _ hP (keep _ _ _ hS hk') fun b h2 tk2 sb hS2=>?_))
  refine wpAny_pure ⟨plainId_quiet F.plain_set_update_loop _,ih (i+1) _ (by walk_at "l") hlt (W.frame _ _ _ hst' fun b hb o e=>?_) hS2 fun h3 tk3 hS3 hk3=>?_⟩
  ·exact sb.extBut b o (fun z=>hSf (by rw [← z]; exact hb)) e
  ·exact hR h3 tk3 hS3 fun b o hb hbS e=>hk3 b o hb hbS (sb.extBut b o hbS (hk' b o hb e))
end
section
variable {prog:Program} {w:World} {A:Around} {E:Value→Shared→Prop} {s:Shared}
theorem uo (a:Value) {Q₁:Value→Shared→Prop}
  (h:Q₁ (.ref s.heap.objs.size) { s with heap:=s.heap.push { cls:=.type "set",dict:=none,data:=.set #[] 0 (.fresh 0 0 (!w.params.followText "set-order")) } }) :
  codeAny (model prog w) A (.call (.builtin "set.__new__") ⟨[.type "set",a],[]⟩) (wants Q₁ E) s:=by
 refine codeAny_of_tree ?_
 show wpAny _ A.in1 (do checkBuiltinCall "set.__new__" ⟨[.type "set",a],[]⟩; again (.builtin "set.__new__" ⟨[.type "set",a],[]⟩)) _ _ s
 refine wpAny_bind (wpAny_of_eq (F.newCall_set_1 a) (wpAny_pure ⟨plainId_quiet F.plain_set_new _,codeAny_builtin F.entry_set_new ?_⟩))
 rw [Around.under_plainId F.plain_set_new _]
 unfold Builtin.«set.__new__» Builtin.Frozenset.newClass
 have hsub:=sub_set_self
 obtain ⟨hp,g,d,tk,os⟩:=s
 dsimp only
 wp_walk
 refine wpAny_askSetting (wpAny_pure ?_)
 dsimp only
 simp only [newObj]
 refine wpAny_bind (wpAny_alloc (wpAny_pure ?_))
 exact wpAny_pure h
theorem lZ {l:Addr} {items:Array Value} {Q:Value→Shared→Prop} (hh:A.handled=none) (hl:s.heap.IsList l items) (SI:Nat→Heap→Prop)
  (h0:∀ h,h.get? s.heap.objs.size=some { cls:=.type "set",dict:=none,data:=.set #[] 0 (.fresh 0 0 (!w.params.followText "set-order")) }→(∀ b o,s.heap.get? b=some o→h.get? b=some o)→SI 0 h)
  (keep:∀ i h h',SI i h→(∀ b o,b≤s.heap.objs.size→h.get? b=some o→h'.get? b=some o)→SI i h')
  (step:∀ (i:Nat) (v:Value) (s':Shared) (E':Value→Shared→Prop) (Q:Bool→Shared→Prop),items[i]? = some v→SI i s'.heap→(∀ b h' tk,Heap.SameBut s.heap.objs.size s'.heap h'→SI (i+1) h'→Q b { s' with heap:=h',toks:=tk }) →
   wpAny (model prog w) A.in1.in1.in1 (setAdd s.heap.objs.size v) Q E' s')
  (h:∀ (h':Heap) (tk:Nat),SI items.size h'→(∀ b o,b<s.heap.objs.size→s.heap.get? b=some o→h'.get? b=some o)→Q (.ref s.heap.objs.size) { s with heap:=h',toks:=tk }) :
  wpAny (model prog w) A (call (.type "set") [.ref l]) Q E s:=by
 obtain ⟨c,tl,hmro⟩:=F.called_set.mro
 have hmade:=F.called_set.made
 have hsub:=F.called_set.sub
 refine wpAny_call (codeAny_of_tree ?_)
 show wpAny _ _ (callAny (.type "set") _) _ _ _
 refine wpAny_pure ⟨Code.quiet_builtin _ (by decide +kernel),codeAny_builtin F.entry_type_call ?_⟩
 rw [Around.under_plain (weight_type_call_type "set" [.ref l] []) rfl]
 have h1:=F.called_set.notType
 have h2:=F.called_set.canCreate
 have hct:=F.typeCall_set_1 (.ref l)
 repeat (any_goals (first | assumption | wp_step))
 refine codeAny_mono (uo (.ref l) (E:=E) (Q₁:=fun obj s₁=>obj=.ref s.heap.objs.size∧s₁={ s with heap:=s.heap.push { cls:=.type "set",dict:=none,data:=.set #[] 0 (.fresh 0 0 (!w.params.followText "set-order")) } }) ⟨rfl,rfl⟩) fun r s₁ hr=>?_
 cases r with
 | error e=>exact hr
 | ok fl =>
  cases fl with
  | ret obj =>
   obtain ⟨rfl,rfl⟩:=hr
   generalize hled:(!w.params.followText "set-order")=led at h0 ⊢
   have hS:(s.heap.push { cls:=.type "set",dict:=none,data:=.set #[] 0 (.fresh 0 0 led) }).get? s.heap.objs.size=some { cls:=.type "set",dict:=none,data:=.set #[] 0 (.fresh 0 0 led) }:=Heap.get?_push_size _ rfl
   have hT:Shared.TypeIs { s with heap:=s.heap.push { cls:=.type "set",dict:=none,data:=.set #[] 0 (.fresh 0 0 led) } } (.ref s.heap.objs.size) "set" := ⟨_,hS,rfl⟩
   have hli:=F.called_set.init.lookup
   have hbi:=F.called_set.init.bind (.ref s.heap.objs.size)
   repeat (any_goals (first | assumption | wp_step))
   refine codeAny_mono (codeAny_call_builtin (R:=wants (fun r s₂=>r=.none∧∃ h' tk,s₂={ s with heap:=h',toks:=tk }∧SI items.size h' ∧
     (∀ b o,b<s.heap.objs.size→s.heap.get? b=some o→h'.get? b=some o)) E) F.called_set.init.plain F.entry_set_init (check_set_init_1 hT ?_)) fun r₂ s₂ hr₂=>?_
   ·obtain ⟨ol,hol,hcl,nl,hdl⟩:=hl
    obtain ⟨ocls,odict,odata,oslots⟩:=ol
    simp only at hcl hdl
    subst hcl; subst hdl
    have hol':(s.heap.push { cls:=.type "set",dict:=none,data:=.set #[] 0 (.fresh 0 0 led) }).get? l=some { cls:=.type "list",dict:=odict,data:=.seq items nl,slots:=oslots }:=Heap.get?_push_of_some _ hol
    have hsls:=F.sub_list_set
    have hslf:=F.sub_list_frozenset
    have hne:(Value.type "list" == Value.type "dict")=false:=by decide
    have hl1:(s.heap.push { cls:=.type "set",dict:=none,data:=.set #[] 0 (.fresh 0 0 led) }).IsList l items:=⟨_,hol',rfl,nl,rfl⟩
    unfold Builtin.«set.__init__» noKeywords Builtin.Frozenset.updateFrom
    generalize hPI:pyIter=PI
    wp_walk
    subst hPI
    refine wpAny_pyIter_list hl1 ?_
    refine wpAny_bind (wpAny_runValue ?_)
    have hlS:l<s.heap.objs.size:=Heap.lt_size hol
    have hh3:A.in1.in1.in1.handled=none:=by simp [hh]
    have hsz:(s.heap.push { cls:=.type "set",dict:=none,data:=.set #[] 0 (.fresh 0 0 led) }).objs.size=s.heap.objs.size+1:=Heap.size_push ..
    have hneI:l≠(s.heap.push { cls:=.type "set",dict:=none,data:=.set #[] 0 (.fresh 0 0 led) }).objs.size:=by
     rw [hsz]; exact Nat.ne_of_lt (Nat.lt_succ_of_lt hlS)
    have hSf:s.heap.objs.size∉[(s.heap.push { cls:=.type "set",dict:=none,data:=.set #[] 0 (.fresh 0 0 led) }).objs.size,l]:=by
     rw [hsz]; simp only [List.mem_cons,List.mem_singleton,List.not_mem_nil,or_false,not_or]
     exact ⟨Nat.ne_of_lt (Nat.lt_succ_self _),Nat.ne_of_gt hlS⟩
    refine uI (Walks.list hh3 _ l hneI items) s.heap.objs.size hSf SI (fun i h h' hi hk=>keep i h h' hi fun b o hb e=>hk b o ?_ e) (fun i v s' E' Q' hP hi hq=>step i v s' E' Q' hP hi hq) (items.size - 0) 0 _ (by rfl) (Nat.zero_le _)
     ⟨⟨_,Heap.get?_push_size _ rfl,rfl,rfl⟩,(hl1.push _)⟩ ?hS0 ?hR
    ·rw [hsz]
     simp only [List.mem_cons,List.not_mem_nil,or_false]
     exact Nat.ne_of_lt (Nat.lt_succ_of_le hb)
    case hS0 =>
     exact h0 _ (Heap.get?_push_of_some _ hS) fun b o e=>Heap.get?_push_of_some _ (Heap.get?_push_of_some _ e)
    case hR =>
     intro h' tk' hS' hk'
     show wpAny _ _ _ _ _ _
     refine wpAny_pure ?_
     show wpAny _ _ (ret Value.none) _ _ _
     refine wpAny_pure ⟨rfl,h',tk',rfl,hS',fun b o hb e=>?_⟩
     refine hk' b o ?_ (Nat.ne_of_lt hb) (Heap.get?_push_of_some _ (Heap.get?_push_of_some _ e))
     rw [hsz]
     simp only [List.mem_cons,List.not_mem_nil,or_false]
     exact Nat.ne_of_lt (Nat.lt_succ_of_lt hb)
   ·cases r₂ with
    | error e=>exact hr₂
    | ok fl₂ =>
     cases fl₂ with
     | ret r =>
      obtain ⟨rfl,h',tk,rfl,hS',hk'⟩:=hr₂
      repeat (any_goals (first | assumption | wp_step))
      exact h _ _ hS' hk'
     | _=>exact hr₂.elim
  | _=>exact hr.elim
end
end TS
set_option Elab.async false
set_option linter.all false
set_option maxRecDepth 100000
set_option maxHeartbeats 4000000
namespace TS
open PySem PySem.SetTable PyProof.Rows
theorem lW:Manifest.owners.lookup (String.ofList ['r','o','t','a','r','e','t','i','_','t','e','s'].reverse)=some Manifest.sig_set_iterator:=by kernel_rfl
theorem bJ:Slot "set_iterator" "__next__" "set_iterator.__next__" :=
 .of (owner := "set_iterator") (n := "__next__") (by rw [typeLookup_type,builtinLookup_eq_fast]; kernel_rfl) (by decide +kernel) (by decide +kernel) (by decide +kernel)
  (by first | exact .inl (by decide +kernel) | exact .inr (by decide +kernel)) (by rw [isSubtype_type]; kernel_rfl)
theorem je:entryFor table "set_iterator.__next__" = some Builtin.«set_iterator.__next__» := entryFor_of_tree (by kernel_rfl)
theorem jN (a:Value):argsOk "set_iterator.__next__" ⟨[a],[]⟩:=by
 unfold argsOk; rw [signature?_of (id := "set_iterator.__next__") (n:=['_','_','t','x','e','n','_','_']) (o:=['r','o','t','a','r','e','t','i','_','t','e','s']) (by kernel_rfl) lW]; kernel_rfl
theorem eO:Slot "set_iterator" "__iter__" "set_iterator.__iter__" :=
 .of (owner := "set_iterator") (n := "__iter__") (by rw [typeLookup_type,builtinLookup_eq_fast]; kernel_rfl) (by decide +kernel) (by decide +kernel) (by decide +kernel)
  (by first | exact .inl (by decide +kernel) | exact .inr (by decide +kernel)) (by rw [isSubtype_type]; kernel_rfl)
theorem jl:entryFor table "set.__iter__" = some Builtin.«frozenset.__iter__» :=
 entryFor_alias (id' := "frozenset.__iter__") (by kernel_rfl) rfl (by decide +kernel) (by kernel_rfl)
theorem fO {α:Type}:∀ (l:List α) (i:Nat) (h:i<l.length),(l[i] :: l.eraseIdx i).Perm l
 | x :: l,0,_=>.refl _
 | x :: l,i+1,h=>by
  have ih:=fO l i (by simpa using h)
  exact (List.Perm.swap _ _ _).trans (ih.cons x)
theorem rJ {α:Type} (next:Nat→Nat):∀ (fuel k:Nat) (left:List α) (out:Array α),left.length=fuel→(pickOrder.go next fuel k left out).toList.Perm (out.toList++left)
 | 0,k,left,out,h=>by
  have:left=[]:=List.length_eq_zero_iff.mp h
  subst this
  unfold pickOrder.go
  rw [List.append_nil]
 | fuel+1,k,left,out,h=>by
  unfold pickOrder.go
  have hlt:next k % left.length<left.length:=Nat.mod_lt _ (by walk_at "l")
  rw [List.getElem?_eq_getElem hlt]
  dsimp only
  refine (rJ next fuel (k+1) _ _ (by rw [List.length_eraseIdx]; split <;> walk_at "l")).trans ?_
  rw [Array.toList_push,List.append_assoc]
  refine List.Perm.append_left _ ?_
  exact fO _ _ hlt
theorem ig {α:Type} (next:Nat→Nat) (xs:Array α):(pickOrder next xs).toList.Perm xs.toList:=by
 unfold pickOrder
 have:=rJ next xs.size 0 xs.toList #[] (by simp)
 simpa using this
section
variable {prog:Program} {w:World} {A:Around} {E:Value→Shared→Prop} {s:Shared}
theorem lz {M:Model} {src:Source} {n:Nat} {Q:Nat→Shared→Prop} (hn:n≠0) (h:∀ i d,i<n→Q i { s with drawn:=d }):wpAny M A (choose src n) Q E s:=fun Γ p _=>⟨hn,h _ _ (Nat.mod_lt _ (Nat.pos_of_ne_zero hn))⟩
theorem y_ {α:Type} (n:Nat):∀ (xs:List α) (s:Shared) (Q:List α→Shared→Prop),xs.length=n→(∀ ys d,ys.Perm xs→Q ys { s with drawn:=d })→wpAny (model prog w) A (drawOrder n xs) Q E s:=by
 induction n with
 | zero =>
  intro xs s Q h q
  have:xs=[]:=List.length_eq_zero_iff.mp h
  subst this
  unfold drawOrder
  exact wpAny_pure (q [] s.drawn (.refl _))
 | succ n ih =>
  intro xs s Q h q
  cases xs with
  | nil=>cases h
  | cons x xs =>
   unfold drawOrder
   refine wpAny_bind (lz (by simp) fun i d hi=>?_)
   rw [List.getElem?_eq_getElem hi]
   dsimp only
   refine wpAny_bind (ih _ _ _ (by rw [List.length_eraseIdx,if_pos hi]; simp at h ⊢; walk_at "l") fun ys d' py=>?_)
   refine wpAny_pure ?_
   exact q _ d' ((py.cons _).trans (fO _ _ hi))
noncomputable def SIt (h:Heap) (I:Addr) (first:Value) (i:Nat) (a:Addr) (n ep:Nat):Prop :=
 h.get? I=some { cls:=.type "set_iterator",dict:=none,data:=.fields #[first,.int i 0,.ref a,.int n 0,.int ep 0],slots:=#[] }
noncomputable def SOb (h:Heap) (a:Addr) (es:Array (Int × Value)) (ep:Nat) (t:SetTable):Prop:=∃ o,h.get? a=some o∧o.data=.set es ep t
variable {a I:Addr} {es:Array (Int × Value)} {ep:Nat} {t:SetTable} {first:Value} {i n:Nat}
theorem SIt.typeIs (h:SIt s.heap I first i a n ep):s.TypeIs (.ref I) "set_iterator" := ⟨_,h,rfl⟩
theorem uE {Q:Option Value→Shared→Prop} (hit:SIt s.heap I first i a n ep)
  (h:wpAny (model prog w) A.in1 (Builtin.«set_iterator.__next__» ⟨[.ref I],[]⟩) (fun fin s'=>∃ v,fin=.done (.ret v)∧Q (some v) s') (fun e s'=>wpAny (model prog w) A (isInstance e (.type "StopIteration")) (fun b s''=>b=true∧Q none s'') E s') s) :
  wpAny (model prog w) A (pyNext (.ref I)) Q E s:=by
 unfold pyNext
 refine wpAny_bind (wpAny_attempt (wpAny_callSpecial?_slot (name:=Str.ofString "__next__") hit.typeIs bJ
  (wpAny_call_entry bJ hit.typeIs je ?_ (jN _))))
 refine wpAny_mono h (fun fin s' ⟨v,e,q⟩=>⟨v,e,wpAny_pure q⟩) fun e s' q=>?_
 refine wpAny_bind (wpAny_mono q (fun b s'' hx9=>?_) fun _ _ x=>x)
 obtain ⟨e,q⟩:=hx9
 subst e
 rw [if_pos rfl]
 exact wpAny_pure q
theorem rF {P:Fin→Shared→Prop} {Q:Option Value→Shared→Prop} (hh:A.handled=none) (hQ:∀ h',(∀ b o,s.heap.get? b=some o→h'.get? b=some o)→Q none { s with heap:=h' }) :
  wpAny (model prog w) A.in1 (newExc (.type "StopIteration") [] >>= fun e=>raiseNew e) P (fun e s'=>wpAny (model prog w) A (isInstance e (.type "StopIteration")) (fun b s''=>b=true∧Q none s'') E s') s:=by
 refine wpAny_bind ?_
 simp only [newExc,newTuple]
 refine wpAny_bind (wpAny_newObj_type ?_ (by size_fits))
 refine wpAny_bind (m:=firstArgMember _ _) (wpAny_of_eq (a:=Value.none) (by first | rfl | (simp only [firstArgMember]; rfl)) ?_)
 refine wpAny_newObj_type ?_ (by size_fits)
 simp only [raiseNew]
 refine wpAny_bind (wpAny_handled ?_)
 rw [show A.in1.handled=none from hh]
 refine wpAny_bind (wpAny_pure (wpAny_throw ?_))
 refine wpAny_isInstance (T := "StopIteration") (b:=true) ⟨_,Heap.get?_push_size _ rfl,rfl⟩ isSubtype_stop ⟨rfl,?_⟩
 exact hQ _ fun b o e=>Heap.get?_push_of_some _ (Heap.get?_push_of_some _ e)
theorem fJ {Q:Option Value→Shared→Prop} {slot:Nat} {r:Option (Value × Nat)} (hh:A.handled=none) (hne:a≠I) (hit:SIt s.heap I (.int slot 0) i a es.size ep) (hob:SOb s.heap a es ep t) (hf:t.fits es.size=true)
  (hr:∀ (A':Around) (E':Value→Shared→Prop) (Q':Option (Value × Nat)→Shared→Prop),Q' r s→wpAny (model prog w) A' (setNext a slot i ep) Q' E' s)
  (h1:∀ x nx h',r=some (x,nx)→SIt h' I (.int nx 0) (i+1) a es.size ep→Heap.SameBut I s.heap h'→Q (some x) { s with heap:=h' })
  (h2:∀ h',r=none→(∀ b o,b≠I→s.heap.get? b=some o→h'.get? b=some o)→Q none { s with heap:=h' }) :
  wpAny (model prog w) A (pyNext (.ref I)) Q E s:=by
 obtain ⟨o,ho,hd⟩:=hob
 refine uE hit ?_
 unfold Builtin.«set_iterator.__next__»
 refine wpAny_bind (m:=slotArgs "__next__" 0 ⟨[.ref I],[]⟩) (wpAny_of_eq (a:=(.ref I,[])) rfl ?_)
 dsimp only
 refine wpAny_bind (wpAny_fieldsOf hit rfl ?_)
 dsimp only
 refine wpAny_bind (wpAny_setEntries_of ho hd hf ?_)
 rw [if_neg (by simp)]
 simp only [Int.toNat_natCast]
 refine wpAny_bind (hr _ _ _ ?_)
 cases r with
 | some p =>
  obtain ⟨x,nx⟩:=p
  dsimp only
  refine wpAny_bind (wpAny_setField_rec hit (by simp) fun g1 e1 sb1=>?_)
  refine wpAny_bind (wpAny_setField_rec (s:={ s with heap:=g1 }) e1 (by simp) fun g2 e2 sb2=>?_)
  exact wpAny_pure ⟨x,rfl,h1 x nx g2 rfl (by unfold SIt; simpa [rawInt] using e2) (sb1.trans sb2)⟩
 | none =>
  dsimp only
  refine wpAny_bind (wpAny_setField_rec hit (by simp) fun g1 e1 sb1=>?_)
  exact rF (s:={ s with heap:=g1 }) hh fun h' k=>h2 h' rfl fun b o hb e=>k b o (sb1.extBut b o hb e)
theorem jr {Q:Option Value→Shared→Prop} {T:Addr} {ix:List Nat} {oT:Obj} {kT:Nat} (hh:A.handled=none) (hit:SIt s.heap I (.ref T) i a es.size ep) (hob:SOb s.heap a es ep t) (hf:t.fits es.size=true)
  (hT:s.heap.get? T=some oT) (hTd:oT.data=.seq (ix.map fun (k:Nat)=>Value.int k 0).toArray kT)
  (h1:∀ k e h',ix[i]? = some k→es[k]? = some e→SIt h' I (.ref T) (i+1) a es.size ep→Heap.SameBut I s.heap h'→Q (some e.2) { s with heap:=h' }) (hix:∀ k∈ix,k<es.size)
  (h2:∀ h',ix[i]? = none→(∀ b o,b≠I→s.heap.get? b=some o→h'.get? b=some o)→Q none { s with heap:=h' }) :
  wpAny (model prog w) A (pyNext (.ref I)) Q E s:=by
 obtain ⟨o,ho,hd⟩:=hob
 refine uE hit ?_
 unfold Builtin.«set_iterator.__next__»
 refine wpAny_bind (m:=slotArgs "__next__" 0 ⟨[.ref I],[]⟩) (wpAny_of_eq (a:=(.ref I,[])) rfl ?_)
 dsimp only
 refine wpAny_bind (wpAny_fieldsOf hit rfl ?_)
 dsimp only
 refine wpAny_bind (wpAny_setEntries_of ho hd hf ?_)
 rw [if_neg (by simp)]
 refine wpAny_bind (wpAny_seqItems hT hTd ?_)
 dsimp only
 simp only [Int.toNat_natCast,List.getElem?_toArray,List.getElem?_map]
 cases hk:ix[i]? with
 | some k =>
  dsimp only [Option.map]
  have hkl:=hix k (List.mem_of_getElem? hk)
  refine wpAny_bind ?_
  unfold setNextDrawn
  refine wpAny_bind (wpAny_setState_of ho hd hf ?_)
  dsimp only
  simp only [Int.toNat_natCast]
  rw [if_neg (by simp),Array.getElem?_eq_getElem hkl]
  refine wpAny_pure ?_
  refine wpAny_bind (wpAny_setField_rec hit (by simp) fun g1 e1 sb1=>?_)
  exact wpAny_pure ⟨_,rfl,h1 k es[k] g1 hk (Array.getElem?_eq_getElem hkl) (by unfold SIt; simpa [rawInt] using e1) sb1⟩
 | none =>
  dsimp only [Option.map]
  refine wpAny_bind (wpAny_setField_rec hit (by simp) fun g1 e1 sb1=>?_)
  refine wpAny_bind (wpAny_setField_rec (s:={ s with heap:=g1 }) e1 (by simp) fun g2 e2 sb2=>?_)
  exact rF (s:={ s with heap:=g2 }) hh fun h' k=>h2 h' hk fun b o hb e=>k b o ((sb1.trans sb2).extBut b o hb e)
theorem j6 (a:Value):argsOk "set_iterator.__iter__" ⟨[a],[]⟩:=by
 unfold argsOk; rw [signature?_of (id := "set_iterator.__iter__") (n:=['_','_','r','e','t','i','_','_']) (o:=['r','o','t','a','r','e','t','i','_','t','e','s']) (by kernel_rfl) lW]; kernel_rfl
theorem jf:entryFor table "set_iterator.__iter__" = some Builtin.«dict_keyiterator.__iter__» :=
 entryFor_alias (id' := "dict_keyiterator.__iter__") (by kernel_rfl) rfl (by decide +kernel) (by kernel_rfl)
theorem iJ {Q:Value→Shared→Prop} (hit:SIt s.heap I first i a n ep) (h:Q (.ref I) s):wpAny (model prog w) A (pyIter (.ref I)) Q E s:=by
 refine wpAny_pyIter_slot hit.typeIs eO (wpAny_call_entry eO hit.typeIs jf ?_ (j6 _))
 show wpAny _ _ (ret (.ref I)) _ _ s
 exact wpAny_pure ⟨_,rfl, "set_iterator",_,hit.typeIs,bJ.lookup,h⟩
theorem lA {slot:Nat} {Q:Option (Value × Nat)→Shared→Prop} (hb:w.params.followText "set-order" = true) (hob:SOb s.heap a es ep t) (hf:t.fits es.size=true)
  (h:Q (((pickOrder (w.params.setOrder a ep) es)[i]?).map fun e=>(e.2,slot)) s):wpAny (model prog w) A (setNext a slot i ep) Q E s:=by
 obtain ⟨o,ho,hd⟩:=hob
 unfold setNext
 refine wpAny_bind (wpAny_setState_of ho hd hf ?_)
 dsimp only
 unfold setsByText
 refine wpAny_bind (wpAny_bind (wpAny_askSetting (wpAny_pure ?_)))
 dsimp only
 rw [if_pos (by exact hb),if_neg (by simp)]
 refine wpAny_bind ?_
 unfold setWalk
 refine wpAny_bind (wpAny_setState_of ho hd hf ?_)
 dsimp only
 unfold setsByText
 refine wpAny_bind (wpAny_bind (wpAny_askSetting (wpAny_pure ?_)))
 dsimp only
 rw [if_pos (by exact hb)]
 refine wpAny_bind (wpAny_askSetting (wpAny_pure ?_))
 exact wpAny_pure h
theorem jo {slot:Nat} {Q:Option (Value × Nat)→Shared→Prop} (hb:w.params.followText "set-order" = false) (hl:t.led=true) (hdr:(!t.plain && decide (es.size>1))=false) (hob:SOb s.heap a es ep t) (hf:t.fits es.size=true)
  (h:Q (match es[below t.place slot]?,t.place[below t.place slot]? with
  | some (_,x),some j=>some (x,j+1)
  | _,_=>none) s):wpAny (model prog w) A (setNext a slot i ep) Q E s:=by
 obtain ⟨o,ho,hd⟩:=hob
 unfold setNext
 refine wpAny_bind (wpAny_setState_of ho hd hf ?_)
 dsimp only
 unfold setsByText
 refine wpAny_bind (wpAny_bind (wpAny_askSetting (wpAny_pure ?_)))
 dsimp only
 rw [if_neg (by rw [show (model prog w).w.params.followText "set-order" = false from hb]; exact Bool.false_ne_true)]
 have e0:j_ es t=(!t.plain && decide (es.size>1)):=rfl
 unfold j_ at e0
 rw [e0,hdr,if_neg Bool.false_ne_true]
 refine wpAny_bind (m:=C_ es t) ?_
 show wpAny _ _ (if (!t.led && !es.isEmpty)=true then unsupported "set:maker-not-led" else pure ()) _ _ s
 rw [if_neg (by rw [hl]; simp)]
 exact wpAny_pure (wpAny_pure h)
noncomputable def PV (ys:List (Int × Value)) (i:Nat) (v:Value):Prop:=∃ e,ys[i]? = some e∧v=e.2
theorem SIt.keep {h h':Heap} (x:SIt h I first i a n ep) (e:∀ o,h.get? I=some o→h'.get? I=some o):SIt h' I first i a n ep:=e _ x
theorem SOb.keep {h h':Heap} (x:SOb h a es ep t) (e:∀ o,h.get? a=some o→h'.get? a=some o):SOb h' a es ep t:=let ⟨o,ho,r⟩:=x; ⟨o,e _ ho,r⟩
theorem uq (hh:A.handled=none) (hne:a≠I) (hb:w.params.followText "set-order" = true) (hf:t.fits es.size=true) :
  Walks prog w A I [I,a] [I] es.size (PV (pickOrder (w.params.setOrder a ep) es).toList) (fun i h=>(∃ slot:Nat,SIt h I (.int slot 0) i a es.size ep)∧SOb h a es ep t) where
 sub:=fun b hb=>by simp at hb; simp [hb]
 frame:=fun _ _ _ ⟨⟨sl,x⟩,y⟩ hk=>⟨⟨sl,x.keep fun o e=>hk I (by simp) o e⟩,y.keep fun o e=>hk a (by simp) o e⟩
 item:=fun i s Q E hi ⟨⟨sl,x⟩,y⟩ hQ=>by
  have hlen:(pickOrder (w.params.setOrder a ep) es).size=es.size:=by
   have:=(ig (w.params.setOrder a ep) es).length_eq
   simpa using this
  refine fJ hh hne x y hf (r:=((pickOrder (w.params.setOrder a ep) es)[i]?).map fun e=>(e.2,sl)) (fun A' E' Q' q=>lA hb y hf q) (fun v nx h' e x' sb=>?_) fun h' e k=>?_
  ·rw [Array.getElem?_eq_getElem (by walk_at "l")] at e
   cases e
   exact hQ _ h' s.toks ⟨_,by rw [Array.getElem?_toList]; exact Array.getElem?_eq_getElem (by walk_at "l"),rfl⟩ ⟨⟨_,x'⟩,y.keep fun o e=>sb.extBut _ _ hne e⟩ fun b o hb e=>sb.extBut b o (fun h=>hb (by simp [h])) e
  ·rw [Array.getElem?_eq_getElem (by walk_at "l")] at e
   cases e
 done:=fun s Q E ⟨⟨sl,x⟩,y⟩ hQ=>by
  have hlen:(pickOrder (w.params.setOrder a ep) es).size=es.size:=by
   have:=(ig (w.params.setOrder a ep) es).length_eq
   simpa using this
  refine fJ hh hne x y hf (r:=((pickOrder (w.params.setOrder a ep) es)[es.size]?).map fun e=>(e.2,sl)) (fun A' E' Q' q=>lA hb y hf q) (fun v nx h' e x' sb=>?_) fun h' e k=>?_
  ·rw [Array.getElem?_eq_none (by walk_at "l")] at e
   cases e
  ·exact hQ h' s.toks fun b o hb e=>k b o (fun h=>hb (by simp [h])) e
 self:=fun _ _ _ _ ⟨⟨sl,x⟩,y⟩ hQ=>iJ x hQ
noncomputable def slotAt (t:SetTable):Nat→Nat
 | 0=>0
 | i+1=>t.place.getD i 0+1
theorem gn (U:Up t.place) {i:Nat} (h:i≤t.place.size):below t.place (slotAt t i)=i:=by
 cases i with
 | zero =>
  obtain ⟨_,b,_⟩:=bx U 0
  by_cases z:below t.place 0=0
  ·exact z
  ·exact absurd (b 0 (Nat.pos_of_ne_zero z)) (Nat.not_lt_zero _)
 | succ i=>exact qN U (by assumption)
theorem qU (hh:A.handled=none) (hne:a≠I) (hb:w.params.followText "set-order" = false) (hl:t.led=true) (hdr:(!t.plain && decide (es.size>1))=false) (U:Up t.place) (hz:t.place.size=es.size) (hf:t.fits es.size=true) :
  Walks prog w A I [I,a] [I] es.size (PV es.toList) (fun i h=>SIt h I (.int (slotAt t i:Nat) 0) i a es.size ep∧SOb h a es ep t) where
 sub:=fun b hb=>by simp at hb; simp [hb]
 frame:=fun _ _ _ ⟨x,y⟩ hk=>⟨x.keep fun o e=>hk I (by simp) o e,y.keep fun o e=>hk a (by simp) o e⟩
 item:=fun i s Q E hi ⟨x,y⟩ hQ=>by
  have hbl:=gn (t:=t) U (i:=i) (by walk_at "l")
  have e1:es[below t.place (slotAt t i)]? = some es[i]:=by rw [hbl]; exact Array.getElem?_eq_getElem hi
  have e2:t.place[below t.place (slotAt t i)]? = some (t.place.getD i 0):=by rw [hbl]; exact sX (by walk_at "l")
  refine fJ hh hne x y hf (r:=some (es[i].2,t.place.getD i 0+1)) (fun A' E' Q' q=>jo hb hl hdr y hf (by rw [e1,e2]; exact q)) (fun v nx h' e x' sb=>?_) fun h' e k=>nomatch e
  cases e
  exact hQ _ h' s.toks ⟨_,by rw [Array.getElem?_toList]; exact Array.getElem?_eq_getElem hi,rfl⟩ ⟨x',y.keep fun o e=>sb.extBut _ _ hne e⟩ fun b o hb e=>sb.extBut b o (fun h=>hb (by simp [h])) e
 done:=fun s Q E ⟨x,y⟩ hQ=>by
  have hbl:=gn (t:=t) U (i:=es.size) (by walk_at "l")
  have e1:es[below t.place (slotAt t es.size)]? = none:=by rw [hbl]; exact Array.getElem?_eq_none (Nat.le_refl _)
  refine fJ hh hne x y hf (r:=none) (fun A' E' Q' q=>jo hb hl hdr y hf (by rw [e1]; exact q)) (fun v nx h' e x' sb=>nomatch e) fun h' e k=>?_
  exact hQ h' s.toks fun b o hb e=>k b o (fun h=>hb (by simp [h])) e
 self:=fun _ _ _ _ ⟨x,y⟩ hQ=>iJ x hQ
theorem qH {T:Addr} {ix:List Nat} {kT:Nat} (hh:A.handled=none) (hne:a≠I) (hTI:T≠I) (hf:t.fits es.size=true) (hp:ix.Perm (List.range es.size)) :
  Walks prog w A I [I,a,T] [I] es.size (PV (ix.filterMap fun k=>es[k]?)) (fun i h=>SIt h I (.ref T) i a es.size ep∧SOb h a es ep t∧∃ o,h.get? T=some o∧o.data=.seq (ix.map fun (k:Nat)=>Value.int k 0).toArray kT):=by
 have hlen:ix.length=es.size:=by simpa using hp.length_eq
 have hix:∀ k∈ix,k<es.size:=fun k hk=>List.mem_range.mp (hp.mem_iff.mp hk)
 obtain ⟨f1,f2⟩:=pC (l:=ix) (f:=fun k=>es[k]?) fun k hk=>by simp [hix k hk]
 exact {
  sub:=fun b hb=>by simp at hb; simp [hb]
  frame:=fun _ _ _ ⟨x,y,o,z,zd⟩ hk=>⟨x.keep fun o e=>hk I (by simp) o e,y.keep fun o e=>hk a (by simp) o e,o,hk T (by simp) o z,zd⟩
  item:=fun i s Q E hi ⟨x,y,o,z,zd⟩ hQ=>by
   refine jr hh x y hf z zd (fun k e h' e1 e2 x' sb=>?_) hix fun h' e k=>?_
   ·refine hQ _ h' s.toks ⟨e,by rw [f2,e1]; exact e2,rfl⟩ ⟨x',y.keep fun o e=>sb.extBut _ _ hne e,o,sb.extBut _ _ hTI z,zd⟩ fun b o hb e=>sb.extBut b o (fun h=>hb (by simp [h])) e
   ·rw [List.getElem?_eq_getElem (by walk_at "l")] at e; cases e
  done:=fun s Q E ⟨x,y,o,z,zd⟩ hQ=>by
   refine jr hh x y hf z zd (fun k e h' e1 e2 x' sb=>?_) hix fun h' e k=>?_
   ·rw [List.getElem?_eq_none (by walk_at "l")] at e1; cases e1
   ·exact hQ h' s.toks fun b o hb e=>k b o (fun h=>hb (by simp [h])) e
  self:=fun _ _ _ _ ⟨x,_⟩ hQ=>iJ x hQ }
end
end TS
set_option Elab.async false
set_option linter.all false
set_option maxRecDepth 100000
set_option maxHeartbeats 4000000
namespace TS
open PySem PySem.SetTable PyProof.Rows
section
variable {prog:Program} {w:World} {A:Around} {E:Value→Shared→Prop} {s:Shared} {a:Addr} {o:Obj} {es:Array (Int × Value)} {ep:Nat} {t:SetTable}
theorem vM {Q:Value→Shared→Prop} (hh:A.handled=none) (ho:s.heap.get? a=some o) (hex:o.ExactSet) (hd:o.data=.set es ep t) (hf:t.fits es.size=true) (U:Up t.place) (hz:t.place.size=es.size) (hl:t.led=(!w.params.followText "set-order")) (hn:es.size≤sizeLine)
  (h:∀ (I:Addr) (h2:Heap) d (fp:List Addr) (St:Nat→Heap→Prop) (ys:List (Int × Value)),(∀ b o,s.heap.get? b=some o→h2.get? b=some o)→s.heap.objs.size≤I→(∀ b∈fp,b=a∨s.heap.objs.size≤b)→ys.Perm es.toList →
   Walks prog w A I fp [I] es.size (PV ys) St→St 0 h2→Q (.ref I) { s with heap:=h2,drawn:=d }):wpAny (model prog w) A (pyIter (.ref a)) Q E s:=by
 have hT:s.TypeIs (.ref a) "set" := ⟨o,ho,hex.1⟩
 have hlt:a<s.heap.objs.size:=Heap.lt_size ho
 refine wpAny_pyIter_slot hT F.slot_set_iter (wpAny_call_entry F.slot_set_iter hT jl ?_ (F.args_set_iter_1 _))
 unfold Builtin.«frozenset.__iter__»
 refine wpAny_bind (m:=Builtin.Frozenset.slot0 "__iter__" ⟨[.ref a],[]⟩) (wpAny_of_eq (a:=a) rfl ?_)
 refine wpAny_bind ?_
 unfold Builtin.Frozenset.sizeOf
 refine wpAny_bind (wpAny_setEntries_of ho hd hf (wpAny_pure ?_))
 refine wpAny_bind ?_
 unfold setDrawn
 refine wpAny_bind (wpAny_setState_of ho hd hf ?_)
 dsimp only
 unfold setsByText
 refine wpAny_bind (wpAny_bind (wpAny_askSetting (wpAny_pure ?_)))
 refine wpAny_pure ?_
 have e0:j_ es t=(!t.plain && decide (es.size>1)):=rfl
 unfold j_ at e0
 rw [e0]
 show wpAny _ _ (if (!w.params.followText "set-order" && (!t.plain && decide (es.size>1)))=true then _ else _) _ _ s
 cases hb:w.params.followText "set-order" with
 | true =>
  rw [if_neg (by simp)]
  refine wpAny_bind (wpAny_pure ?_)
  refine wpAny_bind (wpAny_setEpoch_of ho hd hf ?_)
  refine wpAny_bind (wpAny_newObj_type ?_)
  refine wpAny_pure ⟨_,rfl, "set_iterator",_,⟨_,Heap.get?_push_size _ rfl,rfl⟩,bJ.lookup,?_⟩
  have ho':(s.heap.push { cls:=.type "set_iterator",data:=.fields #[rawInt 0,rawInt 0,.ref a,rawInt es.size,rawInt ep] }).get? a=some o:=Heap.get?_push_of_some _ ho
  exact h s.heap.objs.size _ s.drawn _ _ _ (fun b o e=>Heap.get?_push_of_some _ e) (Nat.le_refl _) (fun b hb=>by
   rcases List.mem_cons.mp hb with rfl | hb
   ·exact .inr (Nat.le_refl _)
   ·exact .inl (List.mem_singleton.mp hb)) (ig _ _) (uq (ep:=ep) hh (Nat.ne_of_lt hlt) hb hf) ⟨⟨0,Heap.get?_push_size _ rfl⟩,o,ho',hd⟩
 | false =>
  cases hdr:(!t.plain && decide (es.size>1)) with
  | false =>
   rw [if_neg (by simp)]
   refine wpAny_bind (wpAny_pure ?_)
   refine wpAny_bind (wpAny_setEpoch_of ho hd hf ?_)
   refine wpAny_bind (wpAny_newObj_type ?_)
   refine wpAny_pure ⟨_,rfl, "set_iterator",_,⟨_,Heap.get?_push_size _ rfl,rfl⟩,bJ.lookup,?_⟩
   have ho':(s.heap.push { cls:=.type "set_iterator",data:=.fields #[rawInt 0,rawInt 0,.ref a,rawInt es.size,rawInt ep] }).get? a=some o:=Heap.get?_push_of_some _ ho
   exact h s.heap.objs.size _ s.drawn _ _ _ (fun b o e=>Heap.get?_push_of_some _ e) (Nat.le_refl _) (fun b hb=>by
    rcases List.mem_cons.mp hb with rfl | hb
    ·exact .inr (Nat.le_refl _)
    ·exact .inl (List.mem_singleton.mp hb)) (.refl _) (qU (ep:=ep) hh (Nat.ne_of_lt hlt) hb (by rw [hl,hb]; rfl) hdr U hz hf) ⟨Heap.get?_push_size _ rfl,o,ho',hd⟩
  | true =>
   rw [if_pos (by simp)]
   refine wpAny_bind (y_ es.size (List.range es.size) s _ (by simp) fun ix d hp=>?_)
   refine wpAny_bind (wpAny_newObj_type ?_ ?hzz)
   case hzz =>
    have:=hp.length_eq
    rw [List.length_range] at this
    show (ix.map fun (i:Nat)=>rawInt i).toArray.size≤sizeLine
    rw [List.size_toArray,List.length_map,this]; exact hn
   have ho1:(s.heap.push { cls:=.type "tuple",data:=.seq (ix.map fun (i:Nat)=>rawInt i).toArray }).get? a=some o:=Heap.get?_push_of_some _ ho
   refine wpAny_bind (wpAny_setEpoch_of ho1 hd hf ?_)
   refine wpAny_bind (wpAny_newObj_type ?_)
   refine wpAny_pure ⟨_,rfl, "set_iterator",_,⟨_,Heap.get?_push_size _ rfl,rfl⟩,bJ.lookup,?_⟩
   have hs1:(s.heap.push { cls:=.type "tuple",data:=.seq (ix.map fun (i:Nat)=>rawInt i).toArray }).objs.size=s.heap.objs.size+1:=Heap.size_push ..
   refine h (s.heap.push { cls:=.type "tuple",data:=.seq (ix.map fun (i:Nat)=>rawInt i).toArray }).objs.size _ d [(s.heap.push { cls:=.type "tuple",data:=.seq (ix.map fun (i:Nat)=>rawInt i).toArray }).objs.size,a,s.heap.objs.size] _ (ix.filterMap fun k=>es[k]?) (fun b o e=>Heap.get?_push_of_some _ (Heap.get?_push_of_some _ e)) (by rw [hs1]; exact Nat.le_succ _) (fun b hb=>?_) ?_
    (qH (ep:=ep) (kT:=0) (T:=s.heap.objs.size) (ix:=ix) (t:=t) hh (by rw [hs1]; exact Nat.ne_of_lt (Nat.lt_succ_of_lt hlt)) (by rw [hs1]; exact Nat.ne_of_lt (Nat.lt_succ_self _)) hf hp) ⟨Heap.get?_push_size _ rfl,⟨o,Heap.get?_push_of_some _ ho1,hd⟩,_,Heap.get?_push_of_some _ (Heap.get?_push_size _ rfl),rfl⟩
   ·rcases List.mem_cons.mp hb with rfl | hb
    ·exact .inr (by rw [hs1]; exact Nat.le_succ _)
    ·rcases List.mem_cons.mp hb with rfl | hb
     ·exact .inl rfl
     ·rw [List.mem_singleton.mp hb]; exact .inr (Nat.le_refl _)
   ·have:=hp.filterMap fun k=>es[k]?
    rw [oV] at this
    exact this
theorem vf {Q:Bool→Shared→Prop} (hT:s.TypeIs (.ref a) "set") (h:Q false s):wpAny (model prog w) A (Builtin.List.listLengthHint (.ref a)) Q E s:=by
 unfold Builtin.List.listLengthHint
 refine wpAny_bind (wpAny_specialOf hT PySem.F.slot_set_len.lookup ?_)
 generalize hid:("set.__len__" : String)=id0
 wp_delta
 rw [show splitId id0=some ("set", "__len__") from by subst hid; decide +kernel]
 subst hid
 refine wpAny_bind (wpAny_isInstance (T := "set") (b:=true) hT (by rw [isSubtype_type]; kernel_rfl) ?_)
 refine wpAny_ite_split (fun hab=>absurd hab (by decide)) (fun _=>?_)
 refine wpAny_ite_split (fun _=>?_) (fun hab=>absurd (by decide +kernel) hab)
 refine wpAny_bind (wpAny_typeOf hT ?_)
 exact wpAny_pure h
theorem w6 {R:Result→Shared→Prop} (hh:A.handled=none) (ho:s.heap.get? a=some o) (hex:o.ExactSet) (hd:o.data=.set es ep t) (hf:t.fits es.size=true) (U:Up t.place) (hz:t.place.size=es.size) (hl:t.led=(!w.params.followText "set-order")) (hn:es.size≤sizeLine)
  (S:Addr) (hSa:S≠a) (res:Value) (c₀:Nat) (hS:s.heap.get? S=some { cls:=.type "list",data:=.seq #[] c₀ })
  (hR:∀ h' tk d acc' c' ys,(∀ b o,b≠S→s.heap.get? b=some o→h'.get? b=some o)→h'.get? S=some { cls:=.type "list",dict:=none,data:=.seq acc' c',slots:=#[] }→ys.Perm es.toList→ItemsOf (PV ys) acc' es.size→R (.ok (.ret res)) { s with heap:=h',toks:=tk,drawn:=d }) :
  wpAny (model prog w) A.in1 (Builtin.List.listExtendWith (.ref S) (.ref a) res)
   (fun fin s'=>match fin with | .done f=>R (.ok f) s' | .again c'=>c'.quiet=true∧codeAny (model prog w) A c' R s') (fun e s'=>R (.error e) s') s:=by
 have hT:s.TypeIs (.ref a) "set" := ⟨o,ho,hex.1⟩
 have hSl:=Heap.lt_size hS
 unfold Builtin.List.listExtendWith
 refine wpAny_bind (wpAny_typeOf hT ?_)
 have h1:Builtin.List.listSameRef (.ref S) (.ref a)=false:=by simp [Builtin.List.listSameRef,hSa]
 simp only [h1,show (Value.type "set" == Value.type "list")=false by decide,show (Value.type "set" == Value.type "tuple")=false by decide,Bool.or_false,Bool.false_eq_true,if_false]
 refine wpAny_bind (vM (A:=A.in1) hh ho hex hd hf U hz hl hn fun I h2 d fp St ys kp hI hfp hp W st=>?_)
 have hSf:S∉fp:=fun hm=>by
  rcases hfp S hm with z | z
  ·exact hSa z
  ·exact absurd hSl (Nat.not_lt.mpr z)
 have key:∀ (h:Heap) (c₁ tk:Nat),St 0 h→(∀ b o,b≠S→s.heap.get? b=some o→h.get? b=some o) →
   h.get? S=some { cls:=.type "list",data:=.seq #[] c₁ }→codeAny (model prog w) A (.builtin "list.extend.loop" ⟨[.ref S,.ref I,res],[]⟩) R { s with heap:=h,toks:=tk,drawn:=d }:=by
  intro h c₁ tk hst hk hS₁
  refine codeAny_extend_loopS W.toS hn S hSf res es.size 0 _ #[] c₁ rfl (Nat.zero_le _) hst hS₁ (ItemsOf.nil _) fun s' acc' c' hm hS' hacc=>?_
  rw [Moved.eq_with hm]
  refine hR s'.heap s'.toks d acc' c' ys (fun b o hb e=>hm.heap b o (fun hmem=>?_) (hk b o hb e)) hS' hp hacc
  rcases List.mem_cons.mp hmem with e' | hmem
  ·exact hb e'
  ·exact absurd (Heap.lt_size e) (by rw [List.mem_singleton.mp hmem]; exact Nat.not_lt.mpr hI)
 have hS₁:h2.get? S=some { cls:=.type "list",data:=.seq #[] c₀ }:=kp _ _ hS
 refine wpAny_bind (wpAny_holding (vf (s:={ s with heap:=h2,drawn:=d }) ⟨o,kp _ _ ho,hex.1⟩ ?_))
 refine wpAny_ite_split (fun _=>?_) (fun _=>wpAny_pure ⟨plainId_quiet PySem.F.plain_extend_loop _,key _ c₀ _ st (fun b o _ e=>kp b o e) hS₁⟩)
 refine wpAny_bind (wpAny_rule ?_)
 refine wpAny_bind ?_
 show wpAny _ _ (updateSeq S (·.push .none) >>= fun _=>updateSeq S (·.pop)) _ _ _
 refine wpAny_bind (wpAny_updateSeq hS₁ rfl ?_)
 have hS₂:=Heap.get?_update_self (Obj.mapSeq (·.push Value.none)) hS₁ rfl
 refine wpAny_updateSeq (hz:=by seq_fits) hS₂ rfl ?_
 have hS₃:=Heap.get?_update_self (Obj.mapSeq (·.pop)) hS₂ rfl
 refine wpAny_pure ⟨plainId_quiet PySem.F.plain_extend_loop _,key _ _ _ ?_ (fun b o hb e=>?_) hS₃⟩
 ·refine W.frame 0 _ _ st fun b hb o e=>?_
  have hbS:b≠S:=fun h=>hSf (h ▸ hb)
  exact (Heap.get?_update_other _ _ (Ne.symm hbS)).trans ((Heap.get?_update_other _ _ (Ne.symm hbS)).trans e)
 ·exact (Heap.get?_update_other _ _ (Ne.symm hb)).trans ((Heap.get?_update_other _ _ (Ne.symm hb)).trans (kp _ _ e))
theorem qx {ys:List (Int × Value)} {acc:Array Value} {n:Nat} (h:ItemsOf (PV ys) acc n) (hn:ys.length=n):acc.toList=ys.map (·.2):=by
 apply List.ext_getElem?
 intro i
 rw [List.getElem?_map]
 by_cases hi:i<n
 ·have hi':i<acc.size:=by rw [h.1]; exact hi
  have e1:acc[i]? = some acc[i]:=Array.getElem?_eq_getElem hi'
  obtain ⟨e,he,hv⟩:=h.2 i acc[i] e1
  rw [Array.getElem?_toList,e1,he,hv]; rfl
 ·rw [List.getElem?_eq_none (by rw [Array.length_toList,h.1]; exact Nat.le_of_not_lt ‹_›),List.getElem?_eq_none (by walk_at "l")]; rfl
theorem gJ {R:Result→Shared→Prop} (hh:A.handled=none) (ho:s.heap.get? a=some o) (hex:o.ExactSet) (hd:o.data=.set es ep t) (hf:t.fits es.size=true) (U:Up t.place) (hz:t.place.size=es.size) (hl:t.led=(!w.params.followText "set-order")) (hn:es.size≤sizeLine)
  (hR:∀ h' tk d acc' c' ys,(∀ b o,s.heap.get? b=some o→h'.get? b=some o)→h'.get? s.heap.objs.size=some { cls:=.type "list",dict:=none,data:=.seq acc' c',slots:=#[] }→ys.Perm es.toList→ItemsOf (PV ys) acc' es.size→R (.ok (.ret (.ref s.heap.objs.size))) { s with heap:=h',toks:=tk,drawn:=d }) :
  codeAny (model prog w) A (.builtin "proto.collect" ⟨[.ref a],[]⟩) R s:=by
 have hlt:a<s.heap.objs.size:=Heap.lt_size ho
 have hS:(s.heap.push { cls:=.type "list",data:=.seq ([]:List Value).toArray }).get? s.heap.objs.size=some { cls:=.type "list",data:=.seq ([]:List Value).toArray }:=Heap.get?_push_size _ rfl
 refine codeAny_builtin F.entry_proto_collect ?_
 rw [Around.under_plainId F.plain_proto_collect _]
 show wpAny _ A.in1 (newList [] >>= fun l=>again (.builtin "list.__iadd__" ⟨[l,.ref a],[]⟩)) _ _ s
 refine wpAny_bind (wpAny_newObj_type ?_)
 refine wpAny_pure ⟨plainId_quiet F.plain_list_iadd _,codeAny_builtin F.entry_list_iadd ?_⟩
 rw [Around.under_plainId F.plain_list_iadd _]
 show wpAny _ A.in1 (Builtin.List.listExtendWith (.ref s.heap.objs.size) (.ref a) (.ref s.heap.objs.size)) _ _ _
 exact w6 (R:=R) (s:={ s with heap:=s.heap.push { cls:=.type "list",data:=.seq ([]:List Value).toArray } }) hh (Heap.get?_push_of_some _ ho) hex hd hf U hz hl hn s.heap.objs.size (Nat.ne_of_gt hlt) _ 0 hS fun h' tk d acc' c' ys kp eo hp ia =>
  hR h' tk d acc' c' ys (fun b o e=>kp b o (Nat.ne_of_lt (Heap.lt_size e)) (Heap.get?_push_of_some _ e)) eo hp ia
theorem nq {Q:List Value→Shared→Prop} (hh:A.handled=none) (ho:s.heap.get? a=some o) (hex:o.ExactSet) (hd:o.data=.set es ep t) (hf:t.fits es.size=true) (U:Up t.place) (hz:t.place.size=es.size) (hl:t.led=(!w.params.followText "set-order")) (hn:es.size≤sizeLine)
  (hQ:∀ h' tk d vs,(∀ b o,s.heap.get? b=some o→h'.get? b=some o)→s.heap.objs.size≤h'.objs.size→vs.Perm (es.toList.map (·.2))→Q vs { s with heap:=h',toks:=tk,drawn:=d }):wpAny (model prog w) A (collect (.ref a)) Q E s:=by
 unfold collect
 refine wpAny_bind (wpAny_runValue (gJ hh ho hex hd hf U hz hl hn fun h' tk d acc c ys kp eo hp ia=>?_))
 show wpAny _ A (load s.heap.objs.size >>= _) _ _ { s with heap:=h',toks:=tk,drawn:=d }
 refine wpAny_bind (wpAny_load eo ?_)
 refine wpAny_pure (hQ h' tk d _ kp (Nat.le_of_lt (Heap.lt_size eo)) ?_)
 rw [qx ia (by rw [hp.length_eq]; simp)]
 exact hp.map _
end
end TS
namespace Tim
open PySem PyProof.Rows
section
variable {prog:Program} {w:World} {A:Around} {E:Value→Shared→Prop} {s:Shared} {κ:SortKind} {r:Value→Int} {P:Value→Prop}
theorem nW {v:Value} {R:List Value→Prop} {Q:Value→Shared→Prop}
  (hcol:∀ (A':Around) (E':Value→Shared→Prop) (Q':List Value→Shared→Prop),A'.handled=A.handled→(∀ vs h1 tk d,R vs→(∀ b o,s.heap.get? b=some o→h1.get? b=some o)→s.heap.objs.size≤h1.objs.size→Q' vs { s with heap:=h1,toks:=tk,drawn:=d })→wpAny (model prog w) A' (collect v) Q' E' s)
  (hsz:∀ vs,R vs→vs.length≤sizeLine) (hP:∀ vs,R vs→∀ v∈vs,P v)
  (hk:∀ vs,R vs→2≤vs.length→∀ (A':Around) (E':Value→Shared→Prop) (s':Shared),(∀ b o,s.heap.get? b=some o→s'.heap.get? b=some o)→∀ (Q:SortKind→Shared→Prop),Q κ s'→wpAny (model prog w) A' (keyKind' vs.toArray) Q E' s')
  (C:∀ (s':Shared),(∀ b o,s.heap.get? b=some o→s'.heap.get? b=some o)→Cmp prog w A.in1.in1 s' κ r P)
  (h:∀ (vs:List Value) (h':Heap) (a:Addr) (out:List Value) (n tk:Nat) d,R vs→out.Perm vs→(out.Pairwise fun x y=>r x≤r y)→(∀ b o,s.heap.get? b=some o→h'.get? b=some o)→s.heap.objs.size≤a→h'.get? a=some (seqObj "list" out.toArray n)→Q (.ref a) { s with heap:=h',toks:=tk,drawn:=d }) :
  wpAny (model prog w) A (call (.builtin "sorted") [v]) Q E s:=by
 refine Calls.call_function_entry kind_sorted plain_sorted entry_sorted (args_sorted1 _) ?_
 unfold Builtin.«sorted»
 refine wpAny_bind (m:=checkCount "sorted" 1 1 _) (wpAny_pure ?_)
 refine wpAny_bind (hcol _ _ _ rfl fun vs h1 tk d hR kp hz=>?_)
 have hsz':=hsz vs hR
 refine wpAny_bind (wpAny_newList ?_ (by simpa using hsz'))
 have hoL:(h1.push (seqObj "list" vs.toArray 0)).get? h1.objs.size=some (seqObj "list" vs.toArray 0):=Heap.get?_push_size _ rfl
 have old:∀ b o,s.heap.get? b=some o→(cV (h1.push (seqObj "list" vs.toArray 0)) h1.objs.size vs).get? b=some o:=fun b o e=>by
  have hlt:b<h1.objs.size:=Heap.lt_size (kp b o e)
  rw [n6 (Nat.ne_of_lt hlt) (by rw [size_push']; exact Nat.lt_succ_of_lt hlt)]
  exact Heap.get?_push_of_some _ (kp b o e)
 show wpAny _ _ _ _ _ { s with heap:=h1.push (seqObj "list" vs.toArray 0),toks:=tk,drawn:=d }
 refine wpAny_bind (wpAny_holding (wpAny_call_entry slot_list_sort ⟨_,hoL,rfl⟩ entry_list_sort (m7 (r:=r) (s:={ s with heap:=h1.push (seqObj "list" vs.toArray 0),toks:=tk,drawn:=d }) hoL hsz' (hP vs hR)
  (fun h2=>hk vs hR h2 _ _ _ old) (fun h2=>C _ old) fun out a1 a2=>⟨_,rfl,?_⟩) (args_list_sort _)))
 obtain ⟨n,e⟩:=sortedHeap_at (out:=out) hoL
 refine wpAny_pure ⟨_,rfl,h vs _ h1.objs.size out.toList n tk d hR a1 a2 (fun b o e=>?_) hz (by rw [Array.toArray_toList]; exact e)⟩
 have hlt:b<h1.objs.size:=Heap.lt_size (kp b o e)
 rw [sortedHeap_old (Nat.ne_of_lt hlt) (by rw [size_push']; exact Nat.lt_succ_of_lt hlt)]
 exact Heap.get?_push_of_some _ (kp b o e)
end
end Tim
set_option Elab.async false
set_option linter.all false
set_option maxRecDepth 100000
set_option maxHeartbeats 4000000
namespace TS
open PySem PySem.SetTable PyProof.Rows
section
variable {prog:Program} {w:World} {K:Type} [DecidableEq K] {knd:KeyKind prog w K} {A:Around} {E:Value→Shared→Prop} {s:Shared}
theorem vp {α:Type} (led:Bool):TI (α:=α) (SetTable.fresh 0 0 led) #[] :=
 ⟨⟨3,rfl,Nat.le_refl _⟩,rfl,fun i j h hj=>absurd hj (Nat.not_lt_zero _),fun i hi=>absurd hi (Nat.not_lt_zero _),rfl,(by show 0 * 5<7 * 3; decide),fun i h x e=>by simp at e⟩
theorem mC {l:Addr} {items:Array Value} {xs:List (List K × Addr)} {Q:Value→Shared→Prop} (hh:A.handled=none) (hu:A.units+8<cLine) (hl:s.heap.IsList l items) (hi:items.toList=xs.map fun p=>Value.ref p.2)
  (his:∀ p∈xs,IsTupleKey knd s.heap p.1 p.2) (hz:xs.length≤1000) (hsc:∀ k v,knd.is k v=true→v.scannable=true)
  (h:∀ h' tk ks,SetT knd h' s.heap.objs.size ks→(∀ k,k∈ks.map (·.1)↔k∈xs.map (·.1))→(∀ p∈ks,p∈xs)→(∀ b o,s.heap.get? b=some o→h'.get? b=some o)→Q (.ref s.heap.objs.size) { s with heap:=h',toks:=tk }) :
  wpAny (model prog w) A (call (.type "set") [.ref l]) Q E s:=by
 have lt:∀ p∈xs,p.2<s.heap.objs.size:=fun p hp=>by
  obtain ⟨o,_,_,ho,_⟩:=his p hp
  exact Heap.lt_size ho
 refine lZ hh hl (fun i h=>∃ ks,SetT knd h s.heap.objs.size ks∧(∀ k,k∈ks.map (·.1)↔k∈(xs.take i).map (·.1))∧(∀ p∈ks,p∈xs)∧ks.length≤i∧∀ p∈xs,IsTupleKey knd h p.1 p.2) (fun h e k=>?_) (fun i h h' ⟨ks,S,m1,m2,m3,m4⟩ k=>?_) (fun i v s' E' Q' hv ⟨ks,S,m1,m2,m3,m4⟩ q=>?_) fun h' tk ⟨ks,S,m1,m2,m3,m4⟩ k=>?_
 ·exact ⟨[],⟨⟨_,#[],0,_,e,⟨rfl,rfl,rfl⟩,rfl,vp _,(by show 7≤8191; decide),rfl,rfl⟩,List.nodup_nil,fun p hp=>nomatch hp⟩,fun k=>by simp,(fun p hp=>nomatch hp),Nat.le_refl _,fun p hp=>IsTupleKey.stay (his p hp) fun o ho=>k _ _ ho⟩
 ·obtain ⟨⟨o,es,ep,t,ho,r⟩,nd,is⟩:=S
  exact ⟨ks,⟨⟨o,es,ep,t,k _ _ (Nat.le_refl _) ho,r⟩,nd,fun p hp=>IsTupleKey.stay (is p hp) fun o ho=>k _ _ (Nat.le_of_lt (lt p (m2 p hp))) ho⟩,m1,m2,m3,fun p hp=>IsTupleKey.stay (m4 p hp) fun o ho=>k _ _ (Nat.le_of_lt (lt p hp)) ho⟩
 ·have hv':items.toList[i]? = some v:=by rw [Array.getElem?_toList]; exact hv
  rw [hi,List.getElem?_map] at hv'
  cases ex:xs[i]? with
  | none=>rw [ex] at hv'; cases hv'
  | some p =>
   rw [ex] at hv'
   cases hv'
   have hp:=List.mem_of_getElem? ex
   have hil:i<xs.length:=(List.getElem?_eq_some_iff.mp ex).1
   have tk1:(xs.take (i+1)).map (·.1)=(xs.take i).map (·.1)++[p.1]:=by
    rw [List.take_add_one,ex,List.map_append]; rfl
   unfold setAdd
   refine wpAny_holding (wpAny_bind (wpAny_pyHash_tuple (by show A.units+3<cLine; walk_at "l") (m4 p hp) ?_))
   refine z_ (s:={ s' with toks:=s'.toks+(p.1.length+1) }) S (m4 p hp) (by walk_at "l") (by show A.units+3<cLine; walk_at "l") hsc fun b h' ks' sb S' c=>?_
   refine q b h' _ sb ⟨ks',S',fun k=>?_,fun p' hp'=>?_,?_,fun p' hp'=>IsTupleKey.stay (m4 p' hp') fun o ho=>sb.extBut _ _ (Nat.ne_of_lt (lt p' hp')) ho⟩
   ·rw [tk1,List.mem_append,List.mem_singleton,← m1]
    rcases c with ⟨c1,rfl⟩ | ⟨c1,c2⟩
    ·exact ⟨.inl,fun z=>z.elim id fun e=>e ▸ c1⟩
    ·rw [(c2.map _).mem_iff,List.map_cons,List.mem_cons]
     exact ⟨fun z=>z.symm,fun z=>z.symm⟩
   ·rcases c with ⟨c1,rfl⟩ | ⟨c1,c2⟩
    ·exact m2 p' hp'
    ·rcases List.mem_cons.mp (c2.mem_iff.mp hp') with rfl | z
     ·exact hp
     ·exact m2 p' z
   ·rcases c with ⟨c1,rfl⟩ | ⟨c1,c2⟩
    ·exact Nat.le_succ_of_le ‹_›
    ·rw [c2.length_eq]; simp; walk_at "l"
 ·have e:items.size=xs.length:=by
   have:=congrArg List.length hi
   simpa using this
  rw [e,List.take_length] at m1
  exact h h' tk ks S m1 m2 fun b o ho=>k b o (Heap.lt_size ho) ho
end
end TS
namespace L2
open PySem PySem.Spec PyProof.Rows
section
variable {X:Cx} {pins:List (Addr × Obj)} {σ:St} {H:Hp} {s:Shared}
theorem Inv.drawn {d} (I:Inv X pins σ H s):Inv X pins σ H { s with drawn:=d }:=⟨I.ok,I.os,I.bare,I.base,I.loc,I.cell,I.free,I.freeC,I.pin,I.hok,I.len⟩
theorem uL {prog:Program} {w:World}:∀ (k:Key) (v:Value),(mixKind prog w).is k v=true→v.scannable=true:=fun k v h=>by
 rcases keyIs_shape h with ⟨i,t,rfl,rfl⟩ | ⟨x,t,rfl,rfl⟩ <;> rfl
noncomputable def fC (K:PySem.W.Frag):V→Hp→VK→Prop:=fun x H Q=>match x with
 | .ref p=>∃ ys ks sh,SqL K H p ys∧ys.length≤1000∧cN H ys ks∧(∀ k∈ks,shOf k=true :: sh) ∧
   ∀ zs ms l,cN H zs ms→ms.Nodup→(∀ k,k∈ms↔k∈ks)→(ms.Pairwise fun a b=>ltK b a=false)→H l=none→Q (.ref l) (upd H l (.lst zs))
 | _=>False
theorem cN.pairs {H:Hp} {ys:List V} {ks:List (List Key)} {vs:List Value} (h:cN H ys ks) (hv:Vals ys vs):∃ xs:List (List Key × Addr),vs=xs.map (fun p=>Value.ref p.2)∧xs.map (·.1)=ks∧∀ p∈xs,H p.2=some (.tup (p.1.map kV)):=by
 induction ys generalizing ks vs with
 | nil=>exact ⟨[],Paired.n0 hv,(show ks=[] from Paired.n0 h).symm,fun p hp=>nomatch hp⟩
 | cons y ys ih =>
  obtain ⟨k,ks,rfl,⟨b,rfl,g⟩,t⟩:=Paired.c h
  obtain ⟨v,vs,rfl,rfl,rs⟩:=Paired.c hv
  obtain ⟨xs,e1,e2,e3⟩:=ih t rs
  refine ⟨(k,b) :: xs,by rw [e1]; rfl,by rw [← e2]; rfl,fun p hp=>?_⟩
  rcases List.mem_cons.mp hp with rfl | hp
  ·exact g
  ·exact e3 p hp
end
section
variable {X:Cx} {e:Expr} {te:TE} {p p2 pos pos2:Pos}
theorem oJ (hc:X.calm=true) (hu:X.A.units+64<cLine) (hg:Gl X "sorted") (hm:X.mg "sorted" = none) (hg2:Gl X "set") (hm2:X.mg "set" = none) (he:PE X e te)
  (hv:bootBuiltins "sorted" = some (.builtin "sorted")) (hv2:bootBuiltins "set" = some (.type "set"))
  (hs2:starEach [e] X.env=(false,eval e X.env) :: starEach [] X.env:=by rfl)
  (hs:starEach [.Call (.Name "set" p2) [e] [] pos2] X.env=(false,eval (.Call (.Name "set" p2) [e] [] pos2) X.env) :: starEach [] X.env:=by rfl) :
  PE X (.Call (.Name "sorted" p) [.Call (.Name "set" p2) [e] [] pos2] [] pos) (tUn (fC X.K) te):=by
 intro pins s σ H Q I h
 refine wpAny_Call_Name_kw (ld_blt I hg hm hv ?_ (by decide) (by decide))
 refine PyProof.Rows.callWith_builtin1 ?_ hs rfl
 rw [hs]
 refine Calls.spliced_cons ?_
 refine wpAny_Call_Name_kw (ld_blt I hg2 hm2 hv2 ?_ (by decide) (by decide))
 refine PyProof.Rows.callWith_type1 ?_ hs2 rfl
 rw [hs2]
 refine Calls.spliced_cons (thn (he pins s σ H _ I h) fun u s1 hx5=>L2.ex2 hx5 fun x H1 I1 r1 q1=>Calls.spliced_nil ?_)
 have q1:fC X.K x H1 Q:=q1
 obtain ⟨a,rfl⟩:∃ a,x=.ref a:=by
  unfold fC at q1
  split at q1
  ·exact ⟨_,rfl⟩
  ·exact q1.elim
 obtain ⟨ys,ks,sh,hl,hz1,ht,hsh,q⟩:=q1
 cases r1
 obtain ⟨vs,rv,pl,hz⟩:=I1.list hl
 obtain ⟨xs,ex,ek,hx⟩:=ht.pairs rv
 have hhd:X.A.handled=none:=I1.ok.hd hc
 have hlen:xs.length=ys.length:=by rw [rv.length,ex,List.length_map]
 have his:∀ p∈xs,IsTupleKey (mixKind X.prog X.w) s1.heap p.1 p.2:=fun p hp=>by
  obtain ⟨us,ru,o,e1,c1,n1,d1⟩:=I1.tup (hx p hp)
  exact ⟨o,us.toArray,n1,e1,c1,d1,by simpa using items_are ru⟩
 refine TS.mC (knd:=mixKind X.prog X.w) hhd (by walk_at "l") pl.isList (by simpa using ex) his (by walk_at "l") uL fun h2 tk ks' S m1 m2 kp=>?_
 refine Calls.spliced_nil ?_
 obtain ⟨⟨o,es,ep,t,ho,hex,hd,T,hM,hL,hes⟩,nd,is⟩:=S
 have hent:es.toList.map (·.2)=ks'.map fun p=>Value.ref p.2:=by rw [hes,List.map_map]; rfl
 have hksl:ks'.length≤1000:=by
  have:=TS.di nd (m:=ks) fun k hk=>by rw [← ek]; exact (m1 k).mp hk
  rw [List.length_map] at this
  have:ks.length=xs.length:=by rw [← ek,List.length_map]
  walk_at "l"
 have hesz:es.size=ks'.length:=by
  have:=congrArg List.length hes
  simpa using this
 have memk:∀ p∈ks',p.1∈ks:=fun p hp=>by rw [← ek]; exact List.mem_map.mpr ⟨p,m2 p hp,rfl⟩
 have mem:∀ vs':List Value,vs'.Perm (ks'.map fun p=>Value.ref p.2)→∀ v∈vs',∃ b k,v=.ref b∧H1 b=some (.tup (k.map kV))∧k∈ks:=fun vs' pv v hv=>by
  obtain ⟨p,hp,rfl⟩:=List.mem_map.mp (pv.mem_iff.mp hv)
  exact ⟨p.2,p.1,rfl,hx p (m2 p hp),memk p hp⟩
 have h12:s1.heap.objs.size≤h2.objs.size:=Nat.le_of_lt (Heap.lt_size ho)
 refine Tim.nW (s:={ s1 with heap:=h2,toks:=tk }) (κ:=tuples' true) (R:=fun vs'=>vs'.Perm (ks'.map fun p=>Value.ref p.2)) (r:=fun v=>rkK ks (n_ H1 v)) (P:=fun v=>∃ b k,v=.ref b∧H1 b=some (.tup (k.map kV))∧shOf k=true :: sh∧k∈ks)
  (fun A' E' Q' hA hQ=>TS.nq (s:={ s1 with heap:=h2,toks:=tk }) (hA.trans hhd) ho hex hd T.fits T.up T.sz hL (by rw [hesz,sizeLine_eq]; walk_at "s4") fun h' tk' d vs' kp' hz' pv=>hQ vs' h' tk' d (by rw [← hent]; exact pv) kp' hz')
  (fun vs' pv=>by rw [pv.length_eq,List.length_map,sizeLine_eq]; walk_at "s4") (fun vs' pv v hv=>?_) (fun vs' pv h2' A' E' s' kp' Q' q'=>?_) (fun s' kp'=>uF I1 fun b o e=>kp' b o (kp b o e)) fun vs' h' a' out n tk' d pv pm pw kp' ha eo=>?_
 ·obtain ⟨b,k,e1,e2,e3⟩:=mem vs' pv v hv
  exact ⟨b,k,e1,e2,hsh k e3,e3⟩
 ·obtain ⟨zs,z1,z2⟩:=cN.of (H:=H1) (ks:=ks) vs' (mem vs' pv)
  obtain ⟨fs,f1,f2,f3⟩:=kat_tups I1 (s':=s') (fun b o e=>kp' b o (kp b o e)) z1 z2 fun k hk=>by
   obtain ⟨v,hv,rfl⟩:=List.mem_map.mp hk
   obtain ⟨b,k,rfl,e2,e3⟩:=mem vs' pv v hv
   rw [cR e2]; exact hsh k e3
  refine PySem.W.kat_kind (T:=.type "int") f1 (by walk_at "l") (fun f hf=>?_) (by decide) q'
  obtain ⟨i,t,rfl⟩:=f3 f hf
  exact .now
 ·have pm2:=pm.trans pv
  obtain ⟨zs,z1,z2⟩:=cN.of (H:=H1) (ks:=ks) out fun v hv=>mem _ pm2 v hv
  have zl:=z2.length
  have ol:=pm2.length_eq
  rw [List.length_map] at ol
  have ekk:(ks'.map fun p=>Value.ref p.2).map (n_ H1)=ks'.map (·.1):=by
   rw [List.map_map]
   exact List.map_congr_left fun p hp=>cR (hx p (m2 p hp))
  have pms:(out.map (n_ H1)).Perm (ks'.map (·.1)):=by rw [← ekk]; exact pm2.map _
  refine ⟨.ref a',_,(I1.laid (a:=a') (t':=tk') (fun b o e=>kp' b o (kp b o e)) (Nat.le_trans h12 ha) (show ObjOk X.prog X.w _ h' _ (.lst zs) from ⟨by rw [sizeLine_eq]; walk_at "l",out,n,z2,eo⟩)).drawn,rfl,
   q zs _ _ z1 (pms.nodup_iff.mpr nd) (fun k=>by rw [pms.mem_iff,m1,ek]) ?_ (I1.hok.fresh (Nat.le_trans h12 ha))⟩
  rw [List.pairwise_map]
  refine pw.imp_of_mem fun {x y} mx my hle=>?_
  obtain ⟨b,k,rfl,hb,kk⟩:=mem _ pm2 x mx
  obtain ⟨c,m,rfl,hc',km⟩:=mem _ pm2 y my
  rw [cR hb,cR hc'] at *
  have:=wF (L:=ks) ((hsh m km).trans (hsh k kk).symm) km
  rw [← this]
  exact decide_eq_false (by walk_at "l")
end
end L2
set_option Elab.async false
set_option linter.all false
set_option maxRecDepth 100000
set_option maxHeartbeats 4000000
namespace TS
open PySem PySem.SetTable PyProof.Rows
section
variable {t:SetTable} {es:Array (Int × Value)}
end
section
variable {prog:Program} {w:World} {K:Type} [DecidableEq K] {knd:KeyKind prog w K}
variable {A:Around} {E:Value→Shared→Prop} {s:Shared}
end
end TS
set_option Elab.async false
set_option linter.all false
set_option maxRecDepth 100000
set_option maxHeartbeats 4000000
namespace TS
open PySem PySem.SetTable PyProof.Rows
section
variable {prog:Program} {w:World} {K:Type} [DecidableEq K] {knd:KeyKind prog w K} {A:Around} {E:Value→Shared→Prop} {s:Shared}
end
end TS
namespace L2
open PySem PySem.Spec PyProof.Rows
section
variable {X:Cx} {e:Expr} {te:TE} {p p2 pos pos2:Pos}
end
end L2
namespace L2.Q
open PySem PySem.Spec PyProof.Rows
section
variable {X:Cx} {K:PySem.W.Frag} {e:Expr} {te:WE} {p p2 pos pos2:Pos}
theorem zp:bootBuiltins "set" = some (.type "set"):=by decide +kernel
noncomputable def cP:W1:=fun _ x Q=>match x with
 | .list xs=>∃ (ks:List (List Key)) (sh:List Bool),xs=ks.map keyT∧ks.length≤1000∧(∀ k∈ks,shOf k=true :: sh)∧∀ ms:List (List Key),ms.Nodup→(∀ k,k∈ms↔k∈ks)→(ms.Pairwise fun a b=>ltK b a=false)→Q (.ow true) (.list (ms.map keyT))
 | _=>False
theorem nY:Br1 K (fC K) cP:=by
 intro Hs H m x v As Qd Qv w rx h f
 have r1:=rx.rep w
 cases r1 with
 | list z s q =>
  obtain ⟨ks,sh,rfl,hz,hs,h⟩:=h
  obtain ⟨ta,ok⟩:=xj q
  have hl:=q.length
  rw [List.length_map] at hl
  refine ⟨_,ks,sh,s,by walk_at "l",ta,hs,fun zs ms l tz nd mm pw hl'=>?_⟩
  have rr:=oO (K:=K) tz fun k hk=>ok k ((mm k).mp hk)
  have:ms.length≤ks.length:=TS.di nd fun k hk=>(mm k).mp hk
  exact f.lst w (by rw [List.length_map,sizeLine_eq]; walk_at "l") rr (iC ms) (h ms nd mm pw) l hl'
 | _=>exact h.elim
theorem gh (hu:X.A.units+64<cLine) (hg:Gl X "sorted") (hm:X.mg "sorted" = none) (hg2:Gl X "set") (hm2:X.mg "set" = none) (he:QE X K e te) (hc:X.calm=true:=by rfl) (hK:X.K=K:=by rfl)
  (hs2:starEach [e] X.env=(false,eval e X.env) :: starEach [] X.env:=by rfl)
  (hs:starEach [.Call (.Name "set" p2) [e] [] pos2] X.env=(false,eval (.Call (.Name "set" p2) [e] [] pos2) X.env) :: starEach [] X.env:=by rfl) :
  QE X K (.Call (.Name "sorted" p) [.Call (.Name "set" p2) [e] [] pos2] [] pos) (wUn cP te):=by
 subst hK
 refine PE.imp (oJ hc hu hg hm hg2 hm2 he rE zp hs2 hs) fun σ H Qv hx9=>?_
 obtain ⟨Hs,ρ,tot,Q,sr,h,fin⟩:=hx9
 exact ⟨Hs,ρ,tot,_,sr,h,fun v H1 Hs1 m x As g1 r1 f1 q1=>nY Hs1 H1 m x v As Q Qv g1.wf r1 q1 (Fin.after fin g1)⟩
end
end L2.Q
namespace L2.Q.R
open PySem PySem.Spec PyProof.Rows L2.Q
section
variable {Q:Md→L2.Q.D→Prop} {m:Md} {xs:List L2.Q.D}
theorem zb:cP m (.list xs) Q = ∃ (ks:List (List Key)) (sh:List Bool),xs=ks.map keyT∧ks.length≤1000∧(∀ k∈ks,shOf k=true :: sh)∧∀ ms:List (List Key),ms.Nodup→(∀ k,k∈ms↔k∈ks)→(ms.Pairwise fun a b=>ltK b a=false)→Q (.ow true) (.list (ms.map keyT)):=rfl
end
end L2.Q.R
set_option Elab.async false
set_option linter.all false
set_option maxRecDepth 100000
set_option maxHeartbeats 4000000
namespace L2
open PySem PySem.Spec PyProof.Rows
section
variable {prog:Program} {w:World} {A:Around} {E:Value→Shared→Prop} {s:Shared} {I l:Addr} {items:Array Value}
end
section
variable {X:Cx} {e:Expr} {te:TE} {p p2 pos pos2:Pos}
end
end L2
namespace L2
open PySem PySem.Spec PyProof.Rows
section
variable {prog:Program} {w:World} {A:Around} {E:Value→Shared→Prop} {s:Shared}
end
section
variable {X:Cx}
end
end L2
namespace L2.Q
open PySem PySem.Spec PyProof.Rows
section
variable {X:Cx} {K:PySem.W.Frag} {e a b:Expr} {te ta tb:WE} {p p2 pos pos2:Pos}
theorem Reps.rev {H:Hp} {ds:List D} {vs:List V} (r:Reps K H ds vs):Reps K H ds.reverse vs.reverse:=by
 induction ds generalizing vs with
 | nil=>rw [r.n0]; exact .nil
 | cons d ds ih =>
  obtain ⟨u,us,rfl,r,rs⟩:=r.c
  rw [List.reverse_cons,List.reverse_cons]
  exact (ih rs).append (.cons r .nil)
end
end L2.Q
namespace L2.Q.R
open PySem PySem.Spec PyProof.Rows L2.Q
section
variable {Q:Md→L2.Q.D→Prop} {m m':Md} {xs ys:List L2.Q.D}
end
end L2.Q.R
set_option Elab.async false
set_option linter.all false
set_option maxRecDepth 100000
set_option maxHeartbeats 4000000
namespace L2.Q
open PySem PySem.Spec PyProof.Rows PySem.W
noncomputable abbrev bmVE:List Value:=[.type "ValueError",.type "Exception",.type "BaseException",.type "object"]
structure XcK (K:PySem.W.Frag) (C:Addr):Prop where
 ex:excIn K C bmVE "ValueError.__new__" = true
 gx:findIn K (.ref C) "__getattr__" = some none
 ga:findIn K (.ref C) "__getattribute__" = some (some (.builtin "BaseException.__getattribute__"))
 cl:findIn K (.ref C) "__class__" = some (some (.builtin "object.__class__"))
 ob:mroIn K C (.type "object")=some true
theorem XcK.obj {K:PySem.W.Frag} {C:Addr} {h:Heap} (x:XcK K C) (X:K.In h):∃ bm N nm q bs hdct sn sub ab col dd k0 k1 k2 k3 k5 mN,
  h.get? C=some (excClassObj nm q C N bs bm hdct sn sub ab col dd k0 k1 k2 k3 k5 "ValueError.__new__")∧h.Ns N mN∧mN "__init__" = none∧OwnTail h bmVE bm:=by
 have q:=x.ex
 unfold excIn at q
 split at q
 ·rename_i dd cd sl ho
  split at q
  ·rename_i C' bm k0 k1 k2 k3 n k5 hm hs
   simp only [Bool.and_eq_true,beq_iff_eq,Bool.not_eq_true'] at q
   obtain ⟨⟨⟨⟨⟨e1,e2⟩,hdel⟩,ht⟩,hok⟩,hni⟩:=q
   cases e1; cases e2
   cases cd
   dsimp only at hm hdel hok hni
   cases hm; cases hdel
   have hsl:sl = #[k0,k1,k2,k3,some (.builtin "ValueError.__new__"),k5]:=by
    cases sl
    dsimp only at hs
    rw [hs]
   cases hsl
   exact ⟨bm,_,_,_,_,_,_,_,_,_,dd,k0,k1,k2,k3,k5,_,X _ _ ho,.of_isNs (isNs_of_in X hok),nsMap_none_of_in X hok hni,tail_of_in X ht⟩
  ·cases q
 ·cases q
section
variable {prog:Program} {w:World} {A:Around} {E:Value→Shared→Prop} {h:Heap} {g:Array GenState} {d:Drawn} {t:Nat} {os:OsState} {a C:Addr} {o:Obj} {K:PySem.W.Frag}
theorem u9 {R:Result→Shared→Prop} (x:XcK K C) (X:K.In h) (hx:h.get? a=some o) (hc:o.cls=.ref C) (hq:R (.ok (.ret (.ref C))) ⟨h,g,d,t,os⟩) :
  codeAny (model prog w) A (.call (.builtin "getset_descriptor.__get__") ⟨[.builtin "object.__class__",.ref a,.ref C],[]⟩) R ⟨h,g,d,t,os⟩:=by
 obtain ⟨bm,N,nm,q,bs,hdct,sn,sub,ab,col,dd,k0,k1,k2,k3,k5,mN,hC,hN,hni,T⟩:=x.obj X
 have hT5:(⟨h,g,d,t,os⟩:Shared).TypeIs (.builtin "object.__class__") "getset_descriptor" := F.typeOf_object_class
 have hcB:(Value.ref C :: bm).contains (.type (".".intercalate ("object.__class__".cutAt '.').dropLast))=true:=by
  rw [F.owner_object_class,List.contains_cons,T.hasType (X := "object") (b:=true) rfl]; rfl
 refine codeAny_call_builtin F.slot_gs_get.plain F.entry_gs_get (F.slot_gs_get.check _ _ _ _ _ _ _ _ hT5 (F.args_gs_get _ _ _) ?_)
 repeat (any_goals (first | assumption | (with_reducible refine wpAny_loadPart_at hx ?_; rw [hc]) | (with_reducible refine wpAny_isSubtype_exc hC ?_; rw [hcB]) | wp_step))
 refine ⟨Code.quiet_builtin _ (by decide +kernel),codeAny_builtin F.entry_object_class ?_⟩
 repeat (any_goals (first | assumption | (with_reducible refine wpAny_loadPart_at hx ?_; rw [hc]) | wp_step))
theorem qQ {tk:Tok} {Q:PySem.Fin→Shared→Prop} (x:XcK K C) (X:K.In h) (hx:h.get? a=some o) (hc:o.cls=.ref C) (hq:Q (.done (.ret (.ref C))) ⟨h,g,d,t,os⟩) :
  wpAny (model prog w) A (Builtin.«object.__getattribute__» ⟨[.ref a,.str "__class__" tk],[]⟩) Q E ⟨h,g,d,t,os⟩:=by
 have hT5:(⟨h,g,d,t,os⟩:Shared).TypeIs (.builtin "object.__class__") "getset_descriptor" := F.typeOf_object_class
 have f5:=F.typeOf_object_class
 have f6:=F.slot_gs_get.lookup
 have f7:=F.slot_gs_set.lookup
 have Lk:=looks_findIn (M:=model prog w) X x.cl
 repeat (any_goals (first | assumption | (with_reducible refine wpAny_loadPart_at hx ?_; rw [hc]) | with_reducible refine Lk.at ?_ | wp_step))
 refine u9 x X hx hc ?_
 repeat (any_goals (first | assumption | wp_step))
theorem yo {tk:Tok} {Q:Value→Shared→Prop} (x:XcK K C) (X:K.In h) (hx:h.get? a=some o) (hc:o.cls=.ref C) (hq:Q (.ref C) ⟨h,g,d,t,os⟩) :
  wpAny (model prog w) A (getAttrBy (.ref a) (.str "__class__" tk) false) Q E ⟨h,g,d,t,os⟩:=by
 have f3:=F.attr_ValueError.ga.bind (.ref a)
 have hx2:(Value.builtin "BaseException.__getattribute__" == Value.builtin "object.__getattribute__")=false:=by decide +kernel
 have hx1:(onTheHeap (Value.ref C) && Value.builtin "BaseException.__getattribute__" == Value.builtin "object.__getattribute__")=false:=by rw [hx2]; rfl
 have Lk:=looks_findIn (M:=model prog w) X x.ga
 have Lg:=looks_findIn (M:=model prog w) X x.gx
 repeat (any_goals (first | assumption | (with_reducible refine wpAny_loadPart_at hx ?_; rw [hc]) | with_reducible refine Lk.at ?_ | with_reducible refine Lg.at ?_ | wp_step))
 obtain ⟨bm,N,nm,q,bs,hdct,sn,sub,ab,col,dd,k0,k1,k2,k3,k5,mN,hC,hN,hni,T⟩:=x.obj X
 have hk:builtinKind "BaseException.__getattribute__" = some .slot:=by decide +kernel
 have hsplit:splitId "BaseException.__getattribute__" = some ("BaseException", "__getattribute__"):=by decide +kernel
 have hcB:(Value.ref C :: bm).contains (.type "BaseException")=true:=by rw [List.contains_cons,T.hasType (X := "BaseException") (b:=true) rfl]; rfl
 have chk:∀ {Q':Unit→Shared→Prop} {E':Value→Shared→Prop} {A':Around},Q' () ⟨h,g,d,t,os⟩→wpAny (model prog w) A' (checkBuiltinCall "BaseException.__getattribute__" ⟨[.ref a,.str "__class__" tk],[]⟩) Q' E' ⟨h,g,d,t,os⟩:=fun {Q' E' A'} hq'=>by
  have ha:=F.args_bexc_ga (.ref a) (.str "__class__" tk)
  simp only [checkBuiltinCall,hk,hsplit]
  refine wpAny_bind ?_
  unfold isInstance
  repeat (first | (with_reducible refine wpAny_loadPart_at hx ?_; rw [hc]) | (with_reducible refine wpAny_isSubtype_exc hC ?_; rw [hcB]) | wp_step)
  exact hq'
 refine codeAny_call_builtin F.attr_ValueError.ga.plain F.entry_bexc_ga (chk (qQ x X hx hc ?_))
 repeat (any_goals (first | assumption | wp_step))
theorem rO {Q:Option Value→Shared→Prop} (x:XcK K C) (X:K.In h) (hx:h.get? a=some o) (hc:o.cls=.ref C) (hq:Q (some (.ref C)) ⟨h,g,d,t+1,os⟩):wpAny (model prog w) A (getAttr? (.ref a) "__class__") Q E ⟨h,g,d,t,os⟩:=by
 unfold getAttr? getAttrBy?
 repeat (any_goals (first | assumption | with_reducible apply yo x X hx hc | wp_step))
end
end L2.Q
set_option Elab.async false
set_option linter.all false
set_option maxRecDepth 100000
set_option maxHeartbeats 4000000
namespace L2.Q
open PySem PySem.Spec PyProof.Rows PySem.W
noncomputable def XAt (a C:Addr) (h:Heap):Prop:=∃ o,h.get? a=some o∧o.cls=.ref C
theorem XcK.looks {K:PySem.W.Frag} {C:Addr} {h:Heap} {M:Model} (x:XcK K C) (X:K.In h):Looks M h (isType (.ref C)) true:=by
 obtain ⟨bm,N,nm,q,bs,hdct,sn,sub,ab,col,dd,k0,k1,k2,k3,k5,mN,hC,hN,hni,T⟩:=x.obj X
 intro A' Q' E' s' k q
 unfold isType loadHead
 exact wpAny_bind (wpAny_loadPart (k _ _ hC) (wpAny_pure q))
theorem pX {K:PySem.W.Frag} {a C:Addr} (x:XcK K C):KitX K (.ref a) (.ref C) (XAt a C) where
 ty:=fun M h X p=>by
  obtain ⟨o,h1,h2⟩:=p
  exact h2 ▸ (Looks.ld h1).andThen .now
 it:=fun M h X p=>x.looks X
 ne:=fun h tp dd its n sl X htp=>by
  obtain ⟨bm,N,nm,q,bs,hdct,sn,sub,ab,col,dd,k0,k1,k2,k3,k5,mN,hC,hN,hni,T⟩:=x.obj X
  refine Bool.eq_false_iff.mpr fun q=>?_
  have e:C=tp:=Value.ref.inj (beq_iff_eq.mp q)
  subst e
  have z:=congrArg (fun o=>o.map (·.data)) (hC.symm.trans htp)
  cases z
 ca:=fun {prog w A E Q s} X p k=>by
  obtain ⟨h,g,d,t,os⟩:=s
  obtain ⟨o,h1,h2⟩:=p
  exact rO x X h1 h2 k
theorem nJ {M:Model} {A:Around} {E:Value→Shared→Prop} {K:PySem.W.Frag} {a C R:Addr} {h:Heap} {g:Array GenState} {d:Drawn} {t:Nat} {os:OsState} {Q:Bool→Shared→Prop} (x:XcK K C) (r:XcK K R) (sub:mroIn K C (.ref R)=some true) (X:K.In h) (p:XAt a C h)
  (hq:Q true ⟨h,g,d,t,os⟩):wpAny M A (excMatches (.ref a) (.ref R)) Q E ⟨h,g,d,t,os⟩:=by
 obtain ⟨bm,N,nm,q,bs,hdct,sn,sub',ab,col,dd,k0,k1,k2,k3,k5,mN,hC,hN,hni,T⟩:=r.obj X
 obtain ⟨oe,he,hcls⟩:=p
 have hcB:(Value.ref R :: bm).contains (.type "BaseException")=true:=by rw [List.contains_cons,T.hasType (X := "BaseException") (b:=true) rfl]; rfl
 have f:=tc_notTuple
 have Lk:=looks_mroIn (M:=M) X sub
 unfold excMatches
 repeat (first | (with_reducible refine wpAny_loadPart_at he ?_; rw [hcls]) | with_reducible refine wpAny_loadPart_at hC ?_ | (with_reducible refine wpAny_isSubtype_exc hC ?_; rw [hcB]) | with_reducible refine Lk.at ?_ | wp_step)
 exact hq
theorem FunFrames.rebase {h base B:Heap}:∀ {l:List PySem.Env},h.FunFrames base l→(∀ b∈frs l,B.get? b=none)→h.FunFrames B l
 | [],_,_=>trivial
 | env :: rest,⟨hk,⟨L,o,hf,hn,ho,hd⟩,hr⟩,hB=>⟨hk,⟨L,o,hf,hB L (by unfold frs; rw [List.filterMap_cons,hf]; exact List.mem_cons_self),ho,hd⟩,
   FunFrames.rebase hr fun b hb=>hB b (by unfold frs; rw [List.filterMap_cons,hf]; exact List.mem_cons_of_mem _ hb)⟩
theorem ObjOk.there {P:Program} {w:World} {H:Hp} {h:Heap} {a:Addr} {o:HO} (x:ObjOk P w H h a o):∃ u,h.get? a=some u:=by
 cases o with
 | lst xs=>obtain ⟨_,_,_,_,e⟩:=x; exact ⟨_,e⟩
 | tup xs=>obtain ⟨_,_,_,_,e,_⟩:=x; exact ⟨_,e⟩
 | dK kvs=>obtain ⟨_,_,_,_,o,_,_,e,_⟩:=x; exact ⟨_,e⟩
 | dT kvs=>obtain ⟨_,_,_,_,o,_,_,e,_⟩:=x; exact ⟨_,e⟩
 | set S n=>obtain ⟨o,_,_,_,e,_⟩:=x; exact ⟨_,e⟩
 | ins C dx fs=>obtain ⟨_,_,_,e,_⟩:=x; exact ⟨_,e⟩
 | own y=>exact x
 | xd fs=>obtain ⟨_,⟨_,_,_,e,_⟩,_⟩:=x; exact ⟨_,e⟩
 | rng lo hi=>obtain ⟨_,_,_,e⟩:=x; exact ⟨_,e⟩
 | frz ob u=>obtain ⟨e,_⟩:=x; exact ⟨_,e⟩
 | tbl ps=>exact ⟨_,(show h.get? a=some _ from x)⟩
 | met f y=>exact ⟨_,(show h.get? a=some _ from x)⟩
 | ext φ=>obtain ⟨_,e,_⟩:=x; exact e
noncomputable def Cov (B:Heap) (fs:List Addr) (H':Hp) (h₀ h:Heap):Prop:=∀ b o,h.get? b=some o→(H' b≠none∨h₀.get? b≠none)→b∉fs→B.get? b=some o
noncomputable def CXx (P:Program) (w:World) (mg:Str→Option Value) (rn:List Str):CXT:=fun outer H s E e s' =>
 ∃ a n C a0 H' B,e=.ref a∧(n∈rn∧mg n=some (.ref C))∧s'.os=s.os∧AllBare s'.gens∧Un (frs outer) [] H H' s.heap s'.heap∧HOk P w H' s'.heap ∧
  Heap.FlyingW B outer a (.ref C) a0 s'.heap∧Cov B (frs outer) H' s.heap s'.heap∧(∀ b∈frs outer,H' b=none)∧E (.ref C) none H'
structure eE (fs:List Addr) (H':Hp) (h₀ h h':Heap):Prop where
 keep:∀ b o,h.get? b=some o→(H' b≠none∨h₀.get? b≠none)→b∉fs→h'.get? b=some o
 slot:∀ b o,h.get? b=some o→b∈fs→∃ sl,h'.get? b=some { o with slots:=sl }
theorem eE.of {B:Heap} {l:List PySem.Env} {base:Heap} {H':Hp} {h₀ h h':Heap} (c:Cov B (frs l) H' h₀ h) (st:B.StaysIn h') (up:h.UpToSlots h') (ff:h.FunFrames base l):eE (frs l) H' h₀ h h' :=
 ⟨fun b o e k n=>st b o (c b o e k n),fun b o e m=>by
  obtain ⟨_,o',e',d⟩:=ff.mem m
  rw [e] at e'; cases e'
  exact up b o e d⟩
theorem eE.un {fs:List Addr} {H H':Hp} {h₀ h h':Heap} (m:eE fs H' h₀ h h') (u:Un fs [] H H' h₀ h):Un fs [] H H' h₀ h' where
 keep:=fun b o e n nb nx=>m.keep b o (u.keep b o e n nb nx) (.inr (by rw [e]; exact fun z=>nomatch z)) nb
 slot:=fun b o e n hb nx=>by
  obtain ⟨_,e1⟩:=u.slot b o e n hb nx
  obtain ⟨sl,e2⟩:=m.slot b _ e1 hb
  exact ⟨sl,e2⟩
 free:=u.free
 there:=fun b o e nx=>by
  obtain ⟨o',e1⟩:=u.there b o e nx
  by_cases hb:b∈fs
  ·obtain ⟨sl,e2⟩:=m.slot b o' e1 hb
   exact ⟨_,e2⟩
  ·exact ⟨o',m.keep b o' e1 (.inr (by rw [e]; exact fun z=>nomatch z)) hb⟩
 tups:=u.tups
 frzs:=u.frzs
 tbls:=u.tbls
theorem eE.hok {P:Program} {w:World} {fs:List Addr} {H':Hp} {h₀ h h':Heap} (m:eE fs H' h₀ h h') (f:∀ b∈fs,H' b=none) (x:HOk P w H' h):HOk P w H' h':=fun a o e =>
 (x a o e).stay (fun b u hb q=>by
  have hH:H' b≠none:=by
   rcases hb with z | z
   ·rw [z,e]; exact fun z=>nomatch z
   ·rw [z]; exact fun z=>nomatch z
  exact m.keep b u q (.inl hH) fun z=>hH (f b z)) (fun _ q=>q) fun _ _ q=>q
end L2.Q
set_option Elab.async false
set_option linter.all false
set_option maxRecDepth 100000
set_option maxHeartbeats 4000000
namespace L2.Q
open PySem PySem.Spec PyProof.Rows PySem.W
section
variable {X:Cx} {pins:List (Addr × Obj)} {σ:St} {H H':Hp} {s s':Shared} {rn:List Str} {E E':XK} {e:Value}
theorem Cov.up {B h h':Heap} (hst:X.stack=X.env :: X.outer) (hf:X.env.frame=some X.env.locals) (hex:X.ex=[]) (I:Inv X pins σ H s) (un:Un (frs X.stack) [] H H' s.heap h) (c:Cov B (frs X.stack) H' s.heap h) (m:eE (frs X.stack) H' s.heap h h') (fr:∀ b∈frs X.stack,H' b=none) (hok:HOk X.prog X.w H' h) :
  Un X.fs [] X.H₀ H' X.s₀.heap h'∧Cov B X.fs H' X.s₀.heap h':=by
 have hs:∀ b,b∈frs X.stack↔b=X.env.locals∨b∈X.fs:=fun b=>by
  rw [hst]; unfold frs; rw [List.filterMap_cons,hf]; exact List.mem_cons
 have neL:∀ b o,X.s₀.heap.get? b=some o→b≠X.env.locals:=fun b o e=>Nat.ne_of_lt (Nat.lt_of_lt_of_le (Heap.lt_size e) I.ok.above)
 have nex:∀ b:Addr,b∉X.ex:=fun b z=>by rw [hex] at z; exact nomatch z
 have m':=m.un un
 have th:∀ b o,X.s₀.heap.get? b=some o→∃ o',s.heap.get? b=some o':=fun b o e=>I.base.there b o e (nex b)
 refine ⟨⟨fun b o e n nb nx=>?_,fun b o e n hb nx=>?_,fun b o e n nx=>?_,fun b o e nx=>?_,fun b xs e=>un.tups b xs (I.base.tups b xs e),fun b ob u e=>un.frzs b ob u (I.base.frzs b ob u e),fun b ps e=>?_⟩,fun b o e k nb=>?_⟩
 ·exact m'.keep b o (I.base.keep b o e n nb (nex b)) (I.base.free b o e n (nex b)) (fun z=>((hs b).mp z).elim (neL b o e) nb) (by simp)
 ·obtain ⟨_,e1⟩:=I.base.slot b o e n hb (nex b)
  obtain ⟨sl,e2⟩:=m'.slot b _ e1 (I.base.free b o e n (nex b)) ((hs b).mpr (.inr hb)) (by simp)
  exact ⟨sl,e2⟩
 ·obtain ⟨o',e1⟩:=th b o e
  exact un.free b o' e1 (I.base.free b o e n (nex b)) (by simp)
 ·obtain ⟨o',e1⟩:=th b o e
  exact m'.there b o' e1 (by simp)
 ·obtain ⟨m1,e1⟩:=I.base.tbls b ps e
  obtain ⟨m2,e2⟩:=un.tbls b _ e1
  exact ⟨m1++m2,by rw [e2,Array.append_assoc]⟩
 ·have key:∀ o',h.get? b=some o'→(H' b≠none∨s.heap.get? b≠none)→b∉frs X.stack→B.get? b=some o:=fun o' e' k' n'=>by
   have:=m.keep b o' e' k' n'
   rw [e] at this; cases this
   exact c b o e' k' n'
  rcases k with k | k
  ·have nf:b∉frs X.stack:=fun z=>k (fr b z)
   cases q:H' b with
   | none=>exact absurd q k
   | some u =>
    obtain ⟨o',e'⟩:=ObjOk.there (hok b u q)
    exact key o' e' (.inl k) nf
  ·cases q:X.s₀.heap.get? b with
   | none=>exact absurd q k
   | some o0 =>
    obtain ⟨o1,e1⟩:=th b o0 q
    obtain ⟨o2,e2⟩:=un.there b o1 e1 (by simp)
    exact key o2 e2 (.inr (by rw [e1]; exact fun z=>nomatch z)) fun z=>((hs b).mp z).elim (neL b o0 q) nb
end
section
variable {P:Program} {w:World} {K:PySem.W.Frag} {mg:Str→Option Value} {base:Heap} {N:List Str} {qual:Str} {scope:Scope} {f:Addr} {cd:Value} {A:Around} {outer:List PySem.Env} {s₀:Shared} {H₀:Hp} {E:XK} {rn:List Str}
theorem sW {env:PySem.Env} {L b:Addr} {l:List PySem.Env} (hf:env.frame=some L) (h:b∈frs l):b∈frs (env :: l):=by
 unfold frs; rw [List.filterMap_cons,hf]; exact List.mem_cons_of_mem _ h
theorem Dn:Passes (CXx P w mg rn) (cxOf (CXx P w mg rn) P w K mg base N qual scope f cd A outer s₀ H₀ E) E:=by
 intro pins σ H s e s' I hx
 obtain ⟨a,n,C,a0,H',B,he,hn,os,bare,un,hok,fly,cov,fr,hE⟩:=hx
 subst he
 refine wpAny_leaves_onW I.ok.frames rfl fly fun h' fly' up=>?_
 have mv:=eE.of cov fly'.1 up fly.2.2.1
 obtain ⟨u1,c1⟩:=Cov.up (X:=cxOf (CXx P w mg rn) P w K mg base N qual scope f cd A outer s₀ H₀ E) rfl rfl rfl I un cov mv fr hok
 exact ⟨a,n,C,a0,H',B,rfl,hn,os.trans I.os,bare,u1,mv.hok fr hok,fly',c1,fun b hb=>fr b (sW rfl hb),hE⟩
noncomputable def nO (X:Cx) (rn:List Str) (E:XK):Prop:=∀ (pins:List (Addr × Obj)) (σ:St) (H:Hp) (s:Shared) (h':Heap) (e:Addr) (n:Str) (C:Addr) (vs:List Value),Inv X pins σ H s→Heap.MadeExcOf s.heap h' e (.ref C) vs →
 n∈rn→X.mg n=some (.ref C)→E (.ref C) none H→X.xe (.ref e) { s with heap:=h' }
theorem zN:nO (cxOf (CXx P w mg rn) P w K mg base N qual scope f cd A outer s₀ H₀ E) rn E:=by
 intro pins σ H s h' e n C vs I hx hn hm hE
 have st:=I.stack
 have ff:s.heap.FunFrames (hideAll s.heap (frs (envOfC qual scope s₀.heap.objs.size f cd :: outer))) (envOfC qual scope s₀.heap.objs.size f cd :: outer):=FunFrames.rebase st fun b hb=>hideAll_none _ hb
 refine wpAny_leaves_madeW (h:=s.heap) I.ok.frames rfl (fun b o q=>of_hideAll _ q) ff hx fun h'' t fly tup hnt up=>?_
 have ff':h'.FunFrames (hideAll s.heap (frs (envOfC qual scope s₀.heap.objs.size f cd :: outer))) (envOfC qual scope s₀.heap.objs.size f cd :: outer):=ff.of_keeps fun b o q _=>⟨o,hx.keeps b o q,rfl⟩
 have hok:HOk P w H h':=I.hok.kept hx.keeps
 have fr:∀ b∈frs (envOfC qual scope s₀.heap.objs.size f cd :: outer),H b=none:=I.stkFree
 have cov:Cov (hideAll s.heap (frs (envOfC qual scope s₀.heap.objs.size f cd :: outer))) (frs (envOfC qual scope s₀.heap.objs.size f cd :: outer)) H s.heap h':=fun b o q k nb=>by
  have ho:∃ o1,s.heap.get? b=some o1:=by
   rcases k with k | k
   ·cases z:H b with
    | none=>exact absurd z k
    | some u=>exact ObjOk.there (I.hok b u z)
   ·exact Option.ne_none_iff_exists'.mp k
  obtain ⟨o1,e1⟩:=ho
  have e2:=hx.keeps b o1 e1
  rw [q] at e2; cases e2
  exact hideAll_get _ e1 nb
 have mv:eE (frs (envOfC qual scope s₀.heap.objs.size f cd :: outer)) H s.heap h' h'':=eE.of cov fly.1 up ff'
 obtain ⟨u1,c1⟩:=Cov.up (X:=cxOf (CXx P w mg rn) P w K mg base N qual scope f cd A outer s₀ H₀ E) rfl rfl rfl I (Un.kept hx.keeps) cov mv fr hok
 exact ⟨e,n,C,_,H,_,rfl,⟨hn,hm⟩,I.os,I.bare,u1,mv.hok fr hok,fly,c1,fun b hb=>fr b (sW rfl hb),hE⟩
theorem CG {X:Cx}:Passes (CXx P w mg rn) X E0:=by
 intro _ _ _ _ _ _ _ hx
 obtain ⟨_,_,_,_,_,_,_,_,_,_,_,_,_,_,_,h⟩:=hx
 exact h.elim
noncomputable def LX (rn:List Str) (mg:Str→Option Value) (E:XK):Str→Hp→Prop:=fun n H'=>n∈rn→∀ C,mg n=some (.ref C)→E (.ref C) none H'
noncomputable def dB (K:PySem.W.Frag) (rn:List Str) (mg:Str→Option Value) (sp:SpD):Sp:=fun vs H Qv E=>∃ ds Qd,Reps K H ds vs∧sp ds Qd ∧
 (∀ v H' Hs' m d As,Same H Hs'→Wf Hs' H'→RM K Hs' H' m d v As→As.Nodup→(∀ a∈As,Hs' a=none)→Qd m d→Qv v H') ∧
 ∀ n H',Same H H'→Qd (.ow false) (.str n)→LX rn mg E n H'
theorem qL {sp:SpD} {t:WS} {vs:List V} {H:Hp} {Qv:VK} (h:dB K rn mg sp vs H Qv E) (hp:∀ ds Q,sp ds Q→t { nx:=fun _=>Q .sh .non,rt:=Q } (bK N.length ds)) :
  tpS K (LX rn mg E) t { nx:=fun _ H'=>Qv .non H',rt:=Qv } (start N vs) H:=by
 obtain ⟨ds,Qd,rs,hs,fin,fx⟩:=h
 have hl:=rs.length
 refine ⟨H,bK N.length ds,[],{ nx:=fun _=>Qd .sh .non,rt:=Qd },⟨?_,⟨Same.refl _,fun _ _ e=>e⟩,List.nodup_nil,fun a h=>nomatch h⟩,hp ds Qd hs,?_,?_,?_,?_,fx⟩
 ·unfold bK start
  rw [hl]
  exact SR.start rs
 ·exact fun σ' H' Hs' ρ' tot' s sr q=>fin .non H' Hs' .sh .non [] s sr.wf ⟨rfl,.non⟩ List.nodup_nil (fun a h=>nomatch h) q
 ·exact fun σ' H' Hs' ρ' tot' s sr q=>q.elim
 ·exact fun σ' H' Hs' ρ' tot' s sr q=>q.elim
 ·exact fun v H' Hs' m d As s w r nd own q=>fin v H' Hs' m d As s w r nd own q
theorem FunX.ok {x:Str} {st:Stmt} {fd:FuncData} {ps:List Str} {k:Nat} {sp:SpD} {t:WS} (F:Fun K x qual st f fd) (S:FnScope N ps (defScope st)) (len:∀ ds Q,sp ds Q→ds.length=ps.length)
  (hbody:∀ (cdv:Value) (A:Around) (outer:List PySem.Env) (s:Shared) (H:Hp) (E:XK),Room k (A.deeper (envOfC qual (defScope st) s.heap.objs.size f cdv))→QSs (cxOf (CXx P w mg rn) P w K mg base N qual (defScope st) f cdv A outer s H E) K (LX rn mg E) (defBody st) t)
  (hp:∀ ds Q,sp ds Q→t { nx:=fun _=>Q .sh .non,rt:=Q } (bK N.length ds)):FnOk P w K mg base (CXx P w mg rn) (k+1) f fd ps (dB K rn mg sp):=by
 obtain ⟨oc,od,kV,doc,pm,an,cdv,ct,osl,rfl,lk,hcd⟩:=F.ex
 exact fn_of lk hcd S (fun vs H Q E ⟨ds,Qd,rs,hs,_⟩=>by rw [← rs.length]; exact len ds Qd hs) fun A outer s H vs Q E hr hsp=>⟨_,hbody cdv A outer s H E hr,qL hsp hp⟩
structure CalX (P:Program) (w:World) (K:PySem.W.Frag) (mg:Str→Option Value) (base:Heap) (rn:List Str) (k:Nat) (x:Str) (ps:List Str) (sp:SpD):Prop where
 ex:∃ (g:Addr) (fd:FuncData),mg x=some (.ref g)∧PySem.W.keepIn K (.ref g)=true∧Binds K fd ps []∧FnOk P w K mg base (CXx P w mg rn) k g fd ps (dB K rn mg sp)
theorem Fun.calX {k:Nat} {x qual:Str} {st:Stmt} {f:Addr} {fd:FuncData} {ps:List Str} {sp:SpD} (F:Fun K x qual st f fd) (hm:mg x=some (.ref f)) (ok:FnOk P w K mg base (CXx P w mg rn) k f fd ps (dB K rn mg sp))
  (h:∀ (kV doc pm:Value) (an:Option Addr) (cdv ct:Value) (us:List Value),us.length=ps.length→bindArgs (PySem.W.fnOf x qual (defArgs st) (defBody st) (defScope st) .none kV doc pm an cdv ct) ⟨us,[]⟩=pure (ps.zip us)):CalX P w K mg base rn k x ps sp:=⟨f,fd,hm,F.kp,F.binds h,ok⟩
end
end L2.Q
set_option Elab.async false
set_option linter.all false
set_option maxRecDepth 100000
set_option maxHeartbeats 4000000
namespace L2.Q
open PySem PySem.Spec PyProof.Rows PySem.W
noncomputable def XCl (K:PySem.W.Frag) (mg:Str→Option Value) (n:Str):Prop:=∃ C,mg n=some (.ref C)∧XcK K C
noncomputable def xch (m:Md) (d:D) (Y:Str→Prop) (N:Prop):Prop:=match m,d with
 | .ow false,.str n=>Y n
 | _,_=>N
theorem uC {K:PySem.W.Frag} {Hs H:Hp} {m:Md} {d:D} {v:V} {As:List Addr} {Y:Str→Prop} {N:Prop} (r:RM K Hs H m d v As) (h:xch m d Y N):N:=by
 unfold xch at h
 split at h
 ·obtain ⟨r,ne⟩:=r
  cases r
  exact absurd rfl ne
 ·exact h
section
variable {X:Cx} {K:PySem.W.Frag} {rn:List Str} {E:XK} {e:Expr} {es:List Expr} {te:WE} {t:WA} {pos:Pos} {L:Str→Hp→Prop}
noncomputable def t_ (n:Str) (te:WE):WS:=fun E ρ=>te ρ fun _ _=>E.rt (.ow false) (.str n)
theorem vm {x:Str} {C:Addr} {ta:TA} {np cpos:Pos} (hc:X.calm=true) (ok:nO X rn E) (hn:x∈rn) (hm:X.mg x=some (.ref C)) (xc:XcK X.K C) (ha:PA X [e] ta) (hg:Gl X x) (hdb:(x == ("__debug__" : Str))=false)
  (he:starEach [e] X.env=[(false,eval e X.env)]):PS X (.Raise (some (.Call (.Name x np) [e] [] cpos)) none pos) (fun D σ H=>ta σ H fun vs H1=>vs.length≤sizeLine∧E (.ref C) none H1):=by
 intro pins s σ H D I h
 obtain ⟨bm,N,nm,q,bs,hdct,sn,sub,ab,col,dd,k0,k1,k2,k3,k5,mN,hC,hN,hni,T⟩:=xc.obj I.mod.kin
 refine wpAny_Raise_call_subT (C:=C) (nm:=nm) (q:=q) (N:=N) (bs:=bs) (bm:=bm) (hdct:=hdct) (sn:=sn) (sub:=sub) (ab:=ab) (col:=col) (dd:=dd) (k0:=k0) (k1:=k1) (k2:=k2) (k3:=k3) (k5:=k5)
  F.excBase_ValueError (mN:=mN) (T.hasType F.excBase_ValueError.hasBase) (I.ok.hd hc) (by rw [he]; rfl) hni (ld_glob I hg hm ⟨rfl,?_⟩ hdb)
 have h2:=ha cpos pins s σ H _ I h
 rw [he] at h2 ⊢
 exact Calls.evalArgs_plain (thn h2 fun vs s1 ⟨xs,H1,I1,r,hl,q⟩=>⟨rfl,by rw [← r.length]; exact hl,I1.bk _ _ hC,hN.keeps I1.bk,T.keeps I1.bk,fun h' e' hx=>ok pins σ H1 s1 h' e' x C vs I1 hx hn hm q⟩)
theorem vH {x:Str} {np cpos:Pos} (hc:X.calm=true) (ok:nO X rn E) (xc:XCl K X.mg x) (hn:x∈rn) (he:QE X K e te) (hg:Gl X x:=by rfl) (hdb:(x == ("__debug__" : Str))=false:=by decide) (hK:X.K=K:=by rfl)
  (hs:starEach [e] X.env=[(false,eval e X.env)]:=by rfl):QS X K (LX rn X.mg E) (.Raise (some (.Call (.Name x np) [e] [] cpos)) none pos) (t_ x te):=by
 subst hK
 obtain ⟨C,hm,xc⟩:=xc
 refine PS.imp (vm hc ok hn hm xc (pa_cons he pa_nil hs) hg hdb hs) fun D σ H hx=>iR hx fun Hs ρ tot E' sr h k1 k2 k3 k4 kx=>?_
 exact ⟨Hs,ρ,tot,_,sr,h,fun v H1 Hs1 m d As g1 r1 f1 q1=>⟨(by decide:1≤sizeLine),kx x H1 (g1.sh.trans g1.wf.sub) q1 hn C hm⟩⟩
section
variable {k:Nat} {x:Str} {ps:List Str} {sp:SpD} {p cpos:Pos}
theorem tW (C:CalX X.prog X.w X.K X.mg X.base rn k x ps sp) (hr:Room k X.A) (hx:Passes (CXx X.prog X.w X.mg rn) X E) {ta:TA} (ha:PA X (e :: es) ta) (hg:Gl X x) (hdb:(x == ("__debug__" : Str))=false) (he:starEach (e :: es) X.env=(false,eval e X.env) :: starEach es X.env)
  (hpl:(backTo pos (starEach es X.env)).any (·.1)=false):PE X (.Call (.Name x p) (e :: es) [] pos) (tCall (dB X.K rn X.mg sp) [] E ta):=by
 obtain ⟨g,fd,hm,hk,hb,F⟩:=C.ex
 exact pe_call F hr hg hm hk hb .nil hx ha hdb he hpl
theorem jz {σ:St} {H:Hp} {Qv:VK} {Hs:Hp} {ρ:Env} {tot:List Addr} {Y:Str→Prop} {Q:Md→D→Prop} (sr:SRel K Hs ρ σ H tot) (h:t ρ fun ps=>sp (ps.map (·.2)) fun m d=>xch m d Y (onK (m,d) (f:=fun p=>Q (retM p.1 p.2) p.2) ⟨⟩))
  (f:∀ v H' Hs' m d As,Grow Hs H Hs' H'→RM K Hs' H' m d v As→bZ Hs' H As→Q m d→Qv v H') (fx:∀ n H',Same Hs H'→Y n→LX rn X.mg E n H'):tCall (dB K rn X.mg sp) [] E (tpA K t) σ H Qv:=by
 refine ⟨Hs,ρ,tot,_,sr,h,fun vs H1 Hs1 ps As g1 r1 f1 q1=>?_⟩
 refine ⟨_,_,by rw [List.append_nil]; exact r1.reps g1.wf,q1,fun v H' Hs' m d As s w r nd own q=>?_,fun n H' s q=>fx n H' (g1.sh.trans (g1.wf.sub.trans s)) q⟩
 obtain ⟨As',r',fr⟩:=oH g1.wf s w r nd own
 exact Fin.after f g1 v H' _ (retM m d) d As' (eN g1.wf s w) r' fr (uC r q)
noncomputable def jx (sp:SpD) (t:WA):WE:=fun ρ Q=>t ρ fun ps=>sp (ps.map (·.2)) fun m d=>xch m d (fun _=>False) (onK (m,d) (f:=fun p=>Q (retM p.1 p.2) p.2) ⟨⟩)
noncomputable def pJ (sp:SpD) (t:WA):WS:=fun E ρ=>t ρ fun ps=>sp (ps.map (·.2)) fun m d=>xch m d (fun n=>E.rt (.ow false) (.str n)) (onK (m,d) (f:=fun _=>E.nx ρ) ⟨⟩)
variable (C:CalX X.prog X.w X.K X.mg X.base rn k x ps sp) (hr:Room k X.A)
include C hr
theorem pH (ha:QA X K (e :: es) t) (hK:X.K=K:=by rfl) (hg:Gl X x:=by rfl) (hdb:(x == ("__debug__" : Str))=false:=by decide) (he:starEach (e :: es) X.env=(false,eval e X.env) :: starEach es X.env:=by rfl)
  (hpl:(backTo pos (starEach es X.env)).any (·.1)=false:=by rfl):QE X K (.Call (.Name x p) (e :: es) [] pos) (jx sp t):=by
 subst hK
 exact PE.imp (tW C hr CG ha hg hdb he hpl) fun σ H Qv h=>ex4 h fun Hs ρ tot Q sr h f=>jz sr h f fun n H' _ z=>z.elim
variable (hx:Passes (CXx X.prog X.w X.mg rn) X E)
include hx
theorem pQ (ha:QA X K (e :: es) t) (hs:swapsWith (.Call (.Name x p) (e :: es) [] cpos) none pos.line X.env=pure false:=by rfl) (hK:X.K=K:=by rfl) (hg:Gl X x:=by rfl) (hdb:(x == ("__debug__" : Str))=false:=by decide) (he:starEach (e :: es) X.env=(false,eval e X.env) :: starEach es X.env:=by rfl)
  (hpl:(backTo cpos (starEach es X.env)).any (·.1)=false:=by rfl):QS X K (LX rn X.mg E) (.Expr (.Call (.Name x p) (e :: es) [] cpos) pos) (pJ sp t):=by
 subst hK
 exact PS.imp (ps_expr (tW C hr hx ha hg hdb he hpl) hs) fun D σ H hx=>iR hx fun Hs ρ tot E' sr h k1 k2 k3 k4 kx=>jz (Q:=fun _ _=>E'.nx ρ) sr h (fun v H1 Hs1 m d As g1 r1 f1 q1=>k1 σ H1 Hs1 ρ tot g1.sh (sr.grow g1) q1) kx
end
noncomputable def wIsx (j:Nat) (a:Addr) (b:Bool):WE:=fun ρ Q=>ρ[j]? = some (some (.xc a))∧Q .sh (.bl b)
theorem zP {j:Nat} {a C:Addr} {oe:Obj} {c:Value} {vc:V} {b:Bool} {e2:Expr} {p:Pos} (hm:X.mg "isinstance" = none) (hp:(a,oe)∈X.pn) (hcl:oe.cls=.ref C) (xc:XcK X.K C) (hk:kitOne X.K (.ref C) c=some b) (he:PE X e (tVar j)) (ht:PE X e2 (tC vc)) (hvc:∀ u,RelV vc u→u=c)
  (hg:Gl X "isinstance" := by rfl) (hs:starEach (e :: [e2]) X.env=(false,eval e X.env) :: starEach [e2] X.env:=by rfl) (hs2:starEach (e2 :: []) X.env=(false,eval e2 X.env) :: starEach [] X.env:=by rfl) (hpl:(backTo pos (starEach [e2] X.env)).any (·.1)=false:=by rfl) :
  QE X K (.Call (.Name "isinstance" p) [e,e2] [] pos) (wIsx j a b):=by
 have hc:CallR X (.builtin "isinstance") (fun xs H Q=>xs=[.ref a,vc]∧Q (.bl b) H):=by
  intro pins s σ H xs us Q I r h
  obtain ⟨rfl,q⟩:=h
  obtain ⟨u,v,rfl,ru,rv⟩:=Vals.two r
  obtain rfl:u=Value.ref a:=ru
  obtain rfl:=hvc v rv
  obtain ⟨ho,_⟩:=I.pin (a,oe) (List.mem_append_left _ hp)
  exact kia_one (pX xc) I.kIn ⟨oe,ho,hcl⟩ hk (fun z=>nomatch z) fun tk=>⟨.bl b,H,I.tok tk,rfl,q⟩
 refine PE.imp (pe_callB hc hg hm cY (pa_cons he (pa_cons ht pa_nil hs2) hs) (by decide) (by decide) hs hpl) fun σ H Qv hx=>ex4 hx fun Hs ρ tot Q sr h f=>?_
 obtain ⟨ea,q⟩:=h
 obtain ⟨v,e1,r⟩:=sr.sr.get ea
 have r:v=V.ref a:=r
 subst r
 exact ⟨_,e1,rfl,Fin.sh f sr.wf (.bl _) q⟩
end
end L2.Q
set_option Elab.async false
set_option linter.all false
set_option maxRecDepth 100000
set_option maxHeartbeats 4000000
namespace L2.Q
open PySem PySem.Spec PyProof.Rows PySem.W
noncomputable abbrev fY (X:Cx) (pn:List (Addr × Obj)) (xe:Value→Shared→Prop):Cx:={ X with pn:=pn,xe:=xe }
noncomputable abbrev inHand (X:Cx) (pn:List (Addr × Obj)) (a:Addr):Cx:={ X with A:=X.A.mark (some (.ref a)),calm:=false,pn:=pn,xe:=fun _ _=>False }
noncomputable abbrev yX (X:Cx) (H:Hp) (s:Shared) (p:Addr × Obj):Prop:=s.heap.get? p.1=some p.2∧H p.1=none∧p.1≠X.env.locals∧p.1∉X.fs∧∀ v,p.2.data≠.cell v
section
variable {X:Cx} {pins pins' pn:List (Addr × Obj)} {σ:St} {H:Hp} {s:Shared} {xe:Value→Shared→Prop} {a:Addr}
theorem Inv.fY (I:Inv X pins σ H s) (h:∀ p∈pn++pins',yX X H s p):Inv (fY X pn xe) pins' σ H s :=
 ⟨⟨I.ok.mod,I.ok.kind,I.ok.glob,I.ok.blt,I.ok.above,I.ok.inj,I.ok.has,I.ok.cab,I.ok.hd,I.ok.frames,I.ok.stk,I.ok.exf,I.ok.bs,I.ok.bsz,I.ok.noex,I.ok.exfs,I.ok.funs,I.ok.frf⟩,I.os,I.bare,I.base,I.loc,I.cell,I.free,I.freeC,h,I.hok,I.len⟩
theorem Inv.jD (I:Inv (L2.Q.fY X pn xe) pins' σ H s) (h:∀ p∈X.pn++pins,p∈pn++pins'):Inv X pins σ H s :=
 ⟨⟨I.ok.mod,I.ok.kind,I.ok.glob,I.ok.blt,I.ok.above,I.ok.inj,I.ok.has,I.ok.cab,I.ok.hd,I.ok.frames,I.ok.stk,I.ok.exf,I.ok.bs,I.ok.bsz,I.ok.noex,I.ok.exfs,I.ok.funs,I.ok.frf⟩,I.os,I.bare,I.base,I.loc,I.cell,I.free,I.freeC,fun p hp=>I.pin p (h p hp),I.hok,I.len⟩
theorem Inv.inHand {pn2 pins2:List (Addr × Obj)} (I:Inv (L2.Q.fY X pn xe) pins' σ H s) (h:∀ p∈pn2++pins2,yX X H s p):Inv (L2.Q.inHand X pn2 a) pins2 σ H s :=
 ⟨⟨I.ok.mod,I.ok.kind,I.ok.glob,I.ok.blt,I.ok.above,I.ok.inj,I.ok.has,I.ok.cab,(fun z=>nomatch z),I.ok.frames,I.ok.stk,I.ok.exf,I.ok.bs,I.ok.bsz,I.ok.noex,I.ok.exfs,I.ok.funs,I.ok.frf⟩,I.os,I.bare,I.base,I.loc,I.cell,I.free,I.freeC,h,I.hok,I.len⟩
theorem Inv.Cw {xe2:Value→Shared→Prop} (I:Inv (L2.Q.fY X pn xe) pins σ H s):Inv (L2.Q.fY X pn xe2) pins σ H s :=
 ⟨⟨I.ok.mod,I.ok.kind,I.ok.glob,I.ok.blt,I.ok.above,I.ok.inj,I.ok.has,I.ok.cab,I.ok.hd,I.ok.frames,I.ok.stk,I.ok.exf,I.ok.bs,I.ok.bsz,I.ok.noex,I.ok.exfs,I.ok.funs,I.ok.frf⟩,I.os,I.bare,I.base,I.loc,I.cell,I.free,I.freeC,I.pin,I.hok,I.len⟩
theorem Inv.su (I:Inv (L2.Q.inHand X pn a) pins' σ H s) (hd:X.calm=true→X.A.handled=none) (h:∀ p∈X.pn++pins,p∈pn++pins'):Inv X pins σ H s :=
 ⟨⟨I.ok.mod,I.ok.kind,I.ok.glob,I.ok.blt,I.ok.above,I.ok.inj,I.ok.has,I.ok.cab,hd,I.ok.frames,I.ok.stk,I.ok.exf,I.ok.bs,I.ok.bsz,I.ok.noex,I.ok.exfs,I.ok.funs,I.ok.frf⟩,I.os,I.bare,I.base,I.loc,I.cell,I.free,I.freeC,fun p hp=>I.pin p (h p hp),I.hok,I.len⟩
theorem SP.jD {D:Ends} {f:Flow} (h:SP (L2.Q.fY X pn xe) pins' D f s) (hp:∀ p∈X.pn++pins,p∈pn++pins'):SP X pins D f s:=by
 cases f with
 | next=>obtain ⟨σ',H',I,q⟩:=h; exact ⟨σ',H',Inv.jD I hp,q⟩
 | brk=>obtain ⟨σ',H',I,q⟩:=h; exact ⟨σ',H',Inv.jD I hp,q⟩
 | cont=>obtain ⟨σ',H',I,q⟩:=h; exact ⟨σ',H',Inv.jD I hp,q⟩
 | ret u=>obtain ⟨v,σ',H',I,r,q⟩:=h; exact ⟨v,σ',H',Inv.jD I hp,r,q⟩
theorem Inv.forget {h':Heap} {m:Str→Option Value} {t:Nat} (I:Inv X pins σ H s) (hn:h'.Ns X.env.locals m) (hs:Heap.SameBut X.env.locals s.heap h'):Inv X pins (List.replicate X.N.length none) H { s with heap:=h',toks:=t }:=by
 have ne:∀ b o,X.s₀.heap.get? b=some o→b≠X.env.locals:=fun b o e=>Nat.ne_of_lt (Nat.lt_of_lt_of_le (Heap.lt_size e) I.ok.above)
 refine ⟨I.ok,I.os,I.bare,⟨fun b o e n hb hx=>(hs.2 b (ne b o e)).trans (I.base.keep b o e n hb hx),fun b o e n hb hx=>?_,I.base.free,fun b o e hx=>?_,I.base.tups,I.base.frzs,I.base.tbls⟩,⟨m,hn,fun i x v e1 e2=>?_⟩,fun x c e=>?_,I.free,I.freeC,fun p hp=>?_,fun b o e=>?_,List.length_replicate⟩
 ·obtain ⟨sl,e1⟩:=I.base.slot b o e n hb hx
  exact ⟨sl,(hs.2 b (ne b o e)).trans e1⟩
 ·obtain ⟨o',e1⟩:=I.base.there b o e hx
  exact ⟨o',(hs.2 b (ne b o e)).trans e1⟩
 ·rw [List.getElem?_replicate] at e2
  split at e2 <;> cases e2
 ·obtain ⟨v,z⟩:=I.cell x c e
  exact ⟨v,z.sameBut hs (I.cne x c e)⟩
 ·obtain ⟨e,n,nl,nf,d⟩:=I.pin p hp
  exact ⟨(hs.2 p.1 nl).trans e,n,nl,nf,d⟩
 ·refine (I.hok b o e).stay (fun c u hc q=>(hs.2 c ?_).trans q) (fun _ q=>q) fun _ _ q=>q
  intro z
  rcases hc with w | w
  ·rw [← w,z,I.free] at e; cases e
  ·rw [z,I.free] at w; cases w
end
theorem SR.nones {K:PySem.W.Frag} {Hs H:Hp}:∀ σ:St,SR K Hs H (List.replicate σ.length none) σ []
 | []=>.nil
 | _ :: σ=>.non (SR.nones σ)
theorem SR.exc {K:PySem.W.Frag} {Hs H:Hp} {a:Addr}:∀ (σ:St) (j:Nat),SR K Hs H ((List.replicate σ.length none).set j (some (.xc a))) (σ.set j (some (.ref a))) []
 | [],_=>.nil
 | _ :: σ,0=>.xc (SR.nones σ)
 | _ :: σ,j+1=>.non (SR.exc σ j)
theorem Cov.next {P:Program} {w:World} {B:Heap} {fs:List Addr} {H':Hp} {h₀ h h':Heap} (c:Cov B fs H' h₀ h) (m:eE fs H' h₀ h h') (hok:HOk P w H' h) (th:∀ b o,h₀.get? b=some o→∃ o',h.get? b=some o'):Cov B fs H' h₀ h':=fun b o e k nb=>by
 have ho:∃ o',h.get? b=some o':=by
  rcases k with k | k
  ·cases z:H' b with
   | none=>exact absurd z k
   | some u=>exact ObjOk.there (hok b u z)
  ·obtain ⟨o0,e0⟩:=Option.ne_none_iff_exists'.mp k
   exact th b o0 e0
 obtain ⟨o',e'⟩:=ho
 have e2:=m.keep b o' e' k nb
 rw [e] at e2; cases e2
 exact c b o e' k nb
structure zU (K:PySem.W.Frag) (mg:Str→Option Value) (rn:List Str) (R:Str):Prop where
 ex:∃ r,mg R=some (.ref r)∧XcK K r∧∀ n C,n∈rn→mg n=some (.ref C)→XcK K C∧mroIn K C (.ref r)=some true
end L2.Q
set_option Elab.async false
set_option linter.all false
set_option maxRecDepth 100000
set_option maxHeartbeats 4000000
namespace L2.Q
open PySem PySem.Spec PyProof.Rows
theorem jO:bootBuiltins "ValueError" = some (.type "ValueError"):=by decide +kernel
end L2.Q
namespace L2.Q.R
open PySem PySem.Spec PyProof.Rows L2.Q
section
variable {E:jb} {ρ:Env} {Q:Md→L2.Q.D→Prop} {te:WE} {tar:WA} {i j:Nat} {a:Addr} {b:Bool} {sp:SpD} {n:Str} {d:L2.Q.D} {Y:Str→Prop} {N:Prop} {t:WS} {ρh:Addr→Env} {hd:Addr→Str→WS}
theorem CW:t_ n te E ρ=te ρ fun _ _=>E.rt (.ow false) (.str n):=rfl
theorem Dz:jx sp tar ρ Q=tar ρ fun ps=>sp (ps.map (·.2)) fun m d=>xch m d (fun _=>False) (onK (m,d) (f:=fun p=>Q (retM p.1 p.2) p.2) ⟨⟩):=rfl
theorem CZ:pJ sp tar E ρ=tar ρ fun ps=>sp (ps.map (·.2)) fun m d=>xch m d (fun n=>E.rt (.ow false) (.str n)) (onK (m,d) (f:=fun _=>E.nx ρ) ⟨⟩):=rfl
theorem Hn:wIsx j a b ρ Q=(ρ[j]? = some (some (.xc a))∧Q .sh (.bl b)):=rfl
theorem GD:xch (.ow false) (.str n) Y N=Y n:=rfl
theorem Fo:xch .sh d Y N=N:=rfl
theorem FZ:xch .bo d Y N=N:=rfl
theorem Gd:xch (.ow true) d Y N=N:=rfl
theorem Gw {xs:List L2.Q.D}:xch (.ow b) (.list xs) Y N=N:=by cases b <;> rfl
theorem Hf {xs:List L2.Q.D}:xch (.ow b) (.tup xs) Y N=N:=by cases b <;> rfl
theorem Ho {xs:List (Key × L2.Q.D)}:xch (.ow b) (.dK xs) Y N=N:=by cases b <;> rfl
theorem G3 {xs:List (List Key × L2.Q.D)}:xch (.ow b) (.dT xs) Y N=N:=by cases b <;> rfl
end
end L2.Q.R
set_option Elab.async false
set_option linter.all false
set_option maxRecDepth 100000
set_option maxHeartbeats 4000000
namespace L2.Q
open PySem PySem.Spec PyProof.Rows PySem.W
theorem qp {K:Frag} {t:Value}:kitAny K t []=some false:=rfl
theorem bR {K:Frag} {t c:Value} {r:List Value} {a b:Bool} (h:kitOne K t c=some a) (g:kitAny K t r=some b):kitAny K t (c :: r)=some (a || b):=by
 unfold kitAny
 rw [h]
 cases a
 ·exact g
 ·rfl
section
variable {X:Cx} {K:PySem.W.Frag} {e:Expr} {es:List Expr} {pos:Pos}
noncomputable def tCs (vs:List V):TA:=fun _ H Q=>Q vs H
theorem xG:PA X [] (tCs []):=pa_nil
theorem dW {e:Expr} {v:V} {vs:List V} (h:PE X e (tC v)) (r:PA X es (tCs vs)) (hs:starEach (e :: es) X.env=(false,eval e X.env) :: starEach es X.env:=by rfl):PA X (e :: es) (tCs (v :: vs)):=pa_cons h r hs
theorem yg {cs:List Addr} {us:List Value} (h:Vals (cs.map V.ref) us):us=cs.map Value.ref:=by
 induction cs generalizing us with
 | nil=>exact Paired.n0 h
 | cons c cs ih =>
  obtain ⟨u,us,rfl,r,t⟩:=Paired.c h
  rw [show u=Value.ref c from r,ih t]; rfl
theorem zQ {j:Nat} {a C:Addr} {oe:Obj} {cs:List Addr} {b:Bool} {x1} {p p2:Pos} (hm:X.mg "isinstance" = none) (hp:(a,oe)∈X.pn) (hcl:oe.cls=.ref C) (xc:XcK X.K C) (hk:kitAny X.K (.ref C) (cs.map Value.ref)=some b) (hz:cs.length≤100) (he:PE X e (tVar j)) (ht:PA X es (tCs (cs.map V.ref)))
  (hg:Gl X "isinstance" := by rfl) (hs:starEach (e :: [.Tuple es x1 p2]) X.env=(false,eval e X.env) :: starEach [.Tuple es x1 p2] X.env:=by rfl) (hs2:starEach (.Tuple es x1 p2 :: []) X.env=(false,eval (.Tuple es x1 p2) X.env) :: starEach [] X.env:=by rfl) (hpl:(backTo pos (starEach [.Tuple es x1 p2] X.env)).any (·.1)=false:=by rfl) :
  QE X K (.Call (.Name "isinstance" p) [e,.Tuple es x1 p2] [] pos) (wIsx j a b):=by
 have hc:CallR X (.builtin "isinstance") (fun xs H Q=>∃ t,xs=[.ref a,.ref t]∧H t=some (.tup (cs.map V.ref))∧Q (.bl b) H):=by
  intro pins s σ H xs us Q I r h
  obtain ⟨t,rfl,et,q⟩:=h
  obtain ⟨u,v,rfl,ru,rv⟩:=Vals.two r
  obtain rfl:u=Value.ref a:=ru
  obtain rfl:v=Value.ref t:=rv
  obtain ⟨ho,_⟩:=I.pin (a,oe) (List.mem_append_left _ hp)
  obtain ⟨its,ri,o,e1,e2,n,e3⟩:=I.tup et
  obtain ⟨c',d',dt,sl⟩:=o
  cases e2
  cases e3
  rw [yg ri] at e1
  exact kia_tup (pX xc) I.kIn ⟨oe,ho,hcl⟩ e1 hk (fun z=>nomatch z) fun tk=>⟨.bl b,H,I.tok tk,rfl,q⟩
 refine PE.imp (pe_callB hc hg hm cY (pa_cons he (pa_cons (pe_tup ht) pa_nil hs2) hs) (by decide) (by decide) hs hpl) fun σ H Qv hx=>ex4 hx fun Hs ρ tot Q sr h f=>?_
 obtain ⟨ea,q⟩:=h
 obtain ⟨v,e1,r⟩:=sr.sr.get ea
 have r:v=V.ref a:=r
 subst r
 refine ⟨_,e1,by rw [List.length_map]; exact Nat.le_trans hz (by decide),fun t hT=>⟨t,rfl,upd_same,?_⟩⟩
 have g:=newT (vs:=cs.map V.ref) sr.wf hT
 exact Fin.sh (Fin.after f g) g.wf (.bl _) q
end
theorem SR.za {K:PySem.W.Frag} {Hs H:Hp} {ρ:Env} {σ:St} {tot:List Addr} {j:Nat} {o:Option V} (s:SR K Hs H (ρ.set j none) σ tot):SR K Hs H (ρ.set j none) (σ.set j o) tot:=by
 generalize e:ρ.set j none=ρ' at s
 induction s generalizing ρ j with
 | nil=>exact .nil
 | non s ih =>
  cases ρ with
  | nil=>cases e
  | cons x ρ =>
   cases j with
   | zero=>exact .non s
   | succ j=>exact .non (ih (List.cons.inj e).2)
 | sh r s ih =>
  cases ρ with
  | nil=>cases e
  | cons x ρ =>
   cases j with
   | zero=>cases e
   | succ j=>exact .sh r (ih (List.cons.inj e).2)
 | xc s ih =>
  cases ρ with
  | nil=>cases e
  | cons x ρ =>
   cases j with
   | zero=>cases e
   | succ j=>exact .xc (ih (List.cons.inj e).2)
 | ow ne r s ih =>
  cases ρ with
  | nil=>cases e
  | cons x ρ =>
   cases j with
   | zero=>cases e
   | succ j=>exact .ow ne r (ih (List.cons.inj e).2)
 | lk ne r s ih =>
  cases ρ with
  | nil=>cases e
  | cons x ρ =>
   cases j with
   | zero=>cases e
   | succ j=>exact .lk ne r (ih (List.cons.inj e).2)
theorem wW {α:Type} {l:List α} (h:l.Nodup) {i j:Nat} {x:α} (a:l[i]? = some x) (b:l[j]? = some x):i=j:=by
 obtain ⟨hi,ei⟩:=List.getElem?_eq_some_iff.mp a
 obtain ⟨hj,ej⟩:=List.getElem?_eq_some_iff.mp b
 rcases Nat.lt_trichotomy i j with q | q | q
 ·exact absurd (ei.trans ej.symm) (List.pairwise_iff_getElem.mp h i j hi hj q)
 ·exact q
 ·exact absurd (ej.trans ei.symm) (List.pairwise_iff_getElem.mp h j i hj hi q)
section
variable {X:Cx} {pins:List (Addr × Obj)} {σ:St} {H:Hp} {s:Shared}
theorem Inv.drop {h':Heap} {m:Str→Option Value} {t j:Nat} {en:Str} {v:Option Value} (I:Inv X pins σ H s) (hN:X.N.Nodup) (hj:X.N[j]? = some en) (lk:∀ (i:Nat) (x:Str) (v:V),X.N[i]? = some x→σ[i]? = some (some v)→Vis X.env.scope x→∃ u,RelV v u∧Look X.env s.heap m x u)
  (hn:h'.Ns X.env.locals fun x=>if x=en then v else m x) (hs:Heap.SameBut X.env.locals s.heap h'):Inv X pins (σ.set j none) H { s with heap:=h',toks:=t }:=by
 have F:=Inv.forget (t:=t) I hn hs
 refine ⟨F.ok,F.os,F.bare,F.base,⟨_,hn,fun i x v' e1 e2 vs=>?_⟩,F.cell,F.free,F.freeC,F.pin,F.hok,by rw [List.length_set]; exact I.len⟩
 have hij:j≠i:=fun z=>by
  subst z
  rw [List.getElem?_set] at e2
  split at e2
  ·split at e2 <;> cases e2
  ·rename_i z; exact z rfl
 rw [List.getElem?_set_ne hij] at e2
 obtain ⟨u,r,l⟩:=lk i x v' e1 e2 vs
 refine ⟨u,r,?_⟩
 rcases l with ⟨a,b⟩ | ⟨a,c,b,d⟩
 ·refine .inl ⟨a,?_⟩
  show (if x=en then v else m x)=some u
  rw [if_neg fun z=>hij ?_]
  ·exact b
  ·subst z
   exact wW hN hj e1
 ·exact .inr ⟨a,c,b,d.sameBut hs (I.cne x c b)⟩
end
noncomputable def xJ (j:Nat) (body:WS) (ρh:Addr→Env) (hd:Addr→Str→WS):WS:=fun E ρ =>
 body { E with rt:=fun m d=>xch m d (fun n=>∀ a,hd a n { nx:=fun ρ'=>E.nx (ρ'.set j none),rt:=E.rt } (ρh a)) (E.rt m d) } ρ
theorem yc {X:Cx} {K:PySem.W.Frag} {L:Str→Hp→Prop} {rn:List Str} {R:Str} {body suite:List Stmt} {b₀:Stmt} {np hpos pos:Pos} {j:Nat} {en:Str} {wb:WS} {ρh:Addr→Env} {hd:Addr→Str→WS}
  (xr:zU X.K X.mg rn R) (hN:X.N.Nodup) (hj:X.N[j]? = some en) (hl:X.env.scope.names.lookup en=some .local) (hst:X.stack=X.env :: X.outer) (hf:X.env.frame=some X.env.locals)
  (hρ:∀ a,ρh a=(List.replicate X.N.length none).set j (some (.xc a)))
  (hb:∀ pn xe E1,Passes (CXx X.prog X.w X.mg rn) (fY X pn xe) E1→QSs (fY X pn xe) K (LX rn X.mg E1) body wb)
  (hh:∀ pn a oe n C,n∈rn→X.mg n=some (.ref C)→XcK X.K C→(a,oe)∈pn→oe.cls=.ref C→QSs (inHand X pn a) K L (b₀ :: suite) (hd a n)) (hg:Gl X R:=by rfl) (hdb:(R == ("__debug__" : Str))=false:=by decide) :
  QS X K L (.Try body [.ExceptHandler (some (.Name R np)) (some en) (b₀ :: suite) hpos] [] [] pos) (xJ j wb ρh hd):=by
 intro pins s σ H D I hx
 obtain ⟨Hs,ρ,tot,E,sr,h,k1,k2,k3,k4,kx⟩:=hx
 obtain ⟨r,hm,xr,sub⟩:=xr.ex
 have sp0:∀ p∈X.pn++pins,p∈(X.pn++pins)++[]:=fun p hp=>by rw [List.append_nil]; exact hp
 have hbody:=hb (X.pn++pins) (fun e s'=>∃ pins' σ' H1 s1,Inv (fY X (X.pn++pins) X.xe) pins' σ' H1 s1∧CXx X.prog X.w X.mg rn X.stack H1 s1 (fun c _ H'=>∃ n C,c=.ref C∧n∈rn∧X.mg n=some (.ref C)∧Same Hs H'∧∀ a,hd a n { nx:=fun ρ'=>E.nx (ρ'.set j none),rt:=E.rt } (ρh a)) e s') _
  (fun pins' σ' H1 s1 e s' I1 c=>⟨pins',σ',H1,s1,Inv.Cw I1,c⟩)
  [] s σ H D (Inv.fY I fun p hp=>I.pin p (by rw [List.append_nil] at hp; exact hp)) ⟨Hs,ρ,tot,_,sr,h,k1,k2,k3,fun v H' Hs' m d As s2 w2 r2 nd own q=>k4 v H' Hs' m d As s2 w2 r2 nd own (uC r2 q),fun n H' s2 q hn C hC=>⟨n,C,rfl,hn,hC,s2,q⟩⟩
 refine wpAny_Try_except (wpAny_mono hbody (fun f s1 hs=>?_) fun e s' hx=>?_)
 ·have hs:=SP.jD hs sp0
  cases f with
  | next =>
   obtain ⟨σ',H',I',q⟩:=hs
   exact pss_nil pins s1 σ' H' D I' q
  | brk=>exact hs
  | cont=>exact hs
  | ret u=>exact hs
 ·obtain ⟨pins',σ',H1,s1,I1,a,n',C,a0,H',B,rfl,hn',os,bare,un,hok,fly,cov,fr,n,C2,eC,hn,hm2,sm,hq⟩:=hx
  cases eC
  obtain ⟨xc,hsub⟩:=sub n C hn hm2
  obtain ⟨hh',g',d',t',os'⟩:=s'
  obtain rfl:os'=s1.os:=os
  have fly1:Heap.FlyingW B (X.env :: X.outer) a (.ref C) a0 hh':=hst ▸ fly
  have th:∀ b o,s1.heap.get? b=some o→∃ o',hh'.get? b=some o':=fun b o e=>un.there b o e (by simp)
  refine wpAny_looks_onW (hst ▸ I.ok.frames) hf fly1 fun h4 held up4=>wpAny_landsW held fun h5 fly5 up5=>?_
  have mv5:eE (frs X.stack) H' s1.heap hh' h5:=eE.of cov fly5.1 (up4.trans up5) fly.2.2.1
  have cov5:=cov.next mv5 hok th
  have un5:=mv5.un un
  have hok5:=mv5.hok fr hok
  have I5:Inv (fY X (X.pn++pins) X.xe) pins' σ' H' ⟨h5,g',d',t',s1.os⟩:=I1.call (h':=h5) (g':=g') (d':=d') (t':=t') (ch:=[]) un5 hok5 bare (fun b z=>absurd z (by simp))
  refine wpAny_handleBy_cons (codeAny_handlers_test ?_) (by intro q; cases q)
  refine ld_glob (X:=inHand X (X.pn++pins) a) (pins:=pins') (Inv.inHand I5 fun p hp=>I5.pin p hp) hg hm ?_ hdb
  refine nJ xc xr hsub I5.kIn fly5.there (codeAny_handlers_suite_as ?_)
  refine lands_againW fly5 fun h6 fly6 up6=>?_
  have ff5:h5.FunFrames B X.stack:=hst ▸ fly5.2.2.1
  have mv6:eE (frs X.stack) H' s1.heap h5 h6:=eE.of cov5 fly6.1 up6 ff5
  have un6:=mv6.un un5
  have hok6:=mv6.hok fr hok5
  have I6:Inv (fY X (X.pn++pins) X.xe) pins' σ' H' ⟨h6,g',d',t',s1.os⟩:=I1.call (h':=h6) (g':=g') (d':=d') (t':=t') (ch:=[]) un6 hok6 bare (fun b z=>absurd z (by simp))
  obtain ⟨oe,vs,he,hcl,hdt,_⟩:=fly6.first
  have nf:a∉frs X.stack:=fun z=>by
   have ff6:h6.FunFrames B X.stack:=hst ▸ fly6.2.2.1
   obtain ⟨_,o,e1,d1⟩:=ff6.mem z
   rw [he] at e1; cases e1
   exact d1 vs hdt
  have na:H' a=none:=by
   cases z:H' a with
   | none=>rfl
   | some u =>
    have:=(cov5.next mv6 hok5 fun b o e=>un5.there b o e (by simp)) a oe he (.inl (by rw [z]; exact fun z=>nomatch z)) nf
    rw [fly6.2.1] at this; cases this
  have frm:∀ b,b∈frs X.stack↔b=X.env.locals∨b∈X.fs:=fun b=>by
   rw [hst]; unfold frs; rw [List.filterMap_cons,hf]; exact List.mem_cons
  have pa:yX X H' ⟨h6,g',d',t',s1.os⟩ (a,oe):=⟨he,na,fun z=>nf ((frm a).mpr (.inl z)),fun z=>nf ((frm a).mpr (.inr z)),fun v z=>by rw [hdt] at z; cases z⟩
  have I6h:Inv (inHand X ((a,oe) :: (X.pn++pins)) a) [] σ' H' ⟨h6,g',d',t',s1.os⟩:=Inv.inHand I6 fun p hp=>by
   rw [List.append_nil] at hp
   rcases List.mem_cons.mp hp with z | z
   ·rw [z]; exact pa
   ·exact I6.pin p (List.mem_append_left _ z)
  refine store_ok2 (X:=inHand X ((a,oe) :: (X.pn++pins)) a) (v:=.ref a) I6h hN hj (.inl hl) rfl (fun s7 I7 _=>?_) (.inr hl)
  refine wpAny_mono (hh ((a,oe) :: (X.pn++pins)) a oe n C hn hm2 xc List.mem_cons_self hcl [] s7 (σ'.set j (some (.ref a))) H' { nx:=fun σ8 H8=>∃ Hs8 ρ8 tot8,Same H' Hs8∧SRel K Hs8 ρ8 σ8 H8 tot8∧E.nx (ρ8.set j none),rt:=D.rt } I7
   ⟨H',ρh a,[],_,⟨by rw [hρ a,← (show σ'.length=X.N.length from I1.len)]; exact SR.exc σ' j,⟨Same.refl _,fun _ _ e=>e⟩,List.nodup_nil,fun a h=>nomatch h⟩,hq a,fun σ8 H8 Hs8 ρ8 tot8 m8 r8 q8=>⟨Hs8,ρ8,tot8,m8,r8,q8⟩,fun _ _ _ _ _ _ _ z=>z,fun _ _ _ _ _ _ _ z=>z,
    fun v H2 Hs2 m d As s2=>k4 v H2 Hs2 m d As (sm.trans s2),fun n H2 s2=>kx n H2 (sm.trans s2)⟩) (fun f s8 hs=>?_) fun _ _ z=>z.elim
  cases f with
  | next =>
   obtain ⟨σ8,H8,I8,Hs8,ρ8,tot8,m8,r8,q8⟩:=hs
   have I9:Inv X pins σ8 H8 s8:=Inv.su I8 I.ok.hd fun p hp=>by rw [List.append_nil]; exact List.mem_cons_of_mem _ hp
   obtain ⟨m,hn8,lk⟩:=id I9.loc
   obtain ⟨tot9,sub9,r9⟩:=SR.wY j r8.sr
   exact wpAny_nameGoes_keeps hl hn8 (by rw [I9.ok.kind]; rfl) fun h9 v hn9 sb=>⟨σ8.set j none,H8,Inv.drop I9 hN hj lk hn9 sb,k1 _ H8 Hs8 _ tot9 (sm.trans m8) ⟨r9.za,r8.wf,sub9.nodup r8.nod,fun b hb=>r8.own b (sub9.subset hb)⟩ q8⟩
  | brk=>obtain ⟨_,_,_,z⟩:=hs; exact z.elim
  | cont=>obtain ⟨_,_,_,z⟩:=hs; exact z.elim
  | ret u =>
   obtain ⟨v,σ8,H8,I8,rv,q⟩:=hs
   have I9:Inv X pins σ8 H8 s8:=Inv.su I8 I.ok.hd fun p hp=>by rw [List.append_nil]; exact List.mem_cons_of_mem _ hp
   obtain ⟨m,hn8,_⟩:=id I9.loc
   exact wpAny_nameGoes hl hn8 (by rw [I9.ok.kind]; rfl) fun h9 m9 hn9 sb=>⟨v,_,H8,Inv.forget I9 hn9 sb,rv,q⟩
end L2.Q
namespace L2.Q.R
open PySem PySem.Spec PyProof.Rows L2.Q
theorem Ex {E:jb} {ρ:Env} {j:Nat} {t:WS} {ρh:Addr→Env} {hd:Addr→Str→WS}:xJ j t ρh hd E ρ=t { E with rt:=fun m d=>xch m d (fun n=>∀ a,hd a n { nx:=fun ρ'=>E.nx (ρ'.set j none),rt:=E.rt } (ρh a)) (E.rt m d) } ρ:=rfl
end L2.Q.R
set_option Elab.async false
set_option linter.all false
set_option maxRecDepth 100000
set_option maxHeartbeats 4000000
namespace L2
open PySem PySem.Spec PyProof.Rows Builtin Builtin.Str Builtin.Int
section
variable {prog:Program} {w:World} {A:Around} {E:Value→Shared→Prop} {s:Shared} {x:Str} {n:Int} {t u:Tok}
end
end L2
namespace L2.Q
open PySem PySem.Spec PyProof.Rows
section
variable {X:Cx} {K:PySem.W.Frag} {a b:Expr} {ta tb:WE} {pos:Pos}
noncomputable def owl (o:Option (Option Sl)) (k:List D→Prop):Prop:=match o with
 | some (some (.ow true (.list xs)))=>k xs
 | _=>False
noncomputable def intD (y:D) (k:Int→Prop):Prop:=match y with
 | .int i=>k i
 | _=>False
noncomputable def outM (d:D):Md:=bif d.flat then .sh else .ow true
end
end L2.Q
namespace L2.Q.R
open PySem PySem.Spec PyProof.Rows L2.Q
section
variable {ρ:Env} {te:WE} {m m':Md} {x:L2.Q.D} {ys:List L2.Q.D} {Q:Md→L2.Q.D→Prop}
theorem Ez {k:List L2.Q.D→Prop}:owl (some (some (.ow true (.list ys)))) k=k ys:=rfl
theorem El {i:Int} {k:Int→Prop}:intD (.int i) k=k i:=rfl
end
end L2.Q.R
set_option Elab.async false
set_option linter.all false
set_option maxRecDepth 100000
set_option maxHeartbeats 4000000
namespace L2
open PySem PySem.Spec PyProof.Rows
section
variable {prog:Program} {w:World} {A:Around} {E:Value→Shared→Prop} {s:Shared}
end
section
variable {X:Cx} {pins:List (Addr × Obj)} {σ:St} {H:Hp} {s:Shared} {a b:Addr} {A:Around} {E:Value→Shared→Prop}
end
end L2
namespace L2.Q
open PySem PySem.Spec PyProof.Rows
section
variable {X:Cx} {K:PySem.W.Frag} {a b c:Expr} {ta tb tc:WE} {pos apos cpos:Pos}
noncomputable def onD (x:D) (f:List (Key × D)→Prop) (g:List (List Key × D)→Prop):Prop:=match x with
 | .dK kvs=>f kvs
 | .dT kvs=>g kvs
 | _=>False
noncomputable def tupD (y:D) (k:List D→Prop):Prop:=match y with
 | .tup ys=>k ys
 | _=>False
noncomputable def gotG (o:Option D) (m n:Md) (z:D) (Q:Md→D→Prop):Prop:=match o with
 | some d=>Q (itm m d) d
 | none=>Q n z
noncomputable def wGet (ta tb tc:WE):WE:=fun ρ Q=>ta ρ fun m x=>onD x (fun kvs=>tb ρ fun _ y=>tc ρ fun n z=>∃ k,y.key1=some k∧gotG (getG kvs k) m n z Q)
 (fun kvs=>tb ρ fun _ y=>tc ρ fun n z=>tupD y fun ys=>∃ ks,gD ys=some ks∧gotG (getG kvs ks) m n z Q)
theorem Dc (hu:X.A.units+64<cLine) (ha:QE X K a ta) (hb:QE X K b tb) (hc:QE X K c tc) (hm:M2 X a "get" apos b c cpos:=by exact ⟨rfl,rfl,rfl,rfl⟩):QE X K (.Call (.Attribute a "get" apos) [b,c] [] cpos) (wGet ta tb tc):=by
 refine PE.imp (pe_dget2 (by walk_at "l") ha hb hc hm) fun σ H Qv hx=>ex4 hx fun Hs ρ tot Q sr h fin=>?_
 refine ⟨Hs,ρ,tot,_,sr,h,fun v H1 Hs1 m x As g1 r1 f1 q1=>?_⟩
 have got:∀ {o:Option V} {d? : Option D} {H2 H3 Hs2 Hs3:Hp} {w:V} {n:Md} {z:D} {Cs:List Addr},Grow Hs1 H1 Hs2 H2→Grow Hs2 H2 Hs3 H3→RM K Hs3 H3 n z w Cs→bZ Hs3 H2 Cs→(match d? with
   | some d=>∃ v,o=some v∧Rep K H3 d v∧(m=.sh→Rep K Hs3 d v)
   | none=>o=none)→gotG d? m n z Q→Qv (o.getD w) H3:=by
  intro o d? H2 H3 Hs2 Hs3 w n z Cs g2 g3 r3 f3 l q
  cases d? with
  | none=>rw [show o=none from l]; exact fin w H3 Hs3 n z Cs ((g1.trans g2).trans g3) r3 (f3.of (g1.trans g2).all) q
  | some d =>
   obtain ⟨v',e,u1,u2⟩:=l
   rw [e]
   exact (Fin.after fin ((g1.trans g2).trans g3)).itm g3.wf u1 u2 q
 have core:∀ G:Hp,Same G H1→(∀ H3 Hs3,Grow Hs1 H1 Hs3 H3→∀ d v,Rep K G d v→Rep K H3 d v∧(m=.sh→Rep K Hs3 d v))→Rep K G x v→∃ a,v=.ref a∧IsD H1 a∧tpE K tb σ H1 fun y H2=>tpE K tc σ H2 fun z H3=>∃ o,DGet H3 a y o∧Qv (o.getD z) H3:=by
  intro G sg up r
  cases r with
  | dK kk s q =>
   refine ⟨_,rfl,.inl ⟨_,.inl (sg _ _ s)⟩,Hs1,ρ,tot,_,sr.grow g1,q1,fun u H2 Hs2 n y Bs g2 r2 f2 q2=>⟨Hs2,ρ,tot,_,(sr.grow g1).grow g2,q2,fun w H3 Hs3 n3 z Cs g3 r3 f3 q3=>?_⟩⟩
   have ry:=(r2.grow g3).rep g3.wf
   obtain ⟨k,hk,q4⟩:=q3
   have ev:=ry.key hk
   subst ev
   refine ⟨_,DGet.k ((g2.trans g3).all _ _ (sg _ _ s)),got g2 g3 r3 f3 ?_ q4⟩
   have z:=zip_get (k:=k) q
   split
   ·rename_i d e
    rw [e] at z
    obtain ⟨v',e',r'⟩:=z
    exact ⟨v',e',up _ _ (g2.trans g3) _ _ r'⟩
   ·rename_i e
    rw [e] at z
    exact z
  | dT kk s q =>
   refine ⟨_,rfl,.inr ⟨_,.inl (sg _ _ s)⟩,Hs1,ρ,tot,_,sr.grow g1,q1,fun u H2 Hs2 n y Bs g2 r2 f2 q2=>⟨Hs2,ρ,tot,_,(sr.grow g1).grow g2,q2,fun w H3 Hs3 n3 z Cs g3 r3 f3 q3=>?_⟩⟩
   have ry:=(r2.grow g3).rep g3.wf
   cases ry with
   | tup t2 e2 p2 =>
    obtain ⟨k,hk,q4⟩:=q3
    obtain ⟨b',eb,e3⟩:=Rep.keyT (.tup t2 e2 p2) hk
    cases eb
    refine ⟨_,DGet.t ((g2.trans g3).all _ _ (sg _ _ s)) e3,got g2 g3 r3 f3 ?_ q4⟩
    have z:=zip_get (k:=k) q
    split
    ·rename_i d e
     rw [e] at z
     obtain ⟨v',e',r'⟩:=z
     exact ⟨v',e',up _ _ (g2.trans g3) _ _ r'⟩
    ·rename_i e
     rw [e] at z
     exact z
   | _=>exact q3.elim
  | _=>exact q1.elim
 rcases r1.here g1.wf with ⟨hm,r⟩ | ⟨hm,r⟩
 ·exact core Hs1 g1.wf.sub (fun H3 Hs3 g d v q=>⟨q.same (g1.wf.sub.trans g.all),fun _=>q.same g.sh⟩) r
 ·exact core H1 (Same.refl H1) (fun H3 Hs3 g d v q=>⟨q.same g.all,fun z=>absurd z hm⟩) r
noncomputable def owdT (o:Option (Option Sl)) (k:List (List Key × D)→Prop):Prop:=match o with
 | some (some (.ow true (.dT kvs)))=>k kvs
 | _=>False
theorem cQ {κ β:Type} [DecidableEq κ] (p:κ × β) (r:List (κ × β)) (k:κ):getG (p :: r) k=if p.1=k then some p.2 else getG r k:=by
 by_cases h:p.1=k <;> simp [getG,h]
end
end L2.Q
set_option Elab.async false
set_option linter.all false
set_option maxRecDepth 100000
set_option maxHeartbeats 4000000
namespace L2
open PySem PySem.Spec PyProof.Rows
end L2
namespace L2.Q
open PySem PySem.Spec PyProof.Rows
section
variable {X:Cx} {K:PySem.W.Frag} {a b c:Expr} {ta tb tc:WE} {pos apos cpos:Pos}
section
variable {κ:Type} [DecidableEq κ]
end
noncomputable def owdK (d:D) (k:List (Key × D)→Prop):Prop:=match d with
 | .dK kvs=>k kvs
 | _=>False
end
end L2.Q
namespace L2.Q.R
open PySem PySem.Spec PyProof.Rows L2.Q
section
variable {ρ:Env} {E:jb} {te tb tc tk tv:WE} {m m':Md} {x y:L2.Q.D} {ys:List L2.Q.D} {Q:Md→L2.Q.D→Prop} {p:WP} {i j k:Nat}
theorem Gr {kvs:List (Key × L2.Q.D)} {k:List (Key × L2.Q.D)→Prop}:owdK (.dK kvs) k=k kvs:=rfl
theorem Gu:wGet te tb tc ρ Q=te ρ fun m x=>onK x (f:=fun x=>onD x (fun kvs=>tb ρ fun _ y=>tc ρ fun n z=>∃ k,y.key1=some k∧gotG (getG kvs k) m n z Q)
 (fun kvs=>tb ρ fun _ y=>tc ρ fun n z=>onK y (f:=fun y=>tupD y fun ys=>∃ ks,gD ys=some ks∧gotG (getG kvs ks) m n z Q) ⟨⟩)) ⟨⟩:=rfl
theorem Hq {kvs:List (Key × L2.Q.D)} {f:List (Key × L2.Q.D)→Prop} {g:List (List Key × L2.Q.D)→Prop}:onD (.dK kvs) f g=f kvs:=rfl
theorem Gj {kvs:List (List Key × L2.Q.D)} {f:List (Key × L2.Q.D)→Prop} {g:List (List Key × L2.Q.D)→Prop}:onD (.dT kvs) f g=g kvs:=rfl
theorem G9 {k:List L2.Q.D→Prop}:tupD (.tup ys) k=k ys:=rfl
theorem Hm {kvs:List (List Key × L2.Q.D)} {k:List (List Key × L2.Q.D)→Prop}:owdT (some (some (.ow true (.dT kvs)))) k=k kvs:=rfl
end
end L2.Q.R
set_option Elab.async false
set_option linter.all false
set_option maxRecDepth 100000
set_option maxHeartbeats 4000000
namespace L2
open PySem PySem.Spec PyProof.Rows
section
variable {X:Cx}
noncomputable def insL {α:Type} (xs:List α) (k:Nat) (y:α):List α:=xs.take k++y :: xs.drop k
noncomputable def rIns:V→List V→Hp→VK→Prop:=fun x vs H Q=>∃ l xs i y,x=.ref l∧vs=[.int i,y]∧H l=some (.lst xs)∧0≤i∧i≤xs.length∧xs.length<sizeLine∧Q .non (upd H l (.lst (insL xs i.toNat y)))
theorem xq {α:Type} (xs:List α) (k:Nat) (y:α) (h:k≤xs.length):(xs.toArray.extract 0 k).push y++xs.toArray.extract k=(insL xs k y).toArray:=by
 apply Array.toList_inj.mp
 simp [insL]
 exact List.take_of_length_le (by rw [List.length_drop]; walk_at "l")
theorem zf:MtM X "list.insert" rIns:=by
 intro pins s σ H x vs v us Q I rx rv h
 obtain ⟨l,xs,i,y,rfl,rfl,hH,h0,h1,hz,q⟩:=h
 cases rx
 obtain ⟨u,w,rfl,ru,rw'⟩:=rv.two
 obtain ⟨t,rfl⟩:=ru
 obtain ⟨z,its,n,r,hl,e⟩:=I.lstM hH
 have hs:sizeLine<2 ^ 62:=by rw [sizeLine_eq]; decide
 have hfit:¬ (!Builtin.List.listFitsIndex i)=true:=by rw [fitsIndex_both (by walk_at "l") (by walk_at "l")]; decide
 refine call_meets F.slot_list_insert ⟨_,e,rfl⟩ F.entry_list_insert (F.args_list_insert_3 _ _ _) (AutoSeq1.list_insert_list_int_val_1 l its.toArray n i t w hfit (by rw [List.size_toArray]; walk_at "l")) ⟨e,?_⟩
 have ei:(if i<0 then (i+(its.toArray.size:Int)).toNat else min i.toNat its.toArray.size)=i.toNat:=by
  rw [if_neg (by walk_at "l"),List.size_toArray]; walk_at "l"
 have rl:Vals (insL xs i.toNat y) (insL its i.toNat w):=(r.take i.toNat).append (.cons rw' (r.drop i.toNat))
 refine ⟨.non,_,I.lset (its':=insL its i.toNat w) hH e ?_ rl ?_,rfl,q⟩
 ·show (its.toArray.extract 0 (if i<0 then (i+(its.toArray.size:Int)).toNat else min i.toNat its.toArray.size)).push w++its.toArray.extract (if i<0 then (i+(its.toArray.size:Int)).toNat else min i.toNat its.toArray.size)=_
  rw [ei]
  exact xq its i.toNat w (by walk_at "l")
 ·unfold insL
  simp
  walk_at "l"
end
end L2
namespace L2.Q
open PySem PySem.Spec PyProof.Rows
section
variable {X:Cx} {K:PySem.W.Frag} {L:Str→Hp→Prop} {e e2 e3:Expr} {p:WP} {te te2 te3:WE} {apos cpos pos:Pos}
theorem wG:bootBuiltins "int" = some (.type "int"):=by decide +kernel
noncomputable def wO (p:WP) (tk:WE):WS:=fun E ρ=>p ρ fun fl d up=>match d with
 | .list xs=>tk ρ fun _ j=>match j with
  | .int j=>∃ y,0≤j∧xs[j.toNat]? = some y∧y.flat=true∧E.nx (up fl (.list (xs.eraseIdx j.toNat)))
  | _=>False
 | _=>False
theorem Place.short {Hs1 H1:Hp} {σ:St} {fl:Bool} {xs:List D} {v:V} {a:Addr} {vs:List V} {up:Bool→D→Env} (pl:Place K Hs1 H1 σ fl (.list xs) v up) (e:v=.ref a) (h:H1 a=some (.lst vs)):vs.length≤sizeLine:=by
 subst e
 rcases pl.ex with ⟨As',r,ne,_⟩
 cases r with
 | sh _ _=>exact absurd rfl ne
 | list hz e3 _=>rw [h] at e3; cases e3; exact hz
theorem yS (ho:QP X K e p) (he:QE X K e2 te2) (hK:X.K=K:=by rfl)
  (hbase:attributeBase e "pop" X.env (eval e X.env)=eval e X.env:=by rfl)
  (hfew:((backTo cpos (starEach [e2] X.env)).all (fun x=>!x.1) && (backToKw cpos (keywordEach [] X.env)).all (fun x=>x.1.isSome)
   && decide ([e2].length+([]:List Keyword).length+(if ([]:List Keyword).isEmpty then 0 else 1)<30))=true:=by rfl)
  (hline:(apos.endLine == cpos.line)=true:=by rfl) (hss:starEach (e2 :: []) X.env=(false,eval e2 X.env) :: starEach [] X.env:=by rfl) (hplain:(backTo cpos (starEach [] X.env)).any (·.1)=false:=by rfl)
  (hs:swapsWith (.Call (.Attribute e "pop" apos) [e2] [] cpos) none pos.line X.env=pure false:=by rfl) :
  QS X K L (.Expr (.Call (.Attribute e "pop" apos) [e2] [] cpos) pos) (wO p te2):=by
 subst hK
 refine PS.imp (ps_expr (pe_bm PySem.F.plainAttrs_list PySem.F.slot_list_pop PySem.F.type_list_pop mt_popAt ho (pa_cons he pa_nil hss) hbase hfew hline hss hplain) hs) fun D σ H hx=>dH hx fun Hs ρ tot E sr h k1 k2 k3 k4=>?_
 refine ⟨Hs,ρ,tot,_,sr,h,fun v H1 Hs1 fl d up g1 p1 q1=>?_⟩
 cases d with
 | list xs =>
  obtain ⟨a1,vs1,e1,s1⟩:=p1.isL g1.wf
  refine ⟨by subst e1; exact .inl ⟨rfl,_,s1⟩,Hs1,ρ,tot,_,sr.grow g1,q1,fun w H2 Hs2 m jd As g2 r2 f2 q2=>?_⟩
  have rj:=r2.rep g2.wf
  cases rj with
  | int j =>
   obtain ⟨y,hj,ey,fy,q2⟩:=q2
   obtain ⟨a,vs,A,ea,e2,e21,rs,nd,hn,k⟩:=p1.put g2
   have hz0:=p1.short ea e21
   obtain ⟨nA,ndA⟩:=List.nodup_cons.mp nd
   obtain ⟨u,eu,ru⟩:=rs.getF ey fy g2.wf
   obtain ⟨B,sb,rb⟩:=rs.erase j.toNat
   have hlt:=(List.getElem?_eq_some_iff.mp eu).1
   have hsl:sizeLine<2 ^ 62:=by rw [sizeLine_eq]; decide
   refine ⟨a,vs,j,j.toNat,u,ea,rfl,e2,by walk_at "l",by walk_at "l",?_,eu,?_⟩
   ·unfold seqIndex?
    simp only [show ¬ j<0 by walk_at "l",if_false]
    rw [if_pos (by simp only [Bool.and_eq_true,decide_eq_true_eq]; walk_at "l")]
   ·obtain ⟨tot2,sr2⟩:=k fl _ _ B id rb (by rw [List.length_eraseIdx]; split <;> walk_at "l") (sb.nodup ndA) (fun z=>nA (sb.subset z)) (fun x hx=>.inl (sb.subset hx))
    exact k1 _ _ Hs2 _ tot2 (g1.sh.trans g2.sh) sr2 q2
  | _=>exact q2.elim
 | _=>exact q1.elim
theorem aq.ins {Hs H:Hp} {fl:Bool} {d:D} {v:V} (r:RepO K Hs H fl d v []) {ds:List D} {vs:List V} {As:List Addr} (k:Nat) (q:aq K Hs H fl ds vs As):aq K Hs H fl (insL ds k d) (insL vs k v) As:=by
 induction k generalizing ds vs As with
 | zero=>exact aq.cons r q
 | succ k ih =>
  cases ds with
  | nil =>
   obtain ⟨rfl,rfl⟩:=q.n0
   exact aq.cons r .nil
  | cons e ds =>
   obtain ⟨u,us,A,B,rfl,rfl,q,qs⟩:=q.c
   exact aq.cons q (ih qs)
noncomputable def wIns (p:WP) (tk te:WE):WS:=fun E ρ=>p ρ fun fl d up=>match d with
 | .list xs=>tk ρ fun _ j=>te ρ fun _ x=>match j with
  | .int j=>0≤j∧j≤xs.length∧xs.length<sizeLine∧x.flat=true∧E.nx (up fl (.list (insL xs j.toNat x)))
  | _=>False
 | _=>False
theorem v8 (ho:QP X K e p) (he:QE X K e2 te2) (he3:QE X K e3 te3) (hK:X.K=K:=by rfl)
  (hbase:attributeBase e "insert" X.env (eval e X.env)=eval e X.env:=by rfl)
  (hfew:((backTo cpos (starEach [e2,e3] X.env)).all (fun x=>!x.1) && (backToKw cpos (keywordEach [] X.env)).all (fun x=>x.1.isSome)
   && decide ([e2,e3].length+([]:List Keyword).length+(if ([]:List Keyword).isEmpty then 0 else 1)<30))=true:=by rfl)
  (hline:(apos.endLine == cpos.line)=true:=by rfl) (hss:starEach (e2 :: [e3]) X.env=(false,eval e2 X.env) :: starEach [e3] X.env:=by rfl) (hs3:starEach (e3 :: []) X.env=(false,eval e3 X.env) :: starEach [] X.env:=by rfl) (hplain:(backTo cpos (starEach [e3] X.env)).any (·.1)=false:=by rfl)
  (hs:swapsWith (.Call (.Attribute e "insert" apos) [e2,e3] [] cpos) none pos.line X.env=pure false:=by rfl) :
  QS X K L (.Expr (.Call (.Attribute e "insert" apos) [e2,e3] [] cpos) pos) (wIns p te2 te3):=by
 subst hK
 refine PS.imp (ps_expr (pe_bm PySem.F.plainAttrs_list PySem.F.slot_list_insert PySem.F.type_list_insert zf ho (pa_cons he (pa_cons he3 pa_nil hs3) hss) hbase hfew hline hss hplain) hs) fun D σ H hx=>dH hx fun Hs ρ tot E sr h k1 k2 k3 k4=>?_
 refine ⟨Hs,ρ,tot,_,sr,h,fun v H1 Hs1 fl d up g1 p1 q1=>?_⟩
 cases d with
 | list xs =>
  obtain ⟨a1,vs1,e1,s1⟩:=p1.isL g1.wf
  refine ⟨by subst e1; exact .inl ⟨rfl,_,s1⟩,Hs1,ρ,tot,_,sr.grow g1,q1,fun w H2 Hs2 m jd As g2 r2 f2 q2=>⟨Hs2,ρ,tot,_,(sr.grow g1).grow g2,q2,fun y H3 Hs3 m3 x As3 g3 r3 f3 q3=>?_⟩⟩
  have rj:=(r2.grow g3).rep g3.wf
  cases rj with
  | int j =>
   obtain ⟨h0,h1,hz,fx,q3⟩:=q3
   obtain ⟨a,vs,A,ea,e2,e21,rs,nd,hn,k⟩:=p1.put (g2.trans g3)
   obtain ⟨nA,ndA⟩:=List.nodup_cons.mp nd
   have hl:=rs.length
   refine ⟨a,vs,j,y,ea,rfl,e2,h0,by walk_at "l",by walk_at "l",?_⟩
   obtain ⟨tot2,sr2⟩:=k fl _ _ A id (aq.ins (.sh (fun _=>fx) (r3.flat g3.wf fx)) j.toNat rs) (by unfold insL; simp; walk_at "l") ndA nA (fun x hx=>.inl hx)
   exact k1 _ _ Hs3 _ tot2 ((g1.sh.trans g2.sh).trans g3.sh) sr2 q3
  | _=>exact q3.elim
 | _=>exact q1.elim
theorem vX:MtR X "str.upper" (fun x xs H Q=>∃ z,x=.str z∧xs=[]∧z.length≤1000∧Q (.str (Txt.upper z)) H):=by
 intro pins s σ H x vs v us Q I rx rv h
 obtain ⟨z,rfl,rfl,hz,q⟩:=h
 obtain ⟨t,rfl⟩:=rx
 have hus:=rv.zero
 subst hus
 exact PyProof.Rows.SCL.upper (by walk_at "l") fun _=>⟨.str _,H,I.tok _,⟨_,rfl⟩,q⟩
noncomputable def ur:W1:=fun _ x Q=>match x with
 | .str z=>z.length≤1000∧Q .sh (.str (Txt.upper z))
 | _=>False
theorem yr (ho:QE X K e te) (hbase:attributeBase e "upper" X.env (eval e X.env)=eval e X.env:=by rfl) (hline:(apos.endLine == cpos.line)=true:=by rfl):QE X K (.Call (.Attribute e "upper" apos) [] [] cpos) (wUn ur te):=by
 refine PE.imp (pe_bm0 PySem.F.plainAttrs_str PySem.F.slot_str_upper PySem.F.type_str_upper vX ho hbase hline) fun σ H Qv hx=>ex4 hx fun Hs ρ tot Q sr h f=>?_
 refine ⟨Hs,ρ,tot,_,sr,h,fun v H1 Hs1 m x As g1 r1 f1 q1=>?_⟩
 have r:=r1.rep g1.wf
 cases r with
 | @str z hz =>
  obtain ⟨h1,q⟩:=q1
  have:=PyProof.Rows.len_upper z
  exact ⟨rfl,_,rfl,rfl,h1,Fin.sh (Fin.after f g1) g1.wf (.str (by rw [sizeLine_eq]; walk_at "l")) q⟩
 | _=>exact q1.elim
end
end L2.Q
namespace L2.Q.R
open PySem PySem.Spec PyProof.Rows L2.Q
section
variable {ρ:Env} {E:jb} {te tk:WE} {m:Md} {Q:Md→L2.Q.D→Prop} {p:WP} {xs ys:List L2.Q.D} {k:List L2.Q.D→Prop}
noncomputable def lstD (d:L2.Q.D) (k:List L2.Q.D→Prop):Prop:=match d with
 | .list xs=>k xs
 | _=>False
theorem Hh:lstD (.list xs) k=k xs:=rfl
theorem FJ:wO p tk E ρ=p ρ fun fl d up=>onK d (f:=fun d=>lstD d fun xs=>tk ρ fun _ j=>onK j (f:=fun j=>intD j fun j=>∃ y,0≤j∧xs[j.toNat]? = some y∧y.flat=true∧E.nx (up fl (.list (xs.eraseIdx j.toNat)))) ⟨⟩) ⟨⟩:=rfl
theorem HF:wIns p tk te E ρ=p ρ fun fl d up=>onK d (f:=fun d=>lstD d fun xs=>tk ρ fun _ j=>te ρ fun _ x=>onK j (f:=fun j=>intD j fun j=>0≤j∧j≤xs.length∧xs.length<sizeLine∧x.flat=true∧E.nx (up fl (.list (insL xs j.toNat x)))) ⟨⟩) ⟨⟩:=rfl
theorem Ed {d z:L2.Q.D} {n:Md}:gotG (some d) m n z Q=Q (itm m d) d:=rfl
theorem Er {z:L2.Q.D} {n:Md}:gotG none m n z Q=Q n z:=rfl
theorem Dm {z:Str}:ur m (.str z) Q=(z.length≤1000∧Q .sh (.str (Txt.upper z))):=rfl
end
end L2.Q.R
set_option Elab.async false
set_option linter.all false
set_option maxRecDepth 100000
set_option maxHeartbeats 4000000
namespace L2
open PySem PySem.Spec PyProof.Rows
section
variable {X:Cx} {pins:List (Addr × Obj)} {σ:St} {H:Hp} {s:Shared} {a:Addr} {A:Around} {E:Value→Shared→Prop}
theorem um {kvs:List (Key × V)} {k:Key} {v:V} {u r:Value} {Q:Value→Shared→Prop} (I:Inv X pins σ H s) (e:H a=some (.dK kvs)) (ry:RelV (kV k) u) (hl:kvs.length<sizeLine) (rv:RelV v r)
  (h1:∀ v' w' s',valV kvs k=some v'→Inv X pins σ H s'→RelV v' w'→Q w' s') (h2:valV kvs k=none→∀ s',Inv X pins σ (upd H a (.dK (putK kvs k v))) s'→Q r s') :
  wpAny (model X.prog X.w) A (call (.builtin "dict.setdefault") [.ref a,u,r]) Q E s:=by
 obtain ⟨z,hd,vs,rel,dd⟩:=dk_of I.hok e
 have hz:vs.length≤sizeLine:=by rw [← rel.length]; exact z
 have hp:(putK kvs k v).length≤sizeLine:=by have:=length_putK kvs k v; walk_at "l"
 have vl:=rel.val k
 refine call_meetsIn PySem.F.slot_dict_setdefault dd.typeIs PySem.F.entry_dict_setdefault (PySem.F.args_dict_setdefault_3 _ _ _) (kt_meets_setdefault (mixKind X.prog X.w) a (kV_is ry) hd r) ⟨vs,dd,hz,fun w' hw=>?_,fun hn h' dd' hs=>?_⟩
 ·rw [hw] at vl
  cases ev:valV kvs k with
  | none=>rw [ev] at vl; exact (vl:False).elim
  | some v'=>rw [ev] at vl; exact h1 v' _ _ ev (I.tok _) vl
 ·have ev:valV kvs k=none:=by
   rw [hn] at vl
   cases ev:valV kvs k with
   | none=>rfl
   | some v'=>rw [ev] at vl; exact (vl:False).elim
  have he:∃ q,h'.get? a=some q:=let ⟨q,_,_,hq,_⟩:=dd'; ⟨q,hq⟩
  exact h2 ev _ (d_write I (by rw [e]; exact True.intro) hs he (dk_new hp hd (rel.put k rv) dd'))
end
noncomputable def tSdK (td ty tx:TE):TE:=fun σ H Q=>td σ H fun x H1=>∃ a,x=.ref a∧IsD H1 a∧ty σ H1 fun y H2=>tx σ H2 fun z H3=>∃ kvs k,H3 a=some (.dK kvs)∧y=kV k∧kvs.length<sizeLine ∧
 (∀ v,valV kvs k=some v→Q v H3)∧(valV kvs k=none→Q z (upd H3 a (.dK (putK kvs k z))))
theorem Be {X:Cx} {o e f:Expr} {apos cpos:Pos} {td ty tx:TE} (ho:PE X o td) (he:PE X e ty) (hf:PE X f tx) (m:M2 X o "setdefault" apos e f cpos):PE X (.Call (.Attribute o "setdefault" apos) [e,f] [] cpos) (tSdK td ty tx):=by
 intro pins s σ H Q I h
 refine wpAny_Call_method m.base m.few m.line PySem.F.plainAttrs_dict PySem.F.slot_dict_setdefault PySem.F.type_dict_setdefault (thn (ho pins s σ H _ I h) fun u s1 hx9=>?_)
 obtain ⟨x,H1,I1,rx,a,ex,d,q1⟩:=hx9
 subst ex
 cases (show u=Value.ref a from rx)
 have td:=isD_at I1 d
 refine ⟨td.1,td.2.1,?_⟩
 rw [m.trees]
 refine Calls.callWith_builtin rfl (Calls.evalArgs_plain (Calls.spliced_cons (thn (he pins s1 σ H1 _ I1 q1) fun iv s2 hx5=>L2.ex2 hx5 fun y H2 I2 ry q2=>Calls.spliced_cons (thn (hf pins s2 σ H2 _ I2 q2) fun fv s3 ⟨z,H3,I3,rz,kvs,k,e1,e2,hl,q3,q4⟩=>Calls.spliced_nil ?_))))
 subst e2
 exact um I3 e1 ry hl rz (fun v' w' s' ev I' r'=>⟨v',H3,I',r',q3 v' ev⟩) fun ev s' I'=>⟨z,_,I',rz,q4 ev⟩
section
variable {X:Cx} {tg:Expr}
noncomputable def Itv (K:PySem.W.Frag) (a:Addr) (n:Nat):It :=
 ⟨fun i H=>i<n∧∃ xs,SqL K H a xs∧xs.length=n,fun i H x H'=>H'=H∧∀ xs,SqL K H a xs→xs.length=n→xs[n - 1 - i]? = some x,fun i _=>i=n⟩
theorem u6 {P:Program} {w:World} {K:PySem.W.Frag} {tg:Expr} (a it:Addr) (n:Nat):Turn P w K tg (Itv K a n) [it] it (fun i h=>h.IsRevIter it a ((n:Int) - 1 - (i:Int))) where
 mem:=by simp
 obj:=fun i h st b hb=>by
  have e:b=it:=by simpa using hb
  subst e
  obtain ⟨o,e,c,d⟩:=st
  exact ⟨o,e,fun v z=>by rw [d] at z; cases z⟩
 keep:=fun i h h' st k=>st.at fun o e=>k it (by simp) o e
 item:=by
  intro X hP hw hK hc i pins s σ H E I hf st hg
  subst hP hw hK
  obtain ⟨hi,xs,hq,hl⟩:=hg
  obtain ⟨its,rv,p,hz⟩:=I.list hq
  have hx:xs[n - 1 - i]? = some (xs[n - 1 - i]'(by walk_at "l")):=List.getElem?_eq_getElem _
  obtain ⟨u,hu,ru⟩:=rv.get hx
  obtain ⟨f0,f1,f2,f3,f4,f5⟩:=hf it (by simp)
  have e1:(n:Int) - 1 - (i:Int)=((n - 1 - i:Nat):Int):=by walk_at "l"
  rw [e1] at st
  refine wpAny_pyNext_rev_item st p.isList (x:=u) (by simpa using hu) fun h' st' sb=>?_
  have e2:((n - 1 - i:Nat):Int) - 1=(n:Int) - 1 - ((i+1:Nat):Int):=by walk_at "l"
  rw [e2] at st'
  have I1:Inv X pins σ H { s with heap:=h' }:=I.turned (t':=s.toks) (fun b o hb e=>(sb.2 b hb).trans e) f0 f1 f3 f4 f5
  obtain ⟨o,e,c,d⟩:=id st'
  exact ⟨u,rfl,go_of (s:={ s with heap:=h' }) e c d (by decide) ⟨_,H,I1,ru,⟨rfl,fun ys hy _=>by rw [I.list_inj hy hq]; exact hx⟩,st',fun b hb=>(hf b hb).1⟩⟩
 done:=by
  intro X hP hw hK hc i pins s σ H E I hf st hg
  subst hP hw hK
  obtain ⟨f0,f1,f2,f3,f4,f5⟩:=hf it (by simp)
  have e1:(n:Int) - 1 - (i:Int) = -1:=by have:i=n:=hg; walk_at "l"
  rw [e1] at st
  exact wpAny_pyNext_rev_end (I.ok.hd hc) st fun h' eb=>⟨rfl,I.turned (t':=s.toks) (fun b o hb e=>eb b o hb e) f0 f1 f3 f4 f5⟩
 self:=fun _ _ _ _ _ st h=>wpAny_pyIter_revIter st h
noncomputable def iRev (K:PySem.W.Frag) (ta:TA):TI:=fun σ H R=>ta σ H fun vs H1=>∃ a xs,vs=[.ref a]∧SqL K H1 a xs∧R (Itv K a xs.length) H1
theorem Bj:bootBuiltins "reversed" = some (.type "reversed"):=by decide +kernel
theorem Bg {a:Expr} {ta:TA} {p pos:Pos} (hg:Gl X "reversed") (hm:X.mg "reversed" = none) (ha:PA X [a] ta) (hs:starEach [a] X.env=[(false,eval a X.env)]:=by rfl) :
  PI X tg (.Call (.Name "reversed" p) [a] [] pos) (iRev X.K ta):=by
 intro pins s σ H R I h
 refine Call_ (ld_blt I hg hm Bj (PyProof.Rows.callWith_type1 (thn (ha pos pins s σ H _ I h) fun us s1 hx5=>L2.ex2 hx5 fun vs H1 I1 r1 q1=>?_) hs rfl))
 obtain ⟨l,xs,e,hq,q⟩:=q1
 subst e
 cases r1 with
 | cons r rr =>
  cases rr
  cases r
  obtain ⟨its,rv,pl,hz⟩:=I1.list hq
  have hl:=rv.length
  have e0:((its.toArray.size:Nat):Int) - 1=(xs.length:Int) - 1 - ((0:Nat):Int):=by simp; walk_at "l"
  refine call_reversed_list pl.isList ?_
  rw [e0]
  refine wpAny_pyIter_revIter (s:={ s1 with heap:=s1.heap.push (revObj l ((xs.length:Int) - 1 - ((0:Nat):Int))) }) ⟨_,Heap.get?_push_size _ rfl,rfl,rfl⟩ ?_
  refine ⟨s1.heap.objs.size,[s1.heap.objs.size],_,_,H1,rfl,I1.kept (t':=s1.toks) fun b o e=>Heap.get?_push_of_some _ e,u6 l _ xs.length,⟨_,Heap.get?_push_size _ rfl,rfl,rfl⟩,fun b hb=>?_,q⟩
  have e:b=s1.heap.objs.size:=by simpa using hb
  subst e
  exact I1.fpOk (Nat.le_refl _) (I1.hok.fresh (Nat.le_refl _))
theorem yU (K:PySem.W.Frag) (a:Addr) (xs:List V):f9 (Itv K a xs.length) xs.reverse (fun H=>SqL K H a xs) where
 go:=fun i H h hi=>⟨by simpa using hi,xs,h,rfl⟩
 yld:=fun i H x H' h hi y=>by
  refine ⟨y.1,?_⟩
  rw [List.getElem?_reverse (by simpa using hi)]
  exact y.2 xs h rfl
 stop:=fun H h=>List.length_reverse
end
end L2
namespace L2.Q
open PySem PySem.Spec PyProof.Rows
section
variable {X:Cx} {K:PySem.W.Frag} {a b c e:Expr} {te:WE} {pos apos cpos p:Pos} {tg:Expr}
noncomputable def yV (te:WE):WI:=fun ρ Q=>te ρ fun m d=>lM m∧match d with
 | .list xs=>Q xs.reverse
 | _=>False
theorem Ad (hm:X.mg "reversed" = none) (he:QE X K e te) (hK:X.K=K:=by rfl) (hg:Gl X "reversed" := by rfl) (hs:starEach [e] X.env=(false,eval e X.env) :: starEach [] X.env:=by rfl) (hs':starEach [e] X.env=[(false,eval e X.env)]:=by rfl) :
  QI X K tg (.Call (.Name "reversed" p) [e] [] pos) (yV te):=by
 subst hK
 refine PI.imp (Bg hg hm (pa_cons he pa_nil hs) hs') fun σ H R hx=>ex4 hx fun Hs ρ tot Q sr h k=>⟨Hs,ρ,tot,_,sr,h,fun v H1 Hs1 m d As g1 r1 f1 q1=>?_⟩
 obtain ⟨nb,q1⟩:=q1
 obtain ⟨Hs2,g2,r2⟩:=r1.ud g1 f1 nb
 cases r2 with
 | list z s rs=>exact ⟨_,_,rfl,Same.seq g2.wf.sub s,k _ H1 Hs2 _ g2 (.seq rs.rev (f9.imp (yU X.K _ _) fun H' s'=>Same.seq s' s)) (by rw [List.length_reverse,rs.length]; exact z) q1⟩
 | _=>exact q1.elim
noncomputable def sdV (kvs:List (Key × D)) (k:Key) (x:D):List (Key × D):=if (getG kvs k).isSome then kvs else putG kvs k x
noncomputable def wSdK (p:WP) (tk tv:WE):WS:=fun E ρ=>p ρ fun fl d up=>owdK d fun kvs=>tk ρ fun _ y=>tv ρ fun _ x=>x.flat=true∧∃ k,y.key1=some k∧kvs.length<sizeLine∧E.nx (up fl (.dK (sdV kvs k x)))
theorem zY {L:Str→Hp→Prop} {p:WP} {tk tv:WE} (ho:QP X K a p) (hb:QE X K b tk) (hc:QE X K c tv) (hm:M2 X a "setdefault" apos b c cpos:=by exact ⟨rfl,rfl,rfl,rfl⟩)
  (hs:swapsWith (.Call (.Attribute a "setdefault" apos) [b,c] [] cpos) none pos.line X.env=pure false:=by rfl):QS X K L (.Expr (.Call (.Attribute a "setdefault" apos) [b,c] [] cpos) pos) (wSdK p tk tv):=by
 refine PS.imp (ps_expr (Be ho hb hc hm) hs) fun D σ H hx=>dH hx fun Hs ρ tot E sr h k1 k2 k3 k4=>?_
 refine ⟨Hs,ρ,tot,_,sr,h,fun u H1 Hs1 fl d up g1 p1 q1=>?_⟩
 obtain ⟨As',r,ne,nd,own,k⟩:=p1.ex
 have lv:∀ x∈As',Hs1 x=none∧H1 x≠none:=fun x hx=>⟨own x hx,(r.own x hx).ne⟩
 cases r with
 | sh hf _=>exact absurd rfl ne
 | @dK a0 vs kvs A kk e rs =>
  refine ⟨a0,rfl,.inl ⟨_,.inl e⟩,Hs1,ρ,tot,_,sr.grow g1,q1,fun y H2 Hs2 m2 yd As2 g2 r2 f2 q2=>⟨Hs2,ρ,tot,_,(sr.grow g1).grow g2,q2,fun x H3 Hs3 m3 xd As3 g3 r3 f3 q3=>?_⟩⟩
  obtain ⟨hx,key,hk,hz,q⟩:=q3
  have ry:=(r2.grow g3).rep g3.wf
  have ey:=ry.key hk
  subst ey
  have rx:Rep K Hs3 xd x:=r3.flat g3.wf hx
  have g:=g2.trans g3
  have sm:Same Hs Hs3:=g1.sh.trans g.sh
  have hl:kvs.length=vs.length:=by have:=rs.length; rwa [List.length_map] at this
  have zg:=zip_get (k:=key) (rs.reps (G:=H1) g1.wf.sub fun _ _=>rfl)
  obtain ⟨na,nA⟩:=List.nodup_cons.mp nd
  refine ⟨_,key,g.all _ _ e,rfl,by rw [List.length_zip,List.length_map,← hl,Nat.min_self]; exact hz,fun v' ev=>?_,fun ev=>?_⟩
  ·have e0:sdV kvs key xd=kvs:=by
    unfold sdV
    cases hg:getG kvs key with
    | none=>rw [hg] at zg; rw [zg] at ev; cases ev
    | some d=>rfl
   rw [e0] at q
   obtain ⟨tot2,sr2⟩:=k Hs3 H3 fl (.dK kvs) (a0 :: A) g.sh g.wf (fun x h1 h2=>g.hsn h1 h2) id (.dK kk (g.all _ _ e) (rs.grow g.sh g.all)) (by simp) nd (fun b hb=>⟨g.hsn (own b hb) (lv b hb).2,.inl hb⟩) fun b h1 _=>by
    cases q:H1 b with
    | none=>exact absurd q h1
    | some o=>exact g.all b o q
   exact k1 σ _ Hs3 _ tot2 sm sr2 q
  ·have e0:sdV kvs key xd=putG kvs key xd:=by
    unfold sdV
    cases hg:getG kvs key with
    | none=>rfl
    | some d=>rw [hg] at zg; obtain ⟨v',e',_⟩:=zg; rw [e'] at ev; cases ev
   rw [e0] at q
   obtain ⟨ws,Bs,sb,rw',ew⟩:=yG (k:=key) rx hx (rs.grow g.sh g.all)
   rw [ew]
   have nB:a0∉Bs:=fun z=>na (sb.subset z)
   obtain ⟨tot2,sr2⟩:=k.node (fl2:=fl) (d2:=.dK (putG kvs key xd)) g lv (fun _ z=>by cases z) id (.dK ⟨Nat.le_trans (pI _ _ _) hz,fun p hp=>(u_ hp).elim (fun z=>by rw [z]; exact ym ry hk) fun z=>by obtain ⟨p',hp',e'⟩:=List.mem_map.mp z; rw [← e']; exact kk.2 p' hp'⟩ upd_same (rw'.stay (Same.refl _) fun b hb=>upd_ne fun z=>nB (by subst z; exact hb)))
    (sb.nodup nA) nB fun b hb=>.inl (sb.subset hb)
   exact k1 σ _ Hs3 _ tot2 sm sr2 q
 | _=>exact q1.elim
end
end L2.Q
namespace L2.Q.R
open PySem PySem.Spec PyProof.Rows L2.Q
section
variable {ρ:Env} {E:jb} {te tk tv:WE} {p:WP} {Q:List L2.Q.D→Prop}
theorem Eu:yV te ρ Q=te ρ fun m d=>lM m∧onK d (f:=fun d=>lstD d fun xs=>Q xs.reverse) ⟨⟩:=rfl
theorem G8:wSdK p tk tv E ρ=p ρ fun fl d up=>onK d (f:=fun d=>owdK d fun kvs=>tk ρ fun _ y=>tv ρ fun _ x=>x.flat=true∧∃ k,y.key1=some k∧kvs.length<sizeLine∧E.nx (up fl (.dK (sdV kvs k x)))) ⟨⟩:=rfl
end
end L2.Q.R
local macro_rules | `(tactic| walk_at "q") => do
 let nm (s:String):Lean.Ident:=Lean.mkIdent ((s.splitOn ".").foldl Lean.Name.mkStr .anonymous)
 let ds ← ("Fp Gn Ff E_ Ck Ew Hd Gv Cv BV Fx Fd Gh Ei Fi Et Hc Ey F_ DY Ex Eu G8 FJ HF Hh Dm Ed Er Gr Gu Hq Gj G9 Hm Hk Hb Ga Fb Ht Gy FN Fy Aw Dt BR Ci HB Gf wB_ Hu wOr_ G4 Hg Dj DK wC_ wOp_ wUn_ CT Eg DR En GC G6 GX Fj Cq CN CJ Ds Cj BW Dv Ep Es FQ Ft DX Fw Ec G5 GF Gs DW Eo Gp Hi Hl Hr Ef zb Hy HH Gz HJ Gm GK Hw Gk Ha G7 Ea Eb FW Gb Fv Hv CP Cd Dw wSl_ Bw Gg Em Gx G_ GJ Fe Dd Cz wpN_ Bx Hj Ce CV Hz Gq GQ Ca Gi Ej Cp BX BK BP By gN_ gT_ DQ Hx Eh Fq EY Dl Cm Dk GR D_ Ek CW Dz CZ Hn GD Fo FZ Gd Gw Hf Ho G3 Ez El".splitOn " ").toArray.mapM fun s=>`(Lean.Parser.Tactic.simpLemma| ↓$(nm ("L2.Q.R." ++ s)):ident)
 let us ← ("L2.Q.movS L2.Q.outM L2.Q.qT L2.Q.yM L2.Q.okSh L2.Q.okOw L2.Q.okFl L2.Q.retM L2.Q.gY L2.Q.frzE L2.Q.shS L2.Q.shC L2.Q.jB L2.Q.yQ L2.Q.asg L2.Q.itm L2.Q.bK L2.Q.D.flat L2.Q.flats L2.Q.D.ty L2.Q.truD L2.Q.D.key1 L2.Q.gD L2.Q.Fz L2.Q.Fl List.length_map List.map_cons List.map_nil List.length_cons List.length_nil List.replicate_succ List.replicate_zero List.cons_append List.nil_append List.append_nil List.getElem?_cons_zero List.getElem?_cons_succ List.getElem?_nil List.set_cons_zero List.set_cons_succ List.all_cons List.all_nil Option.some.injEq Option.join_some Option.map_some Option.map_none Nat.reduceAdd Nat.reduceSub true_and and_true Bool.and_true Bool.true_and Bool.and_false Bool.false_and Bool.not_true Bool.not_false Bool.false_eq_true if_true if_false decide_true decide_false reduceIte cond_true cond_false PySem.sizeLine_eq L2.Q.atI0 L2.Q.atI1 L2.Q.atI2 L2.Q.bC L2.Q.zx L2.Q.empty_app Nat.zero_add exists_eq_left' Int.reduceLT Int.reduceLE Int.reducePow Int.reduceNeg Int.reduceToNat Int.reduceAdd Int.reduceMul Int.reduceSub Nat.reduceLeDiff Nat.reduceLT false_or or_false and_self L2.GZ".splitOn " ").toArray.mapM fun s=>`(Lean.Parser.Tactic.simpLemma| $(nm s):ident)
 let as:Lean.TSyntaxArray [`Lean.Parser.Tactic.simpStar,`Lean.Parser.Tactic.simpErase,`Lean.Parser.Tactic.simpLemma]:=(ds++us).map fun x=>⟨x.raw⟩
 `(tactic| simp -dsimp only [$as,*])
namespace L2.Q.Law
open PySem PySem.Spec PyProof.Rows
theorem small {n:Nat} (h:n≤10000):n≤sizeLine:=Nat.le_trans h (by decide)
theorem Fg {n:Nat} (h:n≤10000):n<sizeLine:=Nat.lt_of_le_of_lt h (by decide)
noncomputable def isLet (c:Nat):Bool:=decide (97≤c∧c≤122)
noncomputable abbrev abc:Str := "abcdefghijklmnopqrstuvwxyz"
theorem j8:sg abc=(List.range 26).map (97 + ·):=by decide +kernel
theorem zj {i:Int} (h0:0≤i) (h1:i<26):∃ c,atI (sg abc) i=some c∧isLet c=true:=by
 refine ⟨97+i.toNat,?_,?_⟩
 ·have:atI (sg abc) ((i.toNat:Nat):Int)=some (97+i.toNat):=atI_nat (by
   rw [j8]
   have:i.toNat<26:=by walk_at "l"
   simp [this])
  rwa [Int.toNat_of_nonneg h0] at this
 ·simp [isLet]; walk_at "l"
theorem xU (x:Int):∃ c,atI (sg abc) (x % 26)=some c∧isLet c=true:=zj (Int.emod_nonneg _ (by decide)) (Int.emod_lt_of_pos _ (by decide))
noncomputable def lets (x:Str):Prop:=∀ c∈sg x,isLet c=true
noncomputable def Open (x:Str):Prop:=1≤x.length∧x.length≤6∧lets x
noncomputable def Deed (x:Str):Prop:=x = "*"∨Open x
theorem p_ {x y:Str} (hx:lets x) (hy:lets y):lets (x++y):=fun c hc=>by
 rw [mF] at hc
 exact (List.mem_append.mp hc).elim (hx c) (hy c)
theorem uO {c:Nat} (h:isLet c=true):lets ⟨#[c]⟩:=fun d hd=>by
 have:d=c:=by simpa [sg] using hd
 rw [this]; exact h
theorem jJ {x:Str} (h:lets x) (lo hi:Option Int):lets (cutS x lo hi):=fun c hc=>by
 unfold cutS sg at hc
 rw [List.toList_toArray] at hc
 exact h c (List.mem_of_mem_drop (List.mem_of_mem_take hc))
theorem dX (c:Nat):(⟨#[c]⟩:Str).length=1:=rfl
theorem Deed.len {x:Str} (h:Deed x):x.length≤6:=by
 rcases h with rfl | h
 ·decide
 ·exact h.2.1
theorem Deed.ok {x:Str} (h:Deed x):PyData.strOk x=true:=by
 rw [xm]
 rcases h with rfl | h
 ·have:sg "*" = [42]:=by decide +kernel
  intro c hc
  rw [this] at hc
  have:c=42:=by simpa using hc
  walk_at "l"
 ·intro c hc
  have:=h.2.2 c hc
  simp [isLet] at this
  walk_at "l"
theorem iG:∀ (l:List Str),flats (l.map D.str)=true
 | []=>rfl
 | x :: l=>by simp [flats,iG l,D.flat]
theorem h_:∀ (l:List Int),flats (l.map D.int)=true
 | []=>rfl
 | x :: l=>by simp [flats,h_ l,D.flat]
theorem uV:∀ (l:List Bool),flats (l.map D.bl)=true
 | []=>rfl
 | x :: l=>by simp [flats,uV l,D.flat]
theorem vL (l:List Str) (x:Str):l.map D.str++[D.str x]=(l++[x]).map D.str:=by simp
theorem ints_app (l:List Int) (x:Int):l.map D.int++[D.int x]=(l++[x]).map D.int:=by simp
theorem kY {n i:Nat} {lo:Int} {x:D} (h:(fZ lo n)[i]? = some x):i<n∧x=.int (lo+(i:Nat)):=by
 unfold fZ at h
 rw [List.getElem?_map] at h
 by_cases hi:i<n
 ·rw [List.getElem?_range hi] at h
  exact ⟨hi,(Option.some.inj h).symm⟩
 ·rw [List.getElem?_eq_none (by simpa using hi)] at h
  cases h
theorem j0 (lo:Int) (n:Nat):(fZ lo n).length=n:=by simp [fZ]
theorem ql {lo:Int} {n:Nat} {x:D} (h:x∈fZ lo n):∃ i:Nat,i<n∧x=.int (lo+i):=by
 obtain ⟨i,hi⟩:=List.mem_iff_getElem?.mp h
 exact ⟨i,kY hi⟩
theorem gU {α:Type} (l:List α):l.filter (fun _=>true)=l:=List.filter_eq_self.mpr fun _ _=>rfl
noncomputable abbrev Stp:=Int × Str × Int
noncomputable def stpK (s:Stp):List Key:=[.inl s.1,.inr s.2.1,.inl s.2.2]
noncomputable def stpD (s:Stp):D:=.tup [.int s.1,.str s.2.1,.int s.2.2]
theorem BJ (s:Stp):keyT (stpK s)=stpD s:=rfl
noncomputable def mD (many:Int) (steps:List Stp):D:=.tup [.int many,.list (steps.map stpD)]
theorem dO:∀ (l:List Stp),flats (l.map stpD)=true
 | []=>rfl
 | x :: l=>by simp [flats,dO l,stpD,D.flat]
noncomputable def StOk (many:Int) (s:Stp):Prop:=0≤s.1∧s.1<many∧Deed s.2.1∧0≤s.2.2∧s.2.2<many
theorem Bq {many:Int} {s:Stp} (n:Nat) (h:StOk many s):okD (n+1) (stpD s)=true:=by
 have:=h.2.2.1.ok
 simp [okD,stpD,this]
theorem x_ {many:Int} {l:List Stp} (n:Nat) (h:∀ s∈l,StOk many s):okD (n+2) (.list (l.map stpD))=true:=by
 simp only [okD,List.all_map,List.all_eq_true]
 intro s hs
 exact Bq n (h s hs)
theorem m_ok {many:Int} {l:List Stp} (n:Nat) (h:∀ s∈l,StOk many s):okD (n+3) (mD many l)=true:=by
 have h2:=x_ n h
 show (okD (n+2) (.int many) && (okD (n+2) (.list (l.map stpD)) && true))=true
 rw [h2]
 rfl
theorem tR:∀ (l:List Stp),nbs (l.map stpD)=true
 | []=>rfl
 | x :: l=>by simp [nbs,tR l,stpD,D.nb]
theorem nb_m (many:Int) (l:List Stp):(mD many l).nb=true:=by simp [mD,D.nb,nbs,tR]
theorem eq_self {x:D} (h:x.nb=true):eqD x x=true:=(tV x x h h).mpr rfl
theorem uW {s t:Stp} (h:stpD s=stpD t):s=t:=by
 obtain ⟨a,b,c⟩:=s
 obtain ⟨a',b',c'⟩:=t
 simp [stpD] at h
 obtain ⟨rfl,rfl,rfl⟩:=h
 rfl
theorem uX:∀ {l m:List Stp},l.map stpD=m.map stpD→l=m
 | [],[],_=>rfl
 | [],_ :: _,h=>by simp at h
 | _ :: _,[],h=>by simp at h
 | x :: l,y :: m,h=>by
  simp only [List.map_cons,List.cons.injEq] at h
  rw [uW h.1,uX h.2]
theorem p7 {s t:Stp} (h:stpK s=stpK t):s=t:=by
 obtain ⟨a,b,c⟩:=s
 obtain ⟨a',b',c'⟩:=t
 simp [stpK] at h
 obtain ⟨rfl,rfl,rfl⟩:=h
 rfl
noncomputable def ltP (s t:Stp):Bool:=ltK (stpK s) (stpK t)
theorem tK {P:Stp→Prop}:∀ {ks:List (List Key)},(∀ k∈ks,∃ s,k=stpK s∧P s)→∃ l:List Stp,ks=l.map stpK∧∀ s∈l,P s
 | [],_=>⟨[],rfl,fun s h=>nomatch h⟩
 | k :: ks,h=>by
  obtain ⟨s,rfl,p⟩:=h k List.mem_cons_self
  obtain ⟨l,rfl,q⟩:=tK fun k hk=>h k (List.mem_cons_of_mem _ hk)
  refine ⟨s :: l,rfl,fun t ht=>?_⟩
  rcases List.mem_cons.mp ht with rfl | ht
  ·exact p
  ·exact q t ht
noncomputable abbrev Kn:=List (List Key × D)
noncomputable def StD (P:Stp→Prop) (kvs:Kn):Prop:=(∀ p∈kvs,∃ s,p.1=stpK s∧P s)∧(kvs.map (·.1)).Nodup
theorem zL {κ β:Type} [DecidableEq κ] (kvs:List (κ × β)) (k:κ) (v:β):(putG kvs k v).map (·.1)=if k∈kvs.map (·.1) then kvs.map (·.1) else kvs.map (·.1)++[k]:=by
 unfold putG
 by_cases h:k∈kvs.map (·.1)
 ·have:(kvs.any fun kv=>decide (kv.1=k))=true:=by
   obtain ⟨p,hp,e⟩:=List.mem_map.mp h
   exact List.any_eq_true.mpr ⟨p,hp,decide_eq_true e⟩
  rw [if_pos this,if_pos h,List.map_map]
  apply List.map_congr_left
  intro p _
  show (if p.1=k then (p.1,v) else p).1=p.1
  split <;> rfl
 ·have:¬ (kvs.any fun kv=>decide (kv.1=k))=true:=by
   intro z
   obtain ⟨p,hp,e⟩:=List.any_eq_true.mp z
   exact h (List.mem_map.mpr ⟨p,hp,of_decide_eq_true e⟩)
  rw [if_neg this,if_neg h,List.map_append]
  rfl
theorem StD.nil {P:Stp→Prop}:StD P []:=⟨(fun p hp=>nomatch hp),List.nodup_nil⟩
theorem t7 {names:List Str} {i:Int} (h0:0≤i) (h1:i<names.length):∃ n,n∈names∧atI (names.map D.str) i=some (.str n):=by
 have hn:i.toNat<names.length:=by walk_at "l"
 refine ⟨names[i.toNat],List.getElem_mem hn,?_⟩
 have:=atI_nat (xs:=names.map D.str) (j:=i.toNat) (v:=.str names[i.toNat]) (by simp [hn])
 rwa [Int.toNat_of_nonneg h0] at this
theorem name_mod {names:List Str} (x:Int) (h:1≤names.length):∃ n,n∈names∧atI (names.map D.str) (x % (names.length:Int))=some (.str n) :=
 t7 (Int.emod_nonneg _ (by walk_at "l")) (Int.emod_lt_of_pos _ (by walk_at "l"))
theorem nT {α:Type} (f:α→D) (l:List α) (lo hi:Option Int):cutG (l.map f) lo hi=(cutG l lo hi).map f:=by
 unfold cutG
 rw [List.length_map,List.map_take,List.map_drop]
theorem yf {α:Type} {l:List α} {lo hi:Option Int} {x:α} (h:x∈cutG l lo hi):x∈l:=List.mem_of_mem_drop (List.mem_of_mem_take h)
noncomputable def Mde (steps out:List Stp):Prop:=out.Nodup∧(∀ s,s∈out↔s∈steps)∧(out.Pairwise fun a b=>ltP b a=false)
theorem lJ {α β:Type} {f:α→β} {l:List α} (h:(l.map f).Nodup):l.Nodup:=by
 rw [List.Nodup,List.pairwise_map] at h
 exact h.imp fun hab e=>hab (by rw [e])
theorem Mde.one {steps out out2:List Stp} (M:Mde steps out) (M2:Mde steps out2):out=out2 :=
 List.Perm.eq_of_pairwise (fun a b _ _ h1 h2=>p7 (nj (a:=stpK a) (b:=stpK b) rfl h2 h1)) M.2.2 M2.2.2 ((List.perm_ext_iff_of_nodup M.1 M2.1).mpr fun s=>(M.2.1 s).trans (M2.2.1 s).symm)
theorem Mde.len {steps out:List Stp} (M:Mde steps out):out.length≤steps.length:=TS.di M.1 fun s hs=>(M.2.1 s).mp hs
theorem oK {l:List Stp} (P:List D→Prop) (hz:l.length≤1000) (k:∀ out,Mde l out→P (out.map stpD)):∃ (ks:List (List Key)) (sh:List Bool),l.map stpD=ks.map keyT∧ks.length≤1000∧(∀ k∈ks,shOf k=true :: sh) ∧
  ∀ ms:List (List Key),ms.Nodup→(∀ k,k∈ms↔k∈ks)→(ms.Pairwise fun a b=>ltK b a=false)→P (ms.map keyT):=by
 refine ⟨l.map stpK,[false,true],by rw [List.map_map]; rfl,by simpa using hz,?_,fun ms nd mm pw=>?_⟩
 ·intro k hk
  obtain ⟨s,_,rfl⟩:=List.mem_map.mp hk
  rfl
 ·obtain ⟨out,rfl,ho⟩:=tK (P:=fun s=>s∈l) (ks:=ms) fun k hk=>by
   obtain ⟨s,hs,rfl⟩:=List.mem_map.mp ((mm k).mp hk)
   exact ⟨s,rfl,hs⟩
  have e:(out.map stpK).map keyT=out.map stpD:=by rw [List.map_map]; rfl
  rw [e]
  refine k out ⟨lJ nd,fun s=>⟨fun hm=>ho s hm,fun hm=>?_⟩,List.pairwise_map.mp pw⟩
  obtain ⟨s',hs',e⟩:=List.mem_map.mp ((mm (stpK s)).mpr (List.mem_map.mpr ⟨s,hm,rfl⟩))
  rw [← p7 e]; exact hs'
theorem wD {steps:List Stp} {i:Nat} {x:D} (h:(steps.map stpD)[i]? = some x):∃ p d r,x=.tup [.int p,.str d,.int r]∧(p,d,r)∈steps∧steps.take (i+1)=steps.take i++[(p,d,r)]:=by
 rw [List.getElem?_map] at h
 cases e:steps[i]? with
 | none=>rw [e] at h; cases h
 | some s =>
  rw [e] at h
  cases h
  obtain ⟨p,d,r⟩:=s
  exact ⟨p,d,r,rfl,List.mem_of_getElem? e,by rw [List.take_add_one,e]; rfl⟩
theorem zW {l:List Str} {i:Nat} {x:D} (h:(l.map D.str)[i]? = some x):∃ n,x=.str n∧n∈l∧l.take (i+1)=l.take i++[n]:=by
 rw [List.getElem?_map] at h
 cases e:l[i]? with
 | none=>rw [e] at h; cases h
 | some s =>
  rw [e] at h
  cases h
  exact ⟨s,rfl,List.mem_of_getElem? e,by rw [List.take_add_one,e]; rfl⟩
theorem bY {n:Str}:(decide (1≤n.length∧n.length≤6) && (sg n).all isLet)=true↔Open n:=by
 unfold Open lets
 simp only [Bool.and_eq_true,decide_eq_true_eq,List.all_eq_true]
 exact ⟨fun ⟨⟨a,b⟩,c⟩=>⟨a,b,c⟩,fun ⟨a,b,c⟩=>⟨⟨a,b⟩,c⟩⟩
noncomputable def hdF (f:Str→Option Str) (s:Stp):Stp:=(s.1,(f s.2.1).getD s.2.1,s.2.2)
theorem Bl {many:Int} {f:Str→Option Str} {s:Stp} (hf:∀ x y,f x=some y→Deed y) (h:StOk many s):StOk many (hdF f s):=by
 refine ⟨h.1,h.2.1,?_,h.2.2.2.1,h.2.2.2.2⟩
 show Deed ((f s.2.1).getD s.2.1)
 cases e:f s.2.1 with
 | none=>exact h.2.2.1
 | some y=>exact hf _ y e
theorem Mde.ok {many:Int} {l out:List Stp} (h:∀ s∈l,StOk many s) (M:Mde l out):∀ s∈out,StOk many s:=fun s hs=>h s ((M.2.1 s).mp hs)
theorem Mde.okF {many:Int} {f:Str→Option Str} {l out:List Stp} (hf:∀ x y,f x=some y→Deed y) (h:∀ s∈l,StOk many s) (M:Mde (l.map (hdF f)) out):∀ s∈out,StOk many s :=
 M.ok fun s hs=>by
  obtain ⟨t,ht,rfl⟩:=List.mem_map.mp hs
  exact Bl hf (h t ht)
theorem eq_m (many:Int) (l:List Stp):eqD (D.tup [.int many,.list (l.map stpD)]) (D.tup [.int many,.list (l.map stpD)])=true:=eq_self (nb_m many l)
theorem ok_m {many:Int} {l:List Stp} (h:∀ s∈l,StOk many s):okD 12 (D.tup [.int many,.list (l.map stpD)])=true:=m_ok 9 h
theorem vy {α β:Type} (f:α→β) (l:List α) (k:Nat) (y:α):insL (l.map f) k (f y)=(insL l k y).map f:=by
 unfold insL
 rw [List.map_append,List.map_cons,List.map_take,List.map_drop]
theorem ph {α:Type} (l:List α) (k:Nat) (y:α):(insL l k y).length=l.length+1:=by
 unfold insL
 rw [List.length_append,List.length_cons,List.length_take,List.length_drop]
 walk_at "l"
theorem vD {α:Type} (l:List α) (k:Nat) (y:α):y∈insL l k y:=List.mem_append_right _ List.mem_cons_self
theorem yC {α:Type} {l:List α} {k:Nat} (y:α) (h:k≤l.length):(insL l k y)[k]? = some y:=by
 unfold insL
 rw [List.getElem?_append_right (by rw [List.length_take]; walk_at "l"),List.length_take,Nat.min_eq_left h,Nat.sub_self]
 rfl
theorem sY {α:Type} {l:List α} {k:Nat} (y:α) (h:k≤l.length):(insL l k y).eraseIdx k=l:=by
 unfold insL
 rw [List.eraseIdx_append_of_length_le (by rw [List.length_take]; walk_at "l"),List.length_take,Nat.min_eq_left h,Nat.sub_self]
 exact List.take_append_drop k l
theorem BL {n:Nat} {l:List Str} (h:∀ x∈l,Open x):okD (n+1) (.list (l.map D.str))=true:=by
 simp only [okD,List.all_map,List.all_eq_true]
 intro s hs
 have:=Deed.ok (.inr (h s hs))
 cases n <;> simpa [okD] using this
theorem oX:∀ (l:List Str),nbs (l.map D.str)=true
 | []=>rfl
 | x :: l=>by simp [nbs,oX l,D.nb]
theorem Dy (l:List Str):eqD (.list (l.map D.str)) (.list (l.map D.str))=true:=eq_self (x:=.list (l.map D.str)) (oX l)
theorem pF {κ β:Type} [DecidableEq κ] (k k':κ) (v:β):∀ (kvs:List (κ × β)),getG (kvs.map fun kv=>if kv.1=k then (kv.1,v) else kv) k'=if k'=k then (getG kvs k').map (fun _=>v) else getG kvs k'
 | []=>by simp [getG]
 | p :: r=>by
  rw [List.map_cons,cQ,cQ,pF k k' v r]
  by_cases h:p.1=k
  ·rw [if_pos h]
   by_cases h2:k'=k
   ·subst h2; simp [h]
   ·have:¬ p.1=k':=fun z=>h2 (z.symm.trans h)
    simp [this,h2]
  ·rw [if_neg h]
   by_cases h2:k'=k
   ·subst h2; simp [h]
   ·simp [h2]
theorem mW {κ β:Type} [DecidableEq κ] (k k':κ) (v:β):∀ (kvs:List (κ × β)),getG (kvs++[(k,v)]) k'=(getG kvs k').or (if k=k' then some v else none)
 | []=>by rw [List.nil_append,cQ]; rfl
 | p :: r=>by
  rw [List.cons_append,cQ,cQ,mW k k' v r]
  split <;> simp
theorem mL {κ β:Type} [DecidableEq κ] (k k':κ) (v:β) (kvs:List (κ × β)):getG (putG kvs k v) k'=if k'=k then some v else getG kvs k':=by
 have ex:∀ kvs:List (κ × β),(kvs.any fun kv=>decide (kv.1=k))=(getG kvs k).isSome:=fun kvs=>by
  induction kvs with
  | nil=>rfl
  | cons p r ih =>
   rw [List.any_cons,cQ,ih]
   by_cases h:p.1=k <;> simp [h]
 unfold putG
 rw [ex kvs]
 cases e:getG kvs k with
 | none =>
  simp only [Option.isSome_none,Bool.false_eq_true,if_false]
  rw [mW]
  by_cases h:k'=k
  ·subst h; rw [e]; simp
  ·rw [if_neg h,if_neg fun z=>h z.symm]; simp
 | some u =>
  simp only [Option.isSome_some,if_true]
  rw [pF]
  by_cases h:k'=k
  ·subst h; rw [e]; simp
  ·rw [if_neg h,if_neg h]
noncomputable abbrev Pr:=Str × Str
noncomputable def prD (p:Pr):D:=.tup [.str p.1,.str p.2]
noncomputable def OkP (p:Pr):Prop:=Open p.1∧Open p.2
noncomputable def lk:List Pr→Str→Option Str
 | [],_=>none
 | p :: r,x=>if p.1=x then some p.2 else lk r x
theorem zG (a:List Pr) (p:Pr) (x:Str):lk (a++[p]) x=(lk a x).or (if p.1=x then some p.2 else none):=by
 induction a with
 | nil=>simp [lk]
 | cons q a ih =>
  simp only [List.cons_append,lk]
  by_cases h:q.1=x
  ·rw [if_pos h,if_pos h]; rfl
  ·rw [if_neg h,if_neg h,ih]
theorem jZ {ps:List Pr} (h:∀ p∈ps,OkP p) (x y:Str) (e:lk ps x=some y):Deed y:=by
 induction ps with
 | nil=>cases e
 | cons p ps ih =>
  simp only [lk] at e
  split at e
  ·cases e; exact .inr (h p List.mem_cons_self).2
  ·exact ih (fun q hq=>h q (List.mem_cons_of_mem _ hq)) e
theorem zZ {ps:List Pr} {i:Nat} {x:D} (h:(ps.map prD)[i]? = some x):∃ a b,x=.tup [.str a,.str b]∧(a,b)∈ps∧ps.take (i+1)=ps.take i++[(a,b)]:=by
 rw [List.getElem?_map] at h
 cases e:ps[i]? with
 | none=>rw [e] at h; cases h
 | some s =>
  rw [e] at h
  cases h
  obtain ⟨a,b⟩:=s
  exact ⟨a,b,rfl,List.mem_of_getElem? e,by rw [List.take_add_one,e]; rfl⟩
theorem oZ:∀ (l:List Pr),flats (l.map prD)=true
 | []=>rfl
 | x :: l=>by simp [flats,oZ l,prD,D.flat]
theorem sS:∀ (l:List Pr),nbs (l.map prD)=true
 | []=>rfl
 | x :: l=>by simp [nbs,sS l,prD,D.nb]
theorem zM (l:List Pr):eqD (.list (l.map prD)) (.list (l.map prD))=true:=eq_self (x:=.list (l.map prD)) (sS l)
theorem sJ {n:Nat} {l:List Pr} (h:∀ x∈l,OkP x):okD (n+2) (.list (l.map prD))=true:=by
 simp only [okD,List.all_map,List.all_eq_true]
 intro s hs
 have h1:=Deed.ok (.inr (h s hs).1)
 have h2:=Deed.ok (.inr (h s hs).2)
 simp [okD,prD,h1,h2]
noncomputable def iy:WS :=
 (wSeq (wIfS (wOr (wNot (wB (wUn (fIsi "str") (wVar 0)))) (wNot (wB (mV fLe fLe (wC (.int 1)) (wUn fLen (wVar 0)) (wC (.int 6))))))
 (wRet (wC (.bl false)))
 du)
 (wRet (wUn fAll (jP (vN (wVar 0)) (gN 0) wYes (wOp (fIn false) (wVar 0) (wC (.str "abcdefghijklmnopqrstuvwxyz"))) 1 []))))
theorem yR {c:Nat}:inS ⟨#[c]⟩ abc=isLet c:=by
 rw [yp]
 have:abc.cps.toList=(List.range 26).map (97 + ·):=j8
 rw [this]
 apply Bool.eq_iff_iff.mpr
 simp only [decide_eq_true_eq,isLet,List.mem_map,List.mem_range]
 constructor
 ·rintro ⟨i,hi,rfl⟩; walk_at "l"
 ·intro h; exact ⟨c - 97,by walk_at "l",by walk_at "l"⟩
noncomputable def bV:SpD:=fun ds Q=>∃ x:Str,ds=[.str x]∧Q .sh (.bl (decide (1≤x.length∧x.length≤6) && (sg x).all isLet))
theorem nR (ds Q) (h:bV ds Q):ds.length=["thing"].length:=by obtain ⟨_,rfl,_⟩:=h; rfl
theorem qX:∀ ds Q,bV ds Q→iy { nx:=fun _=>Q .sh .non,rt:=Q } (bK 1 ds):=by
 rintro ds Q ⟨x,rfl,h⟩
 unfold iy
 walk_at "q"
 refine R.F rfl ?_
 walk_at "q"
 refine R.D (fun h1=>?_) fun h1=>?_
 ·walk_at "q"
  refine R.B (fun h2=>?_) fun h2=>?_
  rotate_left
  ·have h2:x.length≤6:=by simp at h2; walk_at "l"
   walk_at "q"
   refine cT (fun _=>true) (fun d=>match d with
    | .str z=>.bl (inS z abc)
    | d=>d) (fun ρ=>∃ o,ρ=[o]) _ _ _ ⟨_,rfl⟩ ?_ ?_
   ·rintro y hy ρ ⟨o,rfl⟩ N1 N2 _ h2
    obtain ⟨c,hc,rfl⟩:=List.mem_map.mp hy
    walk_at "q"
    exact ⟨.inl rfl,h2 _ ⟨_,rfl⟩ rfl⟩
   ·rw [gU]
    refine ⟨(sg x).map isLet,?_,?_⟩
    ·unfold sgnD
     rw [List.map_map,List.map_map]
     refine List.map_congr_left fun c _=>?_
     show D.bl (inS ⟨#[c]⟩ abc)=_
     rw [yR]; rfl
    ·rw [decide_eq_true (by walk_at "l"),Bool.true_and] at h
     rw [List.all_map]
     exact h
  ·have h2:¬ x.length≤6:=by simp at h2; walk_at "l"
   walk_at "q"
   rw [decide_eq_false (by walk_at "l"),Bool.false_and] at h
   exact h
 ·walk_at "q"
  rw [decide_eq_false (by walk_at "l"),Bool.false_and] at h
  exact h
noncomputable def dw:WS :=
 (wSeq (wSet 2 (jP (lD (wOp fIx (wVar 0) (wC (.int 1)))) (gN 0) wYes (wTup (ak (wOp fIx (wVar 0) (wC (.int 0))) (ak (wGet (wVar 1) (wOp fIx (wVar 0) (wC (.int 1))) (wOp fIx (wVar 0) (wC (.int 1)))) (ak (wOp fIx (wVar 0) (wC (.int 2))) wNil)))) 1 [1]))
 (wRet (wTup (ak (wOp fIx (wVar 0) (wC (.int 0))) (ak (wUn cP (wVar 2)) wNil)))))
noncomputable def NwD (f:Str→Option Str) (kd:List (Key × D)):Prop:=∀ x:Str,getG kd (.inr x)=(f x).map D.str
noncomputable def bu:SpD:=fun ds Q=>∃ (many:Int) (l:List Stp) (f:Str→Option Str) (kd:List (Key × D)),ds=[mD many l,.dK kd]∧NwD f kd∧l.length≤1000∧∀ out,Mde (l.map (hdF f)) out→Q (.ow true) (mD many out)
theorem iV (ds Q) (h:bu ds Q):ds.length=["m", "new_deeds"].length:=by obtain ⟨_,_,_,_,rfl,_⟩:=h; rfl
theorem lV:∀ ds Q,bu ds Q→dw { nx:=fun _=>Q .sh .non,rt:=Q } (bK 3 ds):=by
 rintro ds Q ⟨many,l,f,kd,rfl,hk,hz,h⟩
 unfold dw mD
 walk_at "q"
 refine cT (fun _=>true) (fun x=>match x with
  | .tup [.int u,.str d,.int v]=>.tup [.int u,.str ((f d).getD d),.int v]
  | x=>x) (fun ρ=>∃ o,ρ=[o,some (.sh (.dK kd))]) _ _ _ ⟨_,rfl⟩ ?_ ?_
 ·rintro x hx ρ ⟨o,rfl⟩ N1 N2 n1 n2
  obtain ⟨⟨u,d,v⟩,hs,rfl⟩:=List.mem_map.mp hx
  unfold stpD
  walk_at "q"
  rw [hk d]
  have n3:=fun o=>n2 [o,some (.sh (.dK kd))] ⟨o,rfl⟩ rfl
  cases e:f d with
  | none =>
   simp only [stpD,e,Option.getD_none] at n3
   walk_at "q"
   exact ⟨.inl rfl,n3 _⟩
  | some z =>
   simp only [stpD,e,Option.getD_some] at n3
   walk_at "q"
   exact ⟨.inl rfl,n3 _⟩
 ·rw [gU]
  have e:(l.map stpD).map (fun x=>match x with
   | .tup [.int u,.str d,.int v]=>.tup [.int u,.str ((f d).getD d),.int v]
   | x=>x)=(l.map (hdF f)).map stpD:=by
   rw [List.map_map,List.map_map]
   rfl
  rw [e]
  exact oK (l:=l.map (hdF f)) (fun xs=>Q (.ow true) (.tup [.int many,.list xs])) (by simpa using hz) fun out M=>h out M
noncomputable def cH:WS :=
 (wSeq (wIfS (wB (wOp fLt (wVar 1) (wUn fLen (wVar 0))))
 (wRet (wOp fIx (wVar 0) (wVar 1)))
 du)
 (wRet (wC (.int 0))))
noncomputable def aB:SpD:=fun ds Q=>∃ (ns:List Int) (k:Int),ds=[.list (ns.map .int),.int k]∧0≤k∧Q .sh (.int (ns.getD k.toNat 0))
theorem gF (ds Q) (h:aB ds Q):ds.length=["_law_script", "_law_k"].length:=by obtain ⟨_,_,rfl,_⟩:=h; rfl
theorem ji:∀ ds Q,aB ds Q→cH { nx:=fun _=>Q .sh .non,rt:=Q } (bK 2 ds):=by
 rintro ds Q ⟨ns,k,rfl,hk,h⟩
 unfold cH
 walk_at "q"
 refine R.D (fun hl=>?_) fun hl=>?_
 ·walk_at "q"
  have hn:k.toNat<ns.length:=by walk_at "l"
  refine ⟨.int ns[k.toNat],?_,?_⟩
  ·have:=atI_nat (xs:=ns.map D.int) (j:=k.toNat) (v:=.int ns[k.toNat]) (by simp [hn])
   rwa [Int.toNat_of_nonneg hk] at this
  ·show Q .sh _; simpa [List.getD,hn] using h
 ·walk_at "q"
  have:ns.getD k.toNat 0=0:=by
   have:ns.length≤k.toNat:=by walk_at "l"
   simp [List.getD,List.getElem?_eq_none this]
  rwa [this] at h
noncomputable def dI:WS :=
 (wSeq (wSet 2 (wC (.str "abcdefghijklmnopqrstuvwxyz")))
 (wSeq (wSet 3 (wOp fAdd (wC (.int 1)) (wOp fMod (wVar 0) (wC (.int 6)))))
 (wSeq (wSet 0 (wOp fDiv (wVar 0) (wC (.int 6))))
 (wSeq (wSet 4 (wLst wNil))
 (wSeq (wFor (iw (wVar 3)) (gN 5)
 (wSeq (wApp (wpN 4) (wOp fMod (wVar 0) (wC (.int 26))))
 (wSet 0 (wOp fDiv (wVar 0) (wC (.int 26))))))
 (wSeq (wSet 6 (pL (wC (.str "")) (jP (lD (wVar 4)) (gN 0) wYes (wOp fIx (wVar 1) (wVar 0)) 1 [2])))
 (wSeq (wIfS (wB (wOp fEq (wOp fMod (wOp fDiv (wVar 1) (wC (.int 6))) (wC (.int 3))) (wC (.int 1))))
 (wRet (jP (qi (wC (.int 1)) (wC (.int 7))) (gN 0) wYes (wSl (wOp uG (wC (.int 6)) (wVar 1)) fW (iI (wVar 0))) 1 [6]))
 du)
 (wSeq (wSet 7 (wOp fMod (wVar 1) (wVar 3)))
 (wSeq (wSet 8 (wLst wNil))
 (wSeq (wFor (iw (wC (.int 6))) (gN 5)
 (wSeq (wSet 9 (wOp fIx (wVar 2) (wOp fMod (wOp fAdd (wOp fIx (wVar 4) (wVar 7)) (wOp fMul (wC (.int 5)) (wVar 5))) (wC (.int 26)))))
 (wApp (wpN 8) (wOp fAdd (wOp fAdd (wSl (wVar 6) fW (iI (wVar 7))) (wVar 9)) (wSl (wVar 6) (iI (wOp fAdd (wVar 7) (wC (.int 1)))) fW)))))
 (t6 8)))))))))))
theorem pN {n d:Nat} {k:Int} (h0:0≤k) (h1:k≤n):HT.sIx n d (some k)=k.toNat:=by
 simp only [HT.sIx]
 rw [if_neg (by walk_at "l")]
 walk_at "l"
theorem uc {x:Str} {k:Int} (h0:0≤k) (h1:k≤x.length):(cutS x none (some k)).length=k.toNat:=by
 unfold cutS Str.length at *
 simp only [List.size_toArray,List.length_take,List.length_drop,Array.length_toList]
 rw [pN h0 (by simpa using h1)]
 simp [HT.sIx]
 walk_at "l"
theorem yW {x:Str} {k:Int} (h0:0≤k) (h1:k≤x.length):(cutS x (some k) none).length=x.length - k.toNat:=by
 unfold cutS Str.length at *
 simp only [List.size_toArray,List.length_take,List.length_drop,Array.length_toList]
 rw [pN h0 (by simpa using h1)]
 simp [HT.sIx]
theorem vg {n:Int} {z:Str} (h:lets z):lets (repS n z):=fun c hc=>by
 unfold repS sg at hc
 rw [List.toList_toArray] at hc
 obtain ⟨l,hl,hcl⟩:=List.mem_flatten.mp hc
 rw [List.eq_of_mem_replicate hl] at hcl
 exact h c hcl
theorem jw:∀ (l:List Str),gY (l.map D.str)=some l
 | []=>rfl
 | x :: l=>by simp [gY,jw l]
theorem wQ {p:Int} (h0:0≤p) (h1:p<26):atI (sg abc) p=some (97+p.toNat):=by
 have:atI (sg abc) ((p.toNat:Nat):Int)=some (97+p.toNat):=atI_nat (by
  rw [j8]
  have:p.toNat<26:=by walk_at "l"
  simp [this])
 rwa [Int.toNat_of_nonneg h0] at this
theorem gA:∀ l:List Nat,sg (Str.join "" (l.map fun c=>(⟨#[c]⟩:Str)))=l
 | []=>by decide +kernel
 | [c]=>rfl
 | c :: d :: l=>by
  have ih:=gA (d :: l)
  show sg ((⟨#[c]⟩:Str) ++ "" ++ Str.join "" ((d :: l).map fun c=>(⟨#[c]⟩:Str)))=_
  rw [mF,mF,ih,show sg ("" : Str)=[] by decide +kernel]
  rfl
theorem o_:∀ l:List Nat,(l.map fun _=>1).sum=l.length
 | []=>rfl
 | x :: l=>by simp [o_ l]; walk_at "l"
noncomputable def bj:SpD:=fun ds Q=>∃ c t:Int,ds=[.int c,.int t]∧∀ names:List Str,names.length=6→(∀ n∈names,Open n)→Q (.ow true) (.list (names.map .str))
theorem jm (ds Q) (h:bj ds Q):ds.length=["_law_cell", "_law_turn"].length:=by obtain ⟨_,_,rfl,_⟩:=h; rfl
theorem l_:∀ ds Q,bj ds Q→dI { nx:=fun _=>Q .sh .non,rt:=Q } (bK 10 ds):=by
 rintro ds Q ⟨c,t,rfl,h⟩
 unfold dI
 walk_at "q"
 have s0:=Int.emod_nonneg c (show (6:Int)≠0 by decide)
 have s1:=Int.emod_lt_of_pos c (show (0:Int)<6 by decide)
 generalize hsz:1+c % 6=size at *
 refine ⟨by walk_at "l",by walk_at "l",?_⟩
 refine cU _ (fun i ρ=>∃ (cc:Int) (ps:List Int) (o:Option Sl),ps.length=i∧(∀ p∈ps,0≤p∧p<26)∧ρ=[some (.sh (.int cc)),some (.sh (.int t)),some (.sh (.str abc)),some (.sh (.int size)),some (.ow true (.list (ps.map .int))),o,none,none,none,none]) ⟨_,[],_,rfl,(fun p hp=>nomatch hp),rfl⟩ ?_ ?_
 ·rintro i x ρ hx ⟨cc,ps,o,hl,hp,rfl⟩ N hN
  obtain ⟨hi,rfl⟩:=kY hx
  walk_at "q"
  refine ⟨by walk_at "l",?_⟩
  rw [ints_app]
  refine hN _ ⟨_,ps++[cc % 26],_,by simp [hl],fun p hp'=>?_,rfl⟩
  rcases List.mem_append.mp hp' with h' | h'
  ·exact hp p h'
  ·rw [List.mem_singleton.mp h']
   exact ⟨Int.emod_nonneg _ (by decide),Int.emod_lt_of_pos _ (by decide)⟩
 rintro ρ ⟨cc,ps,o,hl,hp,rfl⟩
 rw [j0] at hl
 walk_at "q"
 have e0:(Str.ofString "").length=0:=by decide
 refine cT (fun _=>true) (fun d=>match d with
  | .int p=>.str ⟨#[97+p.toNat]⟩
  | d=>d) (fun ρ=>∃ o,ρ=[o,some (.sh (.str abc))]) _ _ _ ⟨_,rfl⟩ ?_ ?_
 ·rintro y hy ρ ⟨o,rfl⟩ N1 N2 _ h2
  obtain ⟨p,hp',rfl⟩:=List.mem_map.mp hy
  walk_at "q"
  exact ⟨_,wQ (hp p hp').1 (hp p hp').2,.inl rfl,h2 _ ⟨_,rfl⟩ rfl⟩
 rw [gU]
 refine ⟨(ps.map fun p=>97+p.toNat).map fun c=>⟨#[c]⟩,?_,?_,?_⟩
 ·rw [List.map_map,← jw,List.map_map,List.map_map]; rfl
 ·rw [e0,List.map_map,Nat.mul_zero,Nat.add_zero]
  show ((ps.map fun p=>97+p.toNat).map fun _=>1).sum≤_
  rw [o_,List.length_map]; walk_at "l"
 have hw:=gA (ps.map fun p=>97+p.toNat)
 generalize Str.join "" ((ps.map fun p=>97+p.toNat).map fun c=>(⟨#[c]⟩:Str))=word at hw ⊢
 have wl:word.length=size.toNat:=by
  have:(sg word).length=size.toNat:=by rw [hw,List.length_map,hl]
  rw [← this]; unfold sg Str.length; simp
 have wlet:lets word:=fun ch hc=>by
  rw [hw] at hc
  obtain ⟨p,hp',rfl⟩:=List.mem_map.mp hc
  have:=hp p hp'
  simp [isLet]; walk_at "l"
 refine R.D (fun _=>?_) fun _=>?_
 ·walk_at "q"
  refine cT (fun _=>true) (fun d=>match d with
   | .int k=>.str (cutS (repS 6 word) none (some k))
   | d=>d) (fun ρ=>∃ o,ρ=[o,some (.sh (.str word))]) _ _ _ ⟨_,rfl⟩ ?_ ?_
  ·rintro y hy ρ ⟨o,rfl⟩ N1 N2 _ h2
   obtain ⟨i,hi,rfl⟩:=ql hy
   walk_at "q"
   exact ⟨by walk_at "l",.inl rfl,h2 _ ⟨_,rfl⟩ rfl⟩
  ·rw [gU]
   have e6:(List.map (fun d=>match d with
    | .int k=>D.str (cutS (repS 6 word) none (some k))
    | d=>d) (fZ 1 6))=((List.range 6).map fun i=>cutS (repS 6 word) none (some (1+(i:Nat):Int))).map D.str:=by
    unfold fZ
    rw [List.map_map,List.map_map]
    rfl
   rw [e6]
   refine h _ (by simp) fun n hn=>?_
   obtain ⟨i,hi,rfl⟩:=List.mem_map.mp hn
   have hi:i<6:=by simpa using hi
   have l1:(cutS (repS 6 word) none (some (1+(i:Nat):Int))).length=(1+(i:Int)).toNat:=uc (by walk_at "l") (by rw [oU,wl]; simp; walk_at "l")
   exact ⟨by rw [l1]; walk_at "l",by rw [l1]; walk_at "l",jJ (vg wlet) _ _⟩
 ·walk_at "q"
  refine ⟨by walk_at "l",?_⟩
  have a0:=Int.emod_nonneg t (show size≠0 by walk_at "l")
  have a1:=Int.emod_lt_of_pos t (show 0<size by walk_at "l")
  generalize t % size=at' at *
  have l1:(cutS word none (some at')).length=at'.toNat:=uc a0 (by walk_at "l")
  have l2:(cutS word (some (at'+1)) none).length=word.length - (at'+1).toNat:=yW (by walk_at "l") (by walk_at "l")
  refine cU _ (fun i ρ=>∃ (names:List Str) (o5 o9:Option Sl),names.length=i∧(∀ n∈names,Open n)∧ρ=[some (.sh (.int cc)),some (.sh (.int t)),some (.sh (.str abc)),some (.sh (.int size)),some (.ow true (.list (ps.map .int))),o5,some (.sh (.str word)),some (.sh (.int at')),some (.ow true (.list (names.map .str))),o9]) ⟨[],_,_,rfl,(fun n hn=>nomatch hn),rfl⟩ ?_ ?_
  ·rintro i x ρ hx ⟨names,o5,o9,hn,hd,rfl⟩ N hN
   obtain ⟨hi,rfl⟩:=kY hx
   have hi:i<6:=hi
   walk_at "q"
   have hat:at'.toNat<ps.length:=by walk_at "l"
   refine ⟨.int ps[at'.toNat],?_,?_⟩
   ·have:=atI_nat (xs:=ps.map D.int) (j:=at'.toNat) (v:=.int ps[at'.toNat]) (by simp [hat])
    rwa [Int.toNat_of_nonneg a0] at this
   walk_at "q"
   obtain ⟨ch,ec,lc⟩:=xU (ps[at'.toNat]+5 * (0+(i:Int)))
   refine ⟨.inl ⟨by walk_at "l",by walk_at "l"⟩,ch,ec,?_⟩
   refine ⟨by rw [l1,dX]; walk_at "l",by rw [l1,l2,dX]; walk_at "l",by walk_at "l",?_⟩
   rw [vL]
   refine hN _ ⟨names++[_],_,_,by simp [hn],fun n hn'=>?_,rfl⟩
   rcases List.mem_append.mp hn' with h' | h'
   ·exact hd n h'
   ·obtain rfl:n=_:=by simpa using h'
    refine ⟨?_,?_,p_ (p_ (jJ wlet _ _) (uO lc)) (jJ wlet _ _)⟩
    ·rw [bC,bC,l1,l2,dX]; walk_at "l"
    ·rw [bC,bC,l1,l2,dX]; walk_at "l"
  ·rintro ρ ⟨names,o5,o9,hn,hd,rfl⟩
   rw [j0] at hn
   walk_at "q"
   exact h names hn hd
noncomputable def dC:WS :=
 (wSeq (wSet 3 (wLst wNil))
 (wSeq (wFor (iw (wUn fLen (wVar 0))) (gN 4)
 (wSeq (wSet 5 (wOp fMod (wOp fMul (wOp fAdd (wOp fMod (wOp fIx (wVar 0) (wVar 4)) (wC (.int 2147483647))) (wC (.int 1))) (wOp fAdd (wC (.int 48271)) (wOp fMul (wC (.int 7)) (wVar 4)))) (wC (.int 2147483647))))
 (wSeq (wSet 6 (wOp fIx (wVar 2) (wOp fMod (wOp fDiv (wVar 5) (wVar 1)) (wUn fLen (wVar 2)))))
 (wFrz 6 (wApp (wpN 3) (wTup (ak (wOp fMod (wVar 5) (wVar 1)) (ak (wVar 6) (ak (wOp fMod (wOp fDiv (wVar 5) (wOp fMul (wVar 1) (wUn fLen (wVar 2)))) (wVar 1)) wNil)))))))))
 (t6 3)))
noncomputable def aM:SpD:=fun ds Q=>∃ (cells:List Int) (many:Int) (names:List Str),ds=[.list (cells.map .int),.int many,.list (names.map .str)]∧cells.length≤200∧1≤many∧many≤20∧1≤names.length∧names.length≤20∧(∀ n∈names,Deed n)∧∀ l:List Stp,(∀ s∈l,StOk many s)→l.length=cells.length→Q (.ow true) (.list (l.map stpD))
theorem jj (ds Q) (h:aM ds Q):ds.length=["_law_cells", "_law_many", "_law_deeds_here"].length:=by obtain ⟨_,_,_,rfl,_⟩:=h; rfl
theorem lG:∀ ds Q,aM ds Q→dC { nx:=fun _=>Q .sh .non,rt:=Q } (bK 7 ds):=by
 rintro ds Q ⟨cells,many,names,rfl,hc,m1,m2,n1,n2,hd,h⟩
 unfold dC
 walk_at "q"
 refine ⟨by walk_at "l",by walk_at "l",?_⟩
 refine cU _ (fun i ρ=>∃ (l:List Stp) (o4 o5 o6:Option Sl),(∀ s∈l,StOk many s)∧l.length=i∧ρ=[some (.sh (.list (cells.map .int))),some (.sh (.int many)),some (.sh (.list (names.map .str))),some (.ow true (.list (l.map stpD))),o4,o5,o6]) ⟨[],_,_,_,(fun s hs=>nomatch hs),rfl,rfl⟩ ?_ ?_
 ·rintro i x ρ hx ⟨l,o4,o5,o6,hs,hl,rfl⟩ N hN
  obtain ⟨hi,rfl⟩:=kY hx
  have hi:i<cells.length:=by walk_at "l"
  walk_at "q"
  have e0:atI (cells.map D.int) (0+(i:Int))=some (.int cells[i]):=by
   have:=atI_nat (xs:=cells.map D.int) (j:=i) (v:=.int cells[i]) (by simp [hi])
   rwa [Int.zero_add]
  refine ⟨_,e0,?_⟩
  walk_at "q"
  have c0:=Int.emod_nonneg cells[i] (show (2147483647:Int)≠0 by decide)
  have c1:=Int.emod_lt_of_pos cells[i] (show (0:Int)<2147483647 by decide)
  refine ⟨.inl ⟨by walk_at "l",by walk_at "l"⟩,.inl ⟨by walk_at "l",by walk_at "l"⟩,⟨by walk_at "l",by walk_at "l"⟩,by walk_at "l",?_⟩
  generalize (cells[i] % 2147483647+1) * (48271+7 * (0+(i:Int))) % 2147483647=num
  obtain ⟨n,hn,e⟩:=name_mod (num / many) n1
  refine ⟨.str n,e,?_⟩
  walk_at "q"
  have b1:=Int.emod_nonneg num (show many≠0 by walk_at "l")
  have b2:=Int.emod_lt_of_pos num (show 0<many by walk_at "l")
  have b3:=Int.emod_nonneg (num / (many * (names.length:Int))) (show many≠0 by walk_at "l")
  have b4:=Int.emod_lt_of_pos (num / (many * (names.length:Int))) (show 0<many by walk_at "l")
  have b5:many * (names.length:Int)≤20 * 20:=Int.mul_le_mul m2 (by walk_at "l") (by walk_at "l") (by walk_at "l")
  have b6:0<many * (names.length:Int):=Int.mul_pos (by walk_at "l") (by walk_at "l")
  refine ⟨by walk_at "l",.inl ⟨by walk_at "l",by walk_at "l"⟩,⟨b6,by walk_at "l"⟩,by walk_at "l",by walk_at "l",?_⟩
  rw [show l.map stpD++[D.tup [D.int (num % many),D.str n,D.int (num / (many * (names.length:Int)) % many)]]=(l++[((num % many,n,num / (many * (names.length:Int)) % many):Stp)]).map stpD by simp [stpD]]
  refine hN _ ⟨_,_,_,_,fun s hs'=>?_,by simp [hl],rfl⟩
  rcases List.mem_append.mp hs' with h' | h'
  ·exact hs s h'
  ·rw [List.mem_singleton.mp h']
   exact ⟨b1,b2,hd n hn,b3,b4⟩
 ·rintro ρ ⟨l,o4,o5,o6,hs,hl,rfl⟩
  rw [j0] at hl
  walk_at "q"
  exact h l hs (by walk_at "l")
noncomputable def dD:WS :=
 (wRet (qy (wUn (fIsi "int") (wVar 0)) (vJ (wUn (fIsi "bool") (wVar 0)))))
noncomputable def aQ:SpD:=fun ds Q=>∃ i:Int,ds=[.int i]∧Q .sh (.bl true)
theorem iY (ds Q) (h:aQ ds Q):ds.length=["_law_found"].length:=by obtain ⟨_,rfl,_⟩:=h; rfl
theorem mX:∀ ds Q,aQ ds Q→dD { nx:=fun _=>Q .sh .non,rt:=Q } (bK 1 ds):=by
 rintro ds Q ⟨i,rfl,h⟩
 unfold dD
 walk_at "q"
 refine R.T rfl ?_
 walk_at "q"
 exact h
noncomputable def fV:WS :=
 (wSeq (wSet 2 (wLst wNil))
 (wSeq (wFrz 0 (wFor (gw (wOp fIx (wVar 0) (wC (.int 1)))) (gT 3 (fu (gN 3) (fu (gN 4) (fu (gN 5) qP))))
 (wSeq (wFrz 4 (wSet 6 (wVar 4)))
 (wSeq (wFrz 1 (wFor (yV (wVar 1)) (gT 2 (fu (gN 7) (fu (gN 8) qP)))
 (wIfS (wB (wOp fEq (wVar 7) (wVar 4)))
 (wFrz 8 (wSet 6 (wVar 8)))
 du)))
 (wFrz 5 (wFrz 6 (wFrz 3 (wApp (wpN 2) (wTup (ak (wVar 3) (ak (wVar 6) (ak (wVar 5) wNil))))))))))))
 (wRet (wTup (ak (wOp fIx (wVar 0) (wC (.int 0))) (ak (wUn cP (wVar 2)) wNil))))))
noncomputable def bA:SpD:=fun ds Q=>∃ (many:Int) (l:List Stp) (ps:List Pr),ds=[mD many l,.list (ps.map prD)]∧l.length≤1000∧∀ out,Mde (l.map (hdF (lk ps))) out→Q (.ow true) (mD many out)
theorem lX (ds Q) (h:bA ds Q):ds.length=["_law_m", "_law_pairs"].length:=by obtain ⟨_,_,_,rfl,_⟩:=h; rfl
theorem qw:∀ ds Q,bA ds Q→fV { nx:=fun _=>Q .sh .non,rt:=Q } (bK 9 ds):=by
 rintro ds Q ⟨many,l,ps,rfl,hz,h⟩
 unfold fV mD
 walk_at "q"
 refine cU _ (fun i ρ=>∃ (o3 o4 o5 o6 o7 o8:Option Sl),ρ=[some (.sh (.tup [.int many,.list (l.map stpD)])),some (.sh (.list (ps.map prD))),some (.ow true (.list (((l.take i).map (hdF (lk ps))).map stpD))),o3,o4,o5,o6,o7,o8]) ⟨_,_,_,_,_,_,rfl⟩ ?_ ?_
 ·rintro i x ρ hx ⟨o3,o4,o5,o6,o7,o8,rfl⟩ N hN
  have hi:=(List.getElem?_eq_some_iff.mp hx).1
  rw [List.length_map] at hi
  obtain ⟨p,d,r,rfl,ht,et⟩:=wD hx
  walk_at "q"
  have hl:(l.take i).length≤1000:=by rw [List.length_take]; walk_at "l"
  rw [← List.map_reverse]
  refine cU _ (fun j ρ=>∃ (o7 o8:Option Sl),ρ=[some (.sh (.tup [.int many,.list (l.map stpD)])),some (.sh (.list (ps.map prD))),some (.ow true (.list (((l.take i).map (hdF (lk ps))).map stpD))),some (.sh (.int p)),some (.sh (.str d)),some (.sh (.int r)),some (.sh (.str ((lk (ps.reverse.take j).reverse d).getD d))),o7,o8]) ⟨_,_,rfl⟩ ?_ ?_
  ·rintro j x ρ hx ⟨o7,o8,rfl⟩ N2 hN2
   obtain ⟨a,b,rfl,hm,et2⟩:=zZ hx
   walk_at "q"
   rw [et2,List.reverse_append,List.reverse_singleton,List.singleton_append,lk] at hN2
   refine R.D (fun e=>?_) fun e=>?_
   ·rw [if_pos e] at hN2
    walk_at "q"
    exact hN2 _ ⟨_,_,rfl⟩
   ·rw [if_neg e] at hN2
    walk_at "q"
    exact hN2 _ ⟨_,_,rfl⟩
  ·rintro ρ ⟨o7,o8,rfl⟩
   rw [List.length_map,List.take_length,List.reverse_reverse]
   walk_at "q"
   have e:((l.take i).map (hdF (lk ps))).map stpD++[D.tup [.int p,.str ((lk ps d).getD d),.int r]]=((l.take (i+1)).map (hdF (lk ps))).map stpD:=by
    rw [et,List.map_append,List.map_append]; rfl
   rw [e]
   exact ⟨by walk_at "l",hN _ ⟨_,_,_,_,_,_,rfl⟩⟩
 ·rintro ρ ⟨o3,o4,o5,o6,o7,o8,rfl⟩
  rw [List.length_map,List.take_length]
  walk_at "q"
  exact oK (l:=l.map (hdF (lk ps))) (fun xs=>Q (.ow true) (.tup [.int many,.list xs])) (by simpa using hz) fun out M=>h out M
noncomputable def cC:WS :=
 (wSeq (wSet 2 (wLst (ak (wC (.str "*")) (ak (wC (.str "")) (ak (wC (.str "A")) (ak (wC (.str "a b")) (ak (wC (.str "a1")) (ak (wC (.str "abcdefg")) (ak (wC (.str " a")) (ak (wC (.str "a*")) (ak (wOp fAdd (wOp fIx (wVar 1) (wC (.int 0))) (wC (.str " "))) (ak (wUn ur (wOp fIx (wVar 1) (wC (.int 1)))) (ak (wOp fAdd (wOp fIx (wVar 1) (wC (.int 2))) (wC (.str "aaaaaa"))) wNil)))))))))))))
 (wRet (wOp fIx (wVar 2) (wOp fMod (wVar 0) (wC (.int 11))))))
noncomputable def aY:SpD:=fun ds Q=>∃ (c:Int) (pool:List Str),ds=[.int c,.list (pool.map .str)]∧pool.length=6∧(∀ n∈pool,Open n)∧∀ x:Str,¬ Open x→Q .sh (.str x)
theorem gH (ds Q) (h:aY ds Q):ds.length=["_law_cell", "_law_pool"].length:=by obtain ⟨_,_,rfl,_⟩:=h; rfl
theorem Aq:∀ i:_root_.Fin 26,Unicode.upperOf (97+i.val)=[65+i.val]:=by decide +kernel
theorem zq {x:Str} (h:Open x):¬ Open (Txt.upper x):=by
 intro z
 have hl:0<x.cps.size:=h.1
 have hc:=h.2.2 x.cps[0] (by unfold sg; exact Array.mem_toList_iff.mpr (Array.getElem_mem hl))
 have hr:97≤x.cps[0]∧x.cps[0]≤122:=by simpa [isLet] using hc
 have e:Unicode.upperOf x.cps[0]=[65+(x.cps[0] - 97)]:=by
  have:=Aq ⟨x.cps[0] - 97,by walk_at "l"⟩
  rwa [show 97+(x.cps[0] - 97)=x.cps[0] by walk_at "l"] at this
 have hm:65+(x.cps[0] - 97)∈sg (Txt.upper x):=by
  unfold sg Txt.upper placed
  rw [Array.mem_toList_iff,Array.mem_flatten]
  refine ⟨(Unicode.upperOf x.cps[0]).toArray,?_,by rw [e]; simp⟩
  exact Array.mem_iff_getElem.mpr ⟨0,by simpa using hl,by simp⟩
 have:=z.2.2 _ hm
 simp [isLet] at this
 walk_at "l"
theorem iT:∀ ds Q,aY ds Q→cC { nx:=fun _=>Q .sh .non,rt:=Q } (bK 3 ds):=by
 rintro ds Q ⟨c,pool,rfl,hp,ho,h⟩
 unfold cC
 walk_at "q"
 match pool,hp with
 | [p0,p1,p2,p3,p4,p5],_ =>
  have o0:=ho p0 (by simp)
  have o1:=ho p1 (by simp)
  have o2:=ho p2 (by simp)
  refine ⟨.str p0,rfl,?_⟩
  walk_at "q"
  have l0:=o0.2.1
  have l1:=o1.2.1
  have l2:=o2.2.1
  refine ⟨?_,by walk_at "l",?_,?_⟩
  ·rw [show (Str.ofString " ").length=1 from by decide +kernel]; walk_at "l"
  ·rw [show (Str.ofString "aaaaaa").length=6 from by decide +kernel]; walk_at "l"
  have h11:=Int.emod_nonneg c (show (11:Int)≠0 by decide)
  have h11':=Int.emod_lt_of_pos c (show (0:Int)<11 by decide)
  obtain ⟨x,hx,e⟩:=t7 (names:=["*", "", "A", "a b", "a1", "abcdefg", " a", "a*",p0 ++ " ",Txt.upper p1,p2 ++ "aaaaaa"]) (i:=c % 11) h11 (by simpa using h11')
  refine ⟨.str x,e,h x ?_⟩
  simp only [List.mem_cons,List.not_mem_nil,or_false] at hx
  rcases hx with rfl | rfl | rfl | rfl | rfl | rfl | rfl | rfl | rfl | rfl | rfl
  ·exact fun z=>absurd (bY.mpr z) (by decide +kernel)
  ·exact fun z=>absurd (bY.mpr z) (by decide +kernel)
  ·exact fun z=>absurd (bY.mpr z) (by decide +kernel)
  ·exact fun z=>absurd (bY.mpr z) (by decide +kernel)
  ·exact fun z=>absurd (bY.mpr z) (by decide +kernel)
  ·exact fun z=>absurd (bY.mpr z) (by decide +kernel)
  ·exact fun z=>absurd (bY.mpr z) (by decide +kernel)
  ·exact fun z=>absurd (bY.mpr z) (by decide +kernel)
  ·intro z
   have:=z.2.2 32 (by rw [mF]; exact List.mem_append_right _ (by decide +kernel))
   exact absurd this (by decide)
  ·exact zq o1
  ·intro z
   have:=z.2.1
   have:=o2.1
   rw [bC,show (Str.ofString "aaaaaa").length=6 from by decide +kernel] at *
   walk_at "l"
noncomputable def dG:WS :=
 (wFrz 0 (wFor (gw (wVar 0)) (gN 1)
 (wIfS (wNot (wB (b_ bV (ak (wVar 1) wNil))))
 (t_ "NoDeed" (wC (.str "a deed that is not open")))
 du)))
noncomputable def bh:SpD:=fun ds Q=>∃ names:List Str,ds=[.list (names.map .str)]∧((∀ n∈names,Open n)→Q .sh .non)∧((∃ n,n∈names∧¬ Open n)→Q (.ow false) (.str "NoDeed"))
theorem jh (ds Q) (h:bh ds Q):ds.length=["deeds"].length:=by obtain ⟨_,rfl,_⟩:=h; rfl
theorem lU:∀ ds Q,bh ds Q→dG { nx:=fun _=>Q .sh .non,rt:=Q } (bK 2 ds):=by
 rintro ds Q ⟨names,rfl,h1,h2⟩
 unfold dG
 walk_at "q"
 refine cU _ (fun i ρ=>∃ o,(∀ n∈names.take i,Open n)∧ρ=[some (.sh (.list (names.map .str))),o]) ⟨_,by simp,rfl⟩ ?_ ?_
 ·rintro i x ρ hx ⟨o,ho,rfl⟩ N hN
  obtain ⟨n,rfl,hn,et⟩:=zW hx
  walk_at "q"
  refine ⟨n,rfl,?_⟩
  walk_at "q"
  by_cases hp:Open n
  ·rw [bY.mpr hp]
   walk_at "q"
   refine hN _ ⟨_,fun m hm=>?_,rfl⟩
   rw [et] at hm
   rcases List.mem_append.mp hm with hm | hm
   ·exact ho m hm
   ·have:m=n:=by simpa using hm
    rw [this]; exact hp
  ·rw [Bool.eq_false_iff.mpr fun z=>hp (bY.mp z)]
   walk_at "q"
   exact h2 ⟨n,hn,hp⟩
 ·rintro ρ ⟨o,ho,rfl⟩
  rw [List.length_map,List.take_length] at ho
  walk_at "q"
  exact h1 ho
noncomputable def bU:WS :=
 (wSeq (wIfS (wOr (wNot (wB (wUn (fIsi "tuple") (wVar 0)))) (wOr (wB (wOp fNe (wUn fLen (wVar 0)) (wC (.int 2)))) (wNot (wB (b_ aQ (ak (wOp fIx (wVar 0) (wC (.int 0))) wNil))))))
 (wRet (wC (.bl false)))
 du)
 (wSeq (wIfS (wNot (wB (wUn (fIsi "list") (wOp fIx (wVar 0) (wC (.int 1))))))
 (wRet (wC (.bl false)))
 du)
 (wSeq (wFrz 0 (wFor (gw (wOp fIx (wVar 0) (wC (.int 1)))) (gN 1)
 (wSeq (wIfS (wOr (wNot (wB (wUn (fIsi "tuple") (wVar 1)))) (wOr (wB (wOp fNe (wUn fLen (wVar 1)) (wC (.int 3)))) (wNot (wB (wUn (fIsi "str") (wOp fIx (wVar 1) (wC (.int 1))))))))
 (wRet (wC (.bl false)))
 du)
 (wIfS (wOr (wNot (wB (b_ aQ (ak (wOp fIx (wVar 1) (wC (.int 0))) wNil)))) (wNot (wB (b_ aQ (ak (wOp fIx (wVar 1) (wC (.int 2))) wNil)))))
 (wRet (wC (.bl false)))
 du))))
 (wRet (wC (.bl true))))))
noncomputable def aF:SpD:=fun ds Q=>∃ (many:Int) (l:List Stp),ds=[mD many l]∧Q .sh (.bl true)
theorem eF (ds Q) (h:aF ds Q):ds.length=["_law_found"].length:=by obtain ⟨_,_,rfl,_⟩:=h; rfl
theorem gf:∀ ds Q,aF ds Q→bU { nx:=fun _=>Q .sh .non,rt:=Q } (bK 2 ds):=by
 rintro ds Q ⟨many,l,rfl,h⟩
 unfold bU mD
 walk_at "q"
 refine R.F (by decide) ?_
 walk_at "q"
 refine R.F (by decide) ?_
 walk_at "q"
 refine ⟨many,rfl,?_⟩
 walk_at "q"
 refine R.F (by decide) ?_
 walk_at "q"
 refine cU _ (fun i ρ=>∃ o:Option Sl,ρ=[some (.sh (.tup [.int many,.list (l.map stpD)])),o]) ⟨_,rfl⟩ ?_ ?_
 ·rintro i x ρ hx ⟨o,rfl⟩ N hN
  obtain ⟨p,d,r,rfl,_,_⟩:=wD hx
  walk_at "q"
  refine R.F (by decide) ?_
  walk_at "q"
  refine R.F (by decide) ?_
  walk_at "q"
  refine R.F (by decide) ?_
  walk_at "q"
  refine ⟨p,rfl,?_⟩
  walk_at "q"
  refine ⟨r,rfl,?_⟩
  walk_at "q"
  exact hN _ ⟨_,rfl⟩
 ·rintro ρ ⟨o,rfl⟩
  walk_at "q"
  exact h
noncomputable def cX:WS :=
 (wSeq (wSet 2 (b_ aY (ak (wOp fDiv (wVar 0) (wC (.int 12))) (ak (wVar 1) wNil))))
 (wSeq (wIfS (wB (wOp fEq (wOp fMod (wVar 0) (wC (.int 2))) (wC (.int 1))))
 (vz [.inr 2,.inl (wOp fIx (wVar 1) (wOp fMod (wOp fDiv (wVar 0) (wC (.int 2))) (wC (.int 6))))])
 du)
 (vz [.inl (wOp fIx (wVar 1) (wOp fMod (wOp fDiv (wVar 0) (wC (.int 2))) (wC (.int 6)))),.inr 2])))
noncomputable def aZ:SpD:=fun ds Q=>∃ (c:Int) (pool:List Str),ds=[.int c,.list (pool.map .str)]∧pool.length=6∧(∀ n∈pool,Open n)∧∀ p:Pr,¬ OkP p→Q .sh (.tup [.str p.1,.str p.2])
theorem iD (ds Q) (h:aZ ds Q):ds.length=["_law_cell", "_law_pool"].length:=by obtain ⟨_,_,rfl,_⟩:=h; rfl
theorem k_:∀ ds Q,aZ ds Q→cX { nx:=fun _=>Q .sh .non,rt:=Q } (bK 3 ds):=by
 rintro ds Q ⟨c,pool,rfl,hp,ho,h⟩
 unfold cX
 walk_at "q"
 refine ⟨c / 12,pool,rfl,hp,ho,fun x hx=>?_⟩
 walk_at "q"
 obtain ⟨n,hn,e⟩:=name_mod (names:=pool) (c / 2) (by walk_at "l")
 rw [hp] at e
 refine R.D (fun _=>?_) fun _=>?_
 ·walk_at "q"
  refine ⟨.str n,e,?_⟩
  walk_at "q"
  exact h (x,n) fun z=>hx z.1
 ·walk_at "q"
  refine ⟨.str n,e,?_⟩
  walk_at "q"
  exact h (n,x) fun z=>hx z.2
noncomputable def jR:WS :=
 (wSeq (wSet 2 tL)
 (wSeq (wFrz 1 (wFor (gw (wVar 1)) (gT 2 (fu (gN 3) (fu (gN 4) qP)))
 (wSeq (wFrz 4 (wFrz 3 (pJ bh (ak (wLst (ak (wVar 3) (ak (wVar 4) wNil))) wNil))))
 (wFrz 4 (wFrz 3 (wSdK (wpN 2) (wVar 3) (wVar 4)))))))
 (wRet (b_ bu (ak (wVar 0) (ak (wVar 2) wNil))))))
noncomputable def bf:SpD:=fun ds Q=>∃ (many:Int) (l:List Stp) (ps:List Pr),ds=[mD many l,.list (ps.map prD)]∧l.length≤1000∧ps.length≤6300∧((∀ p∈ps,OkP p)→∀ out,Mde (l.map (hdF (lk ps))) out→Q (.ow true) (mD many out))∧((∃ p,p∈ps∧¬ OkP p)→Q (.ow false) (.str "NoDeed"))
theorem qD (ds Q) (h:bf ds Q):ds.length=["m", "pairs"].length:=by obtain ⟨_,_,_,rfl,_⟩:=h; rfl
theorem xx (kvs:List (Key × D)) (k:Key) (x:D):(sdV kvs k x).length≤kvs.length+1:=by
 unfold sdV
 split
 ·exact Nat.le_succ _
 ·exact pI _ _ _
theorem Cu {ps:List Pr} {kd:List (Key × D)} {a b:Str} (hk:NwD (lk ps) kd):NwD (lk (ps++[(a,b)])) (sdV kd (.inr a) (.str b)):=by
 intro y
 have ha:=hk a
 rw [zG]
 unfold sdV
 by_cases e:a=y
 ·subst e
  cases h:lk ps a with
  | none =>
   rw [h] at ha
   rw [ha]
   simp [mL]
  | some z =>
   rw [h] at ha
   rw [ha]
   simp [ha]
 ·have e':¬ (Sum.inr y:Key)=Sum.inr a:=fun z=>e (Sum.inr.inj z).symm
  rw [if_neg e,Option.or_none]
  split
  ·exact hk y
  ·rw [mL,if_neg e']; exact hk y
theorem uH:∀ ds Q,bf ds Q→jR { nx:=fun _=>Q .sh .non,rt:=Q } (bK 5 ds):=by
 rintro ds Q ⟨many,l,ps,rfl,hz,hn,h1,h2⟩
 unfold jR
 walk_at "q"
 refine cU _ (fun i ρ=>∃ (kd:List (Key × D)) (o3 o4:Option Sl),NwD (lk (ps.take i)) kd∧kd.length≤i∧(∀ p∈ps.take i,OkP p)∧ρ=[some (.sh (mD many l)),some (.sh (.list (ps.map prD))),some (.ow true (.dK kd)),o3,o4]) ⟨[],_,_,(fun x=>rfl),Nat.zero_le _,(fun p hp=>nomatch hp),rfl⟩ ?_ ?_
 ·rintro i x ρ hx ⟨kd,o3,o4,hk,hkl,hop,rfl⟩ N hN
  have hi:=(List.getElem?_eq_some_iff.mp hx).1
  rw [List.length_map] at hi
  obtain ⟨a,b,rfl,hm,et⟩:=zZ hx
  walk_at "q"
  refine ⟨[a,b],rfl,fun ho=>?_,fun ho=>?_⟩
  ·walk_at "q"
   have ok:OkP (a,b):=⟨ho a (by simp),ho b (by simp)⟩
   refine ⟨by walk_at "l",hN _ ⟨_,_,_,by rw [et]; exact Cu hk,by have:=xx kd (Sum.inr a) (D.str b); walk_at "l",fun p hp=>?_,rfl⟩⟩
   rw [et] at hp
   rcases List.mem_append.mp hp with hp | hp
   ·exact hop p hp
   ·rw [List.mem_singleton.mp hp]; exact ok
  ·walk_at "q"
   refine h2 ⟨(a,b),hm,fun z=>?_⟩
   obtain ⟨n,hn,hno⟩:=ho
   rcases List.mem_cons.mp hn with rfl | hn
   ·exact hno z.1
   ·rw [List.mem_singleton.mp hn] at hno; exact hno z.2
 ·rintro ρ ⟨kd,o3,o4,hk,hkl,hop,rfl⟩
  rw [List.length_map,List.take_length] at hk hop
  walk_at "q"
  refine ⟨many,l,lk ps,kd,rfl,hk,hz,fun out M=>?_⟩
  unfold mD
  walk_at "q"
  exact h1 hop out M
noncomputable def cD:WS :=
 (wSeq (wSet 2 (wTup wNil))
 (wSeq (xJ 3 (pJ bf (ak (wVar 0) (ak (wVar 1) wNil))) (fun a=>[none,none,none,some (.xc a),none]) (fun a n=>(wSeq (wSet 4 (wIsx 3 a (decide (n = "TooBig") || (decide (n = "NoName") || (decide (n = "NoFrame") || (decide (n = "NoMachine") || (decide (n = "NoRow") || (decide (n = "NoState") || false))))))))
 (wFrz 4 (wSet 2 (wTup (ak (wIsx 3 a (decide (n = "NoDeed"))) (ak (wIsx 3 a true) (ak (wVar 4) wNil)))))))))
 (wRet (wOp fEq (wVar 2) (wTup (ak (wC (.bl true)) (ak (wC (.bl true)) (ak (wC (.bl false)) wNil))))))))
noncomputable def aX:SpD:=fun ds Q=>∃ (many:Int) (l:List Stp) (ps:List Pr),ds=[mD many l,.list (ps.map prD)]∧l.length≤1000∧ps.length≤6300∧(∃ p,p∈ps∧¬ OkP p)∧Q .sh (.bl true)
theorem gC (ds Q) (h:aX ds Q):ds.length=["_law_m", "_law_pairs"].length:=by obtain ⟨_,_,_,rfl,_⟩:=h; rfl
theorem jc:∀ ds Q,aX ds Q→cD { nx:=fun _=>Q .sh .non,rt:=Q } (bK 5 ds):=by
 rintro ds Q ⟨many,l,ps,rfl,hz,hn,⟨n,hm,hp⟩,h⟩
 unfold cD
 walk_at "q"
 refine ⟨many,l,ps,rfl,hz,hn,fun ho=>absurd (ho n hm) hp,fun _=>?_⟩
 walk_at "q"
 intro a
 exact ⟨by decide +kernel,by decide +kernel,h⟩
noncomputable def jU:WS :=
 (wFrz 2 (wRet (qy (wOp fEq (jx bf (ak (wVar 10) (ak (wVar 11) wNil))) (wTup (ak (wVar 2) (ak (wLst wNil) wNil)))) (qy (wOp fEq (jx bf (ak (wVar 6) (ak (wVar 7) wNil))) (wVar 13)) (wOp fEq (wVar 12) (wVar 13))))))
noncomputable def jV:WS :=
 (wSeq (lY (wpIx (wpN 14) (wC (.int 1))))
 (wSeq (lY (wpIx (wpN 10) (wC (.int 1))))
 jU))
noncomputable def jF:WS :=
 (wSeq (wSet 13 (wTup (ak (wOp fIx (wVar 12) (wC (.int 0))) (ak (wUn oG (wOp fIx (wVar 12) (wC (.int 1)))) wNil))))
 (wSeq (wIns (wpN 11) (wC (.int 0)) (wTup (ak (wOp fIx (wVar 3) (wOp fMod (wOp fDiv (wVar 9) (wC (.int 4))) (wC (.int 6)))) (ak (wOp fIx (wVar 3) (wOp fMod (wOp fDiv (wVar 9) (wC (.int 24))) (wC (.int 6)))) wNil))))
 (wSeq (wSet 14 (jx bf (ak (wVar 10) (ak (wVar 11) wNil))))
 (wSeq (wIfS (wOr (wNot (wB (b_ aF (ak (wVar 14) wNil)))) (wOr (wB (wOp fNe (wVar 14) (b_ bA (ak (wVar 6) (ak (wVar 11) wNil))))) (wB (wOp fNe (wVar 12) (wVar 13)))))
 (wRet (wC (.bl false)))
 du)
 jV))))
noncomputable def j4:WS :=
 (wSeq (wSet 12 (jx bf (ak (wVar 10) (ak (wVar 11) wNil))))
 (wSeq (wIfS (wOr (wNot (wB (b_ aF (ak (wVar 12) wNil)))) (wOr (wB (wOp fNe (wVar 12) (b_ bA (ak (wVar 6) (ak (wVar 7) wNil))))) (wOr (wB (wOp fNe (wVar 10) (wVar 6))) (wB (wOp fNe (wVar 11) (wVar 7))))))
 (wRet (wC (.bl false)))
 du)
 jF))
noncomputable def kJ:WS :=
 (wSeq (wIfS (wB (wOp fEq (wOp fMod (wVar 9) (wC (.int 4))) (wC (.int 1))))
 (wSeq (wIns (wpN 11) (wOp fMod (wOp fDiv (wVar 9) (wC (.int 4))) (wOp fAdd (wUn fLen (wVar 11)) (wC (.int 1)))) (b_ aZ (ak (wOp fDiv (wVar 9) (wC (.int 36))) (ak (wVar 3) wNil))))
 (wSeq (wIfS (wNot (wB (b_ aX (ak (wVar 10) (ak (wVar 11) wNil)))))
 (wRet (wC (.bl false)))
 du)
 (wO (wpN 11) (wOp fMod (wOp fDiv (wVar 9) (wC (.int 4))) (wUn fLen (wVar 11))))))
 du)
 j4)
noncomputable def oM:WS :=
 (wSeq (wSet 9 (b_ aB (ak (wVar 0) (ak (wC (.int 5)) wNil))))
 (wSeq (wFrz 2 (wSet 10 (wTup (ak (wVar 2) (ak (wUn oG (wOp fIx (wVar 6) (wC (.int 1)))) wNil)))))
 (wSeq (wSet 11 (wUn oG (wVar 7)))
 kJ)))
noncomputable def j9:WS :=
 (wSeq (wSet 7 (wLst wNil))
 (wSeq (wFrz 0 (wFor (gw (wSl (wVar 0) (iI (wC (.int 6))) (iI (wOp fAdd (wC (.int 6)) (wOp fMod (b_ aB (ak (wVar 0) (ak (wC (.int 4)) wNil))) (wC (.int 9))))))) (gN 8)
 (wApp (wpN 7) (wTup (ak (wOp fIx (wVar 3) (wOp fMod (wVar 8) (wC (.int 6)))) (ak (wOp fIx (wVar 3) (wOp fMod (wOp fDiv (wVar 8) (wC (.int 6))) (wC (.int 6)))) wNil))))))
 oM))
noncomputable def m_:WS :=
 (wSeq (wFrz 2 (wSet 6 (wTup (ak (wVar 2) (ak (wUn cP (wVar 5)) wNil)))))
 j9)
noncomputable def oF:WS :=
 (wSeq (wIfS (wB (wOp fEq (wOp fMod (wOp fDiv (wVar 1) (wC (.int 180))) (wC (.int 8))) (wC (.int 3))))
 (wSet 5 (wOp fAdd (wVar 5) (b_ aM (ak (jP (iw (wC (.int 150))) (gN 0) wYes (wOp fAdd (b_ aB (ak (wVar 1) (ak (wC (.int 3)) wNil))) (wOp fMul (wVar 0) (wVar 0))) 1 [0]) (ak (wVar 2) (ak (wVar 4) wNil))))))
 du)
 m_)
noncomputable def yj:WS :=
 (wSeq (wSet 1 (b_ aB (ak (wVar 0) (ak (wC (.int 0)) wNil))))
 (wSeq (wSet 2 (wOp fAdd (wC (.int 1)) (wOp fMod (wVar 1) (wOp fIx (wLst (ak (wC (.int 4)) (ak (wC (.int 8)) (ak (wC (.int 20)) wNil)))) (wOp fMod (wOp fDiv (wVar 1) (wC (.int 20))) (wC (.int 3)))))))
 (wSeq (wSet 3 (b_ bj (ak (b_ aB (ak (wVar 0) (ak (wC (.int 1)) wNil))) (ak (b_ aB (ak (wVar 0) (ak (wC (.int 2)) wNil))) wNil))))
 (wSeq (wSet 4 (wOp fAdd (wLst (ak (wC (.str "*")) wNil)) (wSl (wVar 3) fW (iI (wOp fAdd (wC (.int 3)) (wOp fMod (wOp fDiv (wVar 1) (wC (.int 60))) (wC (.int 3))))))))
 (wSeq (wSet 5 (b_ aM (ak (wSl (wVar 0) (iI (wC (.int 16))) (iI (wC (.int 64)))) (ak (wVar 2) (ak (wVar 4) wNil)))))
 oF)))))
noncomputable abbrev sp_law:SpD:=spLaw
theorem xZ (ds Q) (h:sp_law ds Q):ds.length=["_law_script"].length:=by obtain ⟨_,rfl,_⟩:=h; rfl
theorem Mde.nil {out:List Stp} (M:Mde [] out):out=[]:=List.eq_nil_of_length_eq_zero (Nat.le_zero.mp M.len)
theorem vP {ns:List Int} {first many turn:Int} {pool names:List Str} {ps told:List Pr} {l out out2:List Stp} {o8 o14:Option Sl} {Q:Md→D→Prop} (hps:∀ p∈ps,OkP p) (htd:∀ p∈told,OkP p) (dl:ps.length≤63) (tl:told.length≤64) (ok:∀ s∈out,StOk many s) (z1:out.length≤300) (M2:Mde (out.map (hdF (lk ps))) out2) (h:∀ m,Q m (.bl true)) :
  jU { nx:=fun _=>Q .sh .non,rt:=Q } [some (.sh (.list (ns.map .int))),some (.sh (.int first)),some (.sh (.int many)),some (.ow true (.list (pool.map .str))),some (.ow true (.list (names.map .str))),some (.ow true (.list (l.map stpD))),some (.ow true (.tup [.int many,.list (out.map stpD)])),some (.ow true (.list (ps.map prD))),o8,some (.sh (.int turn)),some (.ow true (.tup [.int many,.list []])),some (.ow true (.list (told.map prD))),some (.ow true (.tup [.int many,.list (out2.map stpD)])),some (.ow true (.tup [.int many,.list (out2.map stpD)])),o14]:=by
 have ok2:=M2.okF (jZ hps) ok
 unfold jU
 walk_at "q"
 refine ⟨many,[],told,rfl,by simp,by walk_at "l",fun _ o6 M6=>?_,fun ⟨n,hn,hno⟩=>absurd (htd n hn) hno⟩
 obtain rfl:=M6.nil
 unfold mD
 walk_at "q"
 refine ⟨ok_m (l:=[]) (fun s hs=>nomatch hs),ok_m (l:=[]) (fun s hs=>nomatch hs),?_⟩
 rw [show eqD (D.tup [.int many,.list []]) (D.tup [.int many,.list []])=true from eq_m many []]
 walk_at "q"
 refine ⟨many,out,ps,rfl,by walk_at "l",by walk_at "l",fun _ o8 M8=>?_,fun ⟨n,hn,hno⟩=>absurd (hps n hn) hno⟩
 obtain rfl:=M2.one M8
 unfold mD
 walk_at "q"
 refine ⟨ok_m ok2,ok_m ok2,?_⟩
 rw [eq_m]
 walk_at "q"
 refine ⟨ok_m ok2,ok_m ok2,?_⟩
 rw [eq_m]
 exact h _
theorem uN {ns:List Int} {first many turn:Int} {pool names:List Str} {ps told:List Pr} {l out out2 out4:List Stp} {o8:Option Sl} {Q:Md→D→Prop} (hps:∀ p∈ps,OkP p) (htd:∀ p∈told,OkP p) (dl:ps.length≤63) (tl:told.length≤64) (ok:∀ s∈out,StOk many s) (z1:out.length≤300) (M2:Mde (out.map (hdF (lk ps))) out2) (h:∀ m,Q m (.bl true)) :
  jV { nx:=fun _=>Q .sh .non,rt:=Q } [some (.sh (.list (ns.map .int))),some (.sh (.int first)),some (.sh (.int many)),some (.ow true (.list (pool.map .str))),some (.ow true (.list (names.map .str))),some (.ow true (.list (l.map stpD))),some (.ow true (.tup [.int many,.list (out.map stpD)])),some (.ow true (.list (ps.map prD))),o8,some (.sh (.int turn)),some (.ow true (.tup [.int many,.list (out.map stpD)])),some (.ow true (.list (told.map prD))),some (.ow true (.tup [.int many,.list (out2.map stpD)])),some (.ow true (.tup [.int many,.list (out2.map stpD)])),some (.ow true (.tup [.int many,.list (out4.map stpD)]))]:=by
 unfold jV
 walk_at "q"
 refine ⟨1,_,rfl,rfl,rfl,?_⟩
 walk_at "q"
 refine ⟨1,_,rfl,rfl,rfl,?_⟩
 walk_at "q"
 exact vP hps htd dl tl ok z1 M2 h
theorem uJ {ns:List Int} {first many turn:Int} {pool names:List Str} {ps:List Pr} {l out out2:List Stp} {o8:Option Sl} {Q:Md→D→Prop} (hp:pool.length=6) (ho:∀ n∈pool,Open n) (hps:∀ p∈ps,OkP p) (dl:ps.length≤63) (ok:∀ s∈out,StOk many s) (z1:out.length≤300) (M2:Mde (out.map (hdF (lk ps))) out2) (h:∀ m,Q m (.bl true)) :
  jF { nx:=fun _=>Q .sh .non,rt:=Q } [some (.sh (.list (ns.map .int))),some (.sh (.int first)),some (.sh (.int many)),some (.ow true (.list (pool.map .str))),some (.ow true (.list (names.map .str))),some (.ow true (.list (l.map stpD))),some (.ow true (.tup [.int many,.list (out.map stpD)])),some (.ow true (.list (ps.map prD))),o8,some (.sh (.int turn)),some (.ow true (.tup [.int many,.list (out.map stpD)])),some (.ow true (.list (ps.map prD))),some (.ow true (.tup [.int many,.list (out2.map stpD)])),none,none]:=by
 have ok2:=M2.okF (jZ hps) ok
 unfold jF
 walk_at "q"
 obtain ⟨n,hn,e⟩:=name_mod (names:=pool) (turn / 4) (by walk_at "l")
 obtain ⟨n2,hn2,e2⟩:=name_mod (names:=pool) (turn / 24) (by walk_at "l")
 rw [hp] at e e2
 refine .inl ⟨dO out2,.str n,e,?_⟩
 walk_at "q"
 refine ⟨.str n2,e2,?_⟩
 walk_at "q"
 have htd:∀ p∈((n,n2):Pr) :: ps,OkP p:=fun p hp'=>by
  rcases List.mem_cons.mp hp' with rfl | hp'
  ·exact ⟨ho n hn,ho n2 hn2⟩
  ·exact hps p hp'
 have tl:(((n,n2):Pr) :: ps).length≤64:=by rw [List.length_cons]; walk_at "l"
 refine ⟨by walk_at "l",by walk_at "l",many,out,((n,n2):Pr) :: ps,rfl,by walk_at "l",Nat.le_trans tl (by decide),fun _ o4 M4=>?_,fun ⟨n,hn,hno⟩=>absurd (htd n hn) hno⟩
 have ok4:=M4.okF (jZ htd) ok
 unfold mD
 walk_at "q"
 refine ⟨many,o4,rfl,?_⟩
 walk_at "q"
 refine ⟨many,out,((n,n2):Pr) :: ps,rfl,by walk_at "l",fun o5 M5=>?_⟩
 obtain rfl:=M4.one M5
 unfold mD
 walk_at "q"
 refine ⟨ok_m ok4,ok_m ok4,?_⟩
 rw [eq_m]
 walk_at "q"
 refine ⟨ok_m ok2,ok_m ok2,?_⟩
 rw [eq_m]
 walk_at "q"
 exact uN (told:=((n,n2):Pr) :: ps) hps htd dl tl ok z1 M2 h
theorem pZ {ns:List Int} {first many turn:Int} {pool names:List Str} {ps:List Pr} {l out:List Stp} {o8:Option Sl} {Q:Md→D→Prop} (hp:pool.length=6) (ho:∀ n∈pool,Open n) (hps:∀ p∈ps,OkP p) (dl:ps.length≤63) (ok:∀ s∈out,StOk many s) (z1:out.length≤300) (h:∀ m,Q m (.bl true)) :
  j4 { nx:=fun _=>Q .sh .non,rt:=Q } [some (.sh (.list (ns.map .int))),some (.sh (.int first)),some (.sh (.int many)),some (.ow true (.list (pool.map .str))),some (.ow true (.list (names.map .str))),some (.ow true (.list (l.map stpD))),some (.ow true (.tup [.int many,.list (out.map stpD)])),some (.ow true (.list (ps.map prD))),o8,some (.sh (.int turn)),some (.ow true (.tup [.int many,.list (out.map stpD)])),some (.ow true (.list (ps.map prD))),none,none,none]:=by
 unfold j4
 walk_at "q"
 refine ⟨many,out,ps,rfl,by walk_at "l",by walk_at "l",fun _ out2 M2=>?_,fun ⟨n,hn,hno⟩=>absurd (hps n hn) hno⟩
 have ok2:=M2.okF (jZ hps) ok
 unfold mD
 walk_at "q"
 refine ⟨many,out2,rfl,?_⟩
 walk_at "q"
 refine ⟨many,out,ps,rfl,by walk_at "l",fun o3 M3=>?_⟩
 obtain rfl:=M2.one M3
 unfold mD
 walk_at "q"
 refine ⟨ok_m ok2,ok_m ok2,?_⟩
 rw [eq_m]
 walk_at "q"
 refine ⟨ok_m ok,ok_m ok,?_⟩
 rw [eq_m]
 walk_at "q"
 refine ⟨sJ hps,sJ hps,?_⟩
 rw [zM]
 walk_at "q"
 exact uJ hp ho hps dl ok z1 M2 h
theorem vO {ns:List Int} {first many turn:Int} {pool names:List Str} {ps:List Pr} {l out:List Stp} {o8:Option Sl} {Q:Md→D→Prop} (hp:pool.length=6) (ho:∀ n∈pool,Open n) (hps:∀ p∈ps,OkP p) (dl:ps.length≤63) (ok:∀ s∈out,StOk many s) (z1:out.length≤300) (h:∀ m,Q m (.bl true)) :
  kJ { nx:=fun _=>Q .sh .non,rt:=Q } [some (.sh (.list (ns.map .int))),some (.sh (.int first)),some (.sh (.int many)),some (.ow true (.list (pool.map .str))),some (.ow true (.list (names.map .str))),some (.ow true (.list (l.map stpD))),some (.ow true (.tup [.int many,.list (out.map stpD)])),some (.ow true (.list (ps.map prD))),o8,some (.sh (.int turn)),some (.ow true (.tup [.int many,.list (out.map stpD)])),some (.ow true (.list (ps.map prD))),none,none,none]:=by
 unfold kJ
 walk_at "q"
 refine R.D (fun _=>?_) fun _=>?_
 ·walk_at "q"
  refine ⟨by walk_at "l",turn / 36,pool,rfl,hp,ho,fun x hx=>?_⟩
  walk_at "q"
  have q0:=Int.emod_nonneg (turn / 4) (show ((ps.length:Int)+1)≠0 by walk_at "l")
  have q1:=Int.emod_lt_of_pos (turn / 4) (show (0:Int)<(ps.length:Int)+1 by walk_at "l")
  have hk:(turn / 4 % ((ps.length:Int)+1)).toNat≤ps.length:=by walk_at "l"
  rw [show D.tup [.str x.1,.str x.2]=prD x from rfl,vy]
  refine ⟨q0,by walk_at "l",by walk_at "l",many,out,insL ps _ x,rfl,by walk_at "l",by rw [ph]; walk_at "l",⟨x,vD _ _ _,hx⟩,?_⟩
  walk_at "q"
  rw [ph,List.length_map,show ((ps.length+1:Nat):Int)=(ps.length:Int)+1 by walk_at "l",sY _ (by rw [List.length_map]; exact hk)]
  exact ⟨by walk_at "l",_,q0,yC _ (by rw [List.length_map]; exact hk),rfl,pZ hp ho hps dl ok z1 h⟩
 ·walk_at "q"
  exact pZ hp ho hps dl ok z1 h
theorem yt {ns:List Int} {first many:Int} {pool names:List Str} {ps:List Pr} {l out:List Stp} {o8:Option Sl} {Q:Md→D→Prop} (hl:ns.length≤63) (hp:pool.length=6) (ho:∀ n∈pool,Open n) (hps:∀ p∈ps,OkP p) (dl:ps.length≤63) (ok:∀ s∈out,StOk many s) (z1:out.length≤300) (h:∀ m,Q m (.bl true)) :
  oM { nx:=fun _=>Q .sh .non,rt:=Q } [some (.sh (.list (ns.map .int))),some (.sh (.int first)),some (.sh (.int many)),some (.ow true (.list (pool.map .str))),some (.ow true (.list (names.map .str))),some (.ow true (.list (l.map stpD))),some (.ow true (.tup [.int many,.list (out.map stpD)])),some (.ow true (.list (ps.map prD))),o8,none,none,none,none,none,none]:=by
 unfold oM
 walk_at "q"
 refine ⟨ns,5,rfl,by decide,?_⟩
 generalize ns.getD _ 0=turn
 walk_at "q"
 refine .inl ⟨dO out,.inl ⟨oZ ps,?_⟩⟩
 exact vO hp ho hps dl ok z1 h
theorem ye {ns:List Int} {first many:Int} {pool names:List Str} {l out:List Stp} {Q:Md→D→Prop} (hl:ns.length≤63) (hp:pool.length=6) (ho:∀ n∈pool,Open n) (ok:∀ s∈out,StOk many s) (z1:out.length≤300) (h:∀ m,Q m (.bl true)) :
  j9 { nx:=fun _=>Q .sh .non,rt:=Q } [some (.sh (.list (ns.map .int))),some (.sh (.int first)),some (.sh (.int many)),some (.ow true (.list (pool.map .str))),some (.ow true (.list (names.map .str))),some (.ow true (.list (l.map stpD))),some (.ow true (.tup [.int many,.list (out.map stpD)])),none,none,none,none,none,none,none,none]:=by
 unfold j9
 walk_at "q"
 refine ⟨ns,4,rfl,by decide,?_⟩
 generalize ns.getD _ 0=c4
 walk_at "q"
 refine .inl ⟨h_ ns,?_⟩
 rw [nT]
 have kl:=dU ns (some 6) (some (6+c4 % 9))
 generalize cutG ns (some 6) (some (6+c4 % 9))=cells at *
 refine cU _ (fun i ρ=>∃ (ps:List Pr) (o8:Option Sl),(∀ p∈ps,OkP p)∧ps.length=i∧ρ=[some (.sh (.list (ns.map .int))),some (.sh (.int first)),some (.sh (.int many)),some (.ow true (.list (pool.map .str))),some (.ow true (.list (names.map .str))),some (.ow true (.list (l.map stpD))),some (.ow true (.tup [.int many,.list (out.map stpD)])),some (.ow true (.list (ps.map prD))),o8,none,none,none,none,none,none]) ⟨[],_,(fun p hp=>nomatch hp),rfl,rfl⟩ ?_ ?_
 ·rintro i x ρ hx ⟨ps,o8,hps,hpl,rfl⟩ N hN
  have hi:=(List.getElem?_eq_some_iff.mp hx).1
  rw [List.length_map] at hi
  obtain ⟨c,rfl⟩:∃ c,x=.int c:=by
   obtain ⟨c,_,rfl⟩:=List.mem_map.mp (List.mem_of_getElem? hx)
   exact ⟨c,rfl⟩
  walk_at "q"
  obtain ⟨n,hn,e⟩:=name_mod (names:=pool) c (by walk_at "l")
  obtain ⟨n2,hn2,e2⟩:=name_mod (names:=pool) (c / 6) (by walk_at "l")
  rw [hp] at e e2
  refine ⟨.str n,e,?_⟩
  walk_at "q"
  refine ⟨.str n2,e2,?_⟩
  walk_at "q"
  refine ⟨by walk_at "l",?_⟩
  rw [show ps.map prD++[D.tup [.str n,.str n2]]=(ps++[((n,n2):Pr)]).map prD by simp [prD]]
  refine hN _ ⟨_,_,fun p hp'=>?_,by simp [hpl],rfl⟩
  rcases List.mem_append.mp hp' with h' | h'
  ·exact hps p h'
  ·rw [List.mem_singleton.mp h']; exact ⟨ho n hn,ho n2 hn2⟩
 ·rintro ρ ⟨ps,o8,hps,hpl,rfl⟩
  rw [List.length_map] at hpl
  exact yt hl hp ho hps (by walk_at "l") ok z1 h
theorem ue {ns:List Int} {first many:Int} {pool names:List Str} {l:List Stp} {Q:Md→D→Prop} (hl:ns.length≤63) (hp:pool.length=6) (ho:∀ n∈pool,Open n) (hs:∀ s∈l,StOk many s) (hz:l.length≤300) (h:∀ m,Q m (.bl true)) :
  m_ { nx:=fun _=>Q .sh .non,rt:=Q } [some (.sh (.list (ns.map .int))),some (.sh (.int first)),some (.sh (.int many)),some (.ow true (.list (pool.map .str))),some (.ow true (.list (names.map .str))),some (.ow true (.list (l.map stpD))),none,none,none,none,none,none,none,none,none]:=by
 unfold m_
 walk_at "q"
 exact oK (l:=l) (fun xs=>j9 { nx:=fun _=>Q .sh .non,rt:=Q } [some (.sh (.list (ns.map .int))),some (.sh (.int first)),some (.sh (.int many)),some (.ow true (.list (pool.map .str))),some (.ow true (.list (names.map .str))),some (.ow true (.list (l.map stpD))),some (.ow true (.tup [.int many,.list xs])),none,none,none,none,none,none,none,none]) (by walk_at "l")
  fun out M=>ye hl hp ho (M.ok hs) (by have:=M.len; walk_at "l") h
theorem wR {ns:List Int} {first many:Int} {pool some':List Str} {l:List Stp} {Q:Md→D→Prop} (hl:ns.length≤63) (m1:1≤many) (hp:pool.length=6) (ho:∀ n∈pool,Open n) (hs:∀ s∈l,StOk many s) (hz:l.length≤63)
  (st:∀ (cs:List Int) (Q':Md→D→Prop),cs.length≤200→(∀ l:List Stp,(∀ s∈l,StOk many s)→l.length=cs.length→Q' (.ow true) (.list (l.map stpD)))→aM [.list (cs.map .int),.int many,.list ((("*" : Str) :: some').map .str)] Q') (h:∀ m,Q m (.bl true)) :
  oF { nx:=fun _=>Q .sh .non,rt:=Q } [some (.sh (.list (ns.map .int))),some (.sh (.int first)),some (.sh (.int many)),some (.ow true (.list (pool.map .str))),some (.ow true (.list ((("*" : Str) :: some').map .str))),some (.ow true (.list (l.map stpD))),none,none,none,none,none,none,none,none,none]:=by
 unfold oF
 walk_at "q"
 refine R.D (fun _=>?_) fun _=>?_
 ·generalize hN:(150:Int)=N
  walk_at "q"
  refine ⟨by walk_at "l",by walk_at "l",?_⟩
  refine cT (fun _=>true) (fun d=>match d with
   | .int k=>.int (ns.getD 3 0+k * k)
   | d=>d) (fun ρ=>∃ o,ρ=[o,some (.sh (.list (ns.map .int)))]) _ _ _ ⟨_,rfl⟩ ?_ ?_
  ·rintro y hy ρ ⟨o,rfl⟩ N1 N2 _ h2
   obtain ⟨i,hi,rfl⟩:=ql hy
   walk_at "q"
   refine ⟨ns,3,rfl,by decide,?_⟩
   walk_at "q"
   exact ⟨.inl ⟨by walk_at "l",by walk_at "l"⟩,.inl rfl,h2 _ ⟨_,rfl⟩ rfl⟩
  ·rw [gU]
   have e:(fZ 0 N.toNat).map (fun d=>match d with
    | .int k=>D.int (ns.getD 3 0+k * k)
    | d=>d)=((List.range N.toNat).map fun i=>ns.getD 3 0+(0+((i:Nat):Int)) * (0+((i:Nat):Int))).map D.int:=by
    unfold fZ
    rw [List.map_map,List.map_map]; rfl
   rw [e]
   refine st _ _ (by rw [List.length_map,List.length_range]; walk_at "l") fun l2 hs2 hl2=>?_
   rw [List.length_map,List.length_range] at hl2
   walk_at "q"
   rw [← List.map_append]
   refine ⟨by walk_at "l",.inl ⟨dO l,dO l2,ue (names:=("*" : Str) :: some') hl hp ho (fun s hs'=>?_) (by rw [List.length_append]; walk_at "l") h⟩⟩
   exact (List.mem_append.mp hs').elim (hs s) (hs2 s)
 ·walk_at "q"
  exact ue (names:=("*" : Str) :: some') hl hp ho hs (by walk_at "l") h
theorem B_:∀ ds Q,sp_law ds Q→yj { nx:=fun _=>Q .sh .non,rt:=Q } (bK 15 ds):=by
 rintro ds Q ⟨ns,rfl,hl,h⟩
 unfold yj
 walk_at "q"
 refine ⟨ns,0,rfl,by decide,?_⟩
 generalize ns.getD _ 0=first
 walk_at "q"
 obtain ⟨k,ek,k1,k2⟩:∃ k:Int,atI [D.int 4,D.int 8,D.int 20] (first / 20 % 3)=some (.int k)∧1≤k∧k≤20:=by
  have a:=Int.emod_nonneg (first / 20) (show (3:Int)≠0 by decide)
  have b:=Int.emod_lt_of_pos (first / 20) (show (0:Int)<3 by decide)
  rcases (show first / 20 % 3=0∨first / 20 % 3=1∨first / 20 % 3=2 by walk_at "l") with e | e | e <;> rw [e]
  ·exact ⟨4,rfl,by decide,by decide⟩
  ·exact ⟨8,rfl,by decide,by decide⟩
  ·exact ⟨20,rfl,by decide,by decide⟩
 refine ⟨.int k,ek,?_⟩
 walk_at "q"
 have m0:=Int.emod_nonneg first (show k≠0 by walk_at "l")
 have m1:=Int.emod_lt_of_pos first (show 0<k by walk_at "l")
 generalize hmany:1+first % k=many at *
 refine ⟨by walk_at "l",ns,1,rfl,by decide,?_⟩
 generalize ns.getD _ 0=c1
 walk_at "q"
 refine ⟨ns,2,rfl,by decide,?_⟩
 generalize ns.getD _ 0=c2
 walk_at "q"
 refine ⟨c1,c2,rfl,fun pool hp ho=>?_⟩
 walk_at "q"
 rw [nT,nT]
 have cl:=dU pool none (some (3+first / 60 % 3))
 have cm:=fun x (hx:x∈cutG pool none (some (3+first / 60 % 3)))=>yf hx
 generalize cutG pool none (some (3+first / 60 % 3))=some' at *
 have kl:=dU ns (some 16) (some 64)
 generalize cutG ns (some 16) (some 64)=cells at *
 have hd:∀ n∈(("*" : Str) :: some'),Deed n:=fun n hn=>by
  rcases List.mem_cons.mp hn with rfl | hn
  ·exact .inl rfl
  ·exact .inr (ho n (cm n hn))
 refine .inl ⟨iG pool,by rw [List.length_map]; walk_at "l",.inl ⟨iG some',.inl ⟨h_ ns,?_⟩⟩⟩
 rw [show D.str (Str.ofString "*") :: some'.map D.str=(("*" : Str) :: some').map D.str from rfl]
 have st:∀ (cs:List Int) (Q':Md→D→Prop),cs.length≤200→(∀ l:List Stp,(∀ s∈l,StOk many s)→l.length=cs.length→Q' (.ow true) (.list (l.map stpD)))→aM [.list (cs.map .int),.int many,.list ((("*" : Str) :: some').map .str)] Q':=fun cs Q' hc k =>
  ⟨cs,many,("*" : Str) :: some',rfl,hc,by walk_at "l",by walk_at "l",by simp,by simp; walk_at "l",hd,k⟩
 refine st cells _ (by walk_at "l") fun l hs hl2=>?_
 walk_at "q"
 exact wR hl (by walk_at "l") hp ho hs (by walk_at "l") st h
end L2.Q.Law
namespace L2.Q.Law
open PySem PySem.Spec PyProof.Rows
def top (i:Nat):Stmt:=PySem.Challenge.pw_kinlook_k13_renamed.main.body.getD i (.Pass ⟨0,0,0,0⟩)
abbrev bD:Stmt:=top 3
abbrev aU:Stmt:=top 14
abbrev aO:Stmt:=top 15
abbrev bW:Stmt:=top 16
abbrev aH:Stmt:=top 18
abbrev aL:Stmt:=top 19
abbrev aR:Stmt:=top 20
abbrev aV:Stmt:=top 21
abbrev aD:Stmt:=top 22
abbrev bw:Stmt:=top 23
abbrev aJ:Stmt:=top 24
abbrev aG:Stmt:=top 25
abbrev aN:Stmt:=top 26
abbrev eY:Stmt:=top 27
abbrev rn:List Str:=["NoDeed"]
structure Txt (K:PySem.W.Frag) (mg:Str→Option Value):Prop where
 n_ValueError:mg "ValueError" = none
 n_all:mg "all" = none
 n_bool:mg "bool" = none
 n_int:mg "int" = none
 n_isinstance:mg "isinstance" = none
 n_len:mg "len" = none
 n_list:mg "list" = none
 n_range:mg "range" = none
 n_reversed:mg "reversed" = none
 n_set:mg "set" = none
 n_sorted:mg "sorted" = none
 n_str:mg "str" = none
 n_tuple:mg "tuple" = none
 g_LETTERS:GlS mg "LETTERS" "abcdefghijklmnopqrstuvwxyz"
 g_MOST_LETTERS:GlI mg "MOST_LETTERS" 6
 x_NoDeed:XCl K mg "NoDeed"
 r_KinError:zU K mg rn "KinError"
 i_TooBig:∀ n C,n∈rn→mg n=some (.ref C)→∃ c,mg "TooBig" = some (.ref c)∧PySem.W.kitOne K (.ref C) (.ref c)=some (decide (n = "TooBig"))
 i_NoName:∀ n C,n∈rn→mg n=some (.ref C)→∃ c,mg "NoName" = some (.ref c)∧PySem.W.kitOne K (.ref C) (.ref c)=some (decide (n = "NoName"))
 i_NoFrame:∀ n C,n∈rn→mg n=some (.ref C)→∃ c,mg "NoFrame" = some (.ref c)∧PySem.W.kitOne K (.ref C) (.ref c)=some (decide (n = "NoFrame"))
 i_NoMachine:∀ n C,n∈rn→mg n=some (.ref C)→∃ c,mg "NoMachine" = some (.ref c)∧PySem.W.kitOne K (.ref C) (.ref c)=some (decide (n = "NoMachine"))
 i_NoRow:∀ n C,n∈rn→mg n=some (.ref C)→∃ c,mg "NoRow" = some (.ref c)∧PySem.W.kitOne K (.ref C) (.ref c)=some (decide (n = "NoRow"))
 i_NoState:∀ n C,n∈rn→mg n=some (.ref C)→∃ c,mg "NoState" = some (.ref c)∧PySem.W.kitOne K (.ref C) (.ref c)=some (decide (n = "NoState"))
 i_ValueError:∀ n C,n∈rn→mg n=some (.ref C)→PySem.W.kitOne K (.ref C) (.type "ValueError")=some true
 i_NoDeed:∀ n C,n∈rn→mg n=some (.ref C)→∃ c,mg "NoDeed" = some (.ref c)∧PySem.W.kitOne K (.ref C) (.ref c)=some (decide (n = "NoDeed"))
section
variable {P:Program} {w:World} {K:PySem.W.Frag} {mg:Str→Option Value} {base:Heap}
theorem jn:FnScope ["thing"] ["thing"] (defScope bD):=⟨rfl,rfl,rfl,by decide +kernel,rfl,by decide +kernel,by decide +kernel⟩
theorem rN {f:Addr} (T:Txt K mg)  (cdv:Value) (A:Around) (outer:List PySem.Env) (s:Shared) (H:Hp) (E:XK) (hr:Room 0 (A.deeper (envOfC "is_open" (defScope bD) s.heap.objs.size f cdv))) :
  QSs (cxOf CX0 P w K mg base ["thing"] "is_open" (defScope bD) f cdv A outer s H E).nox K L0 (defBody bD) iy :=
 have nd:=jn.nd
 have hu:(A.deeper (envOfC "is_open" (defScope bD) s.heap.objs.size f cdv)).units+64<cLine:=hr.units
 (aj (eG (qt_w (ie (cJ (c7 (ou T.n_isinstance (qv 0) (mK T.n_str wI)))) (ju (cJ (vB wH wH zX zX ao (cG bH fj rfl T.n_len fM (qv 0)) (q_gi T.g_MOST_LETTERS))))))
   (au (bN q_bl))
   bM)
   (au (bN (cG kAll Bb rfl T.n_all Ah (pq (tn:=["sign"]) (cn:=[]) (ix:=[]) rfl (uA (Af (qv 0))) (cO.of (sc:=defScope bD) (N:=["thing"]) rfl rfl (by decide +kernel)) (fun _ _ _ _=>(bz (i:=0) (show (["sign"]:List Str).Nodup by decide +kernel) rfl (Or.inl rfl) (.inr rfl))) (fun _ _ _ _=>gQ) (fun _ _ _ _=>(uh (kIn (K:=K) hu) Cg (qv 0) (q_gs T.g_LETTERS) (by rfl))))))))
theorem qC {f:Addr} {fd:FuncData} (F:Fun K "is_open" "is_open" bD f fd) (T:Txt K mg)  : FnOk P w K mg base CX0 1 f fd ["thing"] (az K bV) :=
 FunQ.ok F jn nR (rN T ) qX
theorem eV:FnScope ["m", "new_deeds", "steps"] ["m", "new_deeds"] (defScope aO):=⟨rfl,rfl,rfl,by decide +kernel,rfl,by decide +kernel,by decide +kernel⟩
theorem lE {f:Addr} (T:Txt K mg)  (cdv:Value) (A:Around) (outer:List PySem.Env) (s:Shared) (H:Hp) (E:XK) (hr:Room 0 (A.deeper (envOfC "with_deeds" (defScope aO) s.heap.objs.size f cdv))) :
  QSs (cxOf CX0 P w K mg base ["m", "new_deeds", "steps"] "with_deeds" (defScope aO) f cdv A outer s H E).nox K L0 (defBody aO) dw :=
 have nd:=eV.nd
 have hu:(A.deeper (envOfC "with_deeds" (defScope aO) s.heap.objs.size f cdv)).units+64<cLine:=hr.units
 (aj (qI (i:=2) (tn:=["step"]) (cn:=["new_deeds"]) (ix:=[1]) nd rfl (Or.inl rfl) rfl (rD (q_ix hu (qv 0) ao)) (cO.of (sc:=defScope aO) (N:=["m", "new_deeds", "steps"]) rfl rfl (by decide +kernel)) (fun _ _ _ _=>(bz (i:=0) (show (["step", "new_deeds"]:List Str).Nodup by decide +kernel) rfl (Or.inl rfl) (.inr rfl))) (fun _ _ _ _=>gQ) (fun _ _ _ _=>(fK (aa (q_ix hu (qv 0) ao) (aa (Dc hu (qv 1) (q_ix hu (qv 0) ao) (q_ix hu (qv 0) ao)) (aa (q_ix hu (qv 0) ao) aA))))))
   (au (bN (fK (aa (q_ix hu (qv 0) ao) (aa (gh hu rfl T.n_sorted rfl T.n_set (qv 2)) aA))))))
theorem kO {f:Addr} {fd:FuncData} (F:Fun K "with_deeds" "with_deeds" aO f fd) (T:Txt K mg)  : FnOk P w K mg base CX0 1 f fd ["m", "new_deeds"] (az K bu) :=
 FunQ.ok F eV iV (lE T ) lV
theorem dF:FnScope ["_law_script", "_law_k"] ["_law_script", "_law_k"] (defScope aH):=⟨rfl,rfl,rfl,by decide +kernel,rfl,by decide +kernel,by decide +kernel⟩
theorem iU {f:Addr} (T:Txt K mg)  (cdv:Value) (A:Around) (outer:List PySem.Env) (s:Shared) (H:Hp) (E:XK) (hr:Room 0 (A.deeper (envOfC "_law_cell_at" (defScope aH) s.heap.objs.size f cdv))) :
  QSs (cxOf CX0 P w K mg base ["_law_script", "_law_k"] "_law_cell_at" (defScope aH) f cdv A outer s H E).nox K L0 (defBody aH) cH :=
 have nd:=dF.nd
 have hu:(A.deeper (envOfC "_law_cell_at" (defScope aH) s.heap.objs.size f cdv)).units+64<cLine:=hr.units
 (aj (eG (cL zF BZ (qv 1) (cG bH fj rfl T.n_len fM (qv 0)) (nomark _))
   (au (bN (q_ix hu (qv 0) (qv 1))))
   bM)
   (au (bN ao)))
theorem g8 {f:Addr} {fd:FuncData} (F:Fun K "_law_cell_at" "_law_cell_at" aH f fd) (T:Txt K mg)  : FnOk P w K mg base CX0 1 f fd ["_law_script", "_law_k"] (az K aB) :=
 FunQ.ok F dF gF (iU T ) ji
theorem eQ:FnScope ["_law_cell", "_law_turn", "_law_letters", "_law_size", "_law_places", "_law_k", "_law_word", "_law_at", "_law_found", "_law_sign"] ["_law_cell", "_law_turn"] (defScope aL):=⟨rfl,rfl,rfl,by decide +kernel,rfl,by decide +kernel,by decide +kernel⟩
theorem lB {f:Addr} (T:Txt K mg)  (cdv:Value) (A:Around) (outer:List PySem.Env) (s:Shared) (H:Hp) (E:XK) (hr:Room 0 (A.deeper (envOfC "_law_deeds" (defScope aL) s.heap.objs.size f cdv))) :
  QSs (cxOf CX0 P w K mg base ["_law_cell", "_law_turn", "_law_letters", "_law_size", "_law_places", "_law_k", "_law_word", "_law_at", "_law_found", "_law_sign"] "_law_deeds" (defScope aL) f cdv A outer s H E).nox K L0 (defBody aL) dI :=
 have nd:=eQ.nd
 have hu:(A.deeper (envOfC "_law_deeds" (defScope aL) s.heap.objs.size f cdv)).units+64<cLine:=hr.units
 (aj (aP (i:=2) nd rfl (Or.inr rfl) eU)
   (aj (aP (i:=3) nd rfl (Or.inl rfl) (d9 ao (b7 (qv 0) ao)))
   (aj (aP (i:=0) nd rfl (Or.inl rfl) (dq (qv 0) ao))
   (aj (aP (i:=4) nd rfl (Or.inl rfl) (jg aA))
   (aj (fD PassesOwn.never rfl (jW T.n_range (qv 3)) (bz (i:=5) nd rfl (Or.inl rfl))
   (aj (mR (cu (pv 4)) (b7 (qv 0) ao))
   (au (aP (i:=0) nd rfl (Or.inl rfl) (dq (qv 0) ao)))))
   (aj (aP (i:=6) nd rfl (Or.inr rfl) (Bf eU (pq (tn:=["_law_k"]) (cn:=["_law_letters"]) (ix:=[2]) rfl (rD (qv 4)) (cO.of (sc:=defScope aL) (N:=["_law_cell", "_law_turn", "_law_letters", "_law_size", "_law_places", "_law_k", "_law_word", "_law_at", "_law_found", "_law_sign"]) rfl rfl (by decide +kernel)) (fun _ _ _ _=>(bz (i:=0) (show (["_law_k", "_law_letters"]:List Str).Nodup by decide +kernel) rfl (Or.inl rfl) (.inr rfl))) (fun _ _ _ _=>gQ) (fun _ _ _ _=>(q_ix hu (qv 1) (qv 0))))))
   (aj (eG (cL (kEq (K:=K) hu) kW (b7 (dq (qv 1) ao) ao) ao (nomark _))
   (au (bN (pq (tn:=["_law_k"]) (cn:=["_law_word"]) (ix:=[6]) rfl (uA (wN T.n_range ao ao)) (cO.of (sc:=defScope aL) (N:=["_law_cell", "_law_turn", "_law_letters", "_law_size", "_law_places", "_law_k", "_law_word", "_law_at", "_law_found", "_law_sign"]) rfl rfl (by decide +kernel)) (fun _ _ _ _=>(bz (i:=0) (show (["_law_k", "_law_word"]:List Str).Nodup by decide +kernel) rfl (Or.inl rfl) (.inr rfl))) (fun _ _ _ _=>gQ) (fun _ _ _ _=>(gj (zr ao (qv 1)) jT (dR (qv 0)))))))
   bM)
   (aj (aP (i:=7) nd rfl (Or.inl rfl) (b7 (qv 1) (qv 3)))
   (aj (aP (i:=8) nd rfl (Or.inl rfl) (jg aA))
   (aj (fD PassesOwn.never rfl (jW T.n_range ao) (bz (i:=5) nd rfl (Or.inl rfl))
   (aj (aP (i:=9) nd rfl (Or.inl rfl) (q_ix hu (qv 2) (b7 (d9 (q_ix hu (qv 4) (qv 7)) (rG ao (qv 5))) ao)))
   (au (mR (cu (pv 8)) (d9 (d9 (gj (qv 6) jT (dR (qv 7))) (qv 9)) (gj (qv 6) (dR (d9 (qv 7) ao)) jT))))))
   (au (rA (pv 8)))))))))))))
theorem jK {f:Addr} {fd:FuncData} (F:Fun K "_law_deeds" "_law_deeds" aL f fd) (T:Txt K mg)  : FnOk P w K mg base CX0 1 f fd ["_law_cell", "_law_turn"] (az K bj) :=
 FunQ.ok F eQ jm (lB T ) l_
theorem fL:FnScope ["_law_cells", "_law_many", "_law_deeds_here", "_law_found", "_law_k", "_law_number", "_law_deed"] ["_law_cells", "_law_many", "_law_deeds_here"] (defScope aR):=⟨rfl,rfl,rfl,by decide +kernel,rfl,by decide +kernel,by decide +kernel⟩
theorem lq {f:Addr} (T:Txt K mg)  (cdv:Value) (A:Around) (outer:List PySem.Env) (s:Shared) (H:Hp) (E:XK) (hr:Room 0 (A.deeper (envOfC "_law_steps" (defScope aR) s.heap.objs.size f cdv))) :
  QSs (cxOf CX0 P w K mg base ["_law_cells", "_law_many", "_law_deeds_here", "_law_found", "_law_k", "_law_number", "_law_deed"] "_law_steps" (defScope aR) f cdv A outer s H E).nox K L0 (defBody aR) dC :=
 have nd:=fL.nd
 have hu:(A.deeper (envOfC "_law_steps" (defScope aR) s.heap.objs.size f cdv)).units+64<cLine:=hr.units
 (aj (aP (i:=3) nd rfl (Or.inl rfl) (jg aA))
   (aj (fD PassesOwn.never rfl (jW T.n_range (cG bH fj rfl T.n_len fM (qv 0))) (bz (i:=4) nd rfl (Or.inl rfl))
   (aj (aP (i:=5) nd rfl (Or.inl rfl) (b7 (rG (d9 (b7 (q_ix hu (qv 0) (qv 4)) ao) ao) (d9 ao (rG ao (qv 4)))) ao))
   (aj (aP (i:=6) nd rfl (Or.inl rfl) (q_ix hu (qv 2) (b7 (dq (qv 5) (qv 1)) (cG bH fj rfl T.n_len fM (qv 2)))))
   (au (bO 6 (mR (cu (pv 3)) (fK (aa (b7 (qv 5) (qv 1)) (aa (qv 6) (aa (b7 (dq (qv 5) (rG (qv 1) (cG bH fj rfl T.n_len fM (qv 2)))) (qv 1)) aA))))))))))
   (au (rA (pv 3)))))
theorem jL {f:Addr} {fd:FuncData} (F:Fun K "_law_steps" "_law_steps" aR f fd) (T:Txt K mg)  : FnOk P w K mg base CX0 1 f fd ["_law_cells", "_law_many", "_law_deeds_here"] (az K aM) :=
 FunQ.ok F fL jj (lq T ) lG
theorem e_:FnScope ["_law_found"] ["_law_found"] (defScope aV):=⟨rfl,rfl,rfl,by decide +kernel,rfl,by decide +kernel,by decide +kernel⟩
theorem lF {f:Addr} (T:Txt K mg)  (cdv:Value) (A:Around) (outer:List PySem.Env) (s:Shared) (H:Hp) (E:XK) (hr:Room 0 (A.deeper (envOfC "_law_whole" (defScope aV) s.heap.objs.size f cdv))) :
  QSs (cxOf CX0 P w K mg base ["_law_found"] "_law_whole" (defScope aV) f cdv A outer s H E).nox K L0 (defBody aV) dD :=
 have nd:=e_.nd
 have hu:(A.deeper (envOfC "_law_whole" (defScope aV) s.heap.objs.size f cdv)).units+64<cLine:=hr.units
 (au (bN (xu (ou T.n_isinstance (qv 0) (mK T.n_int wG)) (Bp (Dr (ou T.n_isinstance (qv 0) (mK T.n_bool xg)))))))
theorem jG {f:Addr} {fd:FuncData} (F:Fun K "_law_whole" "_law_whole" aV f fd) (T:Txt K mg)  : FnOk P w K mg base CX0 1 f fd ["_law_found"] (az K aQ) :=
 FunQ.ok F e_ iY (lF T ) mX
theorem gO:FnScope ["_law_m", "_law_pairs", "_law_steps_here", "_law_p", "_law_deed", "_law_q", "_law_word", "_law_old", "_law_new"] ["_law_m", "_law_pairs"] (defScope bw):=⟨rfl,rfl,rfl,by decide +kernel,rfl,by decide +kernel,by decide +kernel⟩
theorem qz {f:Addr} (T:Txt K mg)  (cdv:Value) (A:Around) (outer:List PySem.Env) (s:Shared) (H:Hp) (E:XK) (hr:Room 0 (A.deeper (envOfC "_law_due" (defScope bw) s.heap.objs.size f cdv))) :
  QSs (cxOf CX0 P w K mg base ["_law_m", "_law_pairs", "_law_steps_here", "_law_p", "_law_deed", "_law_q", "_law_word", "_law_old", "_law_new"] "_law_due" (defScope bw) f cdv A outer s H E).nox K L0 (defBody bw) fV :=
 have nd:=gO.nd
 have hu:(A.deeper (envOfC "_law_due" (defScope bw) s.heap.objs.size f cdv)).units+64<cLine:=hr.units
 (aj (aP (i:=2) nd rfl (Or.inl rfl) (jg aA))
   (aj (bO 0 (fD PassesOwn.never rfl (iu (q_ix hu (qv 0) ao)) (sG rfl (cZ (bz (i:=3) nd rfl (Or.inl rfl)) (cZ (bz (i:=4) nd rfl (Or.inl rfl)) (cZ (bz (i:=5) nd rfl (Or.inl rfl)) oE))))
   (aj (bO 4 (aP (i:=6) nd rfl (Or.inl rfl) (qv 4)))
   (aj (bO 1 (fD PassesOwn.never rfl (Ad T.n_reversed (qv 1)) (sG rfl (cZ (bz (i:=7) nd rfl (Or.inl rfl)) (cZ (bz (i:=8) nd rfl (Or.inl rfl)) oE)))
   (au (eG (cL (kEq (K:=K) hu) kW (qv 7) (qv 4) (nomark _))
   (au (bO 8 (aP (i:=6) nd rfl (Or.inl rfl) (qv 8))))
   bM))))
   (au (bO 5 (bO 6 (bO 3 (mR (cu (pv 2)) (fK (aa (qv 3) (aa (qv 6) (aa (qv 5) aA)))))))))))))
   (au (bN (fK (aa (q_ix hu (qv 0) ao) (aa (gh hu rfl T.n_sorted rfl T.n_set (qv 2)) aA)))))))
theorem oN {f:Addr} {fd:FuncData} (F:Fun K "_law_due" "_law_due" bw f fd) (T:Txt K mg)  : FnOk P w K mg base CX0 1 f fd ["_law_m", "_law_pairs"] (az K bA) :=
 FunQ.ok F gO lX (qz T ) qw
theorem dJ:FnScope ["_law_cell", "_law_pool", "_law_some"] ["_law_cell", "_law_pool"] (defScope aG):=⟨rfl,rfl,rfl,by decide +kernel,rfl,by decide +kernel,by decide +kernel⟩
theorem i_ {f:Addr} (T:Txt K mg)  (cdv:Value) (A:Around) (outer:List PySem.Env) (s:Shared) (H:Hp) (E:XK) (hr:Room 0 (A.deeper (envOfC "_law_no_deed" (defScope aG) s.heap.objs.size f cdv))) :
  QSs (cxOf CX0 P w K mg base ["_law_cell", "_law_pool", "_law_some"] "_law_no_deed" (defScope aG) f cdv A outer s H E).nox K L0 (defBody aG) cC :=
 have nd:=dJ.nd
 have hu:(A.deeper (envOfC "_law_no_deed" (defScope aG) s.heap.objs.size f cdv)).units+64<cLine:=hr.units
 (aj (aP (i:=2) nd rfl (Or.inl rfl) (jg (aa eU (aa eU (aa eU (aa eU (aa eU (aa eU (aa eU (aa eU (aa (d9 (q_ix hu (qv 1) ao) eU) (aa (yr (q_ix hu (qv 1) ao)) (aa (d9 (q_ix hu (qv 1) ao) eU) aA)))))))))))))
   (au (bN (q_ix hu (qv 2) (b7 (qv 0) ao)))))
theorem ir {f:Addr} {fd:FuncData} (F:Fun K "_law_no_deed" "_law_no_deed" aG f fd) (T:Txt K mg)  : FnOk P w K mg base CX0 1 f fd ["_law_cell", "_law_pool"] (az K aY) :=
 FunQ.ok F dJ gH (i_ T ) iT
theorem fc:FnScope ["deeds", "deed"] ["deeds"] (defScope aU):=⟨rfl,rfl,rfl,by decide +kernel,rfl,by decide +kernel,by decide +kernel⟩
theorem lC {f:Addr} (T:Txt K mg) (c_is_open:Cal P w K mg base 1 "is_open" ["thing"] (az K bV)) (cdv:Value) (A:Around) (outer:List PySem.Env) (s:Shared) (H:Hp) (E:XK) (hr:Room 1 (A.deeper (envOfC "check_open" (defScope aU) s.heap.objs.size f cdv))) :
  QSs (cxOf (CXx P w mg rn) P w K mg base ["deeds", "deed"] "check_open" (defScope aU) f cdv A outer s H E) K (LX rn mg E) (defBody aU) dG :=
 have nd:=fc.nd
 have hu:(A.deeper (envOfC "check_open" (defScope aU) s.heap.objs.size f cdv)).units+64<cLine:=hr.units
 (au (bO 0 (fD PassesOwn.leaving rfl (iu (qv 0)) (bz (i:=1) nd rfl (Or.inl rfl))
   (au (eG (cJ (c7 (cF c_is_open (hr.mono (by decide)) (aa (qv 1) aA))))
   (au (vH rfl zN T.x_NoDeed (.head _) eU))
   bM)))))
theorem jY {f:Addr} {fd:FuncData} (F:Fun K "check_open" "check_open" aU f fd) (T:Txt K mg) (c_is_open:Cal P w K mg base 1 "is_open" ["thing"] (az K bV)):FnOk P w K mg base (CXx P w mg rn) 2 f fd ["deeds"] (dB K rn mg bh) :=
 FunX.ok F fc jh (lC T c_is_open) lU
theorem cB:FnScope ["_law_found", "_law_step"] ["_law_found"] (defScope aD):=⟨rfl,rfl,rfl,by decide +kernel,rfl,by decide +kernel,by decide +kernel⟩
theorem fX {f:Addr} (T:Txt K mg) (c__law_whole:Cal P w K mg base 1 "_law_whole" ["_law_found"] (az K aQ)) (cdv:Value) (A:Around) (outer:List PySem.Env) (s:Shared) (H:Hp) (E:XK) (hr:Room 1 (A.deeper (envOfC "_law_is_machine" (defScope aD) s.heap.objs.size f cdv))) :
  QSs (cxOf CX0 P w K mg base ["_law_found", "_law_step"] "_law_is_machine" (defScope aD) f cdv A outer s H E).nox K L0 (defBody aD) bU :=
 have nd:=cB.nd
 have hu:(A.deeper (envOfC "_law_is_machine" (defScope aD) s.heap.objs.size f cdv)).units+64<cLine:=hr.units
 (aj (eG (qt_w (ie (cJ (c7 (ou T.n_isinstance (qv 0) (mK T.n_tuple oY)))) (ie (cL (kNe (K:=K) hu) nP (cG bH fj rfl T.n_len fM (qv 0)) ao (nomark _)) (ju (cJ (c7 (cF c__law_whole (hr.mono (by decide)) (aa (q_ix hu (qv 0) ao) aA))))))))
   (au (bN q_bl))
   bM)
   (aj (eG (cJ (c7 (ou T.n_isinstance (q_ix hu (qv 0) ao) (mK T.n_list kh))))
   (au (bN q_bl))
   bM)
   (aj (bO 0 (fD PassesOwn.never rfl (iu (q_ix hu (qv 0) ao)) (bz (i:=1) nd rfl (Or.inl rfl))
   (aj (eG (qt_w (ie (cJ (c7 (ou T.n_isinstance (qv 1) (mK T.n_tuple oY)))) (ie (cL (kNe (K:=K) hu) nP (cG bH fj rfl T.n_len fM (qv 1)) ao (nomark _)) (ju (cJ (c7 (ou T.n_isinstance (q_ix hu (qv 1) ao) (mK T.n_str wI))))))))
   (au (bN q_bl))
   bM)
   (au (eG (qt_w (ie (cJ (c7 (cF c__law_whole (hr.mono (by decide)) (aa (q_ix hu (qv 1) ao) aA)))) (ju (cJ (c7 (cF c__law_whole (hr.mono (by decide)) (aa (q_ix hu (qv 1) ao) aA)))))))
   (au (bN q_bl))
   bM)))))
   (au (bN q_bl)))))
theorem eX {f:Addr} {fd:FuncData} (F:Fun K "_law_is_machine" "_law_is_machine" aD f fd) (T:Txt K mg) (c__law_whole:Cal P w K mg base 1 "_law_whole" ["_law_found"] (az K aQ)):FnOk P w K mg base CX0 2 f fd ["_law_found"] (az K aF) :=
 FunQ.ok F cB eF (fX T c__law_whole) gf
theorem d_:FnScope ["_law_cell", "_law_pool", "_law_word"] ["_law_cell", "_law_pool"] (defScope aN):=⟨rfl,rfl,rfl,by decide +kernel,rfl,by decide +kernel,by decide +kernel⟩
theorem jQ {f:Addr} (T:Txt K mg) (c__law_no_deed:Cal P w K mg base 1 "_law_no_deed" ["_law_cell", "_law_pool"] (az K aY)) (cdv:Value) (A:Around) (outer:List PySem.Env) (s:Shared) (H:Hp) (E:XK) (hr:Room 1 (A.deeper (envOfC "_law_spoilt" (defScope aN) s.heap.objs.size f cdv))) :
  QSs (cxOf CX0 P w K mg base ["_law_cell", "_law_pool", "_law_word"] "_law_spoilt" (defScope aN) f cdv A outer s H E).nox K L0 (defBody aN) cX :=
 have nd:=d_.nd
 have hu:(A.deeper (envOfC "_law_spoilt" (defScope aN) s.heap.objs.size f cdv)).units+64<cLine:=hr.units
 (aj (aP (i:=2) nd rfl (Or.inl rfl) (cF c__law_no_deed (hr.mono (by decide)) (aa (dq (qv 0) ao) (aa (qv 1) aA))))
   (aj (eG (cL (kEq (K:=K) hu) kW (b7 (qv 0) ao) ao (nomark _))
   (au (rM (qm_v (pv 2) (qm_e (q_ix hu (qv 1) (b7 (dq (qv 0) ao) ao)) wj))))
   bM)
   (au (rM (qm_e (q_ix hu (qv 1) (b7 (dq (qv 0) ao) ao)) (qm_v (pv 2) wj))))))
theorem iW {f:Addr} {fd:FuncData} (F:Fun K "_law_spoilt" "_law_spoilt" aN f fd) (T:Txt K mg) (c__law_no_deed:Cal P w K mg base 1 "_law_no_deed" ["_law_cell", "_law_pool"] (az K aY)):FnOk P w K mg base CX0 2 f fd ["_law_cell", "_law_pool"] (az K aZ) :=
 FunQ.ok F d_ iD (jQ T c__law_no_deed) k_
theorem lL:FnScope ["m", "pairs", "new_deeds", "old", "new"] ["m", "pairs"] (defScope bW):=⟨rfl,rfl,rfl,by decide +kernel,rfl,by decide +kernel,by decide +kernel⟩
theorem vd {f:Addr} (T:Txt K mg) (c_with_deeds:Cal P w K mg base 1 "with_deeds" ["m", "new_deeds"] (az K bu)) (c_check_open:CalX P w K mg base rn 2 "check_open" ["deeds"] bh) (cdv:Value) (A:Around) (outer:List PySem.Env) (s:Shared) (H:Hp) (E:XK) (hr:Room 2 (A.deeper (envOfC "rename" (defScope bW) s.heap.objs.size f cdv))) :
  QSs (cxOf (CXx P w mg rn) P w K mg base ["m", "pairs", "new_deeds", "old", "new"] "rename" (defScope bW) f cdv A outer s H E) K (LX rn mg E) (defBody bW) jR :=
 have nd:=lL.nd
 have hu:(A.deeper (envOfC "rename" (defScope bW) s.heap.objs.size f cdv)).units+64<cLine:=hr.units
 (aj (aP (i:=2) nd rfl (Or.inl rfl) yI)
   (aj (bO 1 (fD PassesOwn.leaving rfl (iu (qv 1)) (sG rfl (cZ (bz (i:=3) nd rfl (Or.inl rfl)) (cZ (bz (i:=4) nd rfl (Or.inl rfl)) oE)))
   (aj (bO 4 (bO 3 (pQ c_check_open (hr.mono (by decide)) Dn (aa (jg (aa (qv 3) (aa (qv 4) aA))) aA))))
   (au (bO 4 (bO 3 (zY (cu (pv 2)) (qv 3) (qv 4))))))))
   (au (bN (cF c_with_deeds (hr.mono (by decide)) (aa (qv 0) (aa (qv 2) aA)))))))
theorem rC {f:Addr} {fd:FuncData} (F:Fun K "rename" "rename" bW f fd) (T:Txt K mg) (c_with_deeds:Cal P w K mg base 1 "with_deeds" ["m", "new_deeds"] (az K bu)) (c_check_open:CalX P w K mg base rn 2 "check_open" ["deeds"] bh):FnOk P w K mg base (CXx P w mg rn) 3 f fd ["m", "pairs"] (dB K rn mg bf) :=
 FunX.ok F lL qD (vd T c_with_deeds c_check_open) uH
theorem dM:FnScope ["_law_m", "_law_pairs", "_law_kinds", "e", "_law_other"] ["_law_m", "_law_pairs"] (defScope aJ):=⟨rfl,rfl,rfl,by decide +kernel,rfl,by decide +kernel,by decide +kernel⟩
theorem jk {f:Addr} (T:Txt K mg) (c_rename:CalX P w K mg base rn 3 "rename" ["m", "pairs"] bf) (cdv:Value) (A:Around) (outer:List PySem.Env) (s:Shared) (H:Hp) (E:XK) (hr:Room 3 (A.deeper (envOfC "_law_refused" (defScope aJ) s.heap.objs.size f cdv))) :
  QSs (cxOf CX0 P w K mg base ["_law_m", "_law_pairs", "_law_kinds", "e", "_law_other"] "_law_refused" (defScope aJ) f cdv A outer s H E).nox K L0 (defBody aJ) cD :=
 have nd:=dM.nd
 have hu:(A.deeper (envOfC "_law_refused" (defScope aJ) s.heap.objs.size f cdv)).units+64<cLine:=hr.units
 (aj (aP (i:=2) nd rfl (Or.inl rfl) (fK aA))
   (aj (yc (j:=3) (ρh:=fun a=>[none,none,none,some (.xc a),none]) T.r_KinError nd rfl rfl rfl rfl (fun a=>rfl) (fun pn xe E1 hx1=>(au (pQ c_rename (hr.mono (by decide)) hx1 (aa (qv 0) (aa (qv 1) aA)))))
   (fun pn a oe n C hn hm xc hp hcl=>by
    obtain ⟨c_TooBig,m_TooBig,k_TooBig⟩:=T.i_TooBig n C hn hm
    obtain ⟨c_NoName,m_NoName,k_NoName⟩:=T.i_NoName n C hn hm
    obtain ⟨c_NoFrame,m_NoFrame,k_NoFrame⟩:=T.i_NoFrame n C hn hm
    obtain ⟨c_NoMachine,m_NoMachine,k_NoMachine⟩:=T.i_NoMachine n C hn hm
    obtain ⟨c_NoRow,m_NoRow,k_NoRow⟩:=T.i_NoRow n C hn hm
    obtain ⟨c_NoState,m_NoState,k_NoState⟩:=T.i_NoState n C hn hm
    obtain ⟨c_NoDeed,m_NoDeed,k_NoDeed⟩:=T.i_NoDeed n C hn hm
    exact (aj (aP (i:=4) nd rfl (Or.inl rfl) (zQ (j:=3) (cs:=[c_TooBig,c_NoName,c_NoFrame,c_NoMachine,c_NoRow,c_NoState]) T.n_isinstance hp hcl xc (bR k_TooBig (bR k_NoName (bR k_NoFrame (bR k_NoMachine (bR k_NoRow (bR k_NoState qp)))))) (Nat.le_of_ble_eq_true rfl) (pv 3) (dW (pe_glob rfl m_TooBig rfl) (dW (pe_glob rfl m_NoName rfl) (dW (pe_glob rfl m_NoFrame rfl) (dW (pe_glob rfl m_NoMachine rfl) (dW (pe_glob rfl m_NoRow rfl) (dW (pe_glob rfl m_NoState rfl) xG))))))))
   (au (bO 4 (aP (i:=2) nd rfl (Or.inl rfl) (fK (aa (zP (vc:=.ref c_NoDeed) (j:=3) T.n_isinstance hp hcl xc k_NoDeed (pv 3) (pe_glob rfl m_NoDeed rfl) (fun _ r=>r)) (aa (zP (vc:=.ty "ValueError") (j:=3) T.n_isinstance hp hcl xc (T.i_ValueError n C hn hm) (pv 3) (mK T.n_ValueError jO) (fun _ r=>r)) (aa (qv 4) aA))))))))))
   (au (bN (uh (kEq (K:=K) hu) kW (qv 2) (fK (aa q_bl (aa q_bl (aa q_bl aA)))) (nomark _))))))
theorem iH {f:Addr} {fd:FuncData} (F:Fun K "_law_refused" "_law_refused" aJ f fd) (T:Txt K mg) (c_rename:CalX P w K mg base rn 3 "rename" ["m", "pairs"] bf):FnOk P w K mg base CX0 4 f fd ["_law_m", "_law_pairs"] (az K aX) :=
 FunQ.ok F dM gC (jk T c_rename) jc
theorem wL:FnScope ["_law_script", "_law_first", "_law_many", "_law_pool", "_law_names", "_law_steps_here", "_law_m", "_law_pairs", "_law_cell", "_law_turn", "_law_handed", "_law_told", "_law_found", "_law_kept", "_law_again"] ["_law_script"] (defScope eY):=⟨rfl,rfl,rfl,by decide +kernel,rfl,by decide +kernel,by decide +kernel⟩
theorem Du {f:Addr} (T:Txt K mg) (c__law_cell_at:Cal P w K mg base 1 "_law_cell_at" ["_law_script", "_law_k"] (az K aB)) (c__law_deeds:Cal P w K mg base 1 "_law_deeds" ["_law_cell", "_law_turn"] (az K bj)) (c__law_steps:Cal P w K mg base 1 "_law_steps" ["_law_cells", "_law_many", "_law_deeds_here"] (az K aM)) (c_rename:CalX P w K mg base rn 3 "rename" ["m", "pairs"] bf) (c__law_spoilt:Cal P w K mg base 2 "_law_spoilt" ["_law_cell", "_law_pool"] (az K aZ)) (c__law_refused:Cal P w K mg base 4 "_law_refused" ["_law_m", "_law_pairs"] (az K aX)) (c__law_is_machine:Cal P w K mg base 2 "_law_is_machine" ["_law_found"] (az K aF)) (c__law_due:Cal P w K mg base 1 "_law_due" ["_law_m", "_law_pairs"] (az K bA)) (cdv:Value) (A:Around) (outer:List PySem.Env) (s:Shared) (H:Hp) (E:XK) (hr:Room 4 (A.deeper (envOfC "law" (defScope eY) s.heap.objs.size f cdv))) :
  QSs (cxOf CX0 P w K mg base ["_law_script", "_law_first", "_law_many", "_law_pool", "_law_names", "_law_steps_here", "_law_m", "_law_pairs", "_law_cell", "_law_turn", "_law_handed", "_law_told", "_law_found", "_law_kept", "_law_again"] "law" (defScope eY) f cdv A outer s H E).nox K L0 (defBody eY) yj :=
 have nd:=wL.nd
 have hu:(A.deeper (envOfC "law" (defScope eY) s.heap.objs.size f cdv)).units+64<cLine:=hr.units
 (aj (aP (i:=1) nd rfl (Or.inl rfl) (cF c__law_cell_at (hr.mono (by decide)) (aa (qv 0) (aa ao aA))))
   (aj (aP (i:=2) nd rfl (Or.inl rfl) (d9 ao (b7 (qv 1) (q_ix hu (jg (aa ao (aa ao (aa ao aA)))) (b7 (dq (qv 1) ao) ao)))))
   (aj (aP (i:=3) nd rfl (Or.inl rfl) (cF c__law_deeds (hr.mono (by decide)) (aa (cF c__law_cell_at (hr.mono (by decide)) (aa (qv 0) (aa ao aA))) (aa (cF c__law_cell_at (hr.mono (by decide)) (aa (qv 0) (aa ao aA))) aA))))
   (aj (aP (i:=4) nd rfl (Or.inl rfl) (d9 (jg (aa eU aA)) (gj (qv 3) jT (dR (d9 ao (b7 (dq (qv 1) ao) ao))))))
   (aj (aP (i:=5) nd rfl (Or.inl rfl) (cF c__law_steps (hr.mono (by decide)) (aa (gj (qv 0) (dR ao) (dR ao)) (aa (qv 2) (aa (qv 4) aA)))))
   (aj (eG (cL (kEq (K:=K) hu) kW (b7 (dq (qv 1) ao) ao) ao (nomark _))
   (au (aP (i:=5) nd rfl (Or.inl rfl) (d9 (qv 5) (cF c__law_steps (hr.mono (by decide)) (aa (pq (tn:=["_law_k"]) (cn:=["_law_script"]) (ix:=[0]) rfl (uA (jW T.n_range ao)) (cO.of (sc:=defScope eY) (N:=["_law_script", "_law_first", "_law_many", "_law_pool", "_law_names", "_law_steps_here", "_law_m", "_law_pairs", "_law_cell", "_law_turn", "_law_handed", "_law_told", "_law_found", "_law_kept", "_law_again"]) rfl rfl (by decide +kernel)) (fun _ _ _ _=>(bz (i:=0) (show (["_law_k", "_law_script"]:List Str).Nodup by decide +kernel) rfl (Or.inl rfl) (.inr rfl))) (fun _ _ _ _=>gQ) (fun _ _ _ _=>(d9 (cF c__law_cell_at (hr.mono (by decide)) (aa (qv 1) (aa ao aA))) (rG (qv 0) (qv 0))))) (aa (qv 2) (aa (qv 4) aA)))))))
   bM)
   (aj (bO 2 (aP (i:=6) nd rfl (Or.inl rfl) (fK (aa (qv 2) (aa (gh hu rfl T.n_sorted rfl T.n_set (qv 5)) aA)))))
   (aj (aP (i:=7) nd rfl (Or.inl rfl) (jg aA))
   (aj (bO 0 (fD PassesOwn.never rfl (iu (gj (qv 0) (dR ao) (dR (d9 ao (b7 (cF c__law_cell_at (hr.mono (by decide)) (aa (qv 0) (aa ao aA))) ao))))) (bz (i:=8) nd rfl (Or.inl rfl))
   (au (mR (cu (pv 7)) (fK (aa (q_ix hu (qv 3) (b7 (qv 8) ao)) (aa (q_ix hu (qv 3) (b7 (dq (qv 8) ao) ao)) aA)))))))
   (aj (aP (i:=9) nd rfl (Or.inl rfl) (cF c__law_cell_at (hr.mono (by decide)) (aa (qv 0) (aa ao aA))))
   (aj (bO 2 (aP (i:=10) nd rfl (Or.inl rfl) (fK (aa (qv 2) (aa (j7 fQ nU rfl T.n_list kh (q_ix hu (qv 6) ao)) aA)))))
   (aj (aP (i:=11) nd rfl (Or.inl rfl) (j7 fQ nU rfl T.n_list kh (qv 7)))
   (aj (eG (cL (kEq (K:=K) hu) kW (b7 (qv 9) ao) ao (nomark _))
   (aj (v8 (cu (pv 11)) (b7 (dq (qv 9) ao) (d9 (cG bH fj rfl T.n_len fM (qv 11)) ao)) (cF c__law_spoilt (hr.mono (by decide)) (aa (dq (qv 9) ao) (aa (qv 3) aA))))
   (aj (eG (cJ (c7 (cF c__law_refused (hr.mono (by decide)) (aa (qv 10) (aa (qv 11) aA)))))
   (au (bN q_bl))
   bM)
   (au (yS (cu (pv 11)) (b7 (dq (qv 9) ao) (cG bH fj rfl T.n_len fM (qv 11)))))))
   bM)
   (aj (aP (i:=12) nd rfl (Or.inl rfl) (pH c_rename (hr.mono (by decide)) (aa (qv 10) (aa (qv 11) aA))))
   (aj (eG (qt_w (ie (cJ (c7 (cF c__law_is_machine (hr.mono (by decide)) (aa (qv 12) aA)))) (ie (cL (kNe (K:=K) hu) nP (qv 12) (cF c__law_due (hr.mono (by decide)) (aa (qv 6) (aa (qv 7) aA))) (nomark _)) (ie (cL (kNe (K:=K) hu) nP (qv 10) (qv 6) (nomark _)) (ju (cL (kNe (K:=K) hu) nP (qv 11) (qv 7) (nomark _)))))))
   (au (bN q_bl))
   bM)
   (aj (aP (i:=13) nd rfl (Or.inl rfl) (fK (aa (q_ix hu (qv 12) ao) (aa (j7 fQ nU rfl T.n_list kh (q_ix hu (qv 12) ao)) aA))))
   (aj (v8 (cu (pv 11)) ao (fK (aa (q_ix hu (qv 3) (b7 (dq (qv 9) ao) ao)) (aa (q_ix hu (qv 3) (b7 (dq (qv 9) ao) ao)) aA))))
   (aj (aP (i:=14) nd rfl (Or.inl rfl) (pH c_rename (hr.mono (by decide)) (aa (qv 10) (aa (qv 11) aA))))
   (aj (eG (qt_w (ie (cJ (c7 (cF c__law_is_machine (hr.mono (by decide)) (aa (qv 14) aA)))) (ie (cL (kNe (K:=K) hu) nP (qv 14) (cF c__law_due (hr.mono (by decide)) (aa (qv 6) (aa (qv 11) aA))) (nomark _)) (ju (cL (kNe (K:=K) hu) nP (qv 12) (qv 13) (nomark _))))))
   (au (bN q_bl))
   bM)
   (aj (pG (A_ hu (cu (pv 14)) ao))
   (aj (pG (A_ hu (cu (pv 10)) ao))
   (au (bO 2 (bN (xu (uh (kEq (K:=K) hu) kW (pH c_rename (hr.mono (by decide)) (aa (qv 10) (aa (qv 11) aA))) (fK (aa (qv 2) (aa (jg aA) aA))) (nomark _)) (xu (uh (kEq (K:=K) hu) kW (pH c_rename (hr.mono (by decide)) (aa (qv 6) (aa (qv 7) aA))) (qv 13) (nomark _)) (Bp (uh (kEq (K:=K) hu) kW (qv 12) (qv 13) (nomark _)))))))))))))))))))))))))))))
theorem ok_law {f:Addr} {fd:FuncData} (F:Fun K "law" "law" eY f fd) (T:Txt K mg) (c__law_cell_at:Cal P w K mg base 1 "_law_cell_at" ["_law_script", "_law_k"] (az K aB)) (c__law_deeds:Cal P w K mg base 1 "_law_deeds" ["_law_cell", "_law_turn"] (az K bj)) (c__law_steps:Cal P w K mg base 1 "_law_steps" ["_law_cells", "_law_many", "_law_deeds_here"] (az K aM)) (c_rename:CalX P w K mg base rn 3 "rename" ["m", "pairs"] bf) (c__law_spoilt:Cal P w K mg base 2 "_law_spoilt" ["_law_cell", "_law_pool"] (az K aZ)) (c__law_refused:Cal P w K mg base 4 "_law_refused" ["_law_m", "_law_pairs"] (az K aX)) (c__law_is_machine:Cal P w K mg base 2 "_law_is_machine" ["_law_found"] (az K aF)) (c__law_due:Cal P w K mg base 1 "_law_due" ["_law_m", "_law_pairs"] (az K bA)):FnOk P w K mg base CX0 5 f fd ["_law_script"] (az K sp_law) :=
 FunQ.ok F wL xZ (Du T c__law_cell_at c__law_deeds c__law_steps c_rename c__law_spoilt c__law_refused c__law_is_machine c__law_due) B_
end
theorem us1 {us:List Value} (h:us.length=1):∃ a0,us=[a0]:=by
 cases us with
 | nil=>simp at h
 | cons a0 us =>
 cases us with
 | nil=>exact ⟨_,rfl⟩
 | cons b us=>simp at h
theorem us2 {us:List Value} (h:us.length=2):∃ a0 a1,us=[a0,a1]:=by
 cases us with
 | nil=>simp at h
 | cons a0 us =>
 cases us with
 | nil=>simp at h
 | cons a1 us =>
 cases us with
 | nil=>exact ⟨_,_,rfl⟩
 | cons b us=>simp at h
theorem us3 {us:List Value} (h:us.length=3):∃ a0 a1 a2,us=[a0,a1,a2]:=by
 cases us with
 | nil=>simp at h
 | cons a0 us =>
 cases us with
 | nil=>simp at h
 | cons a1 us =>
 cases us with
 | nil=>simp at h
 | cons a2 us =>
 cases us with
 | nil=>exact ⟨_,_,_,rfl⟩
 | cons b us=>simp at h
theorem all_mk {l:PySem.W.OpenLaw} {w:World} {K:PySem.W.Frag} {h:Heap} {mg:Str→Option Value} {fa:Addr} (X:K.In h) (G:h.Ns mainGlobals mg) (hfa:mg "law" = some (.ref fa))
  {f_is_open:Addr} {od_is_open an_is_open:Option Addr} {sl_is_open:Array (Option Value)} {oc_is_open kV_is_open dc_is_open pm_is_open cd_is_open ct_is_open:Value}
  (a_is_open:PySem.W.nsIn K mainGlobals "is_open" = some (some (.ref f_is_open))) (l_is_open:K.lookup f_is_open=some ⟨oc_is_open,od_is_open,.func (PySem.W.fnOf "is_open" "is_open" (defArgs bD) (defBody bD) (defScope bD) .none kV_is_open dc_is_open pm_is_open an_is_open cd_is_open ct_is_open),sl_is_open⟩) (c_is_open:PySem.W.codeIn K cd_is_open "is_open" = true) (k_is_open:PySem.W.keepIn K (.ref f_is_open)=true)
  {f_check_open:Addr} {od_check_open an_check_open:Option Addr} {sl_check_open:Array (Option Value)} {oc_check_open kV_check_open dc_check_open pm_check_open cd_check_open ct_check_open:Value}
  (a_check_open:PySem.W.nsIn K mainGlobals "check_open" = some (some (.ref f_check_open))) (l_check_open:K.lookup f_check_open=some ⟨oc_check_open,od_check_open,.func (PySem.W.fnOf "check_open" "check_open" (defArgs aU) (defBody aU) (defScope aU) .none kV_check_open dc_check_open pm_check_open an_check_open cd_check_open ct_check_open),sl_check_open⟩) (c_check_open:PySem.W.codeIn K cd_check_open "check_open" = true) (k_check_open:PySem.W.keepIn K (.ref f_check_open)=true)
  {f_with_deeds:Addr} {od_with_deeds an_with_deeds:Option Addr} {sl_with_deeds:Array (Option Value)} {oc_with_deeds kV_with_deeds dc_with_deeds pm_with_deeds cd_with_deeds ct_with_deeds:Value}
  (a_with_deeds:PySem.W.nsIn K mainGlobals "with_deeds" = some (some (.ref f_with_deeds))) (l_with_deeds:K.lookup f_with_deeds=some ⟨oc_with_deeds,od_with_deeds,.func (PySem.W.fnOf "with_deeds" "with_deeds" (defArgs aO) (defBody aO) (defScope aO) .none kV_with_deeds dc_with_deeds pm_with_deeds an_with_deeds cd_with_deeds ct_with_deeds),sl_with_deeds⟩) (c_with_deeds:PySem.W.codeIn K cd_with_deeds "with_deeds" = true) (k_with_deeds:PySem.W.keepIn K (.ref f_with_deeds)=true)
  {f_rename:Addr} {od_rename an_rename:Option Addr} {sl_rename:Array (Option Value)} {oc_rename kV_rename dc_rename pm_rename cd_rename ct_rename:Value}
  (a_rename:PySem.W.nsIn K mainGlobals "rename" = some (some (.ref f_rename))) (l_rename:K.lookup f_rename=some ⟨oc_rename,od_rename,.func (PySem.W.fnOf "rename" "rename" (defArgs bW) (defBody bW) (defScope bW) .none kV_rename dc_rename pm_rename an_rename cd_rename ct_rename),sl_rename⟩) (c_rename:PySem.W.codeIn K cd_rename "rename" = true) (k_rename:PySem.W.keepIn K (.ref f_rename)=true)
  {f__law_cell_at:Addr} {od__law_cell_at an__law_cell_at:Option Addr} {sl__law_cell_at:Array (Option Value)} {oc__law_cell_at kV__law_cell_at dc__law_cell_at pm__law_cell_at cd__law_cell_at ct__law_cell_at:Value}
  (a__law_cell_at:PySem.W.nsIn K mainGlobals "_law_cell_at" = some (some (.ref f__law_cell_at))) (l__law_cell_at:K.lookup f__law_cell_at=some ⟨oc__law_cell_at,od__law_cell_at,.func (PySem.W.fnOf "_law_cell_at" "_law_cell_at" (defArgs aH) (defBody aH) (defScope aH) .none kV__law_cell_at dc__law_cell_at pm__law_cell_at an__law_cell_at cd__law_cell_at ct__law_cell_at),sl__law_cell_at⟩) (c__law_cell_at:PySem.W.codeIn K cd__law_cell_at "_law_cell_at" = true) (k__law_cell_at:PySem.W.keepIn K (.ref f__law_cell_at)=true)
  {f__law_deeds:Addr} {od__law_deeds an__law_deeds:Option Addr} {sl__law_deeds:Array (Option Value)} {oc__law_deeds kV__law_deeds dc__law_deeds pm__law_deeds cd__law_deeds ct__law_deeds:Value}
  (a__law_deeds:PySem.W.nsIn K mainGlobals "_law_deeds" = some (some (.ref f__law_deeds))) (l__law_deeds:K.lookup f__law_deeds=some ⟨oc__law_deeds,od__law_deeds,.func (PySem.W.fnOf "_law_deeds" "_law_deeds" (defArgs aL) (defBody aL) (defScope aL) .none kV__law_deeds dc__law_deeds pm__law_deeds an__law_deeds cd__law_deeds ct__law_deeds),sl__law_deeds⟩) (c__law_deeds:PySem.W.codeIn K cd__law_deeds "_law_deeds" = true) (k__law_deeds:PySem.W.keepIn K (.ref f__law_deeds)=true)
  {f__law_steps:Addr} {od__law_steps an__law_steps:Option Addr} {sl__law_steps:Array (Option Value)} {oc__law_steps kV__law_steps dc__law_steps pm__law_steps cd__law_steps ct__law_steps:Value}
  (a__law_steps:PySem.W.nsIn K mainGlobals "_law_steps" = some (some (.ref f__law_steps))) (l__law_steps:K.lookup f__law_steps=some ⟨oc__law_steps,od__law_steps,.func (PySem.W.fnOf "_law_steps" "_law_steps" (defArgs aR) (defBody aR) (defScope aR) .none kV__law_steps dc__law_steps pm__law_steps an__law_steps cd__law_steps ct__law_steps),sl__law_steps⟩) (c__law_steps:PySem.W.codeIn K cd__law_steps "_law_steps" = true) (k__law_steps:PySem.W.keepIn K (.ref f__law_steps)=true)
  {f__law_whole:Addr} {od__law_whole an__law_whole:Option Addr} {sl__law_whole:Array (Option Value)} {oc__law_whole kV__law_whole dc__law_whole pm__law_whole cd__law_whole ct__law_whole:Value}
  (a__law_whole:PySem.W.nsIn K mainGlobals "_law_whole" = some (some (.ref f__law_whole))) (l__law_whole:K.lookup f__law_whole=some ⟨oc__law_whole,od__law_whole,.func (PySem.W.fnOf "_law_whole" "_law_whole" (defArgs aV) (defBody aV) (defScope aV) .none kV__law_whole dc__law_whole pm__law_whole an__law_whole cd__law_whole ct__law_whole),sl__law_whole⟩) (c__law_whole:PySem.W.codeIn K cd__law_whole "_law_whole" = true) (k__law_whole:PySem.W.keepIn K (.ref f__law_whole)=true)
  {f__law_is_machine:Addr} {od__law_is_machine an__law_is_machine:Option Addr} {sl__law_is_machine:Array (Option Value)} {oc__law_is_machine kV__law_is_machine dc__law_is_machine pm__law_is_machine cd__law_is_machine ct__law_is_machine:Value}
  (a__law_is_machine:PySem.W.nsIn K mainGlobals "_law_is_machine" = some (some (.ref f__law_is_machine))) (l__law_is_machine:K.lookup f__law_is_machine=some ⟨oc__law_is_machine,od__law_is_machine,.func (PySem.W.fnOf "_law_is_machine" "_law_is_machine" (defArgs aD) (defBody aD) (defScope aD) .none kV__law_is_machine dc__law_is_machine pm__law_is_machine an__law_is_machine cd__law_is_machine ct__law_is_machine),sl__law_is_machine⟩) (c__law_is_machine:PySem.W.codeIn K cd__law_is_machine "_law_is_machine" = true) (k__law_is_machine:PySem.W.keepIn K (.ref f__law_is_machine)=true)
  {f__law_due:Addr} {od__law_due an__law_due:Option Addr} {sl__law_due:Array (Option Value)} {oc__law_due kV__law_due dc__law_due pm__law_due cd__law_due ct__law_due:Value}
  (a__law_due:PySem.W.nsIn K mainGlobals "_law_due" = some (some (.ref f__law_due))) (l__law_due:K.lookup f__law_due=some ⟨oc__law_due,od__law_due,.func (PySem.W.fnOf "_law_due" "_law_due" (defArgs bw) (defBody bw) (defScope bw) .none kV__law_due dc__law_due pm__law_due an__law_due cd__law_due ct__law_due),sl__law_due⟩) (c__law_due:PySem.W.codeIn K cd__law_due "_law_due" = true) (k__law_due:PySem.W.keepIn K (.ref f__law_due)=true)
  {f__law_refused:Addr} {od__law_refused an__law_refused:Option Addr} {sl__law_refused:Array (Option Value)} {oc__law_refused kV__law_refused dc__law_refused pm__law_refused cd__law_refused ct__law_refused:Value}
  (a__law_refused:PySem.W.nsIn K mainGlobals "_law_refused" = some (some (.ref f__law_refused))) (l__law_refused:K.lookup f__law_refused=some ⟨oc__law_refused,od__law_refused,.func (PySem.W.fnOf "_law_refused" "_law_refused" (defArgs aJ) (defBody aJ) (defScope aJ) .none kV__law_refused dc__law_refused pm__law_refused an__law_refused cd__law_refused ct__law_refused),sl__law_refused⟩) (c__law_refused:PySem.W.codeIn K cd__law_refused "_law_refused" = true) (k__law_refused:PySem.W.keepIn K (.ref f__law_refused)=true)
  {f__law_no_deed:Addr} {od__law_no_deed an__law_no_deed:Option Addr} {sl__law_no_deed:Array (Option Value)} {oc__law_no_deed kV__law_no_deed dc__law_no_deed pm__law_no_deed cd__law_no_deed ct__law_no_deed:Value}
  (a__law_no_deed:PySem.W.nsIn K mainGlobals "_law_no_deed" = some (some (.ref f__law_no_deed))) (l__law_no_deed:K.lookup f__law_no_deed=some ⟨oc__law_no_deed,od__law_no_deed,.func (PySem.W.fnOf "_law_no_deed" "_law_no_deed" (defArgs aG) (defBody aG) (defScope aG) .none kV__law_no_deed dc__law_no_deed pm__law_no_deed an__law_no_deed cd__law_no_deed ct__law_no_deed),sl__law_no_deed⟩) (c__law_no_deed:PySem.W.codeIn K cd__law_no_deed "_law_no_deed" = true) (k__law_no_deed:PySem.W.keepIn K (.ref f__law_no_deed)=true)
  {f__law_spoilt:Addr} {od__law_spoilt an__law_spoilt:Option Addr} {sl__law_spoilt:Array (Option Value)} {oc__law_spoilt kV__law_spoilt dc__law_spoilt pm__law_spoilt cd__law_spoilt ct__law_spoilt:Value}
  (a__law_spoilt:PySem.W.nsIn K mainGlobals "_law_spoilt" = some (some (.ref f__law_spoilt))) (l__law_spoilt:K.lookup f__law_spoilt=some ⟨oc__law_spoilt,od__law_spoilt,.func (PySem.W.fnOf "_law_spoilt" "_law_spoilt" (defArgs aN) (defBody aN) (defScope aN) .none kV__law_spoilt dc__law_spoilt pm__law_spoilt an__law_spoilt cd__law_spoilt ct__law_spoilt),sl__law_spoilt⟩) (c__law_spoilt:PySem.W.codeIn K cd__law_spoilt "_law_spoilt" = true) (k__law_spoilt:PySem.W.keepIn K (.ref f__law_spoilt)=true)
  {f_law:Addr} {od_law an_law:Option Addr} {sl_law:Array (Option Value)} {oc_law kV_law dc_law pm_law cd_law ct_law:Value}
  (a_law:PySem.W.nsIn K mainGlobals "law" = some (some (.ref f_law))) (l_law:K.lookup f_law=some ⟨oc_law,od_law,.func (PySem.W.fnOf "law" "law" (defArgs eY) (defBody eY) (defScope eY) .none kV_law dc_law pm_law an_law cd_law ct_law),sl_law⟩) (c_law:PySem.W.codeIn K cd_law "law" = true) (k_law:PySem.W.keepIn K (.ref f_law)=true)
  (n_ValueError:PySem.W.nsIn K mainGlobals "ValueError" = some none)
  (n_all:PySem.W.nsIn K mainGlobals "all" = some none)
  (n_bool:PySem.W.nsIn K mainGlobals "bool" = some none)
  (n_int:PySem.W.nsIn K mainGlobals "int" = some none)
  (n_isinstance:PySem.W.nsIn K mainGlobals "isinstance" = some none)
  (n_len:PySem.W.nsIn K mainGlobals "len" = some none)
  (n_list:PySem.W.nsIn K mainGlobals "list" = some none)
  (n_range:PySem.W.nsIn K mainGlobals "range" = some none)
  (n_reversed:PySem.W.nsIn K mainGlobals "reversed" = some none)
  (n_set:PySem.W.nsIn K mainGlobals "set" = some none)
  (n_sorted:PySem.W.nsIn K mainGlobals "sorted" = some none)
  (n_str:PySem.W.nsIn K mainGlobals "str" = some none)
  (n_tuple:PySem.W.nsIn K mainGlobals "tuple" = some none)
  {t_LETTERS:Tok} (g_LETTERS:PySem.W.nsIn K mainGlobals "LETTERS" = some (some (.str "abcdefghijklmnopqrstuvwxyz" t_LETTERS)))
  {t_MOST_LETTERS:Tok} (g_MOST_LETTERS:PySem.W.nsIn K mainGlobals "MOST_LETTERS" = some (some (.int 6 t_MOST_LETTERS)))
  {C_KinError:Addr} (xa_KinError:PySem.W.nsIn K mainGlobals "KinError" = some (some (.ref C_KinError)))
  {C_NoDeed:Addr} (xa_NoDeed:PySem.W.nsIn K mainGlobals "NoDeed" = some (some (.ref C_NoDeed)))
  {C_NoFrame:Addr} (xa_NoFrame:PySem.W.nsIn K mainGlobals "NoFrame" = some (some (.ref C_NoFrame)))
  {C_NoMachine:Addr} (xa_NoMachine:PySem.W.nsIn K mainGlobals "NoMachine" = some (some (.ref C_NoMachine)))
  {C_NoName:Addr} (xa_NoName:PySem.W.nsIn K mainGlobals "NoName" = some (some (.ref C_NoName)))
  {C_NoRow:Addr} (xa_NoRow:PySem.W.nsIn K mainGlobals "NoRow" = some (some (.ref C_NoRow)))
  {C_NoState:Addr} (xa_NoState:PySem.W.nsIn K mainGlobals "NoState" = some (some (.ref C_NoState)))
  {C_TooBig:Addr} (xa_TooBig:PySem.W.nsIn K mainGlobals "TooBig" = some (some (.ref C_TooBig)))
  (xe_KinError:PySem.W.excIn K C_KinError [.type "ValueError",.type "Exception",.type "BaseException",.type "object"] "ValueError.__new__" = true) (xg_KinError:PySem.W.findIn K (.ref C_KinError) "__getattr__" = some none) (xh_KinError:PySem.W.findIn K (.ref C_KinError) "__getattribute__" = some (some (.builtin "BaseException.__getattribute__"))) (xi_KinError:PySem.W.findIn K (.ref C_KinError) "__class__" = some (some (.builtin "object.__class__"))) (xj_KinError:PySem.W.mroIn K C_KinError (.type "object")=some true)
  (xe_NoDeed:PySem.W.excIn K C_NoDeed [.type "ValueError",.type "Exception",.type "BaseException",.type "object"] "ValueError.__new__" = true) (xg_NoDeed:PySem.W.findIn K (.ref C_NoDeed) "__getattr__" = some none) (xh_NoDeed:PySem.W.findIn K (.ref C_NoDeed) "__getattribute__" = some (some (.builtin "BaseException.__getattribute__"))) (xi_NoDeed:PySem.W.findIn K (.ref C_NoDeed) "__class__" = some (some (.builtin "object.__class__"))) (xj_NoDeed:PySem.W.mroIn K C_NoDeed (.type "object")=some true)
  (xs_NoDeed_KinError:PySem.W.mroIn K C_NoDeed (.ref C_KinError)=some true)
  (xt_NoDeed_TooBig:PySem.W.kitOne K (.ref C_NoDeed) (.ref C_TooBig)=some false)
  (xt_NoDeed_NoName:PySem.W.kitOne K (.ref C_NoDeed) (.ref C_NoName)=some false)
  (xt_NoDeed_NoFrame:PySem.W.kitOne K (.ref C_NoDeed) (.ref C_NoFrame)=some false)
  (xt_NoDeed_NoMachine:PySem.W.kitOne K (.ref C_NoDeed) (.ref C_NoMachine)=some false)
  (xt_NoDeed_NoRow:PySem.W.kitOne K (.ref C_NoDeed) (.ref C_NoRow)=some false)
  (xt_NoDeed_NoState:PySem.W.kitOne K (.ref C_NoDeed) (.ref C_NoState)=some false)
  (xt_NoDeed_ValueError:PySem.W.kitOne K (.ref C_NoDeed) (.type "ValueError")=some true)
  (xt_NoDeed_NoDeed:PySem.W.kitOne K (.ref C_NoDeed) (.ref C_NoDeed)=some true)
  : ∃ fd:FuncData,(∀ (s:Shared) (v:Value),BindsTo s fd ⟨[v],[]⟩ [("_law_script",v)])∧∀ base:Heap,K.In base→base.Ns mainGlobals mg→FnOk l.prog w K mg base CX0 5 fa fd ["_law_script"] (az K sp_law):=by
 have e:=hfa.symm.trans (PySem.W.mg_of X G a_law)
 cases e
 have ma_KinError:=PySem.W.mg_of X G xa_KinError
 have ma_NoDeed:=PySem.W.mg_of X G xa_NoDeed
 have ma_NoFrame:=PySem.W.mg_of X G xa_NoFrame
 have ma_NoMachine:=PySem.W.mg_of X G xa_NoMachine
 have ma_NoName:=PySem.W.mg_of X G xa_NoName
 have ma_NoRow:=PySem.W.mg_of X G xa_NoRow
 have ma_NoState:=PySem.W.mg_of X G xa_NoState
 have ma_TooBig:=PySem.W.mg_of X G xa_TooBig
 have mk_KinError:XcK K C_KinError:=⟨xe_KinError,xg_KinError,xh_KinError,xi_KinError,xj_KinError⟩
 have mk_NoDeed:XcK K C_NoDeed:=⟨xe_NoDeed,xg_NoDeed,xh_NoDeed,xi_NoDeed,xj_NoDeed⟩
 have each:∀ {G:Str→Addr→Prop},G "NoDeed" C_NoDeed→∀ n C,n∈rn→mg n=some (.ref C)→G n C:=by
  intro G q_NoDeed n C hn hm
  simp only [rn,List.mem_cons,List.not_mem_nil,or_false] at hn
  rcases hn with rfl
  ·rw [ma_NoDeed] at hm; cases hm; exact q_NoDeed
 have T:Txt K mg:=⟨PySem.W.mg_none_of X G n_ValueError,PySem.W.mg_none_of X G n_all,PySem.W.mg_none_of X G n_bool,PySem.W.mg_none_of X G n_int,PySem.W.mg_none_of X G n_isinstance,PySem.W.mg_none_of X G n_len,PySem.W.mg_none_of X G n_list,PySem.W.mg_none_of X G n_range,PySem.W.mg_none_of X G n_reversed,PySem.W.mg_none_of X G n_set,PySem.W.mg_none_of X G n_sorted,PySem.W.mg_none_of X G n_str,PySem.W.mg_none_of X G n_tuple,⟨_,PySem.W.mg_of X G g_LETTERS⟩,⟨_,PySem.W.mg_of X G g_MOST_LETTERS⟩,⟨_,ma_NoDeed,mk_NoDeed⟩,⟨_,ma_KinError,mk_KinError,each ⟨mk_NoDeed,xs_NoDeed_KinError⟩⟩,each ⟨_,ma_TooBig,xt_NoDeed_TooBig⟩,each ⟨_,ma_NoName,xt_NoDeed_NoName⟩,each ⟨_,ma_NoFrame,xt_NoDeed_NoFrame⟩,each ⟨_,ma_NoMachine,xt_NoDeed_NoMachine⟩,each ⟨_,ma_NoRow,xt_NoDeed_NoRow⟩,each ⟨_,ma_NoState,xt_NoDeed_NoState⟩,each xt_NoDeed_ValueError,each ⟨_,ma_NoDeed,xt_NoDeed_NoDeed⟩⟩
 have F_is_open:=fun_mk (st:=bD) l_is_open c_is_open k_is_open
 have F_check_open:=fun_mk (st:=aU) l_check_open c_check_open k_check_open
 have F_with_deeds:=fun_mk (st:=aO) l_with_deeds c_with_deeds k_with_deeds
 have F_rename:=fun_mk (st:=bW) l_rename c_rename k_rename
 have F__law_cell_at:=fun_mk (st:=aH) l__law_cell_at c__law_cell_at k__law_cell_at
 have F__law_deeds:=fun_mk (st:=aL) l__law_deeds c__law_deeds k__law_deeds
 have F__law_steps:=fun_mk (st:=aR) l__law_steps c__law_steps k__law_steps
 have F__law_whole:=fun_mk (st:=aV) l__law_whole c__law_whole k__law_whole
 have F__law_is_machine:=fun_mk (st:=aD) l__law_is_machine c__law_is_machine k__law_is_machine
 have F__law_due:=fun_mk (st:=bw) l__law_due c__law_due k__law_due
 have F__law_refused:=fun_mk (st:=aJ) l__law_refused c__law_refused k__law_refused
 have F__law_no_deed:=fun_mk (st:=aG) l__law_no_deed c__law_no_deed k__law_no_deed
 have F__law_spoilt:=fun_mk (st:=aN) l__law_spoilt c__law_spoilt k__law_spoilt
 have F_law:=fun_mk (st:=eY) l_law c_law k_law
 refine ⟨PySem.W.fnOf "law" "law" (defArgs eY) (defBody eY) (defScope eY) .none kV_law dc_law pm_law an_law cd_law ct_law,fun s v=>.of_eq rfl,fun base _ _=>?_⟩
 have C_is_open:Cal l.prog w K mg base 1 "is_open" ["thing"] (az K bV):=F_is_open.cal (PySem.W.mg_of X G a_is_open) (qC F_is_open T ) fun _ _ _ _ _ _ us hl=>by obtain ⟨_,rfl⟩:=us1 hl; rfl
 have C_with_deeds:Cal l.prog w K mg base 1 "with_deeds" ["m", "new_deeds"] (az K bu):=F_with_deeds.cal (PySem.W.mg_of X G a_with_deeds) (kO F_with_deeds T ) fun _ _ _ _ _ _ us hl=>by obtain ⟨_,_,rfl⟩:=us2 hl; rfl
 have C__law_cell_at:Cal l.prog w K mg base 1 "_law_cell_at" ["_law_script", "_law_k"] (az K aB):=F__law_cell_at.cal (PySem.W.mg_of X G a__law_cell_at) (g8 F__law_cell_at T ) fun _ _ _ _ _ _ us hl=>by obtain ⟨_,_,rfl⟩:=us2 hl; rfl
 have C__law_deeds:Cal l.prog w K mg base 1 "_law_deeds" ["_law_cell", "_law_turn"] (az K bj):=F__law_deeds.cal (PySem.W.mg_of X G a__law_deeds) (jK F__law_deeds T ) fun _ _ _ _ _ _ us hl=>by obtain ⟨_,_,rfl⟩:=us2 hl; rfl
 have C__law_steps:Cal l.prog w K mg base 1 "_law_steps" ["_law_cells", "_law_many", "_law_deeds_here"] (az K aM):=F__law_steps.cal (PySem.W.mg_of X G a__law_steps) (jL F__law_steps T ) fun _ _ _ _ _ _ us hl=>by obtain ⟨_,_,_,rfl⟩:=us3 hl; rfl
 have C__law_whole:Cal l.prog w K mg base 1 "_law_whole" ["_law_found"] (az K aQ):=F__law_whole.cal (PySem.W.mg_of X G a__law_whole) (jG F__law_whole T ) fun _ _ _ _ _ _ us hl=>by obtain ⟨_,rfl⟩:=us1 hl; rfl
 have C__law_due:Cal l.prog w K mg base 1 "_law_due" ["_law_m", "_law_pairs"] (az K bA):=F__law_due.cal (PySem.W.mg_of X G a__law_due) (oN F__law_due T ) fun _ _ _ _ _ _ us hl=>by obtain ⟨_,_,rfl⟩:=us2 hl; rfl
 have C__law_no_deed:Cal l.prog w K mg base 1 "_law_no_deed" ["_law_cell", "_law_pool"] (az K aY):=F__law_no_deed.cal (PySem.W.mg_of X G a__law_no_deed) (ir F__law_no_deed T ) fun _ _ _ _ _ _ us hl=>by obtain ⟨_,_,rfl⟩:=us2 hl; rfl
 have C_check_open:CalX l.prog w K mg base rn 2 "check_open" ["deeds"] bh:=Fun.calX F_check_open (PySem.W.mg_of X G a_check_open) (jY F_check_open T C_is_open) fun _ _ _ _ _ _ us hl=>by obtain ⟨_,rfl⟩:=us1 hl; rfl
 have C__law_is_machine:Cal l.prog w K mg base 2 "_law_is_machine" ["_law_found"] (az K aF):=F__law_is_machine.cal (PySem.W.mg_of X G a__law_is_machine) (eX F__law_is_machine T C__law_whole) fun _ _ _ _ _ _ us hl=>by obtain ⟨_,rfl⟩:=us1 hl; rfl
 have C__law_spoilt:Cal l.prog w K mg base 2 "_law_spoilt" ["_law_cell", "_law_pool"] (az K aZ):=F__law_spoilt.cal (PySem.W.mg_of X G a__law_spoilt) (iW F__law_spoilt T C__law_no_deed) fun _ _ _ _ _ _ us hl=>by obtain ⟨_,_,rfl⟩:=us2 hl; rfl
 have C_rename:CalX l.prog w K mg base rn 3 "rename" ["m", "pairs"] bf:=Fun.calX F_rename (PySem.W.mg_of X G a_rename) (rC F_rename T C_with_deeds C_check_open) fun _ _ _ _ _ _ us hl=>by obtain ⟨_,_,rfl⟩:=us2 hl; rfl
 have C__law_refused:Cal l.prog w K mg base 4 "_law_refused" ["_law_m", "_law_pairs"] (az K aX):=F__law_refused.cal (PySem.W.mg_of X G a__law_refused) (iH F__law_refused T C_rename) fun _ _ _ _ _ _ us hl=>by obtain ⟨_,_,rfl⟩:=us2 hl; rfl
 exact ok_law F_law T C__law_cell_at C__law_deeds C__law_steps C_rename C__law_spoilt C__law_refused C__law_is_machine C__law_due
theorem walk {l:PySem.W.OpenLaw} {q:Program} {loose:List Str} {XP:(Str→Option Value)→Heap→Prop} {YP:World→Heap→Prop} {d:DefRec} {K:Params→PySem.W.Frag} (hn:l.most=some 63) (hdf:d.params.defaults=[])
  (hY:∀ (w:World) (h:Heap),YP w h→(K w.params).In h)
  (F:∀ (w:World) (mg:Str→Option Value) (fa:Addr) (h:Heap),(K w.params).In h→h.Ns mainGlobals mg→mg d.name=some (.ref fa) →
   ∃ fd:FuncData,(∀ (s:Shared) (u:Value),BindsTo s fd ⟨[u],[]⟩ [("_law_script",u)])∧∀ base:Heap,(K w.params).In base→base.Ns mainGlobals mg→FnOk l.prog w (K w.params) mg base CX0 5 fa fd ["_law_script"] (az (K w.params) sp_law)) :
  PySem.W.WalkO q loose XP YP l.row.toRowW d [] (fun f vs=>PySem.call f vs) :=
 L2.walk_of (n:=63) (k:=5) (x := "_law_script") (CX:=fun _=>CX0) (sp:=fun w=>az (K w.params) sp_law) hn (by decide) hdf ⟨rfl,by decide,by decide⟩ hY F (fun w H a ns hl hO hS=>vq hl hS) fun _ _ _ _ _ z=>z
end L2.Q.Law
open PySem PySem.W PyProof.Rows
set_option maxRecDepth 100000 in
set_option maxHeartbeats 0 in
theorem PySem.Challenge.cw_kinlook_k13_renamed_holds : PySem.Challenge.rw_kinlook_k13_renamed.Holds := by
 w_on; o_law; k_head; (case hw=>w_witness2)
 k_fill
 refine L2.Q.Law.walk (l:=PySem.Challenge.rw_kinlook_k13_renamed) rfl rfl (fun w h Y=>PySem.W.kIn_of Y) ?F
 case F =>
  intro w mg fa h KX G hmg
  refine' L2.Q.Law.all_mk KX G hmg ?a_is_open ?l_is_open ?c_is_open ?k_is_open ?a_check_open ?l_check_open ?c_check_open ?k_check_open ?a_with_deeds ?l_with_deeds ?c_with_deeds ?k_with_deeds ?a_rename ?l_rename ?c_rename ?k_rename ?a__law_cell_at ?l__law_cell_at ?c__law_cell_at ?k__law_cell_at ?a__law_deeds ?l__law_deeds ?c__law_deeds ?k__law_deeds ?a__law_steps ?l__law_steps ?c__law_steps ?k__law_steps ?a__law_whole ?l__law_whole ?c__law_whole ?k__law_whole ?a__law_is_machine ?l__law_is_machine ?c__law_is_machine ?k__law_is_machine ?a__law_due ?l__law_due ?c__law_due ?k__law_due ?a__law_refused ?l__law_refused ?c__law_refused ?k__law_refused ?a__law_no_deed ?l__law_no_deed ?c__law_no_deed ?k__law_no_deed ?a__law_spoilt ?l__law_spoilt ?c__law_spoilt ?k__law_spoilt ?a_law ?l_law ?c_law ?k_law ?n_ValueError ?n_all ?n_bool ?n_int ?n_isinstance ?n_len ?n_list ?n_range ?n_reversed ?n_set ?n_sorted ?n_str ?n_tuple ?g_LETTERS ?g_MOST_LETTERS ?xa_KinError ?xa_NoDeed ?xa_NoFrame ?xa_NoMachine ?xa_NoName ?xa_NoRow ?xa_NoState ?xa_TooBig ?xe_KinError ?xg_KinError ?xh_KinError ?xi_KinError ?xj_KinError ?xe_NoDeed ?xg_NoDeed ?xh_NoDeed ?xi_NoDeed ?xj_NoDeed ?xs_NoDeed_KinError ?xt_NoDeed_TooBig ?xt_NoDeed_NoName ?xt_NoDeed_NoFrame ?xt_NoDeed_NoMachine ?xt_NoDeed_NoRow ?xt_NoDeed_NoState ?xt_NoDeed_ValueError ?xt_NoDeed_NoDeed
  (case a_is_open=>k_is)
  (case l_is_open=>k_is)
  (case c_is_open=>k_is)
  (case k_is_open=>k_is)
  (case a_check_open=>k_is)
  (case l_check_open=>k_is)
  (case c_check_open=>k_is)
  (case k_check_open=>k_is)
  (case a_with_deeds=>k_is)
  (case l_with_deeds=>k_is)
  (case c_with_deeds=>k_is)
  (case k_with_deeds=>k_is)
  (case a_rename=>k_is)
  (case l_rename=>k_is)
  (case c_rename=>k_is)
  (case k_rename=>k_is)
  (case a__law_cell_at=>k_is)
  (case l__law_cell_at=>k_is)
  (case c__law_cell_at=>k_is)
  (case k__law_cell_at=>k_is)
  (case a__law_deeds=>k_is)
  (case l__law_deeds=>k_is)
  (case c__law_deeds=>k_is)
  (case k__law_deeds=>k_is)
  (case a__law_steps=>k_is)
  (case l__law_steps=>k_is)
  (case c__law_steps=>k_is)
  (case k__law_steps=>k_is)
  (case a__law_whole=>k_is)
  (case l__law_whole=>k_is)
  (case c__law_whole=>k_is)
  (case k__law_whole=>k_is)
  (case a__law_is_machine=>k_is)
  (case l__law_is_machine=>k_is)
  (case c__law_is_machine=>k_is)
  (case k__law_is_machine=>k_is)
  (case a__law_due=>k_is)
  (case l__law_due=>k_is)
  (case c__law_due=>k_is)
  (case k__law_due=>k_is)
  (case a__law_refused=>k_is)
  (case l__law_refused=>k_is)
  (case c__law_refused=>k_is)
  (case k__law_refused=>k_is)
  (case a__law_no_deed=>k_is)
  (case l__law_no_deed=>k_is)
  (case c__law_no_deed=>k_is)
  (case k__law_no_deed=>k_is)
  (case a__law_spoilt=>k_is)
  (case l__law_spoilt=>k_is)
  (case c__law_spoilt=>k_is)
  (case k__law_spoilt=>k_is)
  (case a_law=>k_is)
  (case l_law=>k_is)
  (case c_law=>k_is)
  (case k_law=>k_is)
  (case n_ValueError=>k_is)
  (case n_all=>k_is)
  (case n_bool=>k_is)
  (case n_int=>k_is)
  (case n_isinstance=>k_is)
  (case n_len=>k_is)
  (case n_list=>k_is)
  (case n_range=>k_is)
  (case n_reversed=>k_is)
  (case n_set=>k_is)
  (case n_sorted=>k_is)
  (case n_str=>k_is)
  (case n_tuple=>k_is)
  (case g_LETTERS=>k_is)
  (case g_MOST_LETTERS=>k_is)
  (case xa_KinError=>k_is)
  (case xa_NoDeed=>k_is)
  (case xa_NoFrame=>k_is)
  (case xa_NoMachine=>k_is)
  (case xa_NoName=>k_is)
  (case xa_NoRow=>k_is)
  (case xa_NoState=>k_is)
  (case xa_TooBig=>k_is)
  (case xe_KinError=>k_exc)
  (case xg_KinError=>k_is)
  (case xh_KinError=>k_is)
  (case xi_KinError=>k_is)
  (case xj_KinError=>k_is)
  (case xe_NoDeed=>k_exc)
  (case xg_NoDeed=>k_is)
  (case xh_NoDeed=>k_is)
  (case xi_NoDeed=>k_is)
  (case xj_NoDeed=>k_is)
  (case xs_NoDeed_KinError=>k_is)
  (case xt_NoDeed_TooBig=>kit_is)
  (case xt_NoDeed_NoName=>kit_is)
  (case xt_NoDeed_NoFrame=>kit_is)
  (case xt_NoDeed_NoMachine=>kit_is)
  (case xt_NoDeed_NoRow=>kit_is)
  (case xt_NoDeed_NoState=>kit_is)
  (case xt_NoDeed_ValueError=>kit_is)
  (case xt_NoDeed_NoDeed=>kit_is)
