import PyProof.Rows.All
import Wide.All
import OpenK.AllK
import Wide.FinOn
import Lean
import PyProof.EqAt
import PyProof.EqKinds
import PyProof.TupleCall
import PyProof.CompUse
import PyProof.NeData
import PyProof.WalksEnum
import PyProof.EnumMake
import PyProof.ZipIter
import PyProof.Rows.EnumRows
import PyProof.Rows.FactsT2
import KE.KDictList
import PyProof.Rows.SortRuns
import PyProof.Rows.SortWalk
import KE.KSortTup
import PyProof.Rows.SortStr
import PyProof.ListRange
import PyProof.StrOps2
import PyProof.StrBlock2
import PyProof.AutoIntG3
import PyProof.ListMulRight
import PyProof.Rows.ListMulArg
import PyProof.Rows.CallKwBuiltin
import PyProof.Rows.StrMul
import KE.KMinBuiltin
import PyProof.TupleKey
import PyProof.SetKind
import PyProof.Rows.SetFrom
import PyProof.DictWalks
import KE.KRevIter
import PySem.Challenge.RW_kinlook_k03_no_machine
set_option compiler.extract_closed false
local macro_rules | `(tactic| walk_at "l") => `(tactic| first | lia | omega)
local macro_rules | `(tactic| walk_at "s1") => `(tactic| solve_by_elim (maxDepth := 4) [Nat.lt_of_lt_of_le, Nat.lt_of_le_of_lt, Nat.le_trans, Nat.lt_trans, Nat.le_of_lt, Nat.le_of_not_lt])
local macro_rules | `(tactic| walk_at "s2") => `(tactic| solve_by_elim (maxDepth := 5) [Nat.lt_of_lt_of_le, Nat.lt_of_le_of_lt, Nat.le_trans, Nat.le_of_lt, Nat.le_of_not_lt, Nat.lt_of_not_le, Nat.lt_of_succ_lt, Nat.le_of_succ_le])
local macro_rules | `(tactic| walk_at "s3") => `(tactic| solve_by_elim (maxDepth := 5) [Int.lt_of_lt_of_le, Int.lt_of_le_of_lt, Int.le_trans, Int.le_of_lt, Int.not_lt.mp, Int.not_le.mp])
local macro_rules | `(tactic| walk_at "s4") => `(tactic| solve_by_elim (maxDepth := 5) [Nat.le_trans, Nat.lt_of_lt_of_le, Nat.le_of_lt, Nat.le_add_right, Nat.le_add_left, Nat.add_le_add_left, Nat.add_lt_add_left, Nat.succ_le_succ, Nat.sub_le])
theorem L2.ex2 {α β:Type _} {A B C:α→β→Prop} {G:Prop} (x:∃ a b,A a b∧B a b∧C a b) (k:∀ a b,A a b→B a b→C a b→G):G :=
  let ⟨a, b, p, q, r⟩ := x
  k a b p q r
set_option Elab.async false
set_option linter.all false
set_option maxRecDepth 100000
namespace L2
open PySem PySem.Spec PyProof.Rows

noncomputable abbrev Key:=Sum Int Str
noncomputable def keyIs:Key→Value→Bool
  | .inl k,v=>Value.isInt k v
  | .inr x,v=>Value.isStrOf x v
noncomputable def keyH (w:World):Key→Int
  | .inl k=>hashInt k
  | .inr x=>hashStr w x
theorem keyIs_shape:∀ {k:Key} {v:Value},keyIs k v=true→(∃ i t,k=Sum.inl i∧v=Value.int i t)∨(∃ x t,k=Sum.inr x∧v=Value.str x t)
  | .inl i,v,h=>by
    obtain ⟨t,e⟩:=Value.isInt_shape (k:=i) (v:=v) h
    exact .inl ⟨i,t,rfl,e⟩
  | .inr x,v,h=>by
    obtain ⟨t,e⟩:=Value.isStrOf_shape (x:=x) (v:=v) h
    exact .inr ⟨x,t,rfl,e⟩
theorem keyIs_int (i:Int) (t:Tok):keyIs (.inl i) (.int i t)=true:=by simp [keyIs,Value.isInt]
theorem keyIs_str (x:Str) (t:Tok):keyIs (.inr x) (.str x t)=true:=by simp [keyIs,Value.isStrOf]
theorem key_ll (a b:Int):decide ((Sum.inl a:Key)=Sum.inl b)=(a == b):=by
  by_cases e:a=b
  · subst e; simp
  · have h:¬ (Sum.inl a:Key)=Sum.inl b:=fun q=>e (Sum.inl.inj q)
    rw [decide_eq_false h]
    exact (beq_eq_false_iff_ne.mpr e).symm
theorem key_rr (a b:Str):decide ((Sum.inr a:Key)=Sum.inr b)=decide (a=b):=by
  by_cases e:a=b
  · subst e; simp
  · have h:¬ (Sum.inr a:Key)=Sum.inr b:=fun q=>e (Sum.inr.inj q)
    rw [decide_eq_false h,decide_eq_false e]
theorem key_lr (a:Int) (b:Str):decide ((Sum.inl a:Key)=Sum.inr b)=false:=decide_eq_false (fun q=>nomatch q)
theorem key_rl (a:Str) (b:Int):decide ((Sum.inr a:Key)=Sum.inl b)=false:=decide_eq_false (fun q=>nomatch q)

noncomputable def mixKind (prog:Program) (w:World):PySem.KeyKind prog w Key where
  is:=keyIs
  hash:=keyH w
  inj:=fun v a b ha hb=>by
    rcases keyIs_shape ha with ⟨i,t,rfl,rfl⟩ | ⟨x,t,rfl,rfl⟩
    · rcases keyIs_shape hb with ⟨j,u,rfl,e⟩ | ⟨y,u,rfl,e⟩
      · injection e with e1 _; rw [e1]
      · exact nomatch e
    · rcases keyIs_shape hb with ⟨j,u,rfl,e⟩ | ⟨y,u,rfl,e⟩
      · exact nomatch e
      · injection e with e1 _; rw [e1]
  byValue:=fun k v h=>by
    rcases keyIs_shape h with ⟨i,t,rfl,rfl⟩ | ⟨x,t,rfl,rfl⟩ <;> rfl
  pyHash:=fun hv h=>by
    rcases keyIs_shape hv with ⟨i,t,rfl,rfl⟩ | ⟨x,t,rfl,rfl⟩
    · exact wpAny_pyHash_int h
    · exact wpAny_pyHash_str h
  eqBool:=fun hu hv h=>by
    rcases keyIs_shape hu with ⟨i,t,rfl,rfl⟩ | ⟨x,t,rfl,rfl⟩
    · rcases keyIs_shape hv with ⟨j,u,rfl,rfl⟩ | ⟨y,u,rfl,rfl⟩
      · rw [key_ll] at h; exact wpAny_eqBool_int h
      · rw [key_lr] at h; exact SeqAt.EqAt.int_str i t y u _ _ _ _ h
    · rcases keyIs_shape hv with ⟨j,u,rfl,rfl⟩ | ⟨y,u,rfl,rfl⟩
      · rw [key_rl] at h; exact SeqAt.EqAt.str_int x t j u _ _ _ _ h
      · rw [key_rr] at h; exact wpAny_eqBool_str h
  «strs» := fun k x t v h=>by
    rcases keyIs_shape h with ⟨i,u,rfl,e⟩ | ⟨y,u,rfl,e⟩
    · exact nomatch e
    · injection e with e1 _
      subst e1
      cases v <;> rfl

theorem mixKind_is (prog:Program) (w:World) (k:Key) (v:Value):(mixKind prog w).is k v=keyIs k v:=rfl
theorem mixKind_int (prog:Program) (w:World) (i:Int) (t:Tok):(mixKind prog w).is (.inl i) (.int i t)=true:=keyIs_int i t
theorem mixKind_str (prog:Program) (w:World) (x:Str) (t:Tok):(mixKind prog w).is (.inr x) (.str x t)=true:=keyIs_str x t
end L2

namespace L2
open PySem PySem.Spec PyProof.Rows

inductive V where
  | non | bl (b:Bool) | int (i:Int) | str (x:Str) | byt (b:Array UInt8) | flt (b:UInt64) | ref (a:Addr) | ty (n:String)
  deriving DecidableEq

noncomputable def RelV:V→Value→Prop
  | .non,u=>u=Value.none
  | .bl b,u=>u=Value.bool b
  | .int i,u=>∃ t,u=Value.int i t
  | .str x,u=>∃ t,u=Value.str x t
  | .byt b,u=>∃ t,u=Value.bytes b t
  | .flt b,u=>∃ t,u=Value.float b t
  | .ref a,u=>u=Value.ref a
  | .ty n,u=>u=Value.type n

noncomputable abbrev Vals:List V→List Value→Prop:=Paired RelV
theorem Vals.length {xs:List V} {us:List Value} (r:Vals xs us):xs.length=us.length:=Paired.length r
theorem Vals.get:∀ {xs:List V} {us:List Value} {i:Nat} {x:V},Vals xs us→xs[i]? = some x→∃ u,us[i]? = some u∧RelV x u
  | _,_,_,_,.nil,e=>by simp at e
  | _,_,0,_,.cons r _,e=>by simp at e; subst e; exact ⟨_,rfl,r⟩
  | _,_,i+1,x,.cons _ t,e=>by
    obtain ⟨u,h1,h2⟩:=Vals.get (i:=i) (x:=x) t (by simpa using e)
    exact ⟨u,by simpa using h1,h2⟩
theorem Vals.set {x:V} {u:Value} (r:RelV x u):∀ {xs:List V} {us:List Value} (i:Nat),Vals xs us→Vals (xs.set i x) (us.set i u)
  | _,_,_,.nil=>.nil
  | _,_,0,.cons _ t=>.cons r t
  | _,_,i+1,.cons q t=>.cons q (Vals.set r i t)
theorem Vals.append:∀ {xs ys:List V} {us ws:List Value},Vals xs us→Vals ys ws→Vals (xs++ys) (us++ws)
  | _,_,_,_,.nil,s=>s
  | _,_,_,_,.cons r t,s=>.cons r (Vals.append t s)
theorem Vals.take:∀ {xs:List V} {us:List Value} (n:Nat),Vals xs us→Vals (xs.take n) (us.take n)
  | _,_,0,_=>.nil
  | _,_,_+1,.nil=>.nil
  | _,_,n+1,.cons r t=>.cons r (Vals.take n t)
theorem Vals.drop:∀ {xs:List V} {us:List Value} (n:Nat),Vals xs us→Vals (xs.drop n) (us.drop n)
  | _,_,0,r=>r
  | _,_,_+1,.nil=>.nil
  | _,_,n+1,.cons _ t=>Vals.drop n t
noncomputable def RelO:Option V→Option Value→Prop
  | some v,some u=>RelV v u
  | none,none=>True
  | _,_=>False
noncomputable def KV {κ:Type}:List (κ × V)→List (κ × Value)→Prop:=Paired fun (p:κ × V) (q:κ × Value)=>p.1=q.1∧RelV p.2 q.2

noncomputable def kV:Key→V
  | .inl i=>.int i
  | .inr x=>.str x

inductive HO where
  /-- a list -/
  | lst (xs:List V)
  /-- a tuple (never changes) -/
  | tup (xs:List V)
  /-- a dict whose keys are ints and texts; one whose keys are tuples of ints and texts (the empty one is both) -/
  | dK (kvs:List (Key × V)) | dT (kvs:List (List Key × V))
  /-- a set of ints: its members,its size -/
  | set (S:Int→Bool) (n:Nat)
  /-- an instance of the class at C,its dict at dx,its attributes -/
  | ins (C dx:Addr) (fs:List (Str × V))
  /-- the dict of the instance at x -/
  | own (x:Addr)
  /-- the dict of an exception -/
  | xd (fs:List (Str × V))
  /-- a bound method,f of x -/
  | met (f x:Addr)
  /-- a range object lo,lo+1,.. below hi -/
  | rng (lo hi:Int)
  /-- a thing that is known to the object (the script; a dict while a loop walks it): read,never written while it is so -/
  | frz (o:Obj) (u:HO)
  /-- a code object's table -/
  | tbl (ps:Array Value)
  /-- any other thing,by what is true of its one object (a def of one's own: SetO a S n:=HO.ext fun h=>..) -/
  | ext (φ:Heap→Prop)

noncomputable abbrev Hp:=Addr→Option HO
noncomputable def upd (H:Hp) (a:Addr) (o:HO):Hp:=fun b=>if b=a then some o else H b
theorem upd_same {H:Hp} {a:Addr} {o:HO}:upd H a o a=some o:=by unfold upd; rw [if_pos rfl]
theorem upd_ne {H:Hp} {a b:Addr} {o:HO} (h:b≠a):upd H a o b=H b:=by unfold upd; rw [if_neg h]
theorem ne_of_none {H:Hp} {a b:Addr} {o:HO} (h:H a=some o) (h':H b=none):a≠b:=by
  intro e; subst e; rw [h] at h'; cases h'

section
variable (P:Program) (w:World)
noncomputable def ObjOk (H:Hp) (h:Heap) (a:Addr):HO→Prop
  | .lst xs=>xs.length≤sizeLine∧∃ (its:List Value) (n:Nat),Vals xs its∧h.get? a=some { cls:=.type "list",data:=.seq its.toArray n }
  | .tup xs=>xs.length≤sizeLine∧∃ its:List Value,Vals xs its∧IsTup h a its.toArray
  | .dK kvs=>kvs.length≤sizeLine∧(a == sysModules)=false∧∃ vs,KV kvs vs∧h.DictOf (mixKind P w) a vs
  | .dT kvs=>kvs.length≤sizeLine∧(a == sysModules)=false∧∃ xs:List (List Key × Addr × Value),
      Paired (fun (p:List Key × V) (q:List Key × Addr × Value)=>p.1=q.1∧H q.2.1=some (.tup (p.1.map kV))∧RelV p.2 q.2.2) kvs xs ∧
      ∃ o es ep,h.get? a=some o∧o.ExactDict∧o.data=.dict es ep∧es.toList=xs.map (entryOfKey (tupleKind (mixKind P w)))∧(xs.map (·.1)).Nodup
  | .set S n=>h.SetOf (intKind P w) a S n
  | .ins C dx fs=>H dx=some (.own a)∧fs.length≤1000∧dx≠a∧h.get? a=some (PySem.W.instObj C dx) ∧
      ∃ mA,h.Ns1 dx mA∧(∀ f,RelO (fs.lookup f) (mA f))∧PySem.Within mA (fs.map (·.1))
  | .own _=>∃ o,h.get? a=some o
  | .xd fs=>∃ mA,h.Ns1 a mA∧∀ f,RelO (fs.lookup f) (mA f)
  | .rng lo hi=>∃ t u v,h.get? a=some { cls:=.type "range",data:=.fields #[.int lo t,.int hi u,.int 1 v] }
  | .frz o u=>h.get? a=some o∧ObjOk H h a u
  | .tbl ps=>h.get? a=some { cls:=.none,data:=.fields ps }
  | .met f x=>h.get? a=some (PySem.W.methodObj (.ref f) (.ref x))
  | .ext φ=>φ h∧(∃ o,h.get? a=some o)∧∀ h1 h2:Heap,φ h1→(∀ o,h1.get? a=some o→h2.get? a=some o)→φ h2
noncomputable def HOk (H:Hp) (h:Heap):Prop:=∀ a o,H a=some o→ObjOk P w H h a o
end

section
variable {P:Program} {w:World} {H H':Hp} {h h':Heap} {a:Addr} {o:HO}
theorem ObjOk.lt (x:ObjOk P w H h a o):a<h.objs.size:=by
  cases o with
  | lst xs=>obtain ⟨_,_,_,_,e⟩:=x; exact Heap.lt_size e
  | tup xs=>obtain ⟨_,_,_,p⟩:=x; exact p.lt
  | dK kvs=>obtain ⟨_,_,_,_,o,_,_,e,_⟩:=x; exact Heap.lt_size e
  | dT kvs=>obtain ⟨_,_,_,_,o,_,_,e,_⟩:=x; exact Heap.lt_size e
  | set S n=>obtain ⟨o,_,_,_,e,_⟩:=x; exact Heap.lt_size e
  | ins C dx fs=>obtain ⟨_,_,_,e,_⟩:=x; exact Heap.lt_size e
  | own y=>obtain ⟨_,e⟩:=x; exact Heap.lt_size e
  | xd fs=>obtain ⟨_,⟨_,_,_,e,_⟩,_⟩:=x; exact Heap.lt_size e
  | rng lo hi=>obtain ⟨_,_,_,e⟩:=x; exact Heap.lt_size e
  | frz ob u=>obtain ⟨e,_⟩:=x; exact Heap.lt_size e
  | tbl ps=>exact Heap.lt_size (show h.get? a=some _ from x)
  | met f y=>exact Heap.lt_size (show h.get? a=some _ from x)
  | ext φ=>obtain ⟨_,⟨_,e⟩,_⟩:=x; exact Heap.lt_size e
theorem Paired.mapP {α β:Type} {F G:α→β→Prop}:∀ {l₁:List α} {l₂:List β},Paired F l₁ l₂→(∀ a b,F a b→G a b)→Paired G l₁ l₂
  | _,_,.nil,_=>.nil
  | _,_,.cons r t,f=>.cons (f _ _ r) (Paired.mapP t f)
theorem ObjOk.stay (x:ObjOk P w H h a o) (k:∀ b u,(b=a∨H b=some (.own a))→h.get? b=some u→h'.get? b=some u)
    (ho:∀ b,H b=some (.own a)→H' b=some (.own a)) (ht:∀ b xs,H b=some (.tup xs)→H' b=some (.tup xs)):ObjOk P w H' h' a o:=by
  induction o with
  | lst xs=>obtain ⟨z,its,n,r,e⟩:=x; exact ⟨z,its,n,r,k _ _ (.inl rfl) e⟩
  | tup xs=>obtain ⟨z,its,r,ob,e,c⟩:=x; exact ⟨z,its,r,ob,k _ _ (.inl rfl) e,c⟩
  | dK kvs=>obtain ⟨z,y,vs,r,ob,es,ep,e,c⟩:=x; exact ⟨z,y,vs,r,ob,es,ep,k _ _ (.inl rfl) e,c⟩
  | dT kvs =>
    obtain ⟨z,y,xs,r,ob,es,ep,e,c⟩:=x
    exact ⟨z,y,xs,Paired.mapP r fun p q z=>⟨z.1,ht _ _ z.2.1,z.2.2⟩,ob,es,ep,k _ _ (.inl rfl) e,c⟩
  | set S n=>obtain ⟨ob,es,ep,t,e,c⟩:=x; exact ⟨ob,es,ep,t,k _ _ (.inl rfl) e,c⟩
  | ins C dx fs =>
    obtain ⟨d,z,ne,e,mA,⟨od,es,ep,e2,c⟩,r⟩:=x
    exact ⟨ho _ d,z,ne,k _ _ (.inl rfl) e,mA,⟨od,es,ep,k _ _ (.inr d) e2,c⟩,r⟩
  | own y=>obtain ⟨ob,e⟩:=x; exact ⟨ob,k _ _ (.inl rfl) e⟩
  | xd fs=>obtain ⟨mA,⟨od,es,ep,e,c⟩,r⟩:=x; exact ⟨mA,⟨od,es,ep,k _ _ (.inl rfl) e,c⟩,r⟩
  | rng lo hi=>obtain ⟨t,u,v,e⟩:=x; exact ⟨t,u,v,k _ _ (.inl rfl) e⟩
  | frz ob u ih=>obtain ⟨e,q⟩:=x; exact ⟨k _ _ (.inl rfl) e,ih q⟩
  | tbl ps =>
    have e:h.get? a=some { cls:=.none,data:=.fields ps }:=x
    show h'.get? a=some { cls:=.none,data:=.fields ps }
    exact k a _ (.inl rfl) e
  | met f y =>
    have e:h.get? a=some (PySem.W.methodObj (.ref f) (.ref y)):=x
    show h'.get? a=some (PySem.W.methodObj (.ref f) (.ref y))
    exact k a _ (.inl rfl) e
  | ext φ=>obtain ⟨p,⟨o,e⟩,st⟩:=x; exact ⟨st _ _ p fun o q=>k _ _ (.inl rfl) q,⟨o,k _ _ (.inl rfl) e⟩,st⟩
theorem HOk.lt (x:HOk P w H h) (e:H a=some o):a<h.objs.size:=(x a o e).lt
theorem HOk.fresh (x:HOk P w H h) (e:h.objs.size≤a):H a=none:=by
  cases q:H a with
  | none=>rfl
  | some u=>exact absurd (Nat.lt_of_lt_of_le (x.lt q) e) (Nat.lt_irrefl _)
theorem HOk.kept (x:HOk P w H h) (k:∀ b u,h.get? b=some u→h'.get? b=some u):HOk P w H h':=fun a o e =>
  (x a o e).stay (fun b u _ q=>k b u q) (fun _ q=>q) fun _ _ q=>q
theorem HOk.laid (x:HOk P w H h) (k:∀ b u,h.get? b=some u→h'.get? b=some u) (hp:h.objs.size≤a) (new:ObjOk P w (upd H a o) h' a o):HOk P w (upd H a o) h':=fun b u e=>by
  have hn:=x.fresh hp
  by_cases hb:b=a
  · subst hb; rw [upd_same] at e; cases e; exact new
  · rw [upd_ne hb] at e
    exact (x b u e).stay (fun c v _ q=>k c v q) (fun c q=>by rw [upd_ne (ne_of_none q hn)]; exact q) fun c xs q=>by rw [upd_ne (ne_of_none q hn)]; exact q
end

noncomputable def Rd (H:Hp) (a:Addr) (u:HO):Prop:=H a=some u∨∃ o,H a=some (.frz o u)
theorem Rd.ok {P:Program} {w:World} {H:Hp} {h:Heap} {a:Addr} {u:HO} (r:Rd H a u) (x:HOk P w H h):ObjOk P w H h a u:=by
  rcases r with r | ⟨o,r⟩
  · exact x a u r
  · obtain ⟨_,q⟩:=x a _ r
    exact q
noncomputable def Mut:Option HO→Prop
  | some (.lst _)=>True
  | some (.dK _)=>True
  | some (.dT _)=>True
  | some (.set _ _)=>True
  | some (.ins _ _ _)=>True
  | some (.ext _)=>True
  | _=>False
section
variable {P:Program} {w:World} {H:Hp} {h h':Heap} {x e:Addr} {o':HO}
theorem HOk.write (ok:HOk P w H h) (mu:Mut (H x)) (he:e=x∨H e=some (.own x)) (k:∀ b u,b≠e→h.get? b=some u→h'.get? b=some u) (heo:∃ u,h'.get? e=some u)
    (new:ObjOk P w (upd H x o') h' x o'):HOk P w (upd H x o') h':=fun b u q=>by
  have nown:∀ c y,H c=some (.own y)→c≠x:=fun c y r z=>by subst z; rw [r] at mu; exact mu
  have ntup:∀ c xs,H c=some (.tup xs)→c≠x:=fun c xs r z=>by subst z; rw [r] at mu; exact mu
  by_cases hb:b=x
  · subst hb; rw [upd_same] at q; cases q; exact new
  · rw [upd_ne hb] at q
    by_cases hbe:b=e
    · have q':H b=some (.own x):=by
        rcases he with z | z
        · exact absurd (hbe.trans z) hb
        · rw [hbe]; exact z
      rw [q] at q'; cases q'
      obtain ⟨v,hv⟩:=heo
      exact ⟨v,by rw [hbe]; exact hv⟩
    · refine (ok b u q).stay (fun c v hc r=>k c v ?_ r) (fun c r=>by rw [upd_ne (nown c b r)]; exact r) fun c xs r=>by rw [upd_ne (ntup c xs r)]; exact r
      rcases hc with rfl | hc
      · exact hbe
      · rintro rfl
        rcases he with z | z
        · exact nown c b hc z
        · rw [hc] at z; cases z; exact hb rfl
end

structure Un (fs ex:List Addr) (H H':Hp) (h h':Heap):Prop where
  keep:∀ b o,h.get? b=some o→H b=none→b∉fs→b∉ex→h'.get? b=some o
  slot:∀ b o,h.get? b=some o→H b=none→b∈fs→b∉ex→∃ sl,h'.get? b=some { o with slots:=sl }
  free:∀ b o,h.get? b=some o→H b=none→b∉ex→H' b=none
  there:∀ b o,h.get? b=some o→b∉ex→∃ o',h'.get? b=some o'
  tups:∀ b xs,H b=some (.tup xs)→H' b=some (.tup xs)
  frzs:∀ b o u,H b=some (.frz o u)→H' b=some (.frz o u)
  tbls:∀ b ps,H b=some (.tbl ps)→∃ more,H' b=some (.tbl (ps++more))
section
variable {fs fs' ex ex':List Addr} {H H1 H2:Hp} {h h1 h2 h':Heap} {a x e:Addr} {o:HO}
theorem Un.any (u:Un fs ex H H1 h h1) {b:Addr} {ob:Obj} (q:h.get? b=some ob) (n:H b=none) (hx:b∉ex):∃ sl,h1.get? b=some { ob with slots:=sl }:=by
  by_cases hb:b∈fs
  · exact u.slot b ob q n hb hx
  · exact ⟨ob.slots,u.keep b ob q n hb hx⟩
theorem Un.trans (a:Un fs ex H H1 h h1) (b:Un fs ex H1 H2 h1 h2):Un fs ex H H2 h h2 where
  keep:=fun c ob q n hc hx=>b.keep c ob (a.keep c ob q n hc hx) (a.free c ob q n hx) hc hx
  slot:=fun c ob q n hc hx=>by
    obtain ⟨sl,e1⟩:=a.slot c ob q n hc hx
    obtain ⟨sl',e2⟩:=b.slot c _ e1 (a.free c ob q n hx) hc hx
    exact ⟨sl',e2⟩
  free:=fun c ob q n hx=>by
    obtain ⟨o',e1⟩:=a.there c ob q hx
    exact b.free c o' e1 (a.free c ob q n hx) hx
  there:=fun c ob q hx=>by
    obtain ⟨o',e1⟩:=a.there c ob q hx
    exact b.there c o' e1 hx
  tups:=fun c xs q=>b.tups c xs (a.tups c xs q)
  frzs:=fun c ob xs q=>b.frzs c ob xs (a.frzs c ob xs q)
  tbls:=fun c ps q=>by
    obtain ⟨m1,e1⟩:=a.tbls c ps q
    obtain ⟨m2,e2⟩:=b.tbls c _ e1
    exact ⟨m1++m2,by rw [e2,Array.append_assoc]⟩
theorem Un.kept (k:∀ b u,h.get? b=some u→h'.get? b=some u):Un fs ex H H h h' :=
  ⟨fun b ob q _ _ _=>k b ob q,fun b ob q _ _ _=>⟨ob.slots,k b ob q⟩,fun _ _ _ n _=>n,fun b ob q _=>⟨ob,k b ob q⟩,fun _ _ q=>q,fun _ _ _ q=>q,fun _ ps q=>⟨#[],by rw [q]; simp⟩⟩
theorem Un.refl:Un fs ex H H h h:=Un.kept fun _ _ q=>q
theorem Un.laid (k:∀ b u,h.get? b=some u→h'.get? b=some u) (hp:h.objs.size≤a) (hn:H a=none):Un fs ex H (upd H a o) h h' where
  keep:=fun b u q _ _ _=>k b u q
  slot:=fun b u q _ _ _=>⟨u.slots,k b u q⟩
  free:=fun b u q n _=>by rw [upd_ne (Nat.ne_of_lt (Nat.lt_of_lt_of_le (Heap.lt_size q) hp))]; exact n
  there:=fun b u q _=>⟨u,k b u q⟩
  tups:=fun b xs q=>by rw [upd_ne (ne_of_none q hn)]; exact q
  frzs:=fun b u xs q=>by rw [upd_ne (ne_of_none q hn)]; exact q
  tbls:=fun b ps q=>⟨#[],by rw [upd_ne (ne_of_none q hn),q]; simp⟩
theorem Un.write (mu:Mut (H x)) (he:e=x∨H e=some (.own x)) (k:∀ b u,b≠e→h.get? b=some u→h'.get? b=some u) (heo:∃ u,h'.get? e=some u):Un fs ex H (upd H x o) h h':=by
  have hx:∀ b,H b=none→b≠x:=fun b n z=>by subst z; rw [n] at mu; exact mu
  have hb:∀ b,H b=none→b≠e:=fun b n z=>by
    subst z
    rcases he with r | r
    · exact hx b n r
    · rw [n] at r; cases r
  have hm:∀ b u,H b=some u→¬ Mut (some u)→b≠x:=fun b u q nm z=>by subst z; rw [q] at mu; exact nm mu
  refine ⟨fun b u q n _ _=>k b u (hb b n) q,fun b u q n _ _=>⟨u.slots,k b u (hb b n) q⟩,fun b u q n _=>by rw [upd_ne (hx b n)]; exact n,fun b u q _=>?_,
    fun b xs q=>by rw [upd_ne (hm b _ q fun z=>z)]; exact q,fun b u xs q=>by rw [upd_ne (hm b _ q fun z=>z)]; exact q,fun b ps q=>⟨#[],by rw [upd_ne (hm b _ q fun z=>z),q]; simp⟩⟩
  by_cases hbe:b=e
  · subst hbe; exact heo
  · exact ⟨u,k b u hbe q⟩
end

noncomputable def trk (h:Heap) (H:Hp):List Addr:=(List.range h.objs.size).filter fun a=>(H a).isSome
noncomputable def hidT (h:Heap) (H:Hp):Heap:=PySem.W.hideAll h (trk h H)
theorem hidT_size (h:Heap) (H:Hp):(hidT h H).objs.size=h.objs.size:=PySem.W.hideAll_size _ _
theorem hidT_get {h:Heap} {H:Hp} {b:Addr} {o:Obj} (e:h.get? b=some o) (n:H b=none):(hidT h H).get? b=some o :=
  PySem.W.hideAll_get _ e fun hm=>by
    have q:(H b).isSome=true:=(List.mem_filter.mp hm).2
    rw [n] at q; simp at q
theorem of_hidT {h:Heap} {H:Hp} {b:Addr} {o:Obj} (e:(hidT h H).get? b=some o):h.get? b=some o∧H b=none:=by
  have e':h.get? b=some o:=PySem.W.of_hideAll (trk h H) e
  refine ⟨e',?_⟩
  cases q:H b with
  | none=>rfl
  | some x =>
    have hm:b∈trk h H:=List.mem_filter.mpr ⟨List.mem_range.mpr (Heap.lt_size e'),by simp [q]⟩
    have z:(hidT h H).get? b=none:=PySem.W.hideAll_none (trk h H) hm
    rw [z] at e; cases e

noncomputable def allNews (g h:Heap) (L:Addr):List (Addr × Obj):=(List.range h.objs.size).filterMap fun a=>if a=L∨(g.get? a).isSome=true then none else (h.get? a).map fun o=>(a,o)
noncomputable def rest (g h:Heap) (L d:Addr):List (Addr × Obj):=(allNews g h L).filter fun p=>decide (p.1≠d)
end L2

namespace L2
open PySem PySem.Spec PyProof.Rows

structure Mod (K:PySem.W.Frag) (mg:Str→Option Value) (base:Heap):Prop where
  kin:K.In base
  glob:base.Ns mainGlobals mg
  blt:∃ mb,base.Ns builtinsNs mb∧∀ x:Str,x ≠ "__name__"→mb x=bootBuiltins x
  nolimit:base.NoLimit

structure Cx where
  prog:Program
  w:World
  K:PySem.W.Frag
  mg:Str→Option Value
  base:Heap
  A:Around
  N:List Str
  s₀:Shared
  H₀:Hp
  env:Env
  outer:List Env
  stack:List Env
  ex:List Addr
  fn:Str→Bool
  calm:Bool
  pn:List (Addr × Obj)
  xe:Value→Shared→Prop
noncomputable def frs (l:List Env):List Addr:=l.filterMap (·.frame)
noncomputable abbrev Cx.fs (X:Cx):List Addr:=frs X.outer

noncomputable def Vis (sc:Scope) (x:Str):Prop:=sc.names.lookup x=some .local∨sc.names.lookup x=some .cell∨sc.names.lookup x=some .free
noncomputable def Loc (sc:Scope) (x:Str):Prop:=sc.names.lookup x=some .local∨sc.names.lookup x=some .cell
noncomputable def Look (env:Env) (h:Heap) (m:Str→Option Value) (x:Str) (u:Value):Prop :=
  (env.kindOf x=some .local∧m x=some u)∨((env.kindOf x=some .cell∨env.kindOf x=some .free)∧∃ c,env.cells.lookup x=some c∧h.IsCell c (some u))

structure Cx.Ok (X:Cx):Prop where
  mod:Mod X.K X.mg X.base
  kind:X.env.scope.kind=.function
  glob:X.env.globals=mainGlobals
  blt:X.env.builtins=builtinsNs
  above:X.s₀.heap.objs.size≤X.env.locals
  inj:∀ x y c,X.env.cells.lookup x=some c→X.env.cells.lookup y=some c→x=y
  has:∀ x,(X.env.kindOf x=some .cell∨X.env.kindOf x=some .free)→∃ c,X.env.cells.lookup x=some c
  cab:∀ x c,X.fn x=true→X.env.cells.lookup x=some c→X.s₀.heap.objs.size≤c
  hd:X.calm=true→X.A.handled=none
  frames:X.A.frames=some X.stack
  stk:X.stack=X.outer∨(X.stack=X.env :: X.outer∧X.env.frame=some X.env.locals)
  exf:∀ b∈X.ex,b≠X.env.locals∧∀ x c,X.env.cells.lookup x=some c→c≠b
  bs:∀ b o,X.base.get? b=some o→X.s₀.heap.get? b=some o∧X.H₀ b=none
  bsz:X.base.objs.size≤X.s₀.heap.objs.size
  noex:∀ b o,X.base.get? b=some o→b∉X.ex
  exfs:∀ b∈X.ex,b∉X.fs
  funs:X.s₀.heap.FunFrames X.base X.outer
  frf:∀ b∈X.fs,X.H₀ b=none

structure Inv (X:Cx) (pins:List (Addr × Obj)) (σ:List (Option V)) (H:Hp) (s:Shared):Prop where
  ok:X.Ok
  os:s.os=X.s₀.os
  bare:AllBare s.gens
  base:Un X.fs X.ex X.H₀ H X.s₀.heap s.heap
  loc:∃ m,s.heap.Ns X.env.locals m∧∀ (i:Nat) (x:Str) (v:V),X.N[i]? = some x→σ[i]? = some (some v)→Vis X.env.scope x→∃ u,RelV v u∧Look X.env s.heap m x u
  cell:∀ x c,X.env.cells.lookup x=some c→∃ v,s.heap.IsCell c v
  free:H X.env.locals=none
  freeC:∀ x c,X.env.cells.lookup x=some c→H c=none
  pin:∀ p∈X.pn++pins,s.heap.get? p.1=some p.2∧H p.1=none∧p.1≠X.env.locals∧p.1∉X.fs∧∀ v,p.2.data≠.cell v
  hok:HOk X.prog X.w H s.heap
  len:σ.length=X.N.length

section
variable {X:Cx} {pins:List (Addr × Obj)} {σ:List (Option V)} {H H':Hp} {s:Shared} {h':Heap}

theorem Cx.Ok.nofr (ok:X.Ok) {b:Addr} {o:Obj} (e:X.base.get? b=some o):b∉X.fs:=fun hb=>by
  have:=(ok.funs.mem hb).1
  rw [e] at this; cases this
theorem Inv.bs (I:Inv X pins σ H s):∀ b o,X.base.get? b=some o→s.heap.get? b=some o∧H b=none:=fun b o e =>
  ⟨I.base.keep b o (I.ok.bs b o e).1 (I.ok.bs b o e).2 (I.ok.nofr e) (I.ok.noex b o e),I.base.free b o (I.ok.bs b o e).1 (I.ok.bs b o e).2 (I.ok.noex b o e)⟩
theorem Inv.bk (I:Inv X pins σ H s):∀ b o,X.base.get? b=some o→s.heap.get? b=some o:=fun b o e=>(I.bs b o e).1
theorem Inv.mod (I:Inv X pins σ H s):Mod X.K X.mg X.base:=I.ok.mod
theorem Inv.kIn (I:Inv X pins σ H s):X.K.In s.heap:=I.ok.mod.kin.keeps I.bk
theorem Inv.lt (I:Inv X pins σ H s):X.env.locals<s.heap.objs.size:=let ⟨_,hn,_⟩:=I.loc; hn.lt
theorem Inv.sz (I:Inv X pins σ H s):X.s₀.heap.objs.size≤s.heap.objs.size:=Nat.le_trans I.ok.above (Nat.le_of_lt I.lt)
theorem Inv.nofs (I:Inv X pins σ H s) {a:Addr} (h:s.heap.objs.size≤a):a∉X.fs:=fun hb=>by
  obtain ⟨_,o,ho,_⟩:=I.ok.funs.mem hb
  exact absurd (Nat.lt_of_lt_of_le (Heap.lt_size ho) (Nat.le_trans I.sz h)) (Nat.lt_irrefl _)
theorem Inv.cne (I:Inv X pins σ H s):∀ x c,X.env.cells.lookup x=some c→c≠X.env.locals:=fun x c e z=>by
  obtain ⟨v,o,ho,hd⟩:=I.cell x c e
  obtain ⟨m,⟨o',es,ep,ho',hd',_⟩,_⟩:=I.loc
  rw [z,ho'] at ho; cases ho; rw [hd'] at hd; cases hd
theorem Inv.funs (I:Inv X pins σ H s):s.heap.FunFrames X.base X.outer:=by
  have all:∀ (l:List Env),(∀ b∈frs l,b∈X.fs)→X.s₀.heap.FunFrames X.base l→s.heap.FunFrames X.base l:=by
    intro l
    induction l with
    | nil=>intro _ _; trivial
    | cons env r ih =>
      intro hs hl
      obtain ⟨hk,⟨L,o,hf,hn,ho,hd⟩,hr⟩:=hl
      have hL:L∈X.fs:=hs L (by unfold frs; rw [List.filterMap_cons,hf]; exact List.mem_cons_self)
      obtain ⟨sl,e⟩:=I.base.slot L o ho (I.ok.frf L hL) hL fun z=>I.ok.exfs L z hL
      exact ⟨hk,⟨L,_,hf,hn,e,hd⟩,ih (fun b hb=>hs b (by unfold frs; rw [List.filterMap_cons,hf]; exact List.mem_cons_of_mem _ hb)) hr⟩
  exact all X.outer (fun _ hb=>hb) I.ok.funs

theorem Inv.stack (I:Inv X pins σ H s):s.heap.FunFrames X.base X.stack:=by
  rcases I.ok.stk with e | ⟨e,hf⟩
  · rw [e]; exact I.funs
  · rw [e]
    obtain ⟨m,hn,_⟩:=I.loc
    refine .cons (by rw [I.ok.kind]; decide) hf hn ?_ I.funs
    exact Heap.get?_none_of_le (Nat.le_trans I.ok.bsz I.ok.above)
theorem Inv.stkSub (I:Inv X pins σ H s):∀ b∈frs X.stack,b∈X.env.locals :: X.fs:=fun b hb=>by
  rcases I.ok.stk with e | ⟨e,hf⟩
  · rw [e] at hb; exact List.mem_cons_of_mem _ hb
  · rw [e] at hb
    unfold frs at hb
    rw [List.filterMap_cons,hf] at hb
    exact hb
theorem Inv.stkFree (I:Inv X pins σ H s):∀ b∈frs X.stack,H b=none:=fun b hb=>by
  rcases List.mem_cons.mp (I.stkSub b hb) with e | hb
  · rw [e]; exact I.free
  · obtain ⟨_,o,ho,_⟩:=I.ok.funs.mem hb
    exact I.base.free b o ho (I.ok.frf b hb) fun z=>I.ok.exfs b z hb

theorem Inv.step {g':Array GenState} {t':Nat} {d':Drawn} {ch:List Addr} (I:Inv X pins σ H s)
    (hch:∀ b∈ch,(b∈X.ex∨X.s₀.heap.objs.size≤b)∧b≠X.env.locals∧(∀ x c,X.env.cells.lookup x=some c→c≠b)∧∀ p∈X.pn++pins,p.1≠b)
    (keep:∀ b o,b≠X.env.locals→b∉X.fs→b∉ch→s.heap.get? b=some o→H b=none→h'.get? b=some o)
    (slot:∀ b o,b≠X.env.locals→b∈X.fs→b∉ch→s.heap.get? b=some o→H b=none→∃ sl,h'.get? b=some { o with slots:=sl }) (free:∀ b o,b∉ch→s.heap.get? b=some o→H b=none→H' b=none)
    (there:∀ b o,b∉ch→s.heap.get? b=some o→∃ o',h'.get? b=some o')
    (tups:∀ b xs,H b=some (.tup xs)→H' b=some (.tup xs)) (frzs:∀ b o u,H b=some (.frz o u)→H' b=some (.frz o u)) (tbls:∀ b ps,H b=some (.tbl ps)→∃ more,H' b=some (.tbl (ps++more)))
    (ns:∀ m,s.heap.Ns X.env.locals m→h'.Ns X.env.locals m) (hok:HOk X.prog X.w H' h') (hg:AllBare g') :
    Inv X pins σ H' { s with heap:=h',gens:=g',drawn:=d',toks:=t' }:=by
  have neL:∀ b o,X.s₀.heap.get? b=some o→b≠X.env.locals:=fun b o e=>Nat.ne_of_lt (Nat.lt_of_lt_of_le (Heap.lt_size e) I.ok.above)
  have neC:∀ b o,X.s₀.heap.get? b=some o→b∉X.ex→b∉ch:=fun b o e hx hb=>by
    rcases (hch b hb).1 with z | z
    · exact hx z
    · exact absurd (Nat.lt_of_lt_of_le (Heap.lt_size e) z) (Nat.lt_irrefl _)
  have cellK:∀ x c,X.env.cells.lookup x=some c→∀ v,s.heap.IsCell c v→h'.IsCell c v:=fun x c e v hx9=>by
    obtain ⟨o,ho,hd⟩:=hx9
    have nch:c∉ch:=fun z=>(hch c z).2.2.1 x c e rfl
    by_cases hc:c∈X.fs
    · obtain ⟨sl,q⟩:=slot c o (I.cne x c e) hc nch ho (I.freeC x c e)
      exact ⟨_,q,hd⟩
    · exact ⟨o,keep c o (I.cne x c e) hc nch ho (I.freeC x c e),hd⟩
  refine ⟨I.ok,I.os,hg,⟨fun b o e n hb hx=>?_,fun b o e n hb hx=>?_,fun b o e n hx=>?_,fun b o e hx=>?_,fun b xs e=>tups b xs (I.base.tups b xs e),fun b o xs e=>frzs b o xs (I.base.frzs b o xs e),fun b ps e=>?_⟩,?_,fun x c e=>?_,?_,fun x c e=>?_,fun p hp=>?_,hok,I.len⟩
  · exact keep b o (neL b o e) hb (neC b o e hx) (I.base.keep b o e n hb hx) (I.base.free b o e n hx)
  · obtain ⟨sl,e1⟩:=I.base.slot b o e n hb hx
    obtain ⟨sl',e2⟩:=slot b _ (neL b o e) hb (neC b o e hx) e1 (I.base.free b o e n hx)
    exact ⟨sl',e2⟩
  · obtain ⟨o',e1⟩:=I.base.there b o e hx
    exact free b o' (neC b o e hx) e1 (I.base.free b o e n hx)
  · obtain ⟨o',e1⟩:=I.base.there b o e hx
    exact there b o' (neC b o e hx) e1
  · obtain ⟨m1,e1⟩:=I.base.tbls b ps e
    obtain ⟨m2,e2⟩:=tbls b _ e1
    exact ⟨m1++m2,by rw [e2,Array.append_assoc]⟩
  · obtain ⟨m,hn,hl⟩:=I.loc
    refine ⟨m,ns m hn,fun i x v e1 e2 e3=>?_⟩
    obtain ⟨u,r,l⟩:=hl i x v e1 e2 e3
    refine ⟨u,r,?_⟩
    rcases l with l | ⟨k,c,e,z⟩
    · exact .inl l
    · exact .inr ⟨k,c,e,cellK x c e _ z⟩
  · obtain ⟨v,z⟩:=I.cell x c e
    exact ⟨v,cellK x c e v z⟩
  · obtain ⟨m,⟨o,_,_,ho,_⟩,_⟩:=I.loc
    exact free _ o (fun z=>(hch _ z).2.1 rfl) ho I.free
  · obtain ⟨v,o,ho,hd⟩:=I.cell x c e
    exact free c o (fun z=>(hch c z).2.2.1 x c e rfl) ho (I.freeC x c e)
  · obtain ⟨e,n,ne,nf,d⟩:=I.pin p hp
    have nch:p.1∉ch:=fun z=>(hch p.1 z).2.2.2 p hp rfl
    exact ⟨keep p.1 p.2 ne nf nch e n,free p.1 p.2 nch e n,ne,nf,d⟩
theorem Inv.un {t':Nat} (I:Inv X pins σ H s) (u:Un X.fs [] H H' s.heap h') (hok:HOk X.prog X.w H' h'):Inv X pins σ H' { s with heap:=h',toks:=t' }:=by
  obtain ⟨m,⟨o,es,ep,ho,r⟩,_⟩:=id I.loc
  obtain ⟨sl,hL⟩:=u.any ho I.free (by simp)
  exact I.step (g':=s.gens) (d':=s.drawn) (ch:=[]) (fun _ z=>nomatch z) (fun b o _ hb _ e n=>u.keep b o e n hb (by simp)) (fun b o _ hb _ e n=>u.slot b o e n hb (by simp)) (fun b o _ e n=>u.free b o e n (by simp)) (fun b o _ e=>u.there b o e (by simp)) u.tups u.frzs u.tbls (fun m' hm=>by
    obtain ⟨o',es',ep',ho',r'⟩:=hm
    rw [ho] at ho'; cases ho'
    exact ⟨_,es',ep',hL,r'⟩) hok I.bare
theorem Inv.call {g':Array GenState} {t':Nat} {d':Drawn} {ch:List Addr} (I:Inv X pins σ H s) (u:Un (frs X.stack) ch H H' s.heap h') (hok:HOk X.prog X.w H' h') (hg:AllBare g')
    (hch:∀ b∈ch,(b∈X.ex∨X.s₀.heap.objs.size≤b)∧b≠X.env.locals∧(∀ x c,X.env.cells.lookup x=some c→c≠b)∧∀ p∈X.pn++pins,p.1≠b) :
    Inv X pins σ H' { s with heap:=h',gens:=g',drawn:=d',toks:=t' }:=by
  obtain ⟨m,⟨o,es,ep,ho,r⟩,_⟩:=id I.loc
  obtain ⟨sl,hL⟩:=u.any ho I.free fun z=>(hch _ z).2.1 rfl
  exact I.step (ch:=ch) hch (fun b o hL hb hc e n=>u.keep b o e n (fun z=>(List.mem_cons.mp (I.stkSub b z)).elim hL hb) hc) (fun b o _ _ hc e n=>u.any e n hc) (fun b o hc e n=>u.free b o e n hc) (fun b o hc e=>u.there b o e hc) u.tups u.frzs u.tbls (fun m' hm=>by
    obtain ⟨o',es',ep',ho',r'⟩:=hm
    rw [ho] at ho'; cases ho'
    exact ⟨_,es',ep',hL,r'⟩) hok hg
theorem Inv.turned {t':Nat} {it:Addr} (I:Inv X pins σ H s) (k:∀ b o,b≠it→s.heap.get? b=some o→h'.get? b=some o) (hn:H it=none) (hL:it≠X.env.locals)
    (h1:it∈X.ex∨X.s₀.heap.objs.size≤it) (h2:∀ x c,X.env.cells.lookup x=some c→c≠it) (h3:∀ p∈X.pn++pins,p.1≠it):Inv X pins σ H { s with heap:=h',toks:=t' }:=by
  have nit:∀ b u,H b=some u→b≠it:=fun b u e z=>by rw [z,hn] at e; cases e
  refine I.step (g':=s.gens) (d':=s.drawn) (ch:=[it]) (fun b hb=>?_) (fun b o _ _ hc e _=>k b o (fun z=>hc (by simp [z])) e) (fun b o _ _ hc e _=>⟨o.slots,k b o (fun z=>hc (by simp [z])) e⟩) (fun _ _ _ _ n=>n)
    (fun b o hc e=>⟨o,k b o (fun z=>hc (by simp [z])) e⟩) (fun _ _ e=>e) (fun _ _ _ e=>e) (fun b ps e=>⟨#[],by rw [e]; simp⟩) (fun m hm=>?_) (fun b u e=>?_) I.bare
  · have e:b=it:=by simpa using hb
    subst e
    exact ⟨h1,hL,h2,h3⟩
  · obtain ⟨o,es,ep,ho,r⟩:=hm
    exact ⟨o,es,ep,k _ o (Ne.symm hL) ho,r⟩
  · refine (I.hok b u e).stay (fun c v hc q=>k c v ?_ q) (fun _ q=>q) fun _ _ q=>q
    rcases hc with z | z
    · rw [z]; exact nit b u e
    · exact nit c _ z
theorem Inv.tok (I:Inv X pins σ H s) (t:Nat):Inv X pins σ H { s with toks:=t }:=I.un (h':=s.heap) (t':=t) Un.refl I.hok
theorem Inv.kept {t':Nat} (I:Inv X pins σ H s) (k:∀ b u,s.heap.get? b=some u→h'.get? b=some u):Inv X pins σ H { s with heap:=h',toks:=t' }:=I.un (Un.kept k) (I.hok.kept k)
theorem Inv.laid {a:Addr} {o:HO} {t':Nat} (I:Inv X pins σ H s) (k:∀ b u,s.heap.get? b=some u→h'.get? b=some u) (hp:s.heap.objs.size≤a) (new:ObjOk X.prog X.w (upd H a o) h' a o) :
    Inv X pins σ (upd H a o) { s with heap:=h',toks:=t' }:=I.un (Un.laid k hp (I.hok.fresh hp)) (I.hok.laid k hp new)
theorem Inv.write {x e:Addr} {o:HO} {t':Nat} (I:Inv X pins σ H s) (mu:Mut (H x)) (he:e=x∨H e=some (.own x)) (k:∀ b u,b≠e→s.heap.get? b=some u→h'.get? b=some u) (heo:∃ u,h'.get? e=some u)
    (new:ObjOk X.prog X.w (upd H x o) h' x o):Inv X pins σ (upd H x o) { s with heap:=h',toks:=t' }:=I.un (Un.write mu he k heo) (I.hok.write mu he k heo new)
theorem Inv.pins_of {pins':List (Addr × Obj)} (I:Inv X pins σ H s) (h:∀ p∈pins',s.heap.get? p.1=some p.2∧H p.1=none∧p.1≠X.env.locals∧p.1∉X.fs∧∀ v,p.2.data≠.cell v):Inv X pins' σ H s :=
  ⟨I.ok,I.os,I.bare,I.base,I.loc,I.cell,I.free,I.freeC,fun p hp=>(List.mem_append.mp hp).elim (fun z=>I.pin p (List.mem_append_left _ z)) (h p),I.hok,I.len⟩

theorem nodup_ix {N:List Str} (hN:N.Nodup) {i j:Nat} {x:Str} (a:N[i]? = some x) (b:N[j]? = some x):i=j:=by
  obtain ⟨h1,e1⟩:=List.getElem?_eq_some_iff.mp a
  obtain ⟨h2,e2⟩:=List.getElem?_eq_some_iff.mp b
  exact (List.getElem_inj hN).mp (e1.trans e2.symm)

theorem store_ok2 {M:Model} {A:Around} {E:Value→Shared→Prop} {i:Nat} {x:Str} {v:V} {u:Value} {Q:Unit→Shared→Prop} (I:Inv X pins σ H s) (hN:X.N.Nodup) (hi:X.N[i]? = some x) (hx:Loc X.env.scope x) (r:RelV v u)
    (h:∀ s',Inv X pins (σ.set i (some v)) H s'→(∃ a,Heap.SameBut a s.heap s'.heap∧(a=X.env.locals∨X.env.cells.lookup x=some a))→Q () s') (hf:X.fn x=true∨X.env.scope.names.lookup x=some .local:=by first | exact .inl rfl | exact .inr rfl | assumption):wpAny M A (storeName X.env x u) Q E s:=by
  obtain ⟨m,hn,hl⟩:=id I.loc
  have hcls:(X.env.scope.kind == .class || (X.env.scope.kind == .module && X.env.locals != X.env.globals))=false:=by rw [I.ok.kind]; rfl
  have hiσ:i<σ.length:=by rw [I.len]; exact (List.getElem?_eq_some_iff.mp hi).1
  have cne:=I.cne
  have tracked:∀ {a:Addr} {h':Heap},(∃ o,s.heap.get? a=some o∧H a=none)→Heap.SameBut a s.heap h'→HOk X.prog X.w H h':=fun {a h'} ha hs b ob e=>by
    obtain ⟨_,_,hfree⟩:=ha
    refine (I.hok b ob e).stay (fun c w' hc q=>(hs.2 c ?_).trans q) (fun _ q=>q) fun _ _ q=>q
    rintro rfl
    rcases hc with rfl | hc
    · rw [hfree] at e; cases e
    · rw [hfree] at hc; cases hc
  rcases hx with hk | hk
  · refine wpAny_storeName_local hk hn (fun h' hn' hs=>?_) hcls
    obtain ⟨oL,_,_,hoL,_⟩:=id hn
    refine h _ ⟨I.ok,I.os,I.bare,⟨fun b o e n hb hx=>?_,fun b o e n hb hx=>?_,I.base.free,fun b o e hx=>?_,I.base.tups,I.base.frzs,I.base.tbls⟩,⟨_,hn',fun j y v' e1 e2 e3=>?_⟩,fun y c e=>?_,I.free,I.freeC,fun p hp=>?_,tracked ⟨oL,hoL,I.free⟩ hs,by simpa using I.len⟩ ⟨_,hs,.inl rfl⟩
    · exact (hs.2 b (Nat.ne_of_lt (Nat.lt_of_lt_of_le (Heap.lt_size e) I.ok.above))).trans (I.base.keep b o e n hb hx)
    · obtain ⟨sl,e1⟩:=I.base.slot b o e n hb hx
      exact ⟨sl,(hs.2 b (Nat.ne_of_lt (Nat.lt_of_lt_of_le (Heap.lt_size e) I.ok.above))).trans e1⟩
    · obtain ⟨o',e1⟩:=I.base.there b o e hx
      exact ⟨o',(hs.2 b (Nat.ne_of_lt (Nat.lt_of_lt_of_le (Heap.lt_size e) I.ok.above))).trans e1⟩
    · by_cases hj:j=i
      · subst hj
        rw [hi] at e1; cases e1
        rw [List.getElem?_set_self hiσ] at e2
        cases e2
        exact ⟨u,r,.inl ⟨hk,by simp⟩⟩
      · rw [List.getElem?_set_ne (Ne.symm hj)] at e2
        obtain ⟨u',r',q⟩:=hl j y v' e1 e2 e3
        refine ⟨u',r',?_⟩
        rcases q with ⟨k,e⟩ | ⟨k,c,e,z⟩
        · refine .inl ⟨k,?_⟩
          have:y≠x:=fun e=>hj (nodup_ix hN e1 (e ▸ hi))
          simp [this,e]
        · exact .inr ⟨k,c,e,z.sameBut hs (cne y c e)⟩
    · obtain ⟨w',z⟩:=I.cell y c e
      exact ⟨w',z.sameBut hs (cne y c e)⟩
    · obtain ⟨e,n,ne,nf,d⟩:=I.pin p hp
      exact ⟨(hs.2 p.1 ne).trans e,n,ne,nf,d⟩
  · have hfn:X.fn x=true:=by
      rcases hf with z | z
      · exact z
      · rw [z] at hk; cases hk
    obtain ⟨c,hc⟩:=I.ok.has x (.inl hk)
    obtain ⟨w',z⟩:=I.cell x c hc
    refine wpAny_storeName_cell I.ok.kind hk hc z (fun h' hc' hs=>?_)
    obtain ⟨oc,hoc,hocd⟩:=id z
    refine h { s with heap:=h' } ⟨I.ok,I.os,I.bare,⟨fun b o e n hb hx=>?_,fun b o e n hb hx=>?_,I.base.free,fun b o e hx=>?_,I.base.tups,I.base.frzs,I.base.tbls⟩,⟨m,hn.sameBut hs (Ne.symm (cne x c hc)),fun j y v' e1 e2 e3=>?_⟩,fun y c' e=>?_,I.free,I.freeC,fun p hp=>?_,tracked ⟨oc,hoc,I.freeC x c hc⟩ hs,by simpa using I.len⟩ ⟨c,hs,.inr hc⟩
    · exact (hs.2 b (Nat.ne_of_lt (Nat.lt_of_lt_of_le (Heap.lt_size e) (I.ok.cab x c hfn hc)))).trans (I.base.keep b o e n hb hx)
    · obtain ⟨sl,e1⟩:=I.base.slot b o e n hb hx
      exact ⟨sl,(hs.2 b (Nat.ne_of_lt (Nat.lt_of_lt_of_le (Heap.lt_size e) (I.ok.cab x c hfn hc)))).trans e1⟩
    · obtain ⟨o',e1⟩:=I.base.there b o e hx
      exact ⟨o',(hs.2 b (Nat.ne_of_lt (Nat.lt_of_lt_of_le (Heap.lt_size e) (I.ok.cab x c hfn hc)))).trans e1⟩
    · by_cases hj:j=i
      · subst hj
        rw [hi] at e1; cases e1
        rw [List.getElem?_set_self hiσ] at e2
        cases e2
        exact ⟨u,r,.inr ⟨.inl hk,c,hc,hc'⟩⟩
      · rw [List.getElem?_set_ne (Ne.symm hj)] at e2
        obtain ⟨u',r',q⟩:=hl j y v' e1 e2 e3
        refine ⟨u',r',?_⟩
        rcases q with q | ⟨k,c',e,z'⟩
        · exact .inl q
        · refine .inr ⟨k,c',e,z'.sameBut hs ?_⟩
          rintro rfl
          exact hj (nodup_ix hN e1 (I.ok.inj _ _ _ e hc ▸ hi))
    · by_cases hcc:c'=c
      · subst hcc; exact ⟨_,hc'⟩
      · obtain ⟨w2,z2⟩:=I.cell y c' e
        exact ⟨w2,z2.sameBut hs hcc⟩
    · obtain ⟨e,n,ne,nf,d⟩:=I.pin p hp
      refine ⟨(hs.2 p.1 ?_).trans e,n,ne,nf,d⟩
      intro q
      rw [q,hoc] at e
      have q':oc=p.2:=Option.some.inj e
      exact d w' (by rw [← q']; exact hocd)
theorem store_ok {M:Model} {A:Around} {E:Value→Shared→Prop} {i:Nat} {x:Str} {v:V} {u:Value} {Q:Unit→Shared→Prop} (I:Inv X pins σ H s) (hN:X.N.Nodup) (hi:X.N[i]? = some x) (hx:Loc X.env.scope x) (r:RelV v u)
    (h:∀ s',Inv X pins (σ.set i (some v)) H s'→Q () s') (hf:X.fn x=true∨X.env.scope.names.lookup x=some .local:=by first | exact .inl rfl | exact .inr rfl | assumption):wpAny M A (storeName X.env x u) Q E s :=
  store_ok2 I hN hi hx r (fun s' I' _=>h s' I') hf
theorem Inv.call' {s':Shared} {ch:List Addr} (I:Inv X pins σ H s) (ho:s'.os=s.os) (u:Un (frs X.stack) ch H H' s.heap s'.heap) (hok:HOk X.prog X.w H' s'.heap) (hg:AllBare s'.gens)
    (hch:∀ b∈ch,(b∈X.ex∨X.s₀.heap.objs.size≤b)∧b≠X.env.locals∧(∀ x c,X.env.cells.lookup x=some c→c≠b)∧∀ p∈X.pn++pins,p.1≠b):Inv X pins σ H' s':=by
  obtain ⟨h',g',d',t',o'⟩:=s'
  have e:o'=s.os:=ho
  subst e
  exact I.call (g':=g') (t':=t') (d':=d') u hok hg hch
end

noncomputable abbrev XK:=Value→Option Addr→Hp→Prop
noncomputable abbrev St:=List (Option V)
noncomputable abbrev VK:=V→Hp→Prop
noncomputable abbrev TE:=St→Hp→VK→Prop
noncomputable abbrev TT:=St→Hp→(Bool→Hp→Prop)→Prop
noncomputable abbrev TA:=St→Hp→(List V→Hp→Prop)→Prop
structure Ends where
  nx:St→Hp→Prop
  rt:VK
  bk:St→Hp→Prop:=fun _ _=>False
  ct:St→Hp→Prop:=fun _ _=>False
noncomputable abbrev TS:=Ends→St→Hp→Prop

noncomputable def EP (X:Cx) (pins:List (Addr × Obj)) (σ:St) (Q:VK) (u:Value) (s':Shared):Prop:=∃ v H',Inv X pins σ H' s'∧RelV v u∧Q v H'
noncomputable def TP (X:Cx) (pins:List (Addr × Obj)) (σ:St) (Q:Bool→Hp→Prop) (b:Bool) (s':Shared):Prop:=∃ H',Inv X pins σ H' s'∧Q b H'
noncomputable def AP (X:Cx) (pins:List (Addr × Obj)) (σ:St) (Q:List V→Hp→Prop) (us:List Value) (s':Shared):Prop:=∃ vs H',Inv X pins σ H' s'∧Vals vs us∧Q vs H'
noncomputable def SP (X:Cx) (pins:List (Addr × Obj)) (D:Ends) (f:Flow) (s':Shared):Prop :=
  match f with
  | .next=>∃ σ' H',Inv X pins σ' H' s'∧D.nx σ' H'
  | .brk=>∃ σ' H',Inv X pins σ' H' s'∧D.bk σ' H'
  | .cont=>∃ σ' H',Inv X pins σ' H' s'∧D.ct σ' H'
  | .ret u=>∃ v σ' H',Inv X pins σ' H' s'∧RelV v u∧D.rt v H'

noncomputable def PE (X:Cx) (e:Expr) (t:TE):Prop :=
  ∀ (pins:List (Addr × Obj)) (s:Shared) (σ:St) (H:Hp) (Q:VK),Inv X pins σ H s→t σ H Q→wpAny (model X.prog X.w) X.A (eval e X.env) (EP X pins σ Q) X.xe s
noncomputable def PT (X:Cx) (e:Expr) (t:TT):Prop :=
  ∀ (pins:List (Addr × Obj)) (s:Shared) (σ:St) (H:Hp) (Q:Bool→Hp→Prop),Inv X pins σ H s→t σ H Q→wpAny (model X.prog X.w) X.A (isTrue e X.env (eval e X.env)) (TP X pins σ Q) X.xe s
noncomputable def PW (X:Cx) (e:Expr) (t:TT):Prop :=
  ∀ (whole:Sem Value) (pins:List (Addr × Obj)) (s:Shared) (σ:St) (H:Hp) (Q:Bool→Hp→Prop),Inv X pins σ H s→t σ H Q→wpAny (model X.prog X.w) X.A (isTrue e X.env whole) (TP X pins σ Q) X.xe s
noncomputable def PA (X:Cx) (es:List Expr) (t:TA):Prop :=
  ∀ (pos:Pos) (pins:List (Addr × Obj)) (s:Shared) (σ:St) (H:Hp) (Q:List V→Hp→Prop),Inv X pins σ H s→t σ H Q→wpAny (model X.prog X.w) X.A (spliced (backTo pos (starEach es X.env))) (AP X pins σ Q) X.xe s
noncomputable def PS (X:Cx) (st:Stmt) (t:TS):Prop :=
  ∀ (pins:List (Addr × Obj)) (s:Shared) (σ:St) (H:Hp) (D:Ends),Inv X pins σ H s→t D σ H→wpAny (model X.prog X.w) X.A (exec st X.env) (SP X pins D) X.xe s
noncomputable def PSs (X:Cx) (st:List Stmt) (t:TS):Prop :=
  ∀ (pins:List (Addr × Obj)) (s:Shared) (σ:St) (H:Hp) (D:Ends),Inv X pins σ H s→t D σ H→wpAny (model X.prog X.w) X.A (execs st X.env) (SP X pins D) X.xe s
theorem thn {α:Type} {t:Sem α} {Q Q':α→Shared→Prop} {M:Model} {A:Around} {E:Value→Shared→Prop} {s:Shared} (h:wpAny M A t Q E s) (hQ:∀ a s,Q a s→Q' a s):wpAny M A t Q' E s:=wpAny_mono h hQ fun _ _ x=>x
end L2

namespace L2
open PySem PySem.Spec PyProof.Rows
section
variable {X:Cx}

noncomputable def tVar (i:Nat):TE:=fun σ H Q=>∃ v,σ[i]? = some (some v)∧Q v H
noncomputable def tC (v:V):TE:=fun _ H Q=>Q v H
theorem pe_var {i:Nat} {x:Str} {pos:Pos} (hN:X.N[i]? = some x) (hv:Vis X.env.scope x) (hd:(x == ("__debug__" : Str))=false:=by decide) (hcd:(x == ("__classdict__" : Str))=false:=by decide):PE X (.Name x pos) (tVar i):=by
  intro pins s σ H Q I h
  obtain ⟨v,e,h⟩:=h
  obtain ⟨m,hn,hl⟩:=I.loc
  obtain ⟨u,r,l⟩:=hl i x v hN e hv
  have fin:EP X pins σ Q u s:=⟨v,H,I,r,h⟩
  rcases l with ⟨hk,hm⟩ | ⟨hk,c,hc,hcell⟩
  · exact wpAny_Name (wpAny_loadName_local I.ok.kind hk hn hm fin) hd
  · rcases hk with hk | hk
    · exact wpAny_Name (wpAny_loadName_cell I.ok.kind hk hc hcell fin) hd
    · exact wpAny_Name (wpAny_loadName_free I.ok.kind hk hc hcell fin hcd) hd
theorem pe_int {i j pos}:PE X (.Constant (.int i) j pos) (tC (.int i)):=fun _ _ _ H _ I h=>wpAny_Constant_int ⟨.int i,H,I.tok _,⟨_,rfl⟩,h⟩
theorem pe_bl {b j pos}:PE X (.Constant (.bool b) j pos) (tC (.bl b)):=fun _ _ _ H _ I h=>Constant_bool ⟨.bl b,H,I,rfl,h⟩
theorem pe_non {j pos}:PE X (.Constant .none j pos) (tC .non):=fun _ _ _ H _ I h=>Constant_none ⟨.non,H,I,rfl,h⟩
theorem pe_str {x j pos}:PE X (.Constant (.str x) j pos) (tC (.str x)):=fun _ _ _ H _ I h=>Calls.Constant_str ⟨.str x,H,I.tok _,⟨_,rfl⟩,h⟩

noncomputable def Gl (X:Cx) (x:Str):Prop:=X.env.kindOf x=some .globalImplicit
theorem ld_glob {E:Value→Shared→Prop} {pins:List (Addr × Obj)} {s:Shared} {σ:St} {H:Hp} {x:Str} {u:Value} {pos:Pos} {Q:Value→Shared→Prop} (I:Inv X pins σ H s) (hg:Gl X x) (hm:X.mg x=some u) (h:Q u s)
    (hd:(x == ("__debug__" : Str))=false:=by decide):wpAny (model X.prog X.w) X.A (eval (.Name x pos) X.env) Q E s :=
  Calls.Name_function_global I.ok.kind hg (Calls.loadGlobal_global (by rw [I.ok.glob]; exact I.mod.glob.keeps I.bk) hm h) hd
theorem ld_blt {E:Value→Shared→Prop} {pins:List (Addr × Obj)} {s:Shared} {σ:St} {H:Hp} {x:Str} {u:Value} {pos:Pos} {Q:Value→Shared→Prop} (I:Inv X pins σ H s) (hg:Gl X x) (hm:X.mg x=none) (hv:bootBuiltins x=some u) (h:Q u s)
    (hn:x ≠ "__name__" := by decide) (hd:(x == ("__debug__" : Str))=false:=by decide):wpAny (model X.prog X.w) X.A (eval (.Name x pos) X.env) Q E s:=by
  obtain ⟨mb,h1,h2⟩:=I.mod.blt
  exact Calls.Name_function_global I.ok.kind hg (Calls.loadGlobal_builtin (by rw [I.ok.glob]; exact I.mod.glob.keeps I.bk) hm (by rw [I.ok.blt]; exact h1.keeps I.bk) ((h2 x hn).trans hv) h) hd
theorem pe_glob {x:Str} {v:V} {u:Value} {pos:Pos} (hg:Gl X x) (hm:X.mg x=some u) (r:RelV v u) (hd:(x == ("__debug__" : Str))=false:=by decide):PE X (.Name x pos) (tC v) :=
  fun _ _ _ H _ I h=>ld_glob I hg hm ⟨v,H,I,r,h⟩ hd
theorem pe_bltn {x:Str} {v:V} {u:Value} {pos:Pos} (hg:Gl X x) (hm:X.mg x=none) (hv:bootBuiltins x=some u) (r:RelV v u) (hn:x ≠ "__name__" := by decide) (hd:(x == ("__debug__" : Str))=false:=by decide):PE X (.Name x pos) (tC v) :=
  fun _ _ _ H _ I h=>ld_blt I hg hm hv ⟨v,H,I,r,h⟩ hn hd

variable {a b:Expr} {ta tb:TE} {pos:Pos}
noncomputable def tB (t:TE):TT:=fun σ H Q=>t σ H fun x H1=>∃ c,x=.bl c∧Q c H1
theorem pt_val {e:Expr} {t:TE} (h:PE X e t) (he:∀ whole,isTrue e X.env whole=(do let v ← whole; standAt e.pos; holding [v] (truthy v)):=by intro _; rfl):PT X e (tB t):=by
  intro pins s σ H Q I hw
  refine isTrue_plain (thn (h pins s σ H _ I hw) fun v s1 hx5=>L2.ex2 hx5 fun x H1 I1 r1 q1=>?_) (he _)
  obtain ⟨d,rfl,q⟩:=q1
  cases r1
  exact wpAny_truthy_bool ⟨H1,I1,q⟩

variable {tA tB':TT} {rest:List Expr}
noncomputable def tAnd (t u:TT):TT:=fun σ H Q=>t σ H fun c H1=>if c=true then u σ H1 Q else Q false H1
noncomputable def tOr (t u:TT):TT:=fun σ H Q=>t σ H fun c H1=>if c=true then Q true H1 else u σ H1 Q
noncomputable def tNot (t:TT):TT:=fun σ H Q=>t σ H fun c H1=>Q (!c) H1
theorem pw_and1 (ha:PT X a tA):PW X (.BoolOp .And [a] pos) tA:=by
  intro wh pins s σ H Q I h
  refine isTrue_and (thn (ha pins s σ H Q I h) fun c s1 e=>?_)
  cases c with
  | true=>exact isTrue_and_nil e
  | false=>exact e
theorem pw_or1 (ha:PT X a tA):PW X (.BoolOp .Or [a] pos) tA:=by
  intro wh pins s σ H Q I h
  refine isTrue_or (thn (ha pins s σ H Q I h) fun c s1 e=>?_)
  cases c with
  | false=>exact isTrue_or_nil e
  | true=>exact e
theorem pw_and (ha:PT X a tA) (hb:PW X (.BoolOp .And (b :: rest) pos) tB'):PW X (.BoolOp .And (a :: b :: rest) pos) (tAnd tA tB'):=by
  intro wh pins s σ H Q I h
  refine isTrue_and (thn (ha pins s σ H _ I h) fun c s1 hx9=>?_)
  obtain ⟨H1,I1,q1⟩:=hx9
  cases c with
  | true=>exact hb wh pins s1 σ H1 Q I1 q1
  | false=>exact ⟨H1,I1,q1⟩
theorem pw_or (ha:PT X a tA) (hb:PW X (.BoolOp .Or (b :: rest) pos) tB'):PW X (.BoolOp .Or (a :: b :: rest) pos) (tOr tA tB'):=by
  intro wh pins s σ H Q I h
  refine isTrue_or (thn (ha pins s σ H _ I h) fun c s1 hx9=>?_)
  obtain ⟨H1,I1,q1⟩:=hx9
  cases c with
  | true=>exact ⟨H1,I1,q1⟩
  | false=>exact hb wh pins s1 σ H1 Q I1 q1
theorem pt_not (ha:PT X a tA):PT X (.UnaryOp .Not a pos) (tNot tA):=by
  intro pins s σ H Q I h
  exact isTrue_not (ha pins s σ H (fun c H1=>Q (!c) H1) I h)
noncomputable def tAndV (ta tb:TE):TE:=fun σ H Q=>ta σ H fun x H1=>∃ c,x=.bl c∧if c=true then tb σ H1 Q else Q (.bl false) H1
noncomputable def tOrV (ta tb:TE):TE:=fun σ H Q=>ta σ H fun x H1=>∃ c,x=.bl c∧if c=true then Q (.bl true) H1 else tb σ H1 Q
noncomputable def tNotV (ta:TE):TE:=fun σ H Q=>ta σ H fun x H1=>∃ c,x=.bl c∧Q (.bl (!c)) H1
theorem pe_one {op} {t:TE} (h:PE X a t):PE X (.BoolOp op [a] pos) t:=fun pins s σ H Q I hw=>BoolOp_one (h pins s σ H Q I hw)
theorem pe_and (ha:PE X a ta) (hb:PE X (.BoolOp .And (b :: rest) pos) tb):PE X (.BoolOp .And (a :: b :: rest) pos) (tAndV ta tb):=by
  intro pins s σ H Q I h
  refine BoolOp_and (thn (ha pins s σ H _ I h) fun v s1 hx5=>L2.ex2 hx5 fun x H1 I1 r1 q1=>?_)
  obtain ⟨c,rfl,q1⟩:=q1
  cases r1
  refine wpAny_truthy_bool ?_
  cases c with
  | true=>exact hb pins s1 σ H1 Q I1 q1
  | false=>exact ⟨.bl false,H1,I1,rfl,q1⟩
theorem pe_or (ha:PE X a ta) (hb:PE X (.BoolOp .Or (b :: rest) pos) tb):PE X (.BoolOp .Or (a :: b :: rest) pos) (tOrV ta tb):=by
  intro pins s σ H Q I h
  refine BoolOp_or (thn (ha pins s σ H _ I h) fun v s1 hx5=>L2.ex2 hx5 fun x H1 I1 r1 q1=>?_)
  obtain ⟨c,rfl,q1⟩:=q1
  cases r1
  refine wpAny_truthy_bool ?_
  cases c with
  | false=>exact hb pins s1 σ H1 Q I1 q1
  | true=>exact ⟨.bl true,H1,I1,rfl,q1⟩
theorem pe_not (ha:PE X a ta):PE X (.UnaryOp .Not a pos) (tNotV ta):=by
  intro pins s σ H Q I h
  refine UnaryOp_ (thn (ha pins s σ H _ I h) fun v s1 hx5=>L2.ex2 hx5 fun x H1 I1 r1 q1=>?_)
  obtain ⟨c,rfl,q1⟩:=q1
  cases r1
  exact not_of (wpAny_truthy_bool ⟨.bl (!c),H1,I1,rfl,q1⟩)
end
end L2

namespace L2
open PySem PySem.Spec PyProof.Rows

noncomputable def SqL (K:PySem.W.Frag) (H:Hp) (a:Addr) (xs:List V):Prop :=
  Rd H a (.lst xs) ∨
    ∃ (o:Obj) (its:Array Value) (n:Nat),K.lookup a=some o∧o.cls=.type "list"∧o.dict=none∧o.data=.seq its n∧its.size≤sizeLine∧Vals xs its.toList
noncomputable def SqT (K:PySem.W.Frag) (H:Hp) (a:Addr) (xs:List V):Prop :=
  Rd H a (.tup xs) ∨
    ∃ (o:Obj) (its:Array Value) (n:Nat),K.lookup a=some o∧o.cls=.type "tuple"∧o.data=.seq its n∧its.size≤sizeLine∧Vals xs its.toList
noncomputable def absV:Value→Option V
  | .none=>some .non
  | .bool b=>some (.bl b)
  | .int i _=>some (.int i)
  | .str x _=>some (.str x)
  | .bytes b _=>some (.byt b)
  | .float b _=>some (.flt b)
  | .ref a=>some (.ref a)
  | .type n=>some (.ty n)
  | _=>none
theorem RelV.abs {x:V} {u:Value} (r:RelV x u):absV u=some x:=by
  cases x with
  | non=>cases r; rfl
  | bl _=>cases r; rfl
  | int _=>obtain ⟨t,rfl⟩:=r; rfl
  | str _=>obtain ⟨t,rfl⟩:=r; rfl
  | byt _=>obtain ⟨t,rfl⟩:=r; rfl
  | flt _=>obtain ⟨t,rfl⟩:=r; rfl
  | ref _=>cases r; rfl
  | ty _=>cases r; rfl
theorem RelV.inj {x y:V} {u:Value} (r:RelV x u) (q:RelV y u):x=y:=Option.some.inj (r.abs.symm.trans q.abs)
theorem Vals.inj:∀ {xs ys:List V} {us:List Value},Vals xs us→Vals ys us→xs=ys
  | _,_,_,.nil,.nil=>rfl
  | _,_,_,.cons r t,.cons r' t'=>by rw [r.inj r',Vals.inj t t']
section
variable {X:Cx} {pins:List (Addr × Obj)} {σ:St} {H:Hp} {s:Shared} {a:Addr} {xs ys:List V}
theorem Inv.list (I:Inv X pins σ H s) (h:SqL X.K H a xs):∃ its:List Value,Vals xs its∧PlainL s.heap a its.toArray∧xs.length≤sizeLine:=by
  rcases h with h | ⟨o,its,n,hk,hc,hd,hs,hz,r⟩
  · obtain ⟨z,its,n,r,e⟩:=h.ok I.hok
    exact ⟨its,r,⟨_,n,e,rfl,rfl,rfl⟩,z⟩
  · refine ⟨its.toList,r,⟨o,n,I.kIn a o hk,hc,hd,by simpa using hs⟩,?_⟩
    have e:=r.length
    simp only [Array.length_toList] at e
    walk_at "l"
theorem Inv.tuple (I:Inv X pins σ H s) (h:SqT X.K H a xs):∃ its:List Value,Vals xs its∧IsTup s.heap a its.toArray∧xs.length≤sizeLine:=by
  rcases h with h | ⟨o,its,n,hk,hc,hs,hz,r⟩
  · obtain ⟨z,its,r,p⟩:=h.ok I.hok
    exact ⟨its,r,p,z⟩
  · refine ⟨its.toList,r,⟨o,I.kIn a o hk,hc,n,by simpa using hs⟩,?_⟩
    have e:=r.length
    simp only [Array.length_toList] at e
    walk_at "l"
theorem Inv.list_inj (I:Inv X pins σ H s) (h:SqL X.K H a xs) (h':SqL X.K H a ys):xs=ys:=by
  obtain ⟨its,r,⟨o,n,e,_,_,d⟩,_⟩:=I.list h
  obtain ⟨its',r',⟨o',n',e',_,_,d'⟩,_⟩:=I.list h'
  rw [e] at e'; cases e'
  rw [d] at d'
  injection d' with d1 _
  have:its=its':=by simpa using congrArg Array.toList d1
  subst this
  exact r.inj r'
end

noncomputable abbrev Cx.wish (X:Cx) (E:Value→Shared→Prop):Cx:={ X with xe:=E }
noncomputable abbrev Cx.nox (X:Cx):Cx:=X.wish fun _ _=>False
theorem Cx.Ok.wish {X:Cx} (ok:X.Ok) (E:Value→Shared→Prop):(X.wish E).Ok :=
  ⟨ok.mod,ok.kind,ok.glob,ok.blt,ok.above,ok.inj,ok.has,ok.cab,ok.hd,ok.frames,ok.stk,ok.exf,ok.bs,ok.bsz,ok.noex,ok.exfs,ok.funs,ok.frf⟩
theorem Cx.Ok.unwish {X:Cx} {E:Value→Shared→Prop} (ok:(X.wish E).Ok):X.Ok :=
  ⟨ok.mod,ok.kind,ok.glob,ok.blt,ok.above,ok.inj,ok.has,ok.cab,ok.hd,ok.frames,ok.stk,ok.exf,ok.bs,ok.bsz,ok.noex,ok.exfs,ok.funs,ok.frf⟩
section
variable {X:Cx} {pins:List (Addr × Obj)} {σ:St} {H:Hp} {s:Shared} {E:Value→Shared→Prop}
theorem Inv.wish (I:Inv X pins σ H s) (E:Value→Shared→Prop):Inv (X.wish E) pins σ H s:=⟨I.ok.wish E,I.os,I.bare,I.base,I.loc,I.cell,I.free,I.freeC,I.pin,I.hok,I.len⟩
theorem Inv.unwish (I:Inv (X.wish E) pins σ H s):Inv X pins σ H s:=⟨I.ok.unwish,I.os,I.bare,I.base,I.loc,I.cell,I.free,I.freeC,I.pin,I.hok,I.len⟩
theorem SP.unwish {D:Ends} {f:Flow} {s':Shared} (h:SP (X.wish E) pins D f s'):SP X pins D f s':=by
  cases f with
  | next=>obtain ⟨σ',H',I,q⟩:=h; exact ⟨σ',H',I.unwish,q⟩
  | brk=>obtain ⟨σ',H',I,q⟩:=h; exact ⟨σ',H',I.unwish,q⟩
  | cont=>obtain ⟨σ',H',I,q⟩:=h; exact ⟨σ',H',I.unwish,q⟩
  | ret u=>obtain ⟨v,σ',H',I,r,q⟩:=h; exact ⟨v,σ',H',I.unwish,r,q⟩
theorem PSs.nox {st:List Stmt} {t:TS} (h:PSs X.nox st t):PSs X st t:=fun pins s σ H D I hw =>
  wpAny_mono (h pins s σ H D (I.wish _) hw) (fun _ _ q=>q.unwish) fun _ _ z=>False.elim z
end

section
variable {X:Cx} {st:Stmt} {rest:List Stmt} {t u:TS} {e:Expr} {te:TE} {pos:Pos}
noncomputable def tNext:TS:=fun D σ H=>D.nx σ H
noncomputable def tSeq (t u:TS):TS:=fun D σ H=>t { D with nx:=u D } σ H
theorem pss_nil:PSs X [] tNext:=fun _ _ σ H _ I h=>wpAny_execs_nil ⟨σ,H,I,h⟩
theorem pss_cons (h1:PS X st t) (h2:PSs X rest u):PSs X (st :: rest) (tSeq t u):=by
  intro pins s σ H D I h
  refine wpAny_execs_cons (thn (h1 pins s σ H { D with nx:=u D } I h) fun f s1 q=>?_)
  cases f with
  | next =>
    obtain ⟨σ',H',I',q⟩:=q
    exact h2 pins s1 σ' H' D I' q
  | ret v=>exact q
  | brk=>exact q
  | cont=>exact q
theorem pss_one (h1:PS X st t):PSs X [st] t:=by
  intro pins s σ H D I h
  refine wpAny_execs_cons (thn (h1 pins s σ H D I h) fun f s1 q=>?_)
  cases f with
  | next=>exact wpAny_execs_nil q
  | ret v=>exact q
  | brk=>exact q
  | cont=>exact q
theorem Inv.quiet {pins:List (Addr × Obj)} {σ:St} {H:Hp} {s:Shared} (I:Inv X pins σ H s):interactive X.env=false:=by simp [interactive,I.ok.kind]
noncomputable def tDrop (te:TE):TS:=fun D σ H=>te σ H fun _ H1=>D.nx σ H1
theorem ps_expr (he:PE X e te) (hs:swapsWith e none pos.line X.env=pure false:=by rfl):PS X (.Expr e pos) (tDrop te):=by
  intro pins s σ H D I h
  exact wpAny_Expr_any (thn (he pins s σ H _ I h) fun v s1 hx5=>L2.ex2 hx5 fun x H1 I1 r1 q1=>⟨σ,H1,I1,q1⟩) I.quiet hs
noncomputable def tRet (te:TE):TS:=fun D σ H=>te σ H D.rt
theorem ps_ret (he:PE X e te):PS X (.Return (some e) pos) (tRet te):=by
  intro pins s σ H D I h
  exact wpAny_Return_some (thn (he pins s σ H _ I h) fun v s1 hx5=>L2.ex2 hx5 fun x H1 I1 r1 q1=>⟨x,σ,H1,I1,r1,q1⟩)
noncomputable def tIfS (c:TT) (t u:TS):TS:=fun D σ H=>c σ H fun b H1=>if b=true then t D σ H1 else u D σ H1
theorem ps_if {c:Expr} {a b:List Stmt} {tc:TT} (hc:PT X c tc) (ha:PSs X a t) (hb:PSs X b u):PS X (.If c a b pos) (tIfS tc t u):=by
  intro pins s σ H D I h
  refine wpAny_If (thn (hc pins s σ H _ I h) fun d s1 hx9=>?_)
  obtain ⟨H1,I1,q1⟩:=hx9
  cases d with
  | true=>exact ha pins s1 σ H1 D I1 q1
  | false=>exact hb pins s1 σ H1 D I1 q1
end

noncomputable abbrev TG:=V→St→Hp→(St→Hp→Prop)→Prop
noncomputable def PG (X:Cx) (target:Expr) (t:TG):Prop :=
  ∀ (pins:List (Addr × Obj)) (s:Shared) (σ:St) (H:Hp) (v:V) (u:Value) (Q:St→Hp→Prop),Inv X pins σ H s→RelV v u→t v σ H Q →
    wpAny (model X.prog X.w) X.A (assign target X.env u) (fun _ s'=>∃ σ' H',Inv X pins σ' H' s'∧Q σ' H') X.xe s
section
variable {X:Cx} {pos:Pos}
noncomputable def gName (i:Nat):TG:=fun v σ H Q=>Q (σ.set i (some v)) H
theorem pg_name {i:Nat} {x:Str} (hN:X.N.Nodup) (hi:X.N[i]? = some x) (hx:Loc X.env.scope x) (hf:X.fn x=true∨X.env.scope.names.lookup x=some .local:=by first | exact .inl rfl | exact .inr rfl | assumption):PG X (.Name x pos) (gName i):=by
  intro pins s σ H v u Q I r h
  exact wpAny_assign_Name (store_ok I hN hi hx r (fun s' I'=>⟨_,H,I',h⟩) hf)
noncomputable def tAsg (te:TE) (g:TG):TS:=fun D σ H=>te σ H fun x H1=>g x σ H1 D.nx
theorem ps_set {i:Nat} {x:Str} {e:Expr} {te:TE} {pos':Pos} (hN:X.N.Nodup) (hi:X.N[i]? = some x) (hx:Loc X.env.scope x) (he:PE X e te) (hs:swapsWith e (some (.Name x pos')) pos.line X.env=pure false:=by rfl) (hf:X.fn x=true∨X.env.scope.names.lookup x=some .local:=by first | exact .inl rfl | exact .inr rfl | assumption) :
    PS X (.Assign [.Name x pos'] e pos) (tAsg te (gName i)):=by
  intro pins s σ H D I h
  refine wpAny_Assign_Name (thn (he pins s σ H _ I h) fun v s1 hx5=>L2.ex2 hx5 fun y H1 I1 r1 q1=>?_) hs
  exact store_ok I1 hN hi hx r1 (fun s2 I2=>⟨_,H1,I2,q1⟩) hf
end

section
variable {X:Cx} {pos:Pos}
end

structure It where
  go:Nat→Hp→Prop
  yld:Nat→Hp→V→Hp→Prop
  stop:Nat→Hp→Prop
noncomputable def FpOk (X:Cx) (pins:List (Addr × Obj)) (H:Hp) (b:Addr):Prop :=
  H b=none∧b≠X.env.locals∧b∉X.fs∧(b∈X.ex∨X.s₀.heap.objs.size≤b)∧(∀ x c,X.env.cells.lookup x=some c→c≠b)∧∀ p∈X.pn++pins,p.1≠b
theorem Inv.fpOk {X:Cx} {pins:List (Addr × Obj)} {σ:St} {H H':Hp} {s:Shared} {b:Addr} (I:Inv X pins σ H s) (hb:s.heap.objs.size≤b) (hn:H' b=none):FpOk X pins H' b:=by
  refine ⟨hn,Nat.ne_of_gt (Nat.lt_of_lt_of_le I.lt hb),I.nofs hb,.inr (Nat.le_trans I.sz hb),fun x c e z=>?_,fun p hp z=>?_⟩
  · obtain ⟨v,q⟩:=I.cell x c e
    exact absurd (Nat.lt_of_lt_of_le q.lt (by rw [z]; exact hb)) (Nat.lt_irrefl _)
  · exact absurd (Nat.lt_of_lt_of_le (Heap.lt_size (I.pin p hp).1) (by rw [z]; exact hb)) (Nat.lt_irrefl _)
structure Turn (P:Program) (w:World) (K:PySem.W.Frag) (tg:Expr) (J:It) (fp:List Addr) (it:Addr) (tn:Nat→Heap→Prop):Prop where
  mem:it∈fp
  obj:∀ i h,tn i h→∀ b∈fp,∃ o,h.get? b=some o∧∀ v,o.data≠.cell v
  keep:∀ i h h',tn i h→(∀ b∈fp,∀ o,h.get? b=some o→h'.get? b=some o)→tn i h'
  item:∀ (X:Cx),X.prog=P→X.w=w→X.K=K→X.calm=true→∀ (i:Nat) (pins:List (Addr × Obj)) (s:Shared) (σ:St) (H:Hp) (E:Value→Shared→Prop),Inv X pins σ H s→(∀ b∈fp,FpOk X pins H b)→tn i s.heap→J.go i H →
    wpAny (model P w) X.A (pyNext (.ref it)) (fun r s1=>∃ u,r=some u ∧
      wpAny (model P w) X.A (letOwnedTupleGo tg (.ref it) u) (fun _ s2=>∃ x H',Inv X pins σ H' s2∧RelV x u∧J.yld i H x H'∧tn (i+1) s2.heap∧∀ b∈fp,H' b=none) E s1) E s
  done:∀ (X:Cx),X.prog=P→X.w=w→X.K=K→X.calm=true→∀ (i:Nat) (pins:List (Addr × Obj)) (s:Shared) (σ:St) (H:Hp) (E:Value→Shared→Prop),Inv X pins σ H s→(∀ b∈fp,FpOk X pins H b)→tn i s.heap→J.stop i H →
    wpAny (model P w) X.A (pyNext (.ref it)) (fun r s1=>r=none∧Inv X pins σ H s1) E s
  self:∀ (A:Around) (i:Nat) (s:Shared) (Q:Value→Shared→Prop) (E:Value→Shared→Prop),tn i s.heap→Q (.ref it) s→wpAny (model P w) A (pyIter (.ref it)) Q E s
noncomputable abbrev TI:=St→Hp→(It→Hp→Prop)→Prop
noncomputable def PIE (X:Cx) (pins:List (Addr × Obj)) (σ:St) (tg:Expr) (R:It→Hp→Prop) (itv:Value) (s2:Shared):Prop :=
  ∃ (it:Addr) (fp:List Addr) (tn:Nat→Heap→Prop) (J:It) (H':Hp),itv=.ref it∧Inv X pins σ H' s2∧Turn X.prog X.w X.K tg J fp it tn∧tn 0 s2.heap∧(∀ b∈fp,FpOk X pins H' b)∧R J H'
noncomputable def PI (X:Cx) (tg iter:Expr) (wi:TI):Prop :=
  ∀ (pins:List (Addr × Obj)) (s:Shared) (σ:St) (H:Hp) (R:It→Hp→Prop),Inv X pins σ H s→wi σ H R →
    wpAny (model X.prog X.w) X.A (eval iter X.env) (fun v s1=>wpAny (model X.prog X.w) X.A (pyIter v) (PIE X pins σ tg R) X.xe s1) X.xe s

theorem go_of {M:Model} {A:Around} {E:Value→Shared→Prop} {s:Shared} {tg:Expr} {it:Addr} {u:Value} {o:Obj} {n:String} {vs:Array Value} {Q:Unit→Shared→Prop} (ho:s.heap.get? it=some o) (hc:o.cls=.type n) (hd:o.data=.fields vs)
    (hn:["enumerate", "zip", "dict_itemiterator", "dict_reverseitemiterator", "odict_iterator", "itertools.zip_longest", "itertools.pairwise"].contains n=false) (hQ:Q () s):wpAny M A (letOwnedTupleGo tg (.ref it) u) Q E s:=by
  unfold letOwnedTupleGo
  cases tg <;> first
    | exact wpAny_pure hQ
    | (cases u <;> first
        | exact wpAny_pure hQ
        | (refine wpAny_bind (wpAny_load ho ?_)
           rw [hc,hd]
           show wpAny M A (if (["enumerate", "zip", "dict_itemiterator", "dict_reverseitemiterator", "odict_iterator", "itertools.zip_longest", "itertools.pairwise"].contains n && vs[0]? == some (rawInt _))=true then _ else _) Q E s
           rw [if_neg (by intro h; rw [hn,Bool.false_and] at h; cases h)]
           exact wpAny_pure hQ))

noncomputable def Itl (K:PySem.W.Frag) (a:Addr):It :=
  ⟨fun i H=>∃ xs x,SqL K H a xs∧xs[i]? = some x,fun i H x H'=>H'=H∧∀ xs,SqL K H a xs→xs[i]? = some x,fun i H=>∃ xs,SqL K H a xs∧xs.length≤i⟩
theorem turn_list {P:Program} {w:World} {K:PySem.W.Frag} {tg:Expr} (a it:Addr):Turn P w K tg (Itl K a) [it] it (fun i h=>h.IsListIter it a i) where
  mem:=by simp
  obj:=fun i h st b hb=>by
    have e:b=it:=by simpa using hb
    subst e
    obtain ⟨o,e,c,d⟩:=st
    exact ⟨o,e,fun v z=>by rw [d] at z; cases z⟩
  keep:=fun i h h' st k=>st.at fun o e=>k it (by simp) o e
  item:=by
    intro X hP hw hK hc i pins s σ H E I hf st hg
    subst hP hw hK
    obtain ⟨xs,x,hq,hx⟩:=hg
    obtain ⟨its,rv,p,hz⟩:=I.list hq
    obtain ⟨u,hu,ru⟩:=rv.get hx
    obtain ⟨f0,f1,f2,f3,f4,f5⟩:=hf it (by simp)
    refine wpAny_pyNext_list_item st p.isList (x:=u) (by simpa using hu) fun h' st' sb=>?_
    have I1:Inv X pins σ H { s with heap:=h' }:=I.turned (t':=s.toks) (fun b o hb e=>(sb.2 b hb).trans e) f0 f1 f3 f4 f5
    obtain ⟨o,e,c,d⟩:=id st'
    exact ⟨u,rfl,go_of (s:={ s with heap:=h' }) e c d (by decide) ⟨x,H,I1,ru,⟨rfl,fun ys hy=>by rw [I.list_inj hy hq]; exact hx⟩,st',fun b hb=>(hf b hb).1⟩⟩
  done:=by
    intro X hP hw hK hc i pins s σ H E I hf st hg
    subst hP hw hK
    obtain ⟨xs,hq,hx⟩:=hg
    obtain ⟨its,rv,p,hz⟩:=I.list hq
    obtain ⟨f0,f1,f2,f3,f4,f5⟩:=hf it (by simp)
    have hl:=rv.length
    exact wpAny_pyNext_list_end (I.ok.hd hc) st p.isList (by simp; walk_at "l") fun h' eb=>⟨rfl,I.turned (t':=s.toks) (fun b o hb e=>eb b o hb e) f0 f1 f3 f4 f5⟩
  self:=fun _ _ _ _ _ st h=>wpAny_pyIter_listiter st h
end L2

namespace L2
open PySem PySem.Spec PyProof.Rows
section
variable {X:Cx} {tg:Expr}
noncomputable def iList (K:PySem.W.Frag) (tl:TE):TI:=fun σ H R=>tl σ H fun x H1=>∃ a,x=.ref a∧(∃ xs,SqL K H1 a xs)∧R (Itl K a) H1
theorem pi_list {l:Expr} {tl:TE} (hl:PE X l tl):PI X tg l (iList X.K tl):=by
  intro pins s σ H R I h
  refine thn (hl pins s σ H _ I h) fun v s1 hx5=>L2.ex2 hx5 fun x H1 I1 r1 q1=>?_
  obtain ⟨a,e,⟨xs,hq⟩,q⟩:=q1
  subst e
  cases r1
  obtain ⟨its,rv,p,hz⟩:=I1.list hq
  refine wpAny_pyIter_list p.isList ?_
  refine ⟨s1.heap.objs.size,[s1.heap.objs.size],_,_,H1,rfl,I1.kept (t':=s1.toks) fun b o e=>Heap.get?_push_of_some _ e,turn_list a _,⟨_,Heap.get?_push_size _ rfl,rfl,rfl⟩,fun b hb=>?_,q⟩
  have e:b=s1.heap.objs.size:=by simpa using hb
  subst e
  exact I1.fpOk (Nat.le_refl _) (I1.hok.fresh (Nat.le_refl _))
noncomputable def tFor (wi:TI) (g:TG) (tb:TS):TS:=fun D σ H=>wi σ H fun J H1=>∃ W:Nat→Nat→St→Hp→Prop,(∃ m,W 0 m σ H1)∧∀ i m σ H,W i m σ H →
  (J.stop i H∧D.nx σ H)∨(J.go i H∧∃ N:St→Hp→Prop,(∀ σ' H',N σ' H'→∃ m',m'<m∧W (i+1) m' σ' H')∧∀ x H',J.yld i H x H'→g x σ H' fun σ2 H2=>tb { D with nx:=N,ct:=N,bk:=D.nx } σ2 H2)
noncomputable def pinsAt (fp:List Addr) (h:Heap):List (Addr × Obj):=fp.filterMap fun b=>(h.get? b).map fun o=>(b,o)
theorem mem_pinsAt {fp:List Addr} {h:Heap} {b:Addr} {o:Obj} (hb:b∈fp) (e:h.get? b=some o):(b,o)∈pinsAt fp h:=List.mem_filterMap.mpr ⟨b,hb,by rw [e]; rfl⟩
theorem of_pinsAt {fp:List Addr} {h:Heap} {p:Addr × Obj} (hp:p∈pinsAt fp h):p.1∈fp∧h.get? p.1=some p.2:=by
  obtain ⟨b,hb,e⟩:=List.mem_filterMap.mp hp
  cases q:h.get? b with
  | none=>rw [q] at e; cases e
  | some o =>
    rw [q] at e
    have e':(b,o)=p:=Option.some.inj e
    subst e'
    exact ⟨hb,q⟩
theorem Inv.pinned {pins:List (Addr × Obj)} {σ:St} {H:Hp} {s:Shared} {fp:List Addr} (I:Inv X pins σ H s) (hf:∀ b∈fp,FpOk X pins H b) (ho:∀ b∈fp,∃ o,s.heap.get? b=some o∧∀ v,o.data≠.cell v):Inv X (pins++pinsAt fp s.heap) σ H s :=
  I.pins_of fun p hp=>(List.mem_append.mp hp).elim (fun z=>I.pin p (List.mem_append_right _ z)) fun z=>by
    obtain ⟨hb,e⟩:=of_pinsAt z
    obtain ⟨f0,f1,f2,_⟩:=hf p.1 hb
    obtain ⟨o,e',d⟩:=ho p.1 hb
    rw [e] at e'; cases e'
    exact ⟨e,f0,f1,f2,d⟩
theorem Inv.unpinned {pins pl:List (Addr × Obj)} {σ:St} {H:Hp} {s:Shared} (I:Inv X (pins++pl) σ H s):Inv X pins σ H s:=I.pins_of fun p hp=>I.pin p (List.mem_append_right _ (List.mem_append_left _ hp))
theorem ps_for {iter:Expr} {body:List Stmt} {wi:TI} {g:TG} {tb:TS} {pos:Pos} (hp:PassesOwn (model X.prog X.w) X.A X.env X.xe) (hc:X.calm=true) (hi:PI X tg iter wi) (hg:PG X tg g) (hb:PSs X body tb)
    (hs:∀ x,foldedSetIterable iter X.env x=pure x:=by intro _; rfl):PS X (.For tg iter body [] pos) (tFor wi g tb):=by
  intro pins s σ H D I h
  refine wpAny_For (thn (hi pins s σ H _ I h) fun v s1 h1=>thn h1 fun itv s2 h2=>?_) hs
  obtain ⟨it,fp,tn,J,H2,e,I2,T,st2,f2,W,⟨m0,w0⟩,turn⟩:=h2
  subst e
  -- what stays true of the iterator's objects through the loop
  have stat:∀ {H':Hp},(∀ b∈fp,H' b=none)→∀ b∈fp,FpOk X pins H' b:=fun hn b hb=>⟨hn b hb,(f2 b hb).2⟩
  refine codeAny_forLoop_any (fun n s'=>∃ i σ' H',Inv X pins σ' H' s'∧tn i s'.heap∧(∀ b∈fp,H' b=none)∧W i n σ' H') ?_ m0 ⟨0,σ,H2,I2,st2,fun b hb=>(f2 b hb).1,w0⟩
  rintro n s3 ⟨i,σ3,H3,I3,st3,fr3,w3⟩
  rcases turn i n σ3 H3 w3 with ⟨stop,qn⟩ | ⟨go,N,hN,step⟩
  · refine wpAny_passesOwn hp (thn (T.done X rfl rfl rfl hc i pins s3 σ3 H3 X.xe I3 (stat fr3) st3 stop) fun r s4 hx9=>?_)
    obtain ⟨hr,I4⟩:=hx9
    subst hr
    exact wpAny_execs_nil ⟨σ3,H3,I4,qn⟩
  · refine wpAny_passesOwn hp (thn (T.item X rfl rfl rfl hc i pins s3 σ3 H3 X.xe I3 (stat fr3) st3 go) fun r s4 hx9=>?_)
    obtain ⟨u,hr,h4⟩:=hx9
    subst hr
    refine wpAny_passesOwn hp (thn h4 fun _ s5 hx9=>?_)
    obtain ⟨x,H5,I5,r5,y5,st5,fr5⟩:=hx9
    have I5':=I5.pinned (stat fr5) (T.obj _ _ st5)
    refine wpAny_passesOwn hp (thn (hg _ s5 σ3 H5 x u _ I5' r5 (step x H5 y5)) fun _ s6 hx9=>?_)
    obtain ⟨σ6,H6,I6,q6⟩:=hx9
    refine wpAny_passesOwn hp (thn (hb _ s6 σ6 H6 _ I6 q6) fun f s7 q7=>?_)
    have again:∀ {σ7:St} {H7:Hp},Inv X (pins++pinsAt fp s5.heap) σ7 H7 s7→N σ7 H7→∃ m,m<n∧∃ i σ' H',Inv X pins σ' H' s7∧tn i s7.heap∧(∀ b∈fp,H' b=none)∧W i m σ' H':=fun {σ7 H7} I7 n7=>by
      obtain ⟨m',hm,w7⟩:=hN σ7 H7 n7
      refine ⟨m',hm,i+1,σ7,H7,I7.unpinned,T.keep _ _ _ st5 fun b hb o e=>(I7.pin (b,o) (List.mem_append_right _ (List.mem_append_right _ (mem_pinsAt hb e)))).1,fun b hb=>?_,w7⟩
      obtain ⟨o,e,d⟩:=T.obj _ _ st5 b hb
      exact (I7.pin (b,o) (List.mem_append_right _ (List.mem_append_right _ (mem_pinsAt hb e)))).2.1
    cases f with
    | next=>obtain ⟨σ7,H7,I7,n7⟩:=q7; exact again I7 n7
    | cont=>obtain ⟨σ7,H7,I7,n7⟩:=q7; exact again I7 n7
    | brk=>obtain ⟨σ7,H7,I7,q7⟩:=q7; exact ⟨σ7,H7,I7.unpinned,q7⟩
    | ret v=>obtain ⟨x7,σ7,H7,I7,r7,q7⟩:=q7; exact ⟨x7,σ7,H7,I7.unpinned,r7,q7⟩
end

end L2

namespace L2
open PySem PySem.Spec PyProof.Rows

noncomputable abbrev R2:=V→V→Hp→VK→Prop
noncomputable def OpR (X:Cx) (f:Value→Value→Sem Value) (r:R2):Prop :=
  ∀ (pins:List (Addr × Obj)) (s:Shared) (σ:St) (H:Hp) (x y:V) (v u:Value) (Q:VK),Inv X pins σ H s→RelV x v→RelV y u→r x y H Q →
    wpAny (model X.prog X.w) X.A (f v u) (EP X pins σ Q) X.xe s
noncomputable def UnR (X:Cx) (f:Value→Sem Value) (r:V→Hp→VK→Prop):Prop :=
  ∀ (pins:List (Addr × Obj)) (s:Shared) (σ:St) (H:Hp) (x:V) (v:Value) (Q:VK),Inv X pins σ H s→RelV x v→r x H Q →
    wpAny (model X.prog X.w) X.A (f v) (EP X pins σ Q) X.xe s
noncomputable def CallR (X:Cx) (f:Value) (r:List V→Hp→VK→Prop):Prop :=
  ∀ (pins:List (Addr × Obj)) (s:Shared) (σ:St) (H:Hp) (xs:List V) (us:List Value) (Q:VK),Inv X pins σ H s→Vals xs us→r xs H Q →
    wpAny (model X.prog X.w) X.A (call f us) (EP X pins σ Q) X.xe s
noncomputable def tOp (r:R2) (ta tb:TE):TE:=fun σ H Q=>ta σ H fun x H1=>tb σ H1 fun y H2=>r x y H2 Q
noncomputable def tUn (r:V→Hp→VK→Prop) (ta:TE):TE:=fun σ H Q=>ta σ H fun x H1=>r x H1 Q
noncomputable def rI (C:Int→Int→Prop) (g:Int→Int→V):R2:=fun x y H Q=>∃ i j,x=.int i∧y=.int j∧C i j∧Q (g i j) H
noncomputable def rI0 (g:Int→Int→V):R2:=fun x y H Q=>∃ i j,x=.int i∧y=.int j∧Q (g i j) H
noncomputable def rU (g:Int→V):V→Hp→VK→Prop:=fun x H Q=>∃ i,x=.int i∧Q (g i) H

section
variable {X:Cx} {a b c:Expr} {ta tb tc:TE} {pos:Pos}

theorem binT (ha:PE X a ta) (hb:PE X b tb) {pins:List (Addr × Obj)} {s:Shared} {σ:St} {H:Hp} {R:V→V→Hp→Prop} (I:Inv X pins σ H s)
    (h:ta σ H fun x H1=>tb σ H1 fun y H2=>R x y H2) {Q:Value→Shared→Prop} {f:Value→Value→Sem Value}
    (hf:∀ v u s2 x y H2,Inv X pins σ H2 s2→RelV x v→RelV y u→R x y H2→wpAny (model X.prog X.w) X.A (f v u) Q X.xe s2) :
    wpAny (model X.prog X.w) X.A (eval a X.env) (fun v s₁=>wpAny (model X.prog X.w) X.A (eval b X.env) (fun u s₂=>wpAny (model X.prog X.w) X.A (f v u) Q X.xe s₂) X.xe s₁) X.xe s:=by
  refine thn (ha pins s σ H _ I h) fun v s1 hx5=>L2.ex2 hx5 fun x H1 I1 r1 q1=>?_
  refine thn (hb pins s1 σ H1 _ I1 q1) fun u s2 hx5=>L2.ex2 hx5 fun y H2 I2 r2 q2=>?_
  exact hf v u s2 x y H2 I2 r1 r2 q2

theorem pe_op {op:Operator} {r:R2} (ho:OpR X (binaryOp op) r) (ha:PE X a ta) (hb:PE X b tb):PE X (.BinOp a op b pos) (tOp r ta tb):=by
  intro pins s σ H Q I h
  exact wpAny_BinOp (binT ha hb I h fun v u s2 x y H2 I2 rx ry q=>ho pins s2 σ H2 x y v u Q I2 rx ry q)
theorem pe_un {op:UnaryOp} {r:V→Hp→VK→Prop} (ho:UnR X (unaryOp op) r) (ha:PE X a ta):PE X (.UnaryOp op a pos) (tUn r ta):=by
  intro pins s σ H Q I h
  exact UnaryOp_ (thn (ha pins s σ H _ I h) fun v s1 hx5=>L2.ex2 hx5 fun x H1 I1 r1 q1=>ho pins s1 σ H1 x v Q I1 r1 q1)
theorem opI {f:Value→Value→Sem Value} {C:Int→Int→Prop} {g:Int→Int→Int}
    (rule:∀ (i j:Int) (t u:Tok) (s:Shared) (Q:Value→Shared→Prop) (E:Value→Shared→Prop),C i j→Q (.int (g i j) s.toks) { s with toks:=s.toks+1 }→wpAny (model X.prog X.w) X.A (f (.int i t) (.int j u)) Q E s) :
    OpR X f (rI C fun i j=>.int (g i j)):=by
  intro pins s σ H x y v u Q I rx ry h
  obtain ⟨i,j,rfl,rfl,hc,q⟩:=h
  obtain ⟨t,rfl⟩:=rx
  obtain ⟨t',rfl⟩:=ry
  exact rule i j t t' s _ _ hc ⟨.int (g i j),H,I.tok _,⟨_,rfl⟩,q⟩
theorem opI0 {f:Value→Value→Sem Value} {g:Int→Int→Int}
    (rule:∀ (i j:Int) (t u:Tok) (s:Shared) (Q:Value→Shared→Prop) (E:Value→Shared→Prop),Q (.int (g i j) s.toks) { s with toks:=s.toks+1 }→wpAny (model X.prog X.w) X.A (f (.int i t) (.int j u)) Q E s) :
    OpR X f (rI0 fun i j=>.int (g i j)):=by
  intro pins s σ H x y v u Q I rx ry h
  obtain ⟨i,j,rfl,rfl,q⟩:=h
  obtain ⟨t,rfl⟩:=rx
  obtain ⟨t',rfl⟩:=ry
  exact rule i j t t' s _ _ ⟨.int (g i j),H,I.tok _,⟨_,rfl⟩,q⟩
theorem opB0 {f:Value→Value→Sem Value} {g:Int→Int→Bool}
    (rule:∀ (i j:Int) (t u:Tok) (s:Shared) (Q:Value→Shared→Prop) (E:Value→Shared→Prop),Q (.bool (g i j)) s→wpAny (model X.prog X.w) X.A (f (.int i t) (.int j u)) Q E s) :
    OpR X f (rI0 fun i j=>.bl (g i j)):=by
  intro pins s σ H x y v u Q I rx ry h
  obtain ⟨i,j,rfl,rfl,q⟩:=h
  obtain ⟨t,rfl⟩:=rx
  obtain ⟨t',rfl⟩:=ry
  exact rule i j t t' s _ _ ⟨.bl (g i j),H,I,rfl,q⟩

noncomputable def CDiv (i j:Int):Prop:=0<j∧j<1073741824
noncomputable def CPow (i j:Int):Prop:=0≤j∧j≤1000000∧i.natAbs<2 ^ 64
noncomputable def CMul (i j:Int):Prop:=(-(2 ^ 64)<i∧i<2 ^ 64)∨(-(2 ^ 64)<j∧j<2 ^ 64)
theorem CMul.ok {i j:Int} (h:CMul i j):IntMulOk i j:=by
  rcases h with ⟨h1,h2⟩ | ⟨h1,h2⟩
  · exact .of_left (intBits_le_64 h1 h2)
  · exact .of_right (intBits_le_64 h1 h2)
theorem op_add:OpR X (binaryOp .Add) (rI0 fun i j=>.int (i+j)):=opI0 fun _ _ _ _ _ _ _ q=>add_int q
theorem op_sub:OpR X (binaryOp .Sub) (rI0 fun i j=>.int (i - j)):=opI0 fun _ _ _ _ _ _ _ q=>sub_int q
theorem op_fdiv:OpR X (binaryOp .FloorDiv) (rI CDiv fun i j=>.int (i / j)):=opI fun i j _ _ _ _ _ hc q=>by
  have h1:(0:Int)<j:=hc.1
  have h2:j<1073741824:=hc.2
  exact floordiv_int (by walk_at "l") (by rw [Int.fdiv_eq_ediv_of_nonneg i (by exact Int.le_of_lt ‹_›)]; exact q) (.inl (PyProof.noPylong_small (by walk_at "l")))
theorem op_mod:OpR X (binaryOp .Mod) (rI (fun _ j=>0<j) fun i j=>.int (i % j)):=opI fun i j _ _ _ _ _ hc q=>by
  have h1:(0:Int)<j:=hc
  exact mod_int' (by walk_at "l") (by rw [Int.fmod_eq_emod_of_nonneg i (by exact Int.le_of_lt ‹_›)]; exact q)
theorem op_pow:OpR X (binaryOp .Pow) (rI CPow fun i j=>.int (i ^ j.toNat)):=opI fun _ _ _ _ _ _ _ hc q=>pow_int_small hc.1 hc.2.1 hc.2.2 q
theorem unI {f:Value→Sem Value} {g:Int→Int}
    (rule:∀ (i:Int) (t:Tok) (s:Shared) (Q:Value→Shared→Prop) (E:Value→Shared→Prop),Q (.int (g i) s.toks) { s with toks:=s.toks+1 }→wpAny (model X.prog X.w) X.A (f (.int i t)) Q E s) :
    UnR X f (rU fun i=>.int (g i)):=by
  intro pins s σ H x v Q I rx h
  obtain ⟨i,rfl,q⟩:=h
  obtain ⟨t,rfl⟩:=rx
  exact rule i t s _ _ ⟨.int (g i),H,I.tok _,⟨_,rfl⟩,q⟩
theorem un_neg:UnR X (unaryOp .USub) (rU fun i=>.int (-i)):=unI fun _ _ _ _ _ q=>neg_int q
end

noncomputable def scal:V→V→Bool
  | .non,.non=>true | .non,.int _=>true | .int _,.non=>true | .non,.bl _=>true | .bl _,.non=>true | .non,.str _=>true | .str _,.non=>true
  | .int _,.int _=>true | .bl _,.bl _=>true | .str _,.str _=>true | .byt _,.byt _=>true
  | .int _,.str _=>true | .str _,.int _=>true | .bl _,.str _=>true | .str _,.bl _=>true
  | _,_=>false
noncomputable def rEq:R2:=fun x y H Q=>scal x y=true∧Q (.bl (decide (x=y))) H
noncomputable def rNe:R2:=fun x y H Q=>scal x y=true∧Q (.bl (!decide (x=y))) H

theorem dec_int {i j:Int}:decide (V.int i=V.int j)=(i == j):=by
  rw [Bool.eq_iff_iff]
  simp
theorem dec_bl {i j:Bool}:decide (V.bl i=V.bl j)=(i == j):=by
  rw [Bool.eq_iff_iff]
  simp
theorem dec_str {i j:Str}:decide (V.str i=V.str j)=(i == j):=by
  rw [Bool.eq_iff_iff]
  simp
theorem dec_byt {i j:Array UInt8}:decide (V.byt i=V.byt j)=(i.toList == j.toList):=by
  rw [Bool.eq_iff_iff]
  cases i
  cases j
  simp

section
variable {X:Cx} {a b c:Expr} {ta tb tc:TE} {pos:Pos}
theorem fin_bl {pins:List (Addr × Obj)} {σ:St} {H:Hp} {s:Shared} {Q:VK} {k k':Bool} (I:Inv X pins σ H s) (q:Q (.bl k) H) (e:k=k'):EP X pins σ Q (.bool k') s:=by
  subst e
  exact ⟨.bl k,H,I,rfl,q⟩
theorem op_eq:OpR X (compareOp .Eq) rEq:=by
  intro pins s σ H x y v u Q I rx ry h
  obtain ⟨hs,q⟩:=h
  cases x with
  | non =>
    cases rx
    cases y with
    | non=>cases ry; exact PySem.EqNone.eq_none_none (fin_bl I q (by simp))
    | bl j=>cases ry; exact PySem.EqNone.eq_none_bool (fin_bl I q (by simp))
    | int j=>obtain ⟨t',rfl⟩:=ry; exact PySem.EqNone.eq_none_int (fin_bl I q (by simp))
    | str j=>obtain ⟨t',rfl⟩:=ry; exact PySem.EqNone.eq_none_str (fin_bl I q (by simp))
    | _=>exact absurd (show false=true from hs) Bool.false_ne_true
  | bl i =>
    cases rx
    cases y with
    | non=>cases ry; exact PySem.EqNone.eq_bool_none (fin_bl I q (by simp))
    | bl j=>cases ry; exact eq_bool (fin_bl I q dec_bl)
    | str j=>obtain ⟨t',rfl⟩:=ry; exact PySem.EqMixed.eq_bool_str (fin_bl I q (by simp))
    | _=>exact absurd (show false=true from hs) Bool.false_ne_true
  | int i =>
    obtain ⟨t,rfl⟩:=rx
    cases y with
    | non=>cases ry; exact PySem.EqNone.eq_int_none (fin_bl I q (by simp))
    | int j=>obtain ⟨t',rfl⟩:=ry; exact eq_int (fin_bl I q dec_int)
    | str j=>obtain ⟨t',rfl⟩:=ry; exact PySem.EqMixed.eq_int_str (fin_bl I q (by simp))
    | _=>exact absurd (show false=true from hs) Bool.false_ne_true
  | str i =>
    obtain ⟨t,rfl⟩:=rx
    cases y with
    | non=>cases ry; exact PySem.EqNone.eq_str_none (fin_bl I q (by simp))
    | bl j=>cases ry; exact PySem.EqMixed.eq_str_bool (fin_bl I q (by simp))
    | int j=>obtain ⟨t',rfl⟩:=ry; exact PySem.EqMixed.eq_str_int (fin_bl I q (by simp))
    | str j=>obtain ⟨t',rfl⟩:=ry; exact eq_str (fin_bl I q dec_str)
    | _=>exact absurd (show false=true from hs) Bool.false_ne_true
  | byt i =>
    obtain ⟨t,rfl⟩:=rx
    cases y with
    | byt j=>obtain ⟨t',rfl⟩:=ry; exact PySem.W.eq_bytes (fin_bl I q dec_byt)
    | _=>exact absurd (show false=true from hs) Bool.false_ne_true
  | _=>cases y <;> exact absurd (show false=true from hs) Bool.false_ne_true
theorem op_ne:OpR X (compareOp .NotEq) rNe:=by
  intro pins s σ H x y v u Q I rx ry h
  obtain ⟨hs,q⟩:=h
  cases x with
  | non =>
    cases rx
    cases y with
    | non=>cases ry; exact PySem.EqNone.ne_none_none (fin_bl I q (by simp))
    | bl j=>cases ry; exact PySem.EqNone.ne_none_bool (fin_bl I q (by simp))
    | int j=>obtain ⟨t',rfl⟩:=ry; exact PySem.EqNone.ne_none_int (fin_bl I q (by simp))
    | str j=>obtain ⟨t',rfl⟩:=ry; exact PySem.EqNone.ne_none_str (fin_bl I q (by simp))
    | _=>exact absurd (show false=true from hs) Bool.false_ne_true
  | bl i =>
    cases rx
    cases y with
    | non=>cases ry; exact PySem.EqNone.ne_bool_none (fin_bl I q (by simp))
    | bl j=>cases ry; exact ne_bool (fin_bl I q (congrArg not dec_bl))
    | str j=>obtain ⟨t',rfl⟩:=ry; exact PySem.EqMixed.ne_bool_str (fin_bl I q (by simp))
    | _=>exact absurd (show false=true from hs) Bool.false_ne_true
  | int i =>
    obtain ⟨t,rfl⟩:=rx
    cases y with
    | non=>cases ry; exact PySem.EqNone.ne_int_none (fin_bl I q (by simp))
    | int j=>obtain ⟨t',rfl⟩:=ry; exact ne_int (fin_bl I q (congrArg not dec_int))
    | str j=>obtain ⟨t',rfl⟩:=ry; exact PySem.EqMixed.ne_int_str (fin_bl I q (by simp))
    | _=>exact absurd (show false=true from hs) Bool.false_ne_true
  | str i =>
    obtain ⟨t,rfl⟩:=rx
    cases y with
    | non=>cases ry; exact PySem.EqNone.ne_str_none (fin_bl I q (by simp))
    | bl j=>cases ry; exact PySem.EqMixed.ne_str_bool (fin_bl I q (by simp))
    | int j=>obtain ⟨t',rfl⟩:=ry; exact PySem.EqMixed.ne_str_int (fin_bl I q (by simp))
    | str j=>obtain ⟨t',rfl⟩:=ry; exact ne_str (fin_bl I q (congrArg not dec_str))
    | _=>exact absurd (show false=true from hs) Bool.false_ne_true
  | byt i =>
    obtain ⟨t,rfl⟩:=rx
    cases y with
    | byt j=>obtain ⟨t',rfl⟩:=ry; exact PySem.W.ne_bytes (fin_bl I q (congrArg not dec_byt))
    | _=>exact absurd (show false=true from hs) Bool.false_ne_true
  | _=>cases y <;> exact absurd (show false=true from hs) Bool.false_ne_true

theorem op_lt:OpR X (compareOp .Lt) (rI0 fun i j=>.bl (decide (i<j))):=opB0 fun _ _ _ _ _ _ _ q=>lt_int q
theorem op_le:OpR X (compareOp .LtE) (rI0 fun i j=>.bl (decide (i≤j))):=opB0 fun _ _ _ _ _ _ _ q=>le_int q
theorem op_gt:OpR X (compareOp .Gt) (rI0 fun i j=>.bl (decide (j<i))):=opB0 fun _ _ _ _ _ _ _ q=>gt_int q
theorem op_lt_str:OpR X (compareOp .Lt) (fun x y H Q=>∃ i j,x=.str i∧y=.str j∧Q (.bl (decide (i.cps.toList<j.cps.toList))) H):=by
  intro pins s σ H x y v u Q I rx ry h
  obtain ⟨i,j,rfl,rfl,q⟩:=h
  obtain ⟨t,rfl⟩:=rx
  obtain ⟨t',rfl⟩:=ry
  exact lt_str (fin_bl I q rfl)
theorem op_in_str:OpR X (compareOp .In) (fun x y H Q=>∃ i j,x=.str i∧y=.str j∧Q (.bl (!(Builtin.Str.occurrences j i 0 j.length 1).isEmpty)) H):=by
  intro pins s σ H x y v u Q I rx ry h
  obtain ⟨i,j,rfl,rfl,q⟩:=h
  obtain ⟨t,rfl⟩:=rx
  obtain ⟨t',rfl⟩:=ry
  exact in_str (fin_bl I q rfl)

theorem OpR.or {f:Value→Value→Sem Value} {r r':R2} (h:OpR X f r) (h':OpR X f r'):OpR X f (fun x y H Q=>r x y H Q∨r' x y H Q):=by
  intro pins s σ H x y v u Q I rx ry q
  rcases q with q | q
  · exact h pins s σ H x y v u Q I rx ry q
  · exact h' pins s σ H x y v u Q I rx ry q

theorem nomark (b:Expr) {op:CmpOp} (h:op≠.In:=by decide) (h2:op≠.NotIn:=by decide):behindInMarks op b=false:=by
  have e1:(op == CmpOp.In)=false:=by cases op <;> first | rfl | exact absurd rfl h
  have e2:(op == CmpOp.NotIn)=false:=by cases op <;> first | rfl | exact absurd rfl h2
  cases b <;> simp [behindInMarks,e1,e2]
theorem pe_cmpR {op:CmpOp} {r:R2} (ho:OpR X (compareOp op) r) (ha:PE X a ta) (hb:PE X b tb) (hm:behindInMarks op b=false):PE X (.Compare a [op] [b] pos) (tOp r ta tb):=by
  intro pins s σ H Q I h
  exact wpAny_Compare1 (binT ha hb I h fun v u s2 x y H2 I2 rx ry q=>ho pins s2 σ H2 x y v u Q I2 rx ry q) hm
noncomputable def tTest (t:TE):TT:=fun σ H Q=>t σ H fun x H'=>∃ k,x=.bl k∧Q k H'
theorem pt_cmpR {op:CmpOp} {r:R2} (ho:OpR X (compareOp op) r) (ha:PE X a ta) (hb:PE X b tb) (hm:behindInMarks op b=false):PT X (.Compare a [op] [b] pos) (tTest (tOp r ta tb)):=by
  intro pins s σ H Q I h
  refine wpAny_isTrue_Compare1 (thn (ha pins s σ H _ I h) fun v s1 hx5=>L2.ex2 hx5 fun x H1 I1 r1 q1=>thn (hb pins s1 σ H1 _ I1 q1) fun u s2 hx5=>L2.ex2 hx5 fun y H2 I2 r2 q2 =>
    thn (ho pins s2 σ H2 x y v u _ I2 r1 r2 q2) fun c s3 ⟨z,H3,I3,r3,k,e,q3⟩=>?_) hm
  subst e
  cases r3
  exact wpAny_truthy_bool ⟨H3,I3,q3⟩
noncomputable def tChain (r r':R2) (ta tb tc:TE):TE:=fun σ H Q=>ta σ H fun x H1=>tb σ H1 fun y H2=>r x y H2 fun z H3=>∃ k,z=.bl k ∧
  (if k=true then tc σ H3 fun w' H4=>r' y w' H4 Q else Q (.bl false) H3)
theorem pe_chain {op op':CmpOp} {r r':R2} (ho:OpR X (compareOp op) r) (ho':OpR X (compareOp op') r') (ha:PE X a ta) (hb:PE X b tb) (hc:PE X c tc)
    (hm:lastMarks [op,op'] [b,c]=false:=by with_unfolding_all rfl):PE X (.Compare a [op,op'] [b,c] pos) (tChain r r' ta tb tc):=by
  intro pins s σ H Q I h
  refine Compare_chain (thn (ha pins s σ H _ I h) fun v s1 hx5=>L2.ex2 hx5 fun x H1 I1 r1 q1=>chain_link (thn (hb pins s1 σ H1 _ I1 q1) fun u s2 hx5=>L2.ex2 hx5 fun y H2 I2 r2 q2 =>
    thn (ho pins s2 σ H2 x y v u _ I2 r1 r2 q2) fun d s3 ⟨z,H3,I3,r3,k,e,q3⟩=>?_)) hm
  subst e
  cases r3
  refine wpAny_truthy_bool ?_
  cases k with
  | false=>exact ite_ff ⟨.bl false,H3,I3,rfl,q3⟩
  | true=>exact ite_tt (chain_last (thn (hc pins s3 σ H3 _ I3 q3) fun w' s4 ⟨z',H4,I4,r4,q4⟩=>ho' pins s4 σ H4 y z' u w' Q I4 r2 r4 q4))
theorem pt_chain {op op':CmpOp} {r r':R2} (ho:OpR X (compareOp op) r) (ho':OpR X (compareOp op') r') (ha:PE X a ta) (hb:PE X b tb) (hc:PE X c tc)
    (hm:lastMarks [op,op'] [b,c]=false:=by with_unfolding_all rfl):PT X (.Compare a [op,op'] [b,c] pos) (tTest (tChain r r' ta tb tc)):=by
  intro pins s σ H Q I h
  refine isTrue_chain (thn (ha pins s σ H _ I h) fun v s1 hx5=>L2.ex2 hx5 fun x H1 I1 r1 q1=>test_link (thn (hb pins s1 σ H1 _ I1 q1) fun u s2 hx5=>L2.ex2 hx5 fun y H2 I2 r2 q2 =>
    thn (ho pins s2 σ H2 x y v u _ I2 r1 r2 q2) fun d s3 ⟨z,H3,I3,r3,k,e,q3⟩=>?_)) hm
  subst e
  cases r3
  refine wpAny_truthy_bool ?_
  cases k with
  | false =>
    obtain ⟨k',e',q'⟩:=q3
    cases e'
    exact ite_ff ⟨H3,I3,q'⟩
  | true =>
    refine ite_tt (test_last (thn (hc pins s3 σ H3 _ I3 q3) fun w' s4 ⟨z',H4,I4,r4,q4⟩=>thn (ho' pins s4 σ H4 y z' u w' _ I4 r2 r4 q4) fun d' s5 hx9=>?_))
    obtain ⟨z2,H5,I5,r5,k2,e2,q5⟩:=hx9
    subst e2
    cases r5
    exact wpAny_truthy_bool ⟨H5,I5,q5⟩

theorem line63:(sizeLine:Nat)<2 ^ 63:=by rw [sizeLine_eq]; decide
theorem op_add_str:OpR X (binaryOp .Add) (fun x y H Q=>∃ i j,x=.str i∧y=.str j∧i.length+j.length≤sizeLine∧Q (.str (i++j)) H):=by
  intro pins s σ H x y v u Q I rx ry h
  obtain ⟨i,j,rfl,rfl,hz,q⟩:=h
  obtain ⟨t,rfl⟩:=rx
  obtain ⟨t',rfl⟩:=ry
  exact add_str (fun t' tk=>⟨.str (i++j),H,I.tok _,⟨_,rfl⟩,q⟩) hz
theorem vals1 {x:V} {us:List Value} (r:Vals [x] us):∃ u,us=[u]∧RelV x u:=by
  cases r with
  | cons r1 r2=>cases r2; exact ⟨_,rfl,r1⟩
noncomputable def LenV (K:PySem.W.Frag) (x:V) (H:Hp) (n:Nat):Prop :=
  match x with
  | .str y=>y.length≤sizeLine∧n=y.length
  | .byt y=>y.size≤sizeLine∧n=y.size
  | .ref p=>(∃ xs,SqL K H p xs∧n=xs.length)∨∃ xs,SqT K H p xs∧n=xs.length
  | _=>False
theorem call_len:CallR X (.builtin "len") (fun xs H Q=>∃ x n,xs=[x]∧LenV X.K x H n∧Q (.int n) H):=by
  intro pins s σ H xs us Q I r h
  obtain ⟨x,n,rfl,e,q⟩:=h
  obtain ⟨u,rfl,rx⟩:=vals1 r
  have hl:=line63
  have hs:sizeLine=16777216:=sizeLine_eq
  cases x with
  | str y =>
    obtain ⟨t,rfl⟩:=rx
    obtain ⟨hy,e'⟩:y.length≤sizeLine∧n=y.length:=e
    subst e'
    exact len_str (by walk_at "l") ⟨.int _,H,I.tok _,⟨_,rfl⟩,q⟩
  | byt y =>
    obtain ⟨t,rfl⟩:=rx
    obtain ⟨hy,e'⟩:y.size≤sizeLine∧n=y.size:=e
    subst e'
    exact PySem.W.len_bytes (by walk_at "l") ⟨.int _,H,I.tok _,⟨_,rfl⟩,q⟩
  | ref p =>
    cases rx
    have e':(∃ xs,SqL X.K H p xs∧n=xs.length)∨∃ xs,SqT X.K H p xs∧n=xs.length:=e
    rcases e' with ⟨xs,hx,e'⟩ | ⟨xs,hx,e'⟩
    · subst e'
      obtain ⟨its,r',pl,hz⟩:=I.list hx
      have hlen:=r'.length
      exact Calls.call_len_list pl.isList (by simp only [List.size_toArray]; walk_at "l") ⟨.int xs.length,H,I.tok _,⟨_,by simp only [List.size_toArray]; rw [hlen]⟩,q⟩
    · subst e'
      obtain ⟨its,r',pl,hz⟩:=I.tuple hx
      have hlen:=r'.length
      exact len_tuple pl (by simp only [List.size_toArray]; walk_at "l") ⟨.int xs.length,H,I.tok _,⟨_,by simp only [List.size_toArray]; rw [hlen]⟩,q⟩
  | _=>exact (show False from e).elim
end
end L2

namespace L2
open PySem PySem.Spec PyProof.Rows

structure ObjM (h:Heap) (x dx C:Addr) (mA:Str→Option Value):Prop where
  obj:h.get? x=some (PySem.W.instObj C dx)
  ns:h.Ns1 dx mA
  ne:dx≠x

theorem lookIn_ns {h:Heap} {dx:Addr} {mA:Str→Option Value} (n:h.Ns1 dx mA):∃ od,h.get? dx=some od∧∀ name,PySem.W.lookIn name od=some (mA name):=by
  obtain ⟨o,es,ep,ho,hd,hk,_,hm⟩:=n
  refine ⟨o,ho,fun name=>?_⟩
  have e:=hm name
  unfold nsFind findBy at e
  rw [← Array.find?_toList] at e
  unfold PySem.W.lookIn
  rw [hd]
  dsimp only
  split
  · rename_i y q
    rw [q] at e
    exact congrArg some e
  · rename_i q
    rw [q] at e
    have a:es.toList.any (·.refKey)=false:=by
      rw [List.any_eq_false]
      intro y hy
      obtain ⟨z,t,hkey⟩:=hk y (Array.mem_toList_iff.mp hy)
      simp [DictEntry.refKey,hkey]
    have a':¬ es.toList.any (·.refKey)=true:=by rw [a]; exact Bool.false_ne_true
    rw [if_neg a']
    exact congrArg some e

theorem ObjM.look {h:Heap} {x dx C:Addr} {mA:Str→Option Value} (I:ObjM h x dx C mA):∃ od,PySem.W.InstAt h x (PySem.W.instObj C dx) C (some od)∧∀ name,PySem.W.lookIn name od=some (mA name) :=
  let ⟨od, ho, hl⟩ := lookIn_ns I.ns
  ⟨od,⟨I.obj,rfl,rfl,ho⟩,hl⟩

section
variable {prog:Program} {w:World} {A:Around} {E:Value→Shared→Prop} {s:Shared} {K:PySem.W.Frag} {x dx C f:Addr} {mA:Str→Option Value} {name:Str} {v:Value}

end

theorem RelO.some_of {v:V} {o:Option Value} (r:RelO (some v) o):∃ u,o=some u∧RelV v u:=by
  cases o with
  | none=>exact (show False from r).elim
  | some u=>exact ⟨u,rfl,r⟩
section
variable {P:Program} {w:World} {H H':Hp} {h h':Heap} {a C dx:Addr} {fs fs':List (Str × V)}
theorem ins_get (hok:HOk P w H h) (e:H a=some (.ins C dx fs)):∃ mA,ObjM h a dx C mA∧(∀ f,RelO (fs.lookup f) (mA f))∧PySem.Within mA (fs.map (·.1))∧fs.length≤1000∧H dx=some (.own a):=by
  obtain ⟨d,z,ne,ob,mA,n,r,q⟩:=(show ObjOk P w H h a (.ins C dx fs) from hok a _ e)
  exact ⟨mA,⟨ob,n,ne⟩,r,q,z,d⟩
end

structure Cls (K:PySem.W.Frag) (C:Addr):Prop where
  pg:PySem.W.plainGet K C Str.empty=true
  hd:PySem.W.hasDictIn K C=true
  po:PySem.W.plainOver K C=true
  sa:PySem.W.findIn K (.ref C) "__setattr__" = some (some (.builtin "object.__setattr__"))
theorem Cls.get {K:PySem.W.Frag} {C:Addr} (c:Cls K C) (f:Str):PySem.W.plainGet K C f=true:=c.pg
section
variable {X:Cx} {pins:List (Addr × Obj)} {σ:St} {H:Hp} {s:Shared} {a C dx:Addr} {fs:List (Str × V)} {f:Str} {v:V} {A:Around} {E:Value→Shared→Prop}

end

section
variable {X:Cx} {o e value:Expr} {f:Str} {pos pos' tpos:Pos} {ta tv:TE}
end

section
variable {X:Cx} {pins:List (Addr × Obj)} {σ:St} {H:Hp} {s:Shared} {A:Around} {E:Value→Shared→Prop} {Q:Value→Shared→Prop} {c:Value} {b:Bool}
inductive TyOf (K:PySem.W.Frag) (H:Hp):V→Value→Prop where
  | non:TyOf K H .non (.type "NoneType")
  | bl (x:Bool):TyOf K H (.bl x) (.type "bool")
  | int (i:Int):TyOf K H (.int i) (.type "int")
  | str (x:Str):TyOf K H (.str x) (.type "str")
  | flt (x:UInt64):TyOf K H (.flt x) (.type "float")
  | lst {a:Addr} {xs:List V} (e:H a=some (.lst xs)):TyOf K H (.ref a) (.type "list")
  | frz {a:Addr} {o:Obj} {xs:List V} (e:H a=some (.frz o (.lst xs))):TyOf K H (.ref a) (.type "list")
  | tup {a:Addr} {xs:List V} (e:H a=some (.tup xs)):TyOf K H (.ref a) (.type "tuple")
  | dK {a:Addr} {kvs:List (Key × V)} (e:H a=some (.dK kvs)):TyOf K H (.ref a) (.type "dict")
  | dT {a:Addr} {kvs:List (List Key × V)} (e:H a=some (.dT kvs)):TyOf K H (.ref a) (.type "dict")
  | ins {a C dx:Addr} {fs:List (Str × V)} (e:H a=some (.ins C dx fs)) (cl:Cls K C) (ha:PySem.W.findIn K (.ref C) "__class__" = some (some (.builtin "object.__class__")))
      (hn:PySem.W.specialIn K (.builtin "object.__class__") "__get__" = some (some (.builtin "getset_descriptor.__get__"))) (htk:PySem.W.takesIn K (.builtin "object.__class__")=some true)
      (hm:PySem.W.mroIn K C (.type "object")=some true):TyOf K H (.ref a) (.ref C)
theorem isinst_ok {x:V} {u t:Value} (I:Inv X pins σ H s) (rx:RelV x u) (ty:TyOf X.K H x t) (e:PySem.W.kitOne X.K t c=some b) (h:∀ tk,Q (.bool b) { s with toks:=tk }) :
    wpAny (model X.prog X.w) A (call (.builtin "isinstance") [u,c]) Q E s:=by
  cases ty with
  | non=>cases (show u=Value.none from rx); exact PySem.W.kia_one PySem.W.kitx_none I.kIn True.intro e (fun z=>nomatch z) h
  | bl y=>cases (show u=Value.bool y from rx); exact PySem.W.kia_one PySem.W.kitx_bool I.kIn True.intro e (fun z=>nomatch z) h
  | int i=>obtain ⟨t,q⟩:=(show ∃ t,u=Value.int i t from rx); cases q; exact PySem.W.kia_one PySem.W.kitx_int I.kIn True.intro e (fun z=>nomatch z) h
  | str y=>obtain ⟨t,q⟩:=(show ∃ t,u=Value.str y t from rx); cases q; exact PySem.W.kia_one PySem.W.kitx_str I.kIn True.intro e (fun z=>nomatch z) h
  | flt y=>obtain ⟨t,q⟩:=(show ∃ t,u=Value.float y t from rx); cases q; exact PySem.W.kia_one PySem.W.kitx_float I.kIn True.intro e (fun z=>nomatch z) h
  | @lst a xs ea =>
    cases (show u=Value.ref a from rx)
    obtain ⟨_,_,n,_,h1⟩:=(show ObjOk X.prog X.w H s.heap a (.lst xs) from I.hok a _ ea)
    exact PySem.W.kia_one PySem.W.kitx_list I.kIn ⟨_,h1,rfl⟩ e (fun z=>nomatch z) h
  | @frz a ob xs ea =>
    cases (show u=Value.ref a from rx)
    obtain ⟨_,_,_,n,_,h1⟩:=(show ObjOk X.prog X.w H s.heap a (.frz ob (.lst xs)) from I.hok a _ ea)
    exact PySem.W.kia_one PySem.W.kitx_list I.kIn ⟨_,h1,rfl⟩ e (fun z=>nomatch z) h
  | @tup a xs ea =>
    cases (show u=Value.ref a from rx)
    obtain ⟨_,_,_,p⟩:=(show ObjOk X.prog X.w H s.heap a (.tup xs) from I.hok a _ ea)
    obtain ⟨o,h1,h2,_⟩:=p
    exact PySem.W.kia_one PySem.W.kitx_tuple I.kIn ⟨o,h1,h2⟩ e (fun z=>nomatch z) h
  | @dK a kvs ea =>
    cases (show u=Value.ref a from rx)
    obtain ⟨_,_,vs,_,p⟩:=(show ObjOk X.prog X.w H s.heap a (.dK kvs) from I.hok a _ ea)
    obtain ⟨o,es,ep,h1,h2,_⟩:=p
    exact PySem.W.kia_one PySem.W.kitx_dict I.kIn ⟨o,h1,h2.1⟩ e (fun z=>nomatch z) h
  | @dT a kvs ea =>
    cases (show u=Value.ref a from rx)
    obtain ⟨_,_,xs,_,o,es,ep,h1,h2,_⟩:=(show ObjOk X.prog X.w H s.heap a (.dT kvs) from I.hok a _ ea)
    exact PySem.W.kia_one PySem.W.kitx_dict I.kIn ⟨o,h1,h2.1⟩ e (fun z=>nomatch z) h
  | @ins a C dx fs ea cl ha hn htk hm =>
    cases (show u=Value.ref a from rx)
    obtain ⟨mA,O,_⟩:=ins_get I.hok ea
    obtain ⟨od,J,_⟩:=O.look
    exact PySem.W.kia_one (PySem.W.kitx_own (cl.get _) cl.hd ha hn htk hm) I.kIn J e (fun z=>nomatch z) h
end
end L2

namespace L2
open PySem PySem.Spec PyProof.Rows

structure Room (k:Nat) (A:Around):Prop where
  hd:A.handled=none
  dp:A.depth+3 * k+5<recursionLimit
  un:A.units+16 * k+200<cLine
theorem Room.mono {j k:Nat} {A:Around} (r:Room k A) (h:j≤k):Room j A:=⟨r.hd,by have:=r.dp; walk_at "l",by have:=r.un; walk_at "l"⟩
theorem Room.deeper {k:Nat} {A:Around} (r:Room (k+1) A) (env:Env):Room k (A.deeper env) :=
  ⟨r.hd,by have:=r.dp; show A.depth+1+3 * k+5<_; walk_at "l",by have:=r.un; show A.units+3+16 * k+200<_; walk_at "l"⟩
theorem Room.depth {k:Nat} {A:Around} (r:Room k A):A.depth<recursionLimit:=by have:=r.dp; walk_at "l"
theorem Room.units {k:Nat} {A:Around} (r:Room k A):A.units+64<cLine:=by have:=r.un; walk_at "l"
noncomputable def tNil:TA:=fun _ H Q=>Q [] H
noncomputable def tCons (ta:TE) (tr:TA):TA:=fun σ H Q=>ta σ H fun x H1=>tr σ H1 fun xs H2=>Q (x :: xs) H2
section
variable {X:Cx} {e:Expr} {es:List Expr} {te:TE} {t:TA} {pos:Pos}
theorem pa_nil:PA X [] tNil:=fun _ _ _ _ H Q I h=>Calls.spliced_nil ⟨[],H,I,.nil,h⟩
theorem pa_cons (ha:PE X e te) (hr:PA X es t) (hs:starEach (e :: es) X.env=(false,eval e X.env) :: starEach es X.env:=by rfl):PA X (e :: es) (tCons te t):=by
  intro pos pins s σ H Q I h
  rw [hs]
  show wpAny _ _ (spliced ((false,eval e X.env) :: backTo pos (starEach es X.env))) _ _ s
  refine Calls.spliced_cons (thn (ha pins s σ H _ I h) fun u s1 hx5=>L2.ex2 hx5 fun x H1 I1 r1 q1=>?_)
  exact thn (hr pos pins s1 σ H1 _ I1 q1) fun us s2 hx5=>L2.ex2 hx5 fun xs H2 I2 r2 q2=>⟨x :: xs,H2,I2,.cons r1 r2,q2⟩

noncomputable def tTup (t:TA):TE:=fun σ H Q=>t σ H fun xs H1=>xs.length≤sizeLine∧∀ p,H1 p=none→Q (.ref p) (upd H1 p (.tup xs))
noncomputable def tLst (t:TA):TE:=fun σ H Q=>t σ H fun xs H1=>xs.length≤sizeLine∧∀ p,H1 p=none→Q (.ref p) (upd H1 p (.lst xs))
theorem pe_tup {x1} (h:PA X es t):PE X (.Tuple es x1 pos) (tTup t):=by
  intro pins s σ H Q I hq
  refine wpAny_Tuple_spliced (thn (h pos pins s σ H _ I hq) fun us s1 ⟨xs,H1,I1,r,z,q⟩=>⟨by rw [← r.length]; exact z,?_⟩)
  have hf:H1 s1.heap.objs.size=none:=I1.hok.fresh (Nat.le_refl _)
  refine ⟨.ref s1.heap.objs.size,upd H1 s1.heap.objs.size (.tup xs),I1.laid (t':=s1.toks) (fun b u e=>Heap.get?_push_of_some _ e) (Nat.le_refl _) ?_,rfl,q _ hf⟩
  exact ⟨z,us,r,⟨_,Heap.get?_push_size _ rfl,rfl,_,rfl⟩⟩
theorem pe_lst (h:PA X es t):PE X (.List es pos) (tLst t):=by
  intro pins s σ H Q I hq
  refine wpAny_List_spliced (thn (h pos pins s σ H _ I hq) fun us s1 ⟨xs,H1,I1,r,z,q⟩=>⟨by rw [← r.length]; exact z,?_⟩)
  have hf:H1 s1.heap.objs.size=none:=I1.hok.fresh (Nat.le_refl _)
  refine ⟨.ref s1.heap.objs.size,upd H1 s1.heap.objs.size (.lst xs),I1.laid (t':=s1.toks) (fun b u e=>Heap.get?_push_of_some _ e) (Nat.le_refl _) ?_,rfl,q _ hf⟩
  exact ⟨z,us,0,r,Heap.get?_push_size _ rfl⟩
end

noncomputable abbrev Sp:=List V→Hp→VK→XK→Prop
noncomputable abbrev CXT:=List Env→Hp→Shared→XK→Value→Shared→Prop

structure Env0 (P:Program) (w:World) (K:PySem.W.Frag) (mg:Str→Option Value) (base:Heap) (A:Around) (outer:List Env) (s:Shared) (H:Hp):Prop where
  frames:A.frames=some outer
  mod:Mod K mg base
  bs:∀ b o,base.get? b=some o→s.heap.get? b=some o∧H b=none
  bsz:base.objs.size≤s.heap.objs.size
  funs:s.heap.FunFrames base outer
  frf:∀ b∈frs outer,H b=none
  hok:HOk P w H s.heap
  bare:AllBare s.gens
noncomputable def CE (outer:List Env) (P:Program) (w:World) (H:Hp) (s:Shared) (Q:VK) (u:Value) (s':Shared):Prop :=
  ∃ v H',s'.os=s.os∧AllBare s'.gens∧Un (frs outer) [] H H' s.heap s'.heap∧HOk P w H' s'.heap∧RelV v u∧Q v H'
noncomputable def CR (CX:CXT) (outer:List Env) (P:Program) (w:World) (H:Hp) (s:Shared) (Q:VK) (E:XK) (r:Result) (s':Shared):Prop :=
  match r with
  | .ok (.ret u)=>CE outer P w H s Q u s'
  | .ok _=>False
  | .error e=>CX outer H s E e s'
structure FnOk (P:Program) (w:World) (K:PySem.W.Frag) (mg:Str→Option Value) (base:Heap) (CX:CXT) (k:Nat) (f:Addr) (fd:FuncData) (ps:List Str) (sp:Sp):Prop where
  len:∀ vs H Q E,sp vs H Q E→vs.length=ps.length
  run:∀ (A:Around) (outer:List Env) (s:Shared) (H:Hp) (args:Args) (us:List Value) (vs:List V) (Q:VK) (E:XK),Room k A→Env0 P w K mg base A outer s H→BindsTo s fd args (ps.zip us)→Vals vs us→sp vs H Q E →
    codeAny (model P w) A (.call (.ref f) args) (CR CX outer P w H s Q E) s
section
variable {X:Cx} {pins:List (Addr × Obj)} {σ:St} {H:Hp} {s s':Shared}
theorem Inv.env0 (I:Inv X pins σ H s):Env0 X.prog X.w X.K X.mg X.base X.A X.stack s H :=
  ⟨I.ok.frames,I.ok.mod,I.bs,Nat.le_trans I.ok.bsz I.sz,I.stack,I.stkFree,I.hok,I.bare⟩
theorem Inv.after {Q:VK} {u:Value} (I:Inv X pins σ H s) (h:CE X.stack X.prog X.w H s Q u s'):EP X pins σ Q u s':=by
  obtain ⟨v,H',os,bare,un,hok,r,q⟩:=h
  obtain ⟨hh,g,d,t,os'⟩:=s'
  obtain rfl:os'=s.os:=os
  exact ⟨v,H',I.call (h':=hh) (g':=g) (d':=d) (t':=t) (ch:=[]) un hok bare (fun b z=>absurd z (by simp)),r,q⟩
end

noncomputable def tCall (sp:Sp) (dvs:List V) (E:XK) (t:TA):TE:=fun σ H Q=>t σ H fun vs H1=>sp (vs++dvs) H1 Q E
noncomputable def Binds (K:PySem.W.Frag) (fd:FuncData) (ps:List Str) (ds:List Value):Prop :=
  ∀ (s:Shared) (us:List Value),K.In s.heap→(us++ds).length=ps.length→BindsTo s fd ⟨us,[]⟩ (ps.zip (us++ds))
theorem Binds.all {K:PySem.W.Frag} {fd:FuncData} {ps:List Str} (h:∀ us:List Value,us.length=ps.length→bindArgs fd ⟨us,[]⟩=pure (ps.zip us)):Binds K fd ps []:=fun s us _ hl=>by
  rw [List.append_nil] at hl ⊢
  exact .of_eq (h us hl)

noncomputable def Passes (CX:CXT) (X:Cx) (E:XK):Prop:=∀ (pins:List (Addr × Obj)) (σ:St) (H:Hp) (s:Shared) (e:Value) (s':Shared),Inv X pins σ H s→CX X.stack H s E e s'→X.xe e s'

section
variable {X:Cx} {CX:CXT} {k:Nat} {f C:Addr} {fd:FuncData} {ps:List Str} {sp:Sp} {dvs:List V} {ds:List Value} {E:XK} {x m:Str} {p pos apos:Pos} {e o:Expr} {es:List Expr} {ta:TE} {t:TA}

theorem run_fn {pins:List (Addr × Obj)} {σ:St} {H:Hp} {s:Shared} {Q:VK} {us:List Value} {vs:List V} (F:FnOk X.prog X.w X.K X.mg X.base CX k f fd ps sp) (hr:Room k X.A) (hb:Binds X.K fd ps ds) (hd:Vals dvs ds) (hx:Passes CX X E)
    (I:Inv X pins σ H s) (r:Vals vs us) (h:sp (vs++dvs) H Q E):wpAny (model X.prog X.w) X.A (call (.ref f) us) (EP X pins σ Q) X.xe s:=by
  have r2:Vals (vs++dvs) (us++ds):=r.append hd
  have hl:(us++ds).length=ps.length:=by rw [← r2.length]; exact F.len _ _ _ _ h
  refine wpAny_call (codeAny_mono (F.run X.A X.stack s H ⟨us,[]⟩ (us++ds) (vs++dvs) Q E hr I.env0 (hb s us I.kIn hl) r2 h) fun r s' hq=>?_)
  cases r with
  | error e=>exact hx pins σ H s e s' I hq
  | ok fl =>
    cases fl with
    | ret u=>exact I.after hq
    | next=>exact False.elim hq
    | brk=>exact False.elim hq
    | cont=>exact False.elim hq

theorem pe_call (F:FnOk X.prog X.w X.K X.mg X.base CX k f fd ps sp) (hr:Room k X.A) (hg:Gl X x) (hm:X.mg x=some (.ref f)) (hk:PySem.W.keepIn X.K (.ref f)=true) (hb:Binds X.K fd ps ds) (hd:Vals dvs ds) (hx:Passes CX X E)
    (ha:PA X (e :: es) t) (hdb:(x == ("__debug__" : Str))=false:=by decide) (he:starEach (e :: es) X.env=(false,eval e X.env) :: starEach es X.env:=by rfl) (hpl:(backTo pos (starEach es X.env)).any (·.1)=false:=by rfl) :
    PE X (.Call (.Name x p) (e :: es) [] pos) (tCall sp dvs E t):=by
  intro pins s σ H Q I h
  refine wpAny_Call_Name_kw (ld_glob I hg hm ?_ hdb)
  refine PySem.W.callWith_K (h₀:=X.base) I.ok.mod.kin hk (thn (ha pos pins s σ H _ I h) fun us s1 hx5=>L2.ex2 hx5 fun vs H1 I1 r q=>⟨I1.kIn,?_⟩) he hpl
  exact run_fn F hr hb hd hx I1 r q
end

section
variable {X:Cx} {CX:CXT} {k:Nat} {f C:Addr} {fd:FuncData} {ps ks:List Str} {sp:Sp} {E:XK} {x m:Str} {p pos apos kpos:Pos} {e o:Expr} {es:List Expr} {kws:List Keyword} {te ta:TE} {t tk:TA} {nm:Option Str}
variable {g:List Value→List Value→List Value} {gV:List V→List V→List V}
end

structure FnScope (N P:List Str) (sc:Scope):Prop where
  kind:sc.kind=.function
  co:sc.isCoroutine=false
  gen:sc.isGenerator=false
  nd:N.Nodup
  pre:N.take P.length=P
  par:∀ x∈P,sc.names.lookup x=some .local∨sc.names.lookup x=some .cell
  nofree:∀ y∈sc.names,y.2≠.free

theorem bindL_out {kindOf:Str→Option NameKind} {x:Str}:∀ {binds:List (Str × Value)} {m:Str→Option Value},(∀ v,(x,v)∉binds)→bindL kindOf binds m x=m x
  | [],_,_=>rfl
  | (n,v) :: r,m,h=>by
    unfold bindL
    rw [bindL_out fun w hw=>h w (List.mem_cons_of_mem _ hw)]
    split
    · have:x≠n:=by rintro rfl; exact h v List.mem_cons_self
      simp [this]
    · rfl
theorem bindC_out {kindOf:Str→Option NameKind} {x:Str}:∀ {binds:List (Str × Value)} {m:Str→Option Value},(∀ v,(x,v)∉binds)→bindC kindOf binds m x=m x
  | [],_,_=>rfl
  | (n,v) :: r,m,h=>by
    unfold bindC
    rw [bindC_out fun w hw=>h w (List.mem_cons_of_mem _ hw)]
    split
    · rfl
    · have:x≠n:=by rintro rfl; exact h v List.mem_cons_self
      simp [this]
theorem bindL_get {kindOf:Str→Option NameKind} {x:Str} {v:Value}:∀ {P:List Str} {vs:List Value} {i:Nat} {m:Str→Option Value},P.Nodup→P[i]? = some x→vs[i]? = some v→kindOf x=some .local →
    bindL kindOf (P.zip vs) m x=some v
  | [],_,_,_,_,h,_,_=>by simp at h
  | _ :: _,[],_,_,_,_,h,_=>by simp at h
  | p :: P,w :: vs,0,m,nd,h1,h2,hk=>by
    simp at h1 h2; subst h1; subst h2
    show bindL kindOf ((p,w) :: P.zip vs) m p=_
    unfold bindL
    rw [bindL_out fun v hv=>(List.nodup_cons.mp nd).1 (List.of_mem_zip hv).1,if_pos hk]
    simp
  | p :: P,w :: vs,i+1,m,nd,h1,h2,hk=>by
    show bindL kindOf ((p,w) :: P.zip vs) m x=_
    unfold bindL
    exact bindL_get (i:=i) (List.nodup_cons.mp nd).2 (by simpa using h1) (by simpa using h2) hk
theorem bindC_get {kindOf:Str→Option NameKind} {x:Str} {v:Value}:∀ {P:List Str} {vs:List Value} {i:Nat} {m:Str→Option Value},P.Nodup→P[i]? = some x→vs[i]? = some v→kindOf x≠some .local →
    bindC kindOf (P.zip vs) m x=some v
  | [],_,_,_,_,h,_,_=>by simp at h
  | _ :: _,[],_,_,_,_,h,_=>by simp at h
  | p :: P,w :: vs,0,m,nd,h1,h2,hk=>by
    simp at h1 h2; subst h1; subst h2
    show bindC kindOf ((p,w) :: P.zip vs) m p=_
    unfold bindC
    rw [bindC_out fun v hv=>(List.nodup_cons.mp nd).1 (List.of_mem_zip hv).1,if_neg hk]
    simp
  | p :: P,w :: vs,i+1,m,nd,h1,h2,hk=>by
    show bindC kindOf ((p,w) :: P.zip vs) m x=_
    unfold bindC
    exact bindC_get (i:=i) (List.nodup_cons.mp nd).2 (by simpa using h1) (by simpa using h2) hk

noncomputable def start (N:List Str) (vs:List V):St:=vs.map some++List.replicate (N.length - vs.length) none

noncomputable def cxOf (CX:CXT) (P:Program) (w:World) (K:PySem.W.Frag) (mg:Str→Option Value) (base:Heap) (N:List Str) (qual:Str) (scope:Scope) (f:Addr) (cd:Value) (A:Around) (outer:List Env) (s:Shared) (H:Hp) (E:XK):Cx where
  prog:=P
  w:=w
  K:=K
  mg:=mg
  base:=base
  A:=A.deeper (envOfC qual scope s.heap.objs.size f cd)
  N:=N
  s₀:=s
  H₀:=H
  env:=envOfC qual scope s.heap.objs.size f cd
  outer:=outer
  stack:=envOfC qual scope s.heap.objs.size f cd :: outer
  ex:=[]
  calm:=true
  fn:=fun _=>true
  pn:=[]
  xe:=fun e s'=>wpAny (model P w) (A.deeper (envOfC qual scope s.heap.objs.size f cd)) (leaving (envOfC qual scope s.heap.objs.size f cd) e) (fun _ s''=>CX outer H s E e s'') (fun e' s''=>CX outer H s E e' s'') s'

theorem cell_has {sc:Scope} {n:Nat} {x:Str} (h:sc.names.lookup x=some .cell):∃ c,(cellsFrom n sc.names []).lookup x=some c:=by
  have q:=PySem.W.cellsFrom_some sc.names n [] (.inl h)
  exact Option.isSome_iff_exists.mp q

theorem inv_start {CX:CXT} {P:Program} {w:World} {K:PySem.W.Frag} {mg:Str→Option Value} {base:Heap} {N ps:List Str} {qual:Str} {scope:Scope} {f:Addr} {cd:Value} {A:Around} {outer:List Env} {s s1:Shared} {H:Hp} {E:XK} {us:List Value} {vs:List V}
    (S:FnScope N ps scope) (hd:A.handled=none) (e0:Env0 P w K mg base A outer s H) (hl:vs.length=ps.length) (r:Vals vs us)
    (x:InCallC s s.heap.objs.size (bindL (envOfC qual scope s.heap.objs.size f cd).kindOf (ps.zip us) fun _=>none) (cellsFrom (s.heap.objs.size+1) scope.names []) (bindC (envOfC qual scope s.heap.objs.size f cd).kindOf (ps.zip us) fun _=>none) s1) :
    Inv (cxOf CX P w K mg base N qual scope f cd A outer s H E) [] (start N vs) H s1:=by
  have hpl:ps.length≤N.length:=by have:=congrArg List.length S.pre; rw [List.length_take] at this; walk_at "l"
  obtain ⟨h1,tk,rfl,hk⟩:=x.done
  have noA:∀ b:Addr,b∉(cxOf CX P w K mg base N qual scope f cd A outer s H E).ex:=fun b z=>absurd (show b∈([]:List Addr) from z) (by simp)
  refine ⟨⟨e0.mod,S.kind,rfl,rfl,Nat.le_refl _,fun y z c h1 h2=>?_,fun y hy=>?_,fun y c _ h=>?_,fun _=>hd,Around.frames_deeper e0.frames,.inr ⟨rfl,rfl⟩,fun b z=>absurd z (noA b),e0.bs,e0.bsz,fun b _ _=>noA b,fun b z=>absurd z (noA b),e0.funs,e0.frf⟩,
    rfl,e0.bare,Un.kept hk,⟨_,x.toInCall.ns,fun i y v h1 h2 h3=>?_⟩,fun y c h=>⟨_,x.cell y c h⟩,e0.hok.fresh (Nat.le_refl _),fun y c h=>?_,fun p hp=>absurd (show p∈([]:List (Addr × Obj)) from hp) (by simp),e0.hok.kept hk,?_⟩
  · exact name_of_addr x.apart (PySem.mem_of_lookup h1) (PySem.mem_of_lookup h2)
  · have hy:scope.names.lookup y=some .cell∨scope.names.lookup y=some .free:=hy
    rcases hy with hy | hy
    · exact cell_has hy
    · exact absurd rfl (S.nofree _ (PySem.mem_of_lookup hy))
  · exact Nat.le_of_lt (x.above y c (PySem.mem_of_lookup h))
  · have hi:i<vs.length:=by
      unfold start at h2
      by_cases hi:i<vs.length
      · exact hi
      · rw [List.getElem?_append_right (by simpa using hi)] at h2
        rw [List.getElem?_replicate] at h2
        split at h2 <;> cases h2
    have ha:vs[i]? = some v:=by
      unfold start at h2
      rw [List.getElem?_append_left (by simpa using hi),List.getElem?_map] at h2
      cases e:vs[i]? with
      | none=>rw [e] at h2; cases h2
      | some a=>rw [e] at h2; cases h2; rfl
    obtain ⟨u,hu,rv⟩:=r.get ha
    have hp:ps[i]? = some y:=by
      rw [← S.pre,List.getElem?_take_of_lt (by walk_at "l")]; exact h1
    have ndP:ps.Nodup:=by rw [← S.pre]; exact S.nd.sublist (List.take_sublist _ _)
    refine ⟨u,rv,?_⟩
    rcases S.par y (List.mem_of_getElem? hp) with k | k
    · exact .inl ⟨k,bindL_get ndP hp hu k⟩
    · obtain ⟨c,e⟩:=cell_has (n:=s.heap.objs.size+1) k
      refine .inr ⟨.inl k,c,e,?_⟩
      have q:=x.cell y c e
      rw [bindC_get ndP hp hu (by show scope.names.lookup y≠_; rw [k]; decide)] at q
      exact q
  · exact e0.hok.fresh (Nat.le_of_lt (x.above y c (PySem.mem_of_lookup h)))
  · unfold start
    show _=N.length
    rw [List.length_append,List.length_map,List.length_replicate]
    walk_at "l"

theorem fn_of {CX:CXT} {P:Program} {w:World} {K:PySem.W.Frag} {mg:Str→Option Value} {base:Heap} {k:Nat} {f:Addr} {name qual:Str} {params:Arguments} {body:List Stmt} {scope:Scope} {dV kV doc pm cdv ct oc:Value} {an od:Option Addr}
    {osl:Array (Option Value)} {N ps:List Str} {sp:Sp} (lk:K.lookup f=some ⟨oc,od,.func (PySem.W.fnOf name qual params body scope dV kV doc pm an cdv ct),osl⟩) (hcd:PySem.W.codeIn K cdv qual=true) (S:FnScope N ps scope)
    (len:∀ vs H Q E,sp vs H Q E→vs.length=ps.length)
    (hbody:∀ (A:Around) (outer:List Env) (s:Shared) (H:Hp) (vs:List V) (Q:VK) (E:XK),Room k (A.deeper (envOfC qual scope s.heap.objs.size f cdv))→sp vs H Q E →
      ∃ t,PSs (cxOf CX P w K mg base N qual scope f cdv A outer s H E) body t∧t { nx:=fun _ H'=>Q .non H',rt:=Q } (start N vs) H) :
    FnOk P w K mg base CX (k+1) f (PySem.W.fnOf name qual params body scope dV kV doc pm an cdv ct) ps sp:=by
  refine ⟨len,fun A outer s H args us vs Q E hr e0 hb r hsp=>?_⟩
  have hl:=len _ _ _ _ hsp
  have KX:K.In s.heap:=e0.mod.kin.keeps fun b o e=>(e0.bs b o e).1
  have lim:s.heap.NoLimit:=e0.mod.nolimit.keeps fun b o e=>(e0.bs b o e).1
  have hkind:∀ y∈ps.zip us,scope.names.lookup y.1=some .local∨(scope.names.lookup y.1=some .cell∧((cellsFrom (s.heap.objs.size+1) scope.names []).lookup y.1).isSome=true):=fun ⟨n,v⟩ hy=>by
    rcases S.par n (List.of_mem_zip hy).1 with q | q
    · exact .inl q
    · exact .inr ⟨q,PySem.W.cellsFrom_some _ _ _ (.inl q)⟩
  refine codeAny_call_function hr.depth (KX _ _ lk) rfl S.co S.gen rfl (PySem.W.codeRec_of KX hcd) (hb _ _ _ _ ?_)
  refine wpAny_newFunctionEnv_cells S.kind hkind fun env he s1 x=>?_
  subst he
  refine ⟨lim.keeps x.toInCall.keep,codeAny_func ?_⟩
  obtain ⟨t,ht,hq⟩:=hbody A outer s H vs Q E (hr.deeper _) hsp
  have I:Inv (cxOf CX P w K mg base N qual scope f cdv A outer s H E) [] (start N vs) H s1:=inv_start S hr.hd e0 hl r x
  refine wpAny_mono (ht [] s1 (start N vs) H _ I hq) (fun fl s' hs=>?_) fun e s' hs=>hs
  have fin:∀ {σ':St} {H':Hp} {v:V} {u:Value},Inv (cxOf CX P w K mg base N qual scope f cdv A outer s H E) [] σ' H' s'→RelV v u→Q v H'→CE outer P w H s Q u s' :=
    fun {σ' H' v u} J rv q=>⟨v,H',J.os,J.bare,J.base,J.hok,rv,q⟩
  cases fl with
  | ret u =>
    obtain ⟨v,σ',H',J,rv,q⟩:=hs
    exact fin J rv q
  | next =>
    obtain ⟨σ',H',J,q⟩:=hs
    exact fin (v:=V.non) (u:=Value.none) J rfl q
  | brk =>
    obtain ⟨_,_,_,q⟩:=hs
    exact False.elim q
  | cont =>
    obtain ⟨_,_,_,q⟩:=hs
    exact False.elim q
end L2

namespace L2
open PySem PySem.Spec PyProof.Rows
section
variable {X:Cx} {x:Str} {p pos:Pos} {e:Expr} {es:List Expr} {t:TA} {id T:String} {r:List V→Hp→VK→Prop}

noncomputable def tCB (r:List V→Hp→VK→Prop) (t:TA):TE:=fun σ H Q=>t σ H fun vs H1=>r vs H1 Q
theorem pe_callB (hc:CallR X (.builtin id) r) (hg:Gl X x) (hm:X.mg x=none) (hv:bootBuiltins x=some (.builtin id)) (ha:PA X (e :: es) t) (hn:x ≠ "__name__" := by decide) (hdb:(x == ("__debug__" : Str))=false:=by decide)
    (he:starEach (e :: es) X.env=(false,eval e X.env) :: starEach es X.env:=by rfl) (hpl:(backTo pos (starEach es X.env)).any (·.1)=false:=by rfl):PE X (.Call (.Name x p) (e :: es) [] pos) (tCB r t):=by
  intro pins s σ H Q I h
  refine wpAny_Call_Name_kw (ld_blt I hg hm hv ?_ hn hdb)
  exact PyProof.Rows.callWith_builtin1 (thn (ha pos pins s σ H _ I h) fun us s1 hx5=>L2.ex2 hx5 fun vs H1 I1 r1 q1=>hc pins s1 σ H1 vs us Q I1 r1 q1) he hpl
theorem pe_callTy (hc:CallR X (.type T) r) (hg:Gl X x) (hm:X.mg x=none) (hv:bootBuiltins x=some (.type T)) (ha:PA X (e :: es) t) (hn:x ≠ "__name__" := by decide) (hdb:(x == ("__debug__" : Str))=false:=by decide)
    (he:starEach (e :: es) X.env=(false,eval e X.env) :: starEach es X.env:=by rfl) (hpl:(backTo pos (starEach es X.env)).any (·.1)=false:=by rfl):PE X (.Call (.Name x p) (e :: es) [] pos) (tCB r t):=by
  intro pins s σ H Q I h
  refine wpAny_Call_Name_kw (ld_blt I hg hm hv ?_ hn hdb)
  exact PyProof.Rows.callWith_type1 (thn (ha pos pins s σ H _ I h) fun us s1 hx5=>L2.ex2 hx5 fun vs H1 I1 r1 q1=>hc pins s1 σ H1 vs us Q I1 r1 q1) he hpl
end
end L2

namespace HT
open PySem PyProof.Rows

section
open PySem.SeqAt
open PySem.AutoSeq1 (wpAny_loadPart')
open PySem.MeetsSeq PySem.MeetsSeq2 PySem.MeetsSeq3

end

section
variable {prog:Program} {w:World} {A:Around} {E:Value→Shared→Prop} {s:Shared}

theorem cat_tup {t b:Addr} {vs ws:List Value} {Q:Value→Shared→Prop} (ht:IsTup s.heap t vs.toArray) (hb:IsTup s.heap b ws.toArray) (hv:vs≠[])
    (h1:ws=[]→Q (.ref t) s) (h2:ws≠[]→Q (.ref s.heap.objs.size) { s with heap:=s.heap.push { cls:=.type "tuple",data:=.seq (vs++ws).toArray } })
    (hsz:vs.length+ws.length≤sizeLine):wpAny (model prog w) A (binaryOp .Add (.ref t) (.ref b)) Q E s:=by
  obtain ⟨⟨cls,dd,data,sl⟩,ho,hc,n,hd⟩:=id ht
  obtain ⟨⟨cls2,dd2,data2,sl2⟩,ho2,hc2,n2,hd2⟩:=id hb
  simp only at hc hd hc2 hd2
  subst hc hd hc2 hd2
  have e:vs.toArray++ws.toArray=(vs++ws).toArray:=by simp
  by_cases hw:ws=[]
  · exact concat_meets ⟨_,ho,rfl⟩ ⟨_,ho2,rfl⟩ noFill_tuple_add seq_tuple_add PySem.F.slot_tuple_add PySem.F.entry_tuple_add (PySem.F.args_tuple_add_2 _ _)
      (tuple_addW1 t b vs.toArray ws.toArray n n2 dd dd2 sl sl2 (by simpa using hv) (by simp [hw])) ⟨ho,ho2,h1 hw⟩
  · refine concat_meets ⟨_,ho,rfl⟩ ⟨_,ho2,rfl⟩ noFill_tuple_add seq_tuple_add PySem.F.slot_tuple_add PySem.F.entry_tuple_add (PySem.F.args_tuple_add_2 _ _)
      (tuple_addW2 t b vs.toArray ws.toArray n n2 dd dd2 sl sl2 (by simpa using hv) (by simpa using hw) (by rw [List.size_toArray,List.size_toArray]; exact hsz)) ⟨ho,ho2,?_⟩
    rw [e]
    exact h2 hw

noncomputable def sIx (n d:Nat):Option Int→Nat
  | none=>d
  | some v=>if v<0 then (v+(n:Int)).toNat else min v.toNat n
theorem sIx_le (n d:Nat) (hd:d≤n) (o:Option Int):sIx n d o≤n:=by
  cases o with
  | none=>exact hd
  | some v =>
    show (if v<0 then (v+(n:Int)).toNat else min v.toNat n)≤n
    by_cases hv:v<0
    · rw [if_pos hv]; walk_at "l"
    · rw [if_neg hv]; exact Nat.min_le_right _ _
theorem clip_eq (v:Int) (n d:Nat):(if v<0 then max (v+(n:Int)) 0 else min v (n:Int))=((sIx n d (some v):Nat):Int):=by
  show (if v<0 then max (v+(n:Int)) 0 else min v (n:Int))=(((if v<0 then (v+(n:Int)).toNat else min v.toNat n):Nat):Int)
  by_cases hv:v<0
  · simp only [if_pos hv]; walk_at "l"
  · simp only [if_neg hv]; walk_at "l"
theorem adjust_gen (lo hi:Option Int) (n:Nat):Builtin.Slice.sliceAdjust lo hi 1 (n:Int)=(((sIx n 0 lo:Nat):Int),((sIx n n hi:Nat):Int)):=by
  have h1:¬ ((1:Int)<0):=by walk_at "l"
  unfold Builtin.Slice.sliceAdjust
  simp only [h1,if_false]
  refine Prod.ext ?_ ?_
  · cases lo with
    | none=>rfl
    | some v=>exact clip_eq v n 0
  · cases hi with
    | none=>rfl
    | some v=>exact clip_eq v n n
theorem places_gen (i j:Nat):Builtin.Slice.slicePlaces (i:Int) (j:Int) 1=j - i:=by
  unfold Builtin.Slice.slicePlaces
  have h1:(1:Int)>0:=by exact Int.le_refl _
  simp only [h1,if_true,Int.ediv_one]
  split <;> walk_at "l"
theorem slicePart_ {v:Value} {o:Option Int} {Q:Option Int→Shared→Prop} (p:IsPart v o) (h:Q o s):wpAny (model prog w) A (Builtin.Slice.slicePartIndex v) Q E s:=by
  cases p with
  | none=>exact slicePart_none h
  | int i t=>exact slicePart_int h
theorem sliceApplied_gen {sl:Addr} {vl vu:Value} {lo hi:Option Int} {n:Nat} {Q:Int × Int × Nat→Shared→Prop} (hs:s.heap.IsSliceOf sl vl vu .none) (pl:IsPart vl lo) (pu:IsPart vu hi)
    (h:Q (((sIx n 0 lo:Nat):Int),1,sIx n n hi - sIx n 0 lo) s):wpAny (model prog w) A (Builtin.Slice.sliceApplied (.ref sl) (pure (n:Int))) Q E s:=by
  obtain ⟨os,hos,hcs,hds⟩:=id hs
  unfold Builtin.Slice.sliceApplied Builtin.Slice.sliceFields
  refine wpAny_bind (wpAny_bind (wpAny_field hos hds (x:=vl) rfl (wpAny_bind (wpAny_field hos hds (x:=vu) rfl (wpAny_bind (wpAny_field hos hds (x:=.none) rfl (wpAny_pure ?_)))))))
  refine wpAny_bind (slicePart_none ?_)
  show wpAny _ _ (if ((1:Int) == 0)=true then _ else _) _ _ s
  rw [if_neg (by decide)]
  refine wpAny_bind (slicePart_ pl (wpAny_bind (slicePart_ pu (wpAny_bind (wpAny_pure ?_)))))
  show wpAny _ _ (match Builtin.Slice.sliceAdjust lo hi 1 (n:Int) with | (lo,hi)=>pure (lo,(1:Int),Builtin.Slice.slicePlaces lo hi 1)) _ _ s
  rw [adjust_gen lo hi n]
  show wpAny _ _ (pure (((sIx n 0 lo:Nat):Int),(1:Int),Builtin.Slice.slicePlaces ((sIx n 0 lo:Nat):Int) ((sIx n n hi:Nat):Int) 1)) _ _ s
  rw [places_gen]
  exact wpAny_pure h
theorem pick_gen (xs:Array Value) (i k:Nat):((List.range k).filterMap fun (m:Nat)=>xs[((i:Int)+(m:Int) * 1).toNat]?).toArray=((xs.toList.drop i).take k).toArray:=by
  have e:(fun (m:Nat)=>xs[((i:Int)+(m:Int) * 1).toNat]?)=fun m=>xs[i+m]? := by
    funext m
    have:((i:Int)+(m:Int) * 1).toNat=i+m:=by walk_at "l"
    rw [this]
  rw [e]
  have:=pick_run xs i k
  rw [List.filterMap_map] at this
  have e2:((fun x=>xs[x]?) ∘ fun x=>i+x)=fun m=>xs[i+m]? := rfl
  rw [e2] at this
  rw [this]

theorem getItem_tuple_cut {t sl:Addr} {items:Array Value} {vl vu:Value} {lo hi:Option Int} {Q:Value→Shared→Prop} (ht:IsTup s.heap t items) (hs:s.heap.IsSliceOf sl vl vu .none) (pl:IsPart vl lo) (pu:IsPart vu hi)
    (hw:¬ (sIx items.size 0 lo=0∧sIx items.size items.size hi=items.size))
    (h:Q (.ref s.heap.objs.size) { s with heap:=s.heap.push { cls:=.type "tuple",data:=.seq ((items.toList.drop (sIx items.size 0 lo)).take (sIx items.size items.size hi - sIx items.size 0 lo)).toArray } })
    (hsz:items.size≤sizeLine):wpAny (model prog w) A (getItem (.ref t) (.ref sl)) Q E s:=by
  have htake:sizeOk (.seq ((items.toList.drop (sIx items.size 0 lo)).take (sIx items.size items.size hi - sIx items.size 0 lo)).toArray):=by
    show ((items.toList.drop (sIx items.size 0 lo)).take (sIx items.size items.size hi - sIx items.size 0 lo)).toArray.size≤sizeLine
    rw [List.size_toArray,List.length_take,List.length_drop,Array.length_toList]
    walk_at "l"
  have hj:sIx items.size items.size hi≤items.size:=sIx_le _ _ (Nat.le_refl _) hi
  obtain ⟨os,hos,hcs,hds⟩:=id hs
  have hTs:s.TypeIs (.ref sl) "slice" := ⟨os,hos,hcs⟩
  unfold getItem
  try with_reducible refine wpAny_holding ?_
  first | refine wpAny_bind (wpAny_pure ?_) | skip
  refine wpAny_bind (wpAny_sequenceKey ht.typeIs (by decide) ?_)
  refine wpAny_bind (wpAny_callSpecial?_slot (name:=Str.ofString "__getitem__") ht.typeIs PyProof.Rows.slot_tuple_getitem
    (wpAny_call_entry PyProof.Rows.slot_tuple_getitem ht.typeIs entry_tuple_getitem ?_ (args_tuple_getitem _ _)))
  show wpAny _ _ (Builtin.Tuple.tupleItemsOf (.ref t) >>= _) _ _ s
  refine wpAny_bind (tupleItemsOf_ ht ?_)
  refine wpAny_bind (wpAny_typeOf hTs ?_)
  rw [if_pos (by decide)]
  refine wpAny_bind (sliceApplied_gen hs pl pu ?_)
  have hno:¬ ((((sIx items.size 0 lo:Nat):Int) == 0 && (1:Int) == 1 && (sIx items.size items.size hi - sIx items.size 0 lo) == items.size)=true):=by
    intro q
    rw [Bool.and_eq_true,Bool.and_eq_true] at q
    have q1:((sIx items.size 0 lo:Nat):Int)=0:=eq_of_beq q.1.1
    have q2:sIx items.size items.size hi - sIx items.size 0 lo=items.size:=eq_of_beq q.2
    exact hw ⟨by walk_at "l",by walk_at "l"⟩
  show wpAny _ _ (if (((sIx items.size 0 lo:Nat):Int) == 0 && (1:Int) == 1 && (sIx items.size items.size hi - sIx items.size 0 lo) == items.size)=true then _ else _) _ _ s
  rw [if_neg hno,pick_gen]
  first
    | exact wpAny_bind (m:=Builtin.Tuple.tupleExact _) (wpAny_newObj_type (wpAny_pure ⟨_,rfl,wpAny_pure h⟩) htake)
    | exact wpAny_bind (m:=Builtin.Tuple.tupleExact _) (wpAny_newObj_type (wpAny_bind (wpAny_pure (wpAny_pure ⟨_,rfl,wpAny_pure h⟩))) htake)
    | exact wpAny_bind (wpAny_bind (m:=Builtin.Tuple.tupleExact _) (wpAny_newObj_type (wpAny_pure (wpAny_pure ⟨_,rfl,wpAny_pure h⟩)) htake))
    | exact wpAny_bind (wpAny_bind (m:=Builtin.Tuple.tupleExact _) (wpAny_newObj_type (wpAny_pure ⟨_,rfl,wpAny_pure h⟩) htake))
end
end HT

namespace L2
open PySem PySem.Spec PyProof.Rows

noncomputable abbrev TO:=St→Hp→(Option Int→Hp→Prop)→Prop
noncomputable def PO (X:Cx) (e:Option Expr) (t:TO):Prop :=
  ∀ (pins:List (Addr × Obj)) (s:Shared) (σ:St) (H:Hp) (Q:Option Int→Hp→Prop),Inv X pins σ H s→t σ H Q →
    wpAny (model X.prog X.w) X.A (evalPart e X.env) (fun u s'=>∃ o H',Inv X pins σ H' s'∧IsPart u o∧Q o H') X.xe s
noncomputable def tNoPart:TO:=fun _ H Q=>Q none H
noncomputable def tPart (t:TE):TO:=fun σ H Q=>t σ H fun x H1=>∃ i,x=.int i∧Q (some i) H1

section
variable {X:Cx} {e:Expr} {te:TE} {lo hi:Option Expr} {tl th:TO} {pos p2:Pos}

theorem po_none:PO X none tNoPart:=by
  intro pins s σ H Q I h
  rw [evalPart_none]
  exact wpAny_pure ⟨none,H,I,.none,h⟩
theorem po_some (h:PE X e te):PO X (some e) (tPart te):=by
  intro pins s σ H Q I hw
  rw [evalPart_some]
  refine thn (h pins s σ H _ I hw) fun u s1 hx5=>L2.ex2 hx5 fun x H1 I1 r1 q1=>?_
  obtain ⟨i,rfl,q⟩:=q1
  obtain ⟨t,rfl⟩:=r1
  exact ⟨some i,H1,I1,.int i t,q⟩

noncomputable def SlR (X:Cx) (r:V→Option Int→Option Int→Hp→VK→Prop):Prop :=
  ∀ (pins:List (Addr × Obj)) (s:Shared) (σ:St) (H:Hp) (x:V) (v vl vu:Value) (lo hi:Option Int) (sl:Addr) (Q:VK),Inv X pins σ H s→RelV x v→s.heap.IsSliceOf sl vl vu .none→IsPart vl lo→IsPart vu hi→r x lo hi H Q →
    ∃ T id,typeLookup (.type T) "__getitem__" = pure (some (.builtin id))∧s.TypeIs v T∧wpAny (model X.prog X.w) X.A (getItem v (.ref sl)) (EP X pins σ Q) X.xe s
noncomputable def tSl (r:V→Option Int→Option Int→Hp→VK→Prop) (te:TE) (tl th:TO):TE:=fun σ H Q=>te σ H fun x H1=>tl σ H1 fun l H2=>th σ H2 fun u H3=>r x l u H3 Q
theorem pe_slice {r:V→Option Int→Option Int→Hp→VK→Prop} (hr:SlR X r) (he:PE X e te) (hl:PO X lo tl) (hu:PO X hi th):PE X (.Subscript e (.Slice lo hi none p2) pos) (tSl r te tl th):=by
  intro pins s σ H Q I h
  refine Subscript_ (thn (he pins s σ H _ I h) fun v s1 hx5=>L2.ex2 hx5 fun x H1 I1 r1 q1=>?_)
  refine wpAny_Slice (thn (hl pins s1 σ H1 _ I1 q1) fun vl s2 hx5=>L2.ex2 hx5 fun l H2 I2 pl q2=>thn (hu pins s2 σ H2 _ I2 q2) fun vu s3 hx5=>L2.ex2 hx5 fun u H3 I3 pu q3=>?_)
  rw [evalPart_none]
  refine wpAny_pure ?_
  have I4:Inv X pins σ H3 { s3 with heap:=s3.heap.push { cls:=.type "slice",data:=.fields #[vl,vu,.none] } }:=I3.kept (t':=s3.toks) fun b ob q=>Heap.get?_push_of_some _ q
  obtain ⟨T,id,hT,ht,hg⟩:=hr pins { s3 with heap:=s3.heap.push { cls:=.type "slice",data:=.fields #[vl,vu,.none] } } σ H3 x v vl vu l u s3.heap.objs.size Q I4 r1 (Heap.IsSliceOf.new ..) pl pu q3
  show wpAny (model X.prog X.w) X.A (subscriptTail e (.Slice lo hi none p2) v (.ref s3.heap.objs.size)) (EP X pins σ Q) X.xe { s3 with heap:=s3.heap.push { cls:=.type "slice",data:=.fields #[vl,vu,.none] } }
  exact tail_any (ops:=[.ref s3.heap.objs.size,v]) ht hT hg (by with_unfolding_all rfl)

noncomputable def cutV (xs:List V) (lo hi:Option Int):List V:=(xs.drop (HT.sIx xs.length 0 lo)).take (HT.sIx xs.length xs.length hi - HT.sIx xs.length 0 lo)
theorem cutV_length (xs:List V) (lo hi:Option Int):(cutV xs lo hi).length≤xs.length:=by
  unfold cutV
  rw [List.length_take,List.length_drop]
  walk_at "l"
noncomputable def rSlT (K:PySem.W.Frag):V→Option Int→Option Int→Hp→VK→Prop:=fun x lo hi H Q=>∃ a xs,x=.ref a∧SqT K H a xs ∧
  ¬ (HT.sIx xs.length 0 lo=0∧HT.sIx xs.length xs.length hi=xs.length)∧∀ p,H p=none→Q (.ref p) (upd H p (.tup (cutV xs lo hi)))
theorem sl_tup:SlR X (rSlT X.K):=by
  intro pins s σ H x v vl vu lo hi sl Q I rx hs pl pu h
  obtain ⟨a,xs,rfl,hx,hw,q⟩:=h
  cases rx
  obtain ⟨its,r,ht,hz⟩:=I.tuple hx
  have hlen:its.toArray.size=xs.length:=by rw [List.size_toArray]; exact r.length.symm
  refine ⟨"tuple",_,PyProof.Rows.slot_tuple_getitem.lookup,ht.typeIs,?_⟩
  refine HT.getItem_tuple_cut ht hs pl pu (by rw [hlen]; exact hw) ?_ (by rw [hlen]; exact hz)
  rw [hlen]
  refine ⟨.ref s.heap.objs.size,_,I.laid (t':=s.toks) (o:=.tup (cutV xs lo hi)) (fun b ob q=>Heap.get?_push_of_some _ q) (Nat.le_refl _) ?_,rfl,q _ (I.hok.fresh (Nat.le_refl _))⟩
  exact ⟨Nat.le_trans (cutV_length xs lo hi) hz,_,(r.drop (HT.sIx xs.length 0 lo)).take (HT.sIx xs.length xs.length hi - HT.sIx xs.length 0 lo),IsTup.new _ _⟩

noncomputable def rCatT (K:PySem.W.Frag):R2:=fun x y H Q=>∃ a b xs ys,x=.ref a∧y=.ref b∧SqT K H a xs∧SqT K H b ys∧xs≠[]∧xs.length+ys.length≤sizeLine ∧
  (ys=[]→Q (.ref a) H)∧(ys≠[]→∀ p,H p=none→Q (.ref p) (upd H p (.tup (xs++ys))))
theorem Vals.nil_iff {xs:List V} {us:List Value} (r:Vals xs us):us=[]↔xs=[]:=by
  cases r with
  | nil=>simp
  | cons _ _=>simp
theorem op_catT:OpR X (binaryOp .Add) (rCatT X.K):=by
  intro pins s σ H x y v u Q I rx ry h
  obtain ⟨a,b,xs,ys,rfl,rfl,ha,hb,hx,hz,q1,q2⟩:=h
  cases rx
  cases ry
  obtain ⟨its,r1,p1,_⟩:=I.tuple ha
  obtain ⟨its2,r2,p2,_⟩:=I.tuple hb
  refine HT.cat_tup p1 p2 (fun z=>hx (r1.nil_iff.mp z)) (fun z=>⟨.ref a,H,I,rfl,q1 (r2.nil_iff.mp z)⟩) (fun z=>?_) (by rw [← r1.length,← r2.length]; exact hz)
  refine ⟨.ref s.heap.objs.size,_,I.laid (t':=s.toks) (o:=.tup (xs++ys)) (fun b ob q=>Heap.get?_push_of_some _ q) (Nat.le_refl _) ?_,rfl,q2 (fun w=>z (r2.nil_iff.mpr w)) _ (I.hok.fresh (Nat.le_refl _))⟩
  exact ⟨by rw [List.length_append]; exact hz,_,r1.append r2,IsTup.new _ _⟩
end
end L2

namespace L2
open PySem PySem.Spec PyProof.Rows

noncomputable def ixN (n:Nat) (i:Int):Option Nat:=if 0≤i then (if i<n then some i.toNat else none) else if -(n:Int)≤i then some (i+n).toNat else none
noncomputable def atI {α:Type} (xs:List α) (i:Int):Option α:=(ixN xs.length i).bind fun j=>xs[j]?
theorem ixN_seq {n:Nat} {i:Int} {j:Nat} (h:ixN n i=some j):seqIndex? i n=some j∧j<n∧-(n:Int)≤i∧i<n:=by
  unfold ixN at h
  by_cases h0:0≤i
  · rw [if_pos h0] at h
    by_cases h1:i<n
    · rw [if_pos h1] at h
      have e:i.toNat=j:=Option.some.inj h
      exact ⟨by rw [seqIndex_of h0 h1,e],by walk_at "l",by walk_at "l",h1⟩
    · rw [if_neg h1] at h; cases h
  · rw [if_neg h0] at h
    by_cases h1:-(n:Int)≤i
    · rw [if_pos h1] at h
      have e:(i+n).toNat=j:=Option.some.inj h
      exact ⟨by rw [seqIndex_neg (by walk_at "l") h1,e],by walk_at "l",h1,by walk_at "l"⟩
    · rw [if_neg h1] at h; cases h
theorem atI_get {α:Type} {xs:List α} {i:Int} {v:α} (h:atI xs i=some v):∃ j,seqIndex? i xs.length=some j∧xs[j]? = some v∧j<xs.length∧-(xs.length:Int)≤i∧i<xs.length:=by
  unfold atI at h
  cases e:ixN xs.length i with
  | none=>rw [e] at h; cases h
  | some j =>
    rw [e] at h
    obtain ⟨h1,h2,h3,h4⟩:=ixN_seq e
    exact ⟨j,h1,h,h2,h3,h4⟩
theorem atI_nat {α:Type} {xs:List α} {j:Nat} {v:α} (h:xs[j]? = some v):atI xs (j:Int)=some v:=by
  have hj:j<xs.length:=(List.getElem?_eq_some_iff.mp h).1
  have e:ixN xs.length (j:Int)=some j:=by
    unfold ixN
    rw [if_pos (by walk_at "s1"),if_pos (by walk_at "l")]; simp
  unfold atI; rw [e]; exact h
noncomputable def PlainIx (b:Expr):Prop:=∀ o i,subscripted b false o i=operate [o,i] (getItem o i)
noncomputable def IxR (X:Cx) (r:R2):Prop :=
  ∀ (value slice:Expr) (pins:List (Addr × Obj)) (s:Shared) (σ:St) (H:Hp) (x y:V) (v u:Value) (Q:VK),Inv X pins σ H s→RelV x v→RelV y u→r x y H Q →
    subscripted slice false v u=operate [v,u] (getItem v u)→wpAny (model X.prog X.w) X.A (subscriptTail value slice v u) (EP X pins σ Q) X.xe s
noncomputable def MtR (X:Cx) (id:String) (r:V→List V→Hp→VK→Prop):Prop :=
  ∀ (pins:List (Addr × Obj)) (s:Shared) (σ:St) (H:Hp) (x:V) (xs:List V) (v:Value) (us:List Value) (Q:VK),Inv X pins σ H s→RelV x v→Vals xs us→r x xs H Q →
    wpAny (model X.prog X.w) X.A (call (.builtin id) (v :: us)) (EP X pins σ Q) X.xe s
section
variable {X:Cx} {a b:Expr} {ta tb:TE} {pos:Pos}
theorem IxR.or {r r':R2} (h:IxR X r) (h':IxR X r'):IxR X (fun x y H Q=>r x y H Q∨r' x y H Q):=by
  intro value slice pins s σ H x y v u Q I rx ry q hs
  rcases q with q | q
  · exact h value slice pins s σ H x y v u Q I rx ry q hs
  · exact h' value slice pins s σ H x y v u Q I rx ry q hs
theorem pe_ix {r:R2} (hr:IxR X r) (ha:PE X a ta) (hb:PE X b tb) (hs:PlainIx b):PE X (.Subscript a b pos) (tOp r ta tb):=by
  intro pins s σ H Q I h
  exact Subscript_ (binT ha hb I h fun v u s2 x y H2 I2 rx ry q=>hr a b pins s2 σ H2 x y v u Q I2 rx ry q (hs _ _))

noncomputable def rIxL (K:PySem.W.Frag):R2:=fun x y H Q=>∃ p xs i v,x=.ref p∧y=.int i∧SqL K H p xs∧atI xs i=some v∧Q v H
noncomputable def rIxT (K:PySem.W.Frag):R2:=fun x y H Q=>∃ p xs i v,x=.ref p∧y=.int i∧SqT K H p xs∧atI xs i=some v∧Q v H
noncomputable def rIxS:R2:=fun x y H Q=>∃ z i c,x=.str z∧y=.int i∧z.length≤sizeLine∧atI z.cps.toList i=some c∧Q (.str ⟨#[c]⟩) H
theorem ix_list:IxR X (rIxL X.K):=by
  intro value slice pins s σ H x y v u Q I rx ry h hs
  obtain ⟨p,xs,i,z,rfl,rfl,hq,he,q⟩:=h
  cases rx
  obtain ⟨t,rfl⟩:=ry
  obtain ⟨its,r,pl,hz⟩:=I.list hq
  obtain ⟨j,h1,h2,h3,h4,h5⟩:=atI_get he
  obtain ⟨w,ew,rw'⟩:=r.get h2
  have hl:=r.length
  have hn:=line63
  have fin:EP X pins σ Q w s:=⟨z,H,I,rw',q⟩
  by_cases h0:0≤i
  · have hj:i.toNat=j:=by
      rw [seqIndex_of h0 h5] at h1
      exact Option.some.inj h1
    exact item_listR pl.isList h0 (by walk_at "l") (by rw [hj]; simpa using ew) fin hs
  · have hj:(i+(its.toArray.size:Int)).toNat=j:=by
      rw [seqIndex_neg (by walk_at "l") h4] at h1
      rw [List.size_toArray,← hl]
      exact Option.some.inj h1
    exact subscriptTail_builtinR (x:=w) pl.isList.typeIs slot_list_getitem.lookup
      (wpAny_getItem_list_neg (Q:=fun r s'=>r=w∧EP X pins σ Q r s') pl.isList (by walk_at "l") (by rw [List.size_toArray] <;> walk_at "l") (by walk_at "l") (by rw [hj]; simpa using ew) ⟨rfl,fin⟩) hs
theorem ix_tup:IxR X (rIxT X.K):=by
  intro value slice pins s σ H x y v u Q I rx ry h hs
  obtain ⟨p,xs,i,z,rfl,rfl,hq,he,q⟩:=h
  cases rx
  obtain ⟨t,rfl⟩:=ry
  obtain ⟨its,r,pl,hz⟩:=I.tuple hq
  obtain ⟨j,h1,h2,h3,h4,h5⟩:=atI_get he
  obtain ⟨w,ew,rw'⟩:=r.get h2
  have hl:=r.length
  have hn:=line63
  have fin:EP X pins σ Q w s:=⟨z,H,I,rw',q⟩
  exact subscriptTail_builtinR (x:=w) pl.typeIs slot_tuple_getitem.lookup
    (getItem_tuple (j:=j) (Q:=fun r s'=>r=w∧EP X pins σ Q r s') pl (by walk_at "l") (by walk_at "l") (by rw [List.size_toArray,← hl]; exact h1) (by simpa using ew) ⟨rfl,fin⟩) hs
theorem ix_str:IxR X rIxS:=by
  intro value slice pins s σ H x y v u Q I rx ry h hs
  obtain ⟨z,i,c,rfl,rfl,hz,he,q⟩:=h
  obtain ⟨t,rfl⟩:=rx
  obtain ⟨t',rfl⟩:=ry
  obtain ⟨j,h1,h2,h3,h4,h5⟩:=atI_get he
  have hl:z.cps.toList.length=z.length:=by simp [Str.length]
  rw [hl] at h1 h4 h5
  have hn:=line63
  exact tail_any (typeIs_str s z t) slot_str_getitem.lookup (getItem_str (c:=c) (by
    have e1:decide (i < -(2 ^ 63:Int))=false:=decide_eq_false (by walk_at "l")
    have e2:decide (i ≥ 2 ^ 63)=false:=decide_eq_false (by walk_at "l")
    rw [e1,e2,Bool.or_false]) (by rw [h1]; simpa using h2) ⟨.str ⟨#[c]⟩,H,I.tok _,⟨_,rfl⟩,q⟩) hs
noncomputable def rIx (K:PySem.W.Frag):R2:=fun x y H Q=>rIxL K x y H Q∨rIxT K x y H Q∨rIxS x y H Q
theorem ix_seq:IxR X (rIx X.K):=ix_list.or (ix_tup.or ix_str)

theorem slice_bounds (lo hi:Option Int) (n:Nat):(sliceBounds lo hi none n).1=((HT.sIx n 0 lo:Nat):Int)∧(sliceBounds lo hi none n).2.1=((HT.sIx n n hi:Nat):Int)∧(sliceBounds lo hi none n).2.2=1:=by
  refine ⟨?_,?_,rfl⟩
  · cases lo with
    | none=>simp [sliceBounds,HT.sIx]
    | some i =>
      simp only [sliceBounds,HT.sIx,Option.getD_none,show (1:Int)>0 by decide,if_true]
      by_cases h:i<0
      · simp only [h,if_true] <;> walk_at "l"
      · simp only [h,if_false] <;> walk_at "l"
  · cases hi with
    | none=>simp [sliceBounds,HT.sIx]
    | some i =>
      simp only [sliceBounds,HT.sIx,Option.getD_none,show (1:Int)>0 by decide,if_true]
      by_cases h:i<0
      · simp only [h,if_true] <;> walk_at "l"
      · simp only [h,if_false] <;> walk_at "l"
theorem slicePick_cut (its:List Value) (lo hi:Option Int):slicePick its.toArray lo hi none=((its.drop (HT.sIx its.length 0 lo)).take (HT.sIx its.length its.length hi - HT.sIx its.length 0 lo)).toArray:=by
  obtain ⟨h1,h2,h3⟩:=slice_bounds lo hi its.toArray.size
  unfold slicePick
  rw [h1,h2,h3]
  simp only [sliceRange_one,pick_run,List.size_toArray] <;> rfl
noncomputable def rSlL (K:PySem.W.Frag):V→Option Int→Option Int→Hp→VK→Prop:=fun x lo hi H Q=>∃ a xs,x=.ref a∧SqL K H a xs∧∀ p,H p=none→Q (.ref p) (upd H p (.lst (cutV xs lo hi)))
theorem sl_list:SlR X (rSlL X.K):=by
  intro pins s σ H x v vl vu lo hi sl Q I rx hs pl pu h
  obtain ⟨a,xs,rfl,hx,q⟩:=h
  cases rx
  obtain ⟨its,r,ht,hz⟩:=I.list hx
  have hlen:=r.length
  refine ⟨"list",_,slot_list_getitem.lookup,ht.isList.typeIs,?_⟩
  refine wpAny_getItem_list_slice ht.isList hs pl pu .none (by simp) ?_ (by rw [List.size_toArray] <;> walk_at "l")
  rw [slicePick_cut,← hlen]
  refine ⟨.ref s.heap.objs.size,_,I.laid (t':=s.toks) (o:=.lst (cutV xs lo hi)) (fun b ob q=>Heap.get?_push_of_some _ q) (Nat.le_refl _) ?_,rfl,q _ (I.hok.fresh (Nat.le_refl _))⟩
  exact ⟨Nat.le_trans (cutV_length xs lo hi) hz,_,0,(r.drop (HT.sIx xs.length 0 lo)).take (HT.sIx xs.length xs.length hi - HT.sIx xs.length 0 lo),Heap.get?_push_size _ rfl⟩

noncomputable def flatV:V→Bool
  | .non=>true
  | .bl _=>true
  | .int _=>true
  | .str _=>true
  | _=>false
noncomputable def eqV:V→V→Bool
  | .non,.non=>true
  | .bl a,.bl b=>a == b
  | .bl a,.int b=>(if a then 1 else 0) == b
  | .int a,.bl b=>a == (if b then 1 else 0)
  | .int a,.int b=>a == b
  | .str a,.str b=>a == b
  | _,_=>false
theorem eqAt_V {A:Around} {s:Shared} {y x:V} {u v:Value} (ry:RelV y u) (rx:RelV x v) (fy:flatV y=true) (fx:flatV x=true):SeqAt.EqAt A s u v (eqV y x):=by
  cases y with
  | non =>
    cases ry
    cases x with
    | non=>cases rx; exact SeqAt.EqAt.same _
    | bl b=>cases rx; exact SeqAt.EqAt.none_bool b
    | int b=>obtain ⟨t,rfl⟩:=rx; exact SeqAt.EqAt.none_int b t
    | str b=>obtain ⟨t,rfl⟩:=rx; exact SeqAt.EqAt.none_str b t
    | _=>exact absurd (show false=true from fx) Bool.false_ne_true
  | bl a =>
    cases ry
    cases x with
    | non=>cases rx; exact SeqAt.EqAt.bool_none a
    | bl b=>cases rx; exact SeqAt.EqAt.bool_bool a b
    | int b=>obtain ⟨t,rfl⟩:=rx; exact SeqAt.EqAt.bool_int a b t
    | str b=>obtain ⟨t,rfl⟩:=rx; exact SeqAt.EqAt.bool_str a b t
    | _=>exact absurd (show false=true from fx) Bool.false_ne_true
  | int a =>
    obtain ⟨t',rfl⟩:=ry
    cases x with
    | non=>cases rx; exact SeqAt.EqAt.int_none a t'
    | bl b=>cases rx; exact SeqAt.EqAt.int_bool a t' b
    | int b=>obtain ⟨t,rfl⟩:=rx; exact SeqAt.EqAt.int_int a t' b t
    | str b=>obtain ⟨t,rfl⟩:=rx; exact SeqAt.EqAt.int_str a t' b t
    | _=>exact absurd (show false=true from fx) Bool.false_ne_true
  | str a =>
    obtain ⟨t',rfl⟩:=ry
    cases x with
    | non=>cases rx; exact SeqAt.EqAt.str_none a t'
    | bl b=>cases rx; exact SeqAt.EqAt.str_bool a t' b
    | int b=>obtain ⟨t,rfl⟩:=rx; exact SeqAt.EqAt.str_int a t' b t
    | str b=>obtain ⟨t,rfl⟩:=rx; exact SeqAt.EqAt.str_str a t' b t
    | _=>exact absurd (show false=true from fx) Bool.false_ne_true
  | _=>exact absurd (show false=true from fy) Bool.false_ne_true
noncomputable def eqU (x:V) (u:Value):Bool:=match u with
  | .none=>eqV .non x
  | .bool b=>eqV (.bl b) x
  | .int i _=>eqV (.int i) x
  | .str z _=>eqV (.str z) x
  | _=>false
theorem eqU_of {x y:V} {u:Value} (r:RelV y u) (f:flatV y=true):eqU x u=eqV y x:=by
  cases y with
  | non=>cases r; rfl
  | bl b=>cases r; rfl
  | int i=>obtain ⟨t,rfl⟩:=r; rfl
  | str z=>obtain ⟨t,rfl⟩:=r; rfl
  | _=>exact absurd (show false=true from f) Bool.false_ne_true
theorem any_eqU {x:V}:∀ {xs:List V} {us:List Value},Vals xs us→xs.all flatV=true→us.any (eqU x)=xs.any fun y=>eqV y x
  | _,_,.nil,_=>rfl
  | y :: xs,u :: us,.cons r t,f=>by
    rw [List.all_cons,Bool.and_eq_true] at f
    rw [List.any_cons,List.any_cons,eqU_of r f.1,any_eqU t f.2]
theorem mem_eqAt {A:Around} {s:Shared} {x:V} {v:Value} (rx:RelV x v) (fx:flatV x=true):∀ {xs:List V} {us:List Value},Vals xs us→xs.all flatV=true→∀ u∈us,SeqAt.EqAt A s u v (eqU x u)
  | _,_,.nil,_=>fun u hu=>by cases hu
  | y :: xs,u :: us,.cons r t,f=>fun u' hu=>by
    rw [List.all_cons,Bool.and_eq_true] at f
    rcases List.mem_cons.mp hu with rfl | hu
    · rw [eqU_of r f.1]; exact eqAt_V r rx f.1 fx
    · exact mem_eqAt rx fx t f.2 u' hu
noncomputable def inV (x:V) (xs:List V):Bool:=xs.any fun y=>eqV y x
noncomputable def rIn (K:PySem.W.Frag) (neg:Bool):R2:=fun x y H Q=>∃ p xs,y=.ref p∧(SqL K H p xs∨SqT K H p xs)∧flatV x=true∧xs.all flatV=true∧Q (.bl (if neg then !inV x xs else inV x xs)) H
theorem op_in_seq:OpR X (compareOp .In) (rIn X.K false):=by
  intro pins s σ H x y v u Q I rx ry h
  obtain ⟨p,xs,rfl,hq,fx,fs,q⟩:=h
  cases ry
  rcases hq with hq | hq
  · obtain ⟨its,r,pl,hz⟩:=I.list hq
    refine SeqAt.in_listAt (eqU x) pl.isList (fun w hw=>mem_eqAt rx fx r fs w (by simpa using hw)) ⟨.bl _,H,I,rfl,?_⟩
    rw [show its.toArray.any (eqU x)=its.any (eqU x) by simp,any_eqU r fs]
    exact q
  · obtain ⟨its,r,pl,hz⟩:=I.tuple hq
    refine SeqAt.in_tupleAt (eqU x) pl (fun w hw=>mem_eqAt rx fx r fs w (by simpa using hw)) ⟨.bl _,H,I,rfl,?_⟩
    rw [show its.toArray.any (eqU x)=its.any (eqU x) by simp,any_eqU r fs]
    exact q
theorem CallR.or {f:Value} {r r':List V→Hp→VK→Prop} (h:CallR X f r) (h':CallR X f r'):CallR X f (fun xs H Q=>r xs H Q∨r' xs H Q):=by
  intro pins s σ H xs us Q I rs q
  rcases q with q | q
  · exact h pins s σ H xs us Q I rs q
  · exact h' pins s σ H xs us Q I rs q
theorem call_list_of:CallR X (.type "list") (fun xs H Q=>∃ p ys,xs=[.ref p]∧(SqL X.K H p ys∨SqT X.K H p ys)∧∀ l,H l=none→Q (.ref l) (upd H l (.lst ys))):=by
  intro pins s σ H xs us Q I r h
  obtain ⟨p,ys,rfl,hq,q⟩:=h
  obtain ⟨u,rfl,rx⟩:=vals1 r
  cases rx
  have fin:∀ (its:List Value),Vals ys its→ys.length≤sizeLine→∀ (h':Heap) (c':Nat),(∀ b o',s.heap.get? b=some o'→h'.get? b=some o') →
      h'.get? s.heap.objs.size=some { cls:=.type "list",dict:=none,data:=.seq its.toArray c',slots:=#[] }→EP X pins σ Q (.ref s.heap.objs.size) { s with heap:=h' }:=fun its r' hz h' c' kp e =>
    ⟨.ref s.heap.objs.size,_,I.laid (t':=s.toks) kp (Nat.le_refl _) (show ObjOk X.prog X.w _ h' _ (.lst ys) from ⟨hz,its,c',r',e⟩),rfl,q _ (I.hok.fresh (Nat.le_refl _))⟩
  rcases hq with hq | hq
  · obtain ⟨its,r',pl,hz⟩:=I.list hq
    have hlen:=r'.length
    obtain ⟨o,ho,hc,n,hd⟩:=pl.isList
    exact call_list_seq p (.inl rfl) ho hc hd (fun h' c' kp e=>fin its r' hz h' c' kp e) (by simp only [List.size_toArray] <;> walk_at "l")
  · obtain ⟨its,r',pl,hz⟩:=I.tuple hq
    have hlen:=r'.length
    obtain ⟨o,ho,hc,n,hd⟩:=pl
    exact call_list_seq p (.inr rfl) ho hc hd (fun h' c' kp e=>fin its r' hz h' c' kp e) (by simp only [List.size_toArray] <;> walk_at "l")
theorem call_tuple_of:CallR X (.type "tuple") (fun xs H Q=>∃ p ys,xs=[.ref p]∧((SqL X.K H p ys∧∀ l,H l=none→Q (.ref l) (upd H l (.tup ys)))∨(SqT X.K H p ys∧Q (.ref p) H))):=by
  intro pins s σ H xs us Q I r h
  obtain ⟨p,ys,rfl,h⟩:=h
  obtain ⟨u,rfl,rx⟩:=vals1 r
  cases rx
  rcases h with ⟨hq,q⟩ | ⟨hq,q⟩
  · obtain ⟨its,r',pl,hz⟩:=I.list hq
    have hlen:=r'.length
    refine call_tuple_list pl.isList (fun h' kp=>?_) (by simp only [List.size_toArray] <;> walk_at "l")
    have I1:Inv X pins σ H { s with heap:=h' }:=I.kept (t':=s.toks) kp
    have I2:Inv X pins σ (upd H h'.objs.size (.tup ys)) { s with heap:=h'.push { cls:=.type "tuple",data:=.seq its.toArray } } :=
      I1.laid (t':=s.toks) (fun b o e=>Heap.get?_push_of_some _ e) (Nat.le_refl _) (show ObjOk X.prog X.w _ _ _ (.tup ys) from ⟨hz,its,r',IsTup.new _ _⟩)
    exact ⟨.ref h'.objs.size,_,I2,rfl,q _ (I1.hok.fresh (Nat.le_refl _))⟩
  · obtain ⟨its,r',pl,hz⟩:=I.tuple hq
    exact call_tuple_same pl ⟨.ref p,H,I,rfl,q⟩

noncomputable def tyV (K:PySem.W.Frag) (T:String) (x:V) (H:Hp):Prop:=match x with
  | .str _=>T = "str"
  | .int _=>T = "int"
  | .ref p=>(T = "list"∧∃ xs,SqL K H p xs)∨(T = "tuple"∧∃ o,K.lookup p=some o∧o.cls=.type "tuple"∧o.dict=none) ∨
      (T = "dict"∧((∃ kvs,H p=some (.dK kvs))∨∃ kvs,H p=some (.dT kvs)))∨(T = "set"∧∃ S n,H p=some (.set S n))
  | _=>False
theorem tyV_is {pins:List (Addr × Obj)} {σ:St} {H:Hp} {s:Shared} {T:String} {x:V} {v:Value} (I:Inv X pins σ H s) (r:RelV x v) (ty:tyV X.K T x H) :
    s.TypeIs v T∧∀ a,v=.ref a→∃ ob,s.heap.get? a=some ob∧ob.dict=none:=by
  cases x with
  | str z =>
    obtain ⟨t,rfl⟩:=r
    cases (show T = "str" from ty)
    exact ⟨typeIs_str s z t,fun _ e=>nomatch e⟩
  | int i =>
    obtain ⟨t,rfl⟩:=r
    cases (show T = "int" from ty)
    exact ⟨typeIs_int s i t,fun _ e=>nomatch e⟩
  | ref p =>
    cases r
    rcases ty with ⟨rfl,xs,hq⟩ | ⟨rfl,o,hk,hc,hd⟩ | ⟨rfl,hk⟩ | ⟨rfl,S,n,hk⟩
    · obtain ⟨its,_,pl,_⟩:=I.list hq
      refine ⟨pl.isList.typeIs,fun a e=>?_⟩
      cases e
      obtain ⟨o,n,e,c,hd,_⟩:=pl
      exact ⟨o,e,hd⟩
    · refine ⟨⟨o,I.kIn p o hk,hc⟩,fun a e=>?_⟩
      cases e
      exact ⟨o,I.kIn _ o hk,hd⟩
    · have z:∃ o,s.heap.get? p=some o∧o.ExactDict:=by
        rcases hk with ⟨kvs,hk⟩ | ⟨kvs,hk⟩
        · obtain ⟨_,_,_,_,o,_,_,e,ex,_⟩:=I.hok p _ hk
          exact ⟨o,e,ex⟩
        · obtain ⟨_,_,_,_,o,_,_,e,ex,_⟩:=I.hok p _ hk
          exact ⟨o,e,ex⟩
      obtain ⟨o,e,ex⟩:=z
      refine ⟨⟨o,e,ex.1⟩,fun a e2=>?_⟩
      cases e2
      exact ⟨o,e,ex.2.1⟩
    · obtain ⟨o,_,_,_,e,ex,_⟩:=I.hok p _ hk
      refine ⟨⟨o,e,ex.1⟩,fun a e2=>?_⟩
      cases e2
      exact ⟨o,e,ex.2.1⟩
  | _=>exact False.elim ty
noncomputable def tBM (K:PySem.W.Frag) (T:String) (r:V→List V→Hp→VK→Prop) (to:TE) (t:TA):TE:=fun σ H Q=>to σ H fun x H1=>tyV K T x H1∧t σ H1 fun xs H2=>r x xs H2 Q
variable {o e:Expr} {es:List Expr} {to:TE} {t:TA} {name:Str} {apos cpos:Pos} {T id:String} {r:V→List V→Hp→VK→Prop}
theorem pe_bm (pa:PlainAttrs T) (slot:Slot T name id) (hty:typeOf (.builtin id)=pure (.type "method_descriptor")) (hm:MtR X id r) (ho:PE X o to) (ha:PA X (e :: es) t)
    (hbase:attributeBase o name X.env (eval o X.env)=eval o X.env:=by rfl)
    (hfew:((backTo cpos (starEach (e :: es) X.env)).all (fun x=>!x.1) && (backToKw cpos (keywordEach [] X.env)).all (fun x=>x.1.isSome)
      && decide ((e :: es).length+([]:List Keyword).length+(if ([]:List Keyword).isEmpty then 0 else 1)<30))=true:=by rfl)
    (hline:(apos.endLine == cpos.line)=true:=by rfl) (hs:starEach (e :: es) X.env=(false,eval e X.env) :: starEach es X.env:=by rfl) (hplain:(backTo cpos (starEach es X.env)).any (·.1)=false:=by rfl) :
    PE X (.Call (.Attribute o name apos) (e :: es) [] cpos) (tBM X.K T r to t):=by
  intro pins s σ H Q I h
  refine wpAny_Call_method_late hbase hfew hline rfl (thn (ho pins s σ H _ I h) fun v s1 hx9=>?_)
  obtain ⟨x,H1,I1,r1,ty,q1⟩:=hx9
  obtain ⟨h1,h2⟩:=tyV_is I1 r1 ty
  refine ⟨T,id,pa,slot,hty,h1,h2,?_⟩
  have hA:=ha cpos pins s1 σ H1 _ I1 q1
  rw [hs] at hA ⊢
  refine Calls.callWith_builtin (by show (false || (backTo cpos (starEach es X.env)).any (·.1))=false; rw [hplain] <;> rfl) (Calls.evalArgs_plain ?_)
  exact thn hA fun us s2 hx5=>L2.ex2 hx5 fun vs H2 I2 r2 q2=>hm pins s2 σ H2 x vs v us Q I2 r1 r2 q2
end
end L2

namespace L2
open PySem PySem.Spec PyProof.Rows

noncomputable def MtM (X:Cx) (id:String) (r:V→List V→Hp→VK→Prop):Prop :=
  ∀ (pins:List (Addr × Obj)) (s:Shared) (σ:St) (H:Hp) (x:V) (xs:List V) (v:Value) (us:List Value) (Q:VK),Inv X pins σ H s→RelV x v→Vals xs us→r x xs H Q →
    wpAny (model X.prog X.w) X.A (call (.builtin id) (v :: us)) (EP X pins σ Q) X.xe s

theorem Vals.one {x:V} {us:List Value} (h:Vals [x] us):∃ u,us=[u]∧RelV x u:=by
  cases h
  rename_i r h
  cases h
  exact ⟨_,rfl,‹_›⟩
theorem Vals.two {x y:V} {us:List Value} (h:Vals [x,y] us):∃ u v,us=[u,v]∧RelV x u∧RelV y v:=by
  cases h
  rename_i r h
  cases h
  rename_i q h
  cases h
  exact ⟨_,_,rfl,‹_›,‹_›⟩
theorem Vals.rep {xs:List V} {us:List Value} (h:Vals xs us):∀ k:Nat,Vals (List.replicate k xs).flatten (List.replicate k us).flatten
  | 0=>.nil
  | k+1=>by
    rw [List.replicate_succ,List.replicate_succ,List.flatten_cons,List.flatten_cons]
    exact Vals.append h (Vals.rep h k)
section
variable {X:Cx} {pins:List (Addr × Obj)} {σ:St} {H:Hp} {s:Shared} {l b:Addr} {xs ys zs:List V}

theorem Inv.lset {its its':List Value} {n:Nat} {f:Array Value→Array Value} {t':Nat} (I:Inv X pins σ H s) (hH:H l=some (.lst xs))
    (e:s.heap.get? l=some { cls:=.type "list",data:=.seq its.toArray n }) (hf:f its.toArray=its'.toArray) (hv:Vals ys its') (hz:ys.length≤sizeLine) :
    Inv X pins σ (upd H l (.lst ys)) { s with heap:=s.heap.update l (Obj.mapSeq f),toks:=t' }:=by
  have q:=PySem.IsL.update e f
  rw [hf] at q
  refine I.write (x:=l) (e:=l) (by rw [hH]; exact trivial) (.inl rfl) (fun b' u hb hu=>(Heap.get?_update_other s.heap (Obj.mapSeq f) (Ne.symm hb)).trans hu) ⟨_,q⟩ ?_
  exact ⟨hz,its',_,hv,q⟩
theorem Inv.lnew {its:List Value} {t':Nat} (I:Inv X pins σ H s) (hv:Vals ys its) (hz:ys.length≤sizeLine) :
    Inv X pins σ (upd H s.heap.objs.size (.lst ys)) { s with heap:=s.heap.push { cls:=.type "list",data:=.seq its.toArray },toks:=t' } :=
  I.laid (fun _ _ q=>Heap.get?_push_of_some _ q) (Nat.le_refl _) ⟨hz,its,0,hv,Heap.get?_push_size _ rfl⟩
theorem Inv.fresh (I:Inv X pins σ H s):H s.heap.objs.size=none:=I.hok.fresh (Nat.le_refl _)
theorem Inv.lstM (I:Inv X pins σ H s) (hH:H l=some (.lst xs)):xs.length≤sizeLine∧∃ (its:List Value) (n:Nat),Vals xs its∧xs.length=its.length∧s.heap.get? l=some { cls:=.type "list",data:=.seq its.toArray n }:=by
  obtain ⟨z,its,n,r,e⟩:=I.hok l _ hH
  exact ⟨z,its,n,r,r.length,e⟩

end

section
variable {X:Cx}

noncomputable def rAppend:V→List V→Hp→VK→Prop:=fun x vs H Q=>∃ l xs y,x=.ref l∧vs=[y]∧H l=some (.lst xs)∧xs.length<sizeLine∧Q .non (upd H l (.lst (xs++[y])))
theorem mt_append:MtM X "list.append" rAppend:=by
  intro pins s σ H x vs v us Q I rx rv h
  obtain ⟨l,xs,y,rfl,rfl,hH,hz,q⟩:=h
  cases rx
  obtain ⟨u,rfl,ru⟩:=rv.one
  obtain ⟨z,its,n,r,hl,e⟩:=I.lstM hH
  refine call_meets F.slot_list_append ⟨_,e,rfl⟩ F.entry_list_append (F.args_list_append_2 _ _) (PySem.list_append l its.toArray n u (by rw [List.size_toArray]; walk_at "l")) ⟨e,?_⟩
  refine ⟨.non,_,I.lset (its':=its++[u]) hH e (by simp) (r.append (.cons ru .nil)) ?_,rfl,q⟩
  rw [List.length_append,List.length_singleton]
  walk_at "l"

theorem len_rep {α:Type} (xs:List α) (k:Nat):(List.replicate k xs).flatten.length=k * xs.length:=by
  induction k with
  | zero=>simp
  | succ k ih=>rw [List.replicate_succ,List.flatten_cons,List.length_append,ih,Nat.succ_mul,Nat.add_comm]
end

section
variable {prog:Program} {w:World} {A:Around} {E:Value→Shared→Prop} {s:Shared}
set_option maxRecDepth 100000 in
end

section
variable {X:Cx}
end
end L2

namespace L2
open PySem PySem.Spec PyProof.Rows

section
variable {κ:Type} [DecidableEq κ]
noncomputable def valV (kvs:List (κ × V)) (k:κ):Option V:=(kvs.find? fun kv=>decide (kv.1=k)).map (·.2)
noncomputable def putK (kvs:List (κ × V)) (k:κ) (v:V):List (κ × V) :=
  if (kvs.any fun kv=>decide (kv.1=k))=true then kvs.map (fun kv=>if kv.1=k then (kv.1,v) else kv) else kvs++[(k,v)]
noncomputable def dropK (kvs:List (κ × V)) (k:κ):List (κ × V):=kvs.filter fun kv=>decide (kv.1≠k)

theorem valV_pos {p:κ × V} {r:List (κ × V)} {k:κ} (e:p.1=k):valV (p :: r) k=some p.2:=by simp [valV,List.find?_cons,e]
theorem valV_neg {p:κ × V} {r:List (κ × V)} {k:κ} (e:¬ p.1=k):valV (p :: r) k=valV r k:=by simp [valV,List.find?_cons,e]
theorem valV_any (k:κ):∀ kvs:List (κ × V),(kvs.any fun kv=>decide (kv.1=k))=(valV kvs k).isSome
  | []=>rfl
  | p :: r=>by
    rw [List.any_cons]
    by_cases e:p.1=k
    · simp only [valV_pos e,decide_eq_true e,Bool.true_or,Option.isSome_some]
    · rw [valV_neg e,decide_eq_false e,Bool.false_or]; exact valV_any k r
theorem RelO.isSome_eq {o:Option V} {u:Option Value} (r:RelO o u):o.isSome=u.isSome:=by
  cases o with
  | none=>cases u with
    | none=>rfl
    | some _=>exact (show False from r).elim
  | some _=>cases u with
    | none=>exact (show False from r).elim
    | some _=>rfl
theorem KV.val {kvs:List (κ × V)} {vs:List (κ × Value)} (r:KV kvs vs) (k:κ):RelO (valV kvs k) (valueAt vs k):=by
  unfold KV at r
  induction r with
  | nil=>exact True.intro
  | @cons p q ps qs h t ih =>
    obtain ⟨h1,h2⟩:=h
    by_cases e:p.1=k
    · have e':q.1=k:=h1.symm.trans e
      have b:valueAt (q :: qs) k=some q.2:=by simp [valueAt,List.find?_cons,e']
      rw [valV_pos e,b]; exact h2
    · have e':¬ q.1=k:=fun z=>e (h1.trans z)
      have b:valueAt (q :: qs) k=valueAt qs k:=by simp [valueAt,List.find?_cons,e']
      rw [valV_neg e,b]; exact ih
theorem KV.any {kvs:List (κ × V)} {vs:List (κ × Value)} (r:KV kvs vs) (k:κ):(kvs.any fun kv=>decide (kv.1=k))=vs.any fun kv=>decide (kv.1=k):=by
  unfold KV at r
  induction r with
  | nil=>rfl
  | cons h t ih=>rw [List.any_cons,List.any_cons,ih,h.1]
theorem KV.repl {kvs:List (κ × V)} {vs:List (κ × Value)} (r:KV kvs vs) (k:κ) {y:V} {u:Value} (ry:RelV y u) :
    KV (kvs.map fun kv=>if kv.1=k then (kv.1,y) else kv) (vs.map fun kv=>if kv.1=k then (kv.1,u) else kv):=by
  unfold KV at r ⊢
  induction r with
  | nil=>exact .nil
  | @cons p q ps qs h t ih =>
    rw [List.map_cons,List.map_cons]
    refine .cons ?_ ih
    obtain ⟨h1,h2⟩:=h
    by_cases e:p.1=k
    · rw [if_pos e,if_pos (h1.symm.trans e)]; exact ⟨h1,ry⟩
    · rw [if_neg e,if_neg (fun z=>e (h1.trans z))]; exact ⟨h1,h2⟩
theorem KV.put {kvs:List (κ × V)} {vs:List (κ × Value)} (r:KV kvs vs) (k:κ) {y:V} {u:Value} (ry:RelV y u):KV (putK kvs k y) (stored vs k u):=by
  unfold putK stored
  rw [r.any k]
  by_cases e:(vs.any fun kv=>decide (kv.1=k))=true
  · rw [if_pos e,if_pos e]; exact r.repl k ry
  · rw [if_neg e,if_neg e]; exact Paired.snoc r ⟨rfl,ry⟩
theorem KV.drop {kvs:List (κ × V)} {vs:List (κ × Value)} (r:KV kvs vs) (k:κ):KV (dropK kvs k) (without vs k):=by
  unfold KV at r ⊢
  unfold dropK without
  induction r with
  | nil=>exact .nil
  | @cons p q ps qs h t ih =>
    obtain ⟨h1,h2⟩:=h
    rw [List.filter_cons,List.filter_cons]
    by_cases e:p.1=k
    · have a:¬ decide (p.1≠k)=true:=by simp [e]
      have b:¬ decide (q.1≠k)=true:=by simp [h1.symm.trans e]
      rw [if_neg a,if_neg b]; exact ih
    · have e':¬ q.1=k:=fun z=>e (h1.trans z)
      have a:decide (p.1≠k)=true:=by simp [e]
      have b:decide (q.1≠k)=true:=by simp [e']
      rw [if_pos a,if_pos b]; exact .cons ⟨h1,h2⟩ ih
theorem KV.length {kvs:List (κ × V)} {vs:List (κ × Value)} (r:KV kvs vs):kvs.length=vs.length:=Paired.length r
end


theorem kV_is {P:Program} {w:World} {k:Key} {u:Value} (r:RelV (kV k) u):(mixKind P w).is k u=true:=by
  cases k with
  | inl i=>obtain ⟨t,e⟩:=(show ∃ t,u=Value.int i t from r); subst e; exact mixKind_int P w i t
  | inr x=>obtain ⟨t,e⟩:=(show ∃ t,u=Value.str x t from r); subst e; exact mixKind_str P w x t
theorem items_are {P:Program} {w:World}:∀ {ks:List Key} {us:List Value},Vals (ks.map kV) us→ItemsAre (mixKind P w) ks us
  | [],_,r=>by rw [List.map_nil] at r; cases r; exact .nil
  | k :: ks,_,r=>by
    rw [List.map_cons] at r
    cases r with
    | cons h t=>exact .cons (kV_is h) (items_are t)

noncomputable abbrev KT (H:Hp):List (List Key × V)→List (List Key × Addr × Value)→Prop:=Paired fun p q=>p.1=q.1∧H q.2.1=some (.tup (p.1.map kV))∧RelV p.2 q.2.2
theorem KT.val {H:Hp} {kvs:List (List Key × V)} {xs:List (List Key × Addr × Value)} (r:KT H kvs xs) (k:List Key):RelO (valV kvs k) ((atKey xs k).map (·.2)):=by
  induction r with
  | nil=>exact True.intro
  | @cons p q ps qs h t ih =>
    obtain ⟨h1,_,h2⟩:=h
    by_cases e:p.1=k
    · have e':q.1=k:=h1.symm.trans e
      have b:atKey (q :: qs) k=some q.2:=by simp [atKey,List.find?_cons,e']
      rw [valV_pos e,b]; exact h2
    · have e':¬ q.1=k:=fun z=>e (h1.trans z)
      have b:atKey (q :: qs) k=atKey qs k:=by simp [atKey,List.find?_cons,e']
      rw [valV_neg e,b]; exact ih
theorem KT.repl {H:Hp} {kvs:List (List Key × V)} {xs:List (List Key × Addr × Value)} (r:KT H kvs xs) (k:List Key) {y:V} {u:Value} (ry:RelV y u) :
    KT H (kvs.map fun kv=>if kv.1=k then (kv.1,y) else kv) (xs.map (putAt k u)):=by
  induction r with
  | nil=>exact .nil
  | @cons p q ps qs h t ih =>
    rw [List.map_cons,List.map_cons]
    refine .cons ?_ ih
    obtain ⟨h1,h2,h3⟩:=h
    unfold putAt
    by_cases e:p.1=k
    · rw [if_pos e,if_pos (h1.symm.trans e)]; exact ⟨h1,h2,ry⟩
    · rw [if_neg e,if_neg (fun z=>e (h1.trans z))]; exact ⟨h1,h2,h3⟩
theorem KT.put {H:Hp} {kvs:List (List Key × V)} {xs:List (List Key × Addr × Value)} (r:KT H kvs xs) (k:List Key) {b:Addr} {y:V} {u:Value} (hb:H b=some (.tup (k.map kV))) (ry:RelV y u) :
    KT H (putK kvs k y) (storedH xs k b u):=by
  have e:(kvs.any fun kv=>decide (kv.1=k))=(atKey xs k).isSome:=by
    rw [valV_any,(r.val k).isSome_eq,Option.isSome_map]
  unfold putK storedH
  rw [e]
  by_cases q:(atKey xs k).isSome=true
  · rw [if_pos q,if_pos q]; exact r.repl k ry
  · rw [if_neg q,if_neg q]; exact Paired.snoc r ⟨rfl,hb,ry⟩
section
variable {P:Program} {w:World} {H:Hp} {h:Heap} {a:Addr}
theorem rd_of {u:HO} (ok:HOk P w H h) (e:Rd H a u):ObjOk P w H h a u:=e.ok ok
theorem dk_rd {kvs:List (Key × V)} (ok:HOk P w H h) (e:Rd H a (.dK kvs)):kvs.length≤sizeLine∧(a == sysModules)=false∧∃ vs,KV kvs vs∧h.DictOf (mixKind P w) a vs :=
  show ObjOk P w H h a (.dK kvs) from rd_of ok e
theorem key_of {ks:List Key} (ok:HOk P w H h) (e:H a=some (.tup (ks.map kV))):(tupleKind (mixKind P w)).is h ks a:=by
  obtain ⟨_,its,r,o,h1,h2,n,h3⟩:=(show ObjOk P w H h a (.tup (ks.map kV)) from ok a _ e)
  exact ⟨o,its.toArray,n,h1,h2,h3,by simpa using items_are r⟩
theorem dt_rd {kvs:List (List Key × V)} (ok:HOk P w H h) (e:Rd H a (.dT kvs)):kvs.length≤sizeLine∧(a == sysModules)=false ∧
    ∃ xs,KT H kvs xs∧h.DictOfH (tupleKind (mixKind P w)) a xs:=by
  obtain ⟨z,y,xs,r,o,es,ep,h1,h2,h3,h4,h5⟩:=(show ObjOk P w H h a (.dT kvs) from rd_of ok e)
  refine ⟨z,y,xs,r,o,es,ep,h1,h2,h3,h4,fun x hx=>?_,h5⟩
  have all:∀ {l:List (List Key × V)} {m:List (List Key × Addr × Value)},KT H l m→∀ x∈m,(tupleKind (mixKind P w)).is h x.1 x.2.1:=by
    intro l m q
    induction q with
    | nil=>intro x hx; exact nomatch hx
    | @cons p q ps qs hq t ih =>
      intro x hx
      rcases List.mem_cons.mp hx with e | hx
      · subst e
        exact key_of ok (by rw [← hq.1]; exact hq.2.1)
      · exact ih x hx
  exact all r x hx
end

noncomputable def DGet (H:Hp) (a:Addr) (y:V) (r:Option V):Prop :=
  (∃ kvs k,Rd H a (.dK kvs)∧y=kV k∧r=valV kvs k)∨∃ kvs k b,Rd H a (.dT kvs)∧y=.ref b∧H b=some (.tup (k.map kV))∧r=valV kvs k
noncomputable def DPut (H:Hp) (a:Addr) (y v:V) (H':Hp):Prop :=
  (∃ kvs k,H a=some (.dK kvs)∧y=kV k∧kvs.length<sizeLine∧H'=upd H a (.dK (putK kvs k v))) ∨
  ∃ kvs k b,H a=some (.dT kvs)∧y=.ref b∧H b=some (.tup (k.map kV))∧kvs.length<sizeLine∧H'=upd H a (.dT (putK kvs k v))
theorem DGet.k {H:Hp} {a:Addr} {kvs:List (Key × V)} {k:Key} (e:H a=some (.dK kvs)):DGet H a (kV k) (valV kvs k):=.inl ⟨kvs,k,.inl e,rfl,rfl⟩
theorem DGet.t {H:Hp} {a b:Addr} {kvs:List (List Key × V)} {k:List Key} (e:H a=some (.dT kvs)) (eb:H b=some (.tup (k.map kV))):DGet H a (.ref b) (valV kvs k):=.inr ⟨kvs,k,b,.inl e,rfl,eb,rfl⟩
theorem DPut.k {H:Hp} {a:Addr} {kvs:List (Key × V)} {k:Key} {v:V} (e:H a=some (.dK kvs)) (hl:kvs.length<sizeLine):DPut H a (kV k) v (upd H a (.dK (putK kvs k v))):=.inl ⟨kvs,k,e,rfl,hl,rfl⟩
theorem DPut.t {H:Hp} {a b:Addr} {kvs:List (List Key × V)} {k:List Key} {v:V} (e:H a=some (.dT kvs)) (eb:H b=some (.tup (k.map kV))) (hl:kvs.length<sizeLine) :
    DPut H a (.ref b) v (upd H a (.dT (putK kvs k v))):=.inr ⟨kvs,k,b,e,rfl,eb,hl,rfl⟩


section
variable {X:Cx} {pins:List (Addr × Obj)} {σ:St} {H:Hp} {s:Shared} {a:Addr} {y v:V} {u r:Value} {o:Option V} {A:Around} {E:Value→Shared→Prop}

theorem d_getItem {Q:Value→Shared→Prop} (hu:A.units+1<cLine) (I:Inv X pins σ H s) (g:DGet H a y (some v)) (ry:RelV y u) (h:∀ w' s',Inv X pins σ H s'→RelV v w'→Q w' s') :
    wpAny (model X.prog X.w) A (getItem (.ref a) u) Q E s:=by
  rcases g with ⟨kvs,k,e,ey,l⟩ | ⟨kvs,k,b,e,ey,eb,l⟩
  · subst ey
    obtain ⟨z,hd,vs,rel,dd⟩:=dk_rd I.hok e
    obtain ⟨w',hw,rw'⟩:=RelO.some_of (v:=v) (o:=valueAt vs k) (by rw [l]; exact rel.val k)
    exact wpAny_getItem_of (kV_is ry) dd.mapOf hw (h w' _ (I.tok _) rw')
  · subst ey
    cases (show u=Value.ref b from ry)
    obtain ⟨z,hd,xs,rel,dd⟩:=dt_rd I.hok e
    obtain ⟨w',hw,rw'⟩:=RelO.some_of (v:=v) (o:=(atKey xs k).map (·.2)) (by rw [l]; exact rel.val k)
    obtain ⟨p,hp,hp2⟩:=Option.map_eq_some_iff.mp hw
    refine wpAny_getItem_heap (tupleKind_room_in1 hu) (key_of I.hok eb) dd hp ?_
    rw [hp2]
    exact h w' _ (I.tok _) rw'
theorem d_in {Q:Value→Shared→Prop} (hu:A.units+1<cLine) (I:Inv X pins σ H s) (g:DGet H a y o) (ry:RelV y u) (h:∀ s',Inv X pins σ H s'→Q (.bool o.isSome) s') :
    wpAny (model X.prog X.w) A (compareOp .In u (.ref a)) Q E s:=by
  rcases g with ⟨kvs,k,e,ey,l⟩ | ⟨kvs,k,b,e,ey,eb,l⟩
  · subst ey
    obtain ⟨z,hd,vs,rel,dd⟩:=dk_rd I.hok e
    refine wpAny_in_of (kV_is ry) hd dd.mapOf ?_
    rw [← (rel.val k).isSome_eq,← l]
    exact h _ (I.tok _)
  · subst ey
    cases (show u=Value.ref b from ry)
    obtain ⟨z,hd,xs,rel,dd⟩:=dt_rd I.hok e
    refine wpAny_in_heap (tupleKind_room_in1 hu) (key_of I.hok eb) hd dd ?_
    have q:=(rel.val k).isSome_eq
    rw [Option.isSome_map] at q
    rw [← q,← l]
    exact h _ (I.tok _)
end

section
variable {X:Cx} {pins:List (Addr × Obj)} {σ:St} {H:Hp} {s:Shared} {a:Addr} {kvs:List (Key × V)} {k:Key} {u:Value} {A:Around} {E:Value→Shared→Prop}
theorem d_len {Q:Value→Shared→Prop} (I:Inv X pins σ H s) (e:Rd H a (.dK kvs)) (h:∀ t s',Inv X pins σ H s'→Q (.int kvs.length t) s'):wpAny (model X.prog X.w) A (call (.builtin "len") [.ref a]) Q E s:=by
  obtain ⟨z,hd,vs,rel,dd⟩:=dk_rd I.hok e
  refine call_len_dict hd dd (by rw [← rel.length]; rw [sizeLine_eq] at z; walk_at "l") ?_
  rw [← rel.length]
  exact h _ _ (I.tok _)
end


theorem dict_typeIs {X:Cx} {pins:List (Addr × Obj)} {σ:St} {H:Hp} {s:Shared} {a:Addr} {y:V} {o:Option V} (I:Inv X pins σ H s) (g:DGet H a y o):s.TypeIs (.ref a) "dict" := by
  rcases g with ⟨kvs,k,e,_,_⟩ | ⟨kvs,k,b,e,_,_,_⟩
  · obtain ⟨_,_,vs,_,dd⟩:=dk_rd I.hok e
    exact dd.typeIs
  · obtain ⟨_,_,xs,_,dd⟩:=dt_rd I.hok e
    exact dd.typeIs
section
variable {X:Cx} {o i e value:Expr} {pos pos' tpos:Pos} {td ty tv:TE}
end


section
variable {X:Cx} {pos:Pos}
end

structure M2 (X:Cx) (o:Expr) (m:Str) (apos:Pos) (e f:Expr) (cpos:Pos):Prop where
  base:attributeBase o m X.env (eval o X.env)=eval o X.env
  few:((backTo cpos (starEach [e,f] X.env)).all (fun x=>!x.1) && (backToKw cpos (keywordEach [] X.env)).all (fun x=>x.1.isSome)
    && decide (([e,f]:List Expr).length+([]:List Keyword).length+(if ([]:List Keyword).isEmpty then 0 else 1)<30))=true
  line:(apos.endLine == cpos.line)=true
  trees:backTo cpos (starEach [e,f] X.env)=[(false,eval e X.env),(false,eval f X.env)]

section
variable {X:Cx} {pins:List (Addr × Obj)} {σ:St} {H:Hp} {s:Shared} {a:Addr} {y d:V} {u r:Value} {o:Option V} {A:Around} {E:Value→Shared→Prop}
end

section
variable {X:Cx} {o e f:Expr} {apos cpos:Pos} {td ty tx:TE}
end

section
variable {X:Cx} {pins:List (Addr × Obj)} {σ:St} {H:Hp} {s:Shared} {a:Addr} {kvs:List (Key × V)} {A:Around} {E:Value→Shared→Prop}
end


section
variable {X:Cx} {pins:List (Addr × Obj)} {σ:St} {H:Hp} {s:Shared} {a:Addr} {y:V} {u:Value} {A:Around} {E:Value→Shared→Prop}
end
end L2

namespace Att
open PySem PySem.W PySem.Calls PyProof.Rows

theorem ints_of_wellAll {P:Params} {h:Heap}:∀ (ns:List Int) (vs:List Value),WellAll P h vs (ns.map WData.int)→IntsAre vs ns:=by
  intro ns
  induction ns with
  | nil =>
    intro vs w
    rw [List.map_nil] at w
    cases w
    exact .nil
  | cons n ns ih =>
    intro vs w
    rw [List.map_cons] at w
    cases w with
    | cons a b =>
      cases a
      exact .cons _ _ (ih _ b)

theorem script_of {l:OpenLaw} {n:Nat} (hn:l.most=some n) {P:Params} {h:Heap} {args:List WData} {vals:List Value}
    (hpre:l.row.toRowW.claim.pre args=true) (hwl:WellAll P h vals args) :
    ∃ a vs ns,vals=[Value.ref a]∧args=[WData.list (ns.map WData.int)]∧h.get? a=some { cls:=.type "list",data:=.seq vs.toArray }∧IntsAre vs ns∧ns.length≤n:=by
  have hsh:WShape.hasAll [] args [.list .int]=true:=(pre_splitW hpre).1
  have hc:l.pre.holds [] { args:=args }=true:=(pre_splitW hpre).2
  obtain ⟨d,r,rfl,h1,h2⟩:=hasAllW_cons hsh
  obtain rfl:=hasAllW_nil h2
  obtain ⟨xs,rfl,h3⟩:=hasW_list h1
  obtain ⟨ns,rfl⟩:=items_int h3
  have hlen:ns.length≤n:=by
    unfold OpenLaw.pre at hc
    have h4:(WTm.not (.lt (.lit (.int (n:Int))) (.len (.arg 0)))).holds [] { args:=[.list (ns.map .int)] }=true:=by
      have h4:=(holds_andW hc).1
      rw [hn] at h4
      exact h4
    have h5:=condW_of h4 (w_not (w_lt w_lit (w_len_list (w_arg rfl))))
    rw [List.length_map] at h5
    refine Nat.le_of_not_lt fun q=>?_
    have q':(n:Int)<((ns.length:Nat):Int):=by walk_at "l"
    first
      | (rw [decide_eq_true q'] at h5; exact absurd h5 (by decide))
      | (simp at h5; walk_at "l")
  cases hwl with
  | cons w1 w2 =>
    cases w2
    cases w1 with
    | list ho hall=>exact ⟨_,_,ns,rfl,rfl,ho,ints_of_wellAll ns _ hall,hlen⟩

theorem post_true (l:OpenLaw) (args:List WData):l.row.toRowW.claim.post args (.bool true) args=true :=
  postW_of (r:=l.row.toRowW) (X:=(true == true))
    (show WShape.has [] (.bool true) .bool=true by first | rfl | decide | simp [WShape.has,WShape.arms,WShape.armsAll])
    (show (WTm.eq .res (.lit (.bool true))).value [] { args:=args,res:=some (.bool true),after:=args }=some (.bool (true == true)) from w_eq_bool (w_res rfl) w_lit) rfl

theorem attach_call {l:OpenLaw} {n:Nat} {q:Program} {loose:List Str} {XP:(Str→Option Value)→Heap→Prop} {YP:World→Heap→Prop} {d:DefRec}
    (hn:l.most=some n) (hdf:d.params.defaults=[])
    (call:∀ (w:World) (s₀ s₁:Shared) (mg mb:Str→Option Value) (fa:Addr) (o:Obj) (pm cd doc:Value) (a:Addr) (vs:List Value) (ns:List Int),
      Ground q loose [] XP w s₀ mg mb s₁.heap→YP w s₁.heap →
      s₁.heap.get? fa=some o→o.data=.func (docDef d.name d.params d.body d.scope pm cd doc)→s₁.heap.CodeRec cd d.name→mg d.name=some (.ref fa) →
      s₁.heap.get? a=some { cls:=.type "list",data:=.seq vs.toArray }→IntsAre vs ns→ns.length≤n→s₁.gens = #[] →
      codeAny (model l.prog w) callerA (.call (.ref fa) ⟨[.ref a],[]⟩) (fun r s'=>r=.ok (.ret (.bool true))∧OldK s₁.heap s'.heap∧s'.os=s₁.os∧AllBare s'.gens) s₁) :
    WalkO q loose XP YP l.row.toRowW d [] (fun f vs=>PySem.call f vs):=by
  intro w s₀ s₁ mg mb G Y fa o pm cd doc dV kV ho hd hcd hD hmg hg args vals as hpre hlay hrd hwl hlo
  obtain rfl:dV=.none:=Dflts.none hD hdf
  obtain rfl:kV=.none:=Dflts.noKw hD
  obtain ⟨a,vs,ns,rfl,rfl,hobj,hints,hlen⟩:=script_of hn hpre hwl
  refine enter_call (codeAny_mono (call w s₀ s₁ mg mb fa o pm cd doc a vs ns G Y ho (fd_plain hd) hcd hmg hobj hints hlen hg) fun r s' hq=>?_)
  obtain ⟨rfl,h2,h3,h4⟩:=hq
  exact ⟨.inl ⟨.bool true,.bool true,[],rfl,fun _=>rfl,.bool true,post_true l _,fun _=>⟨List.Pairwise.nil,fun _ hm=>(nomatch hm)⟩⟩,h2,h3,h4⟩

section
variable {prog:Program} {w:World} {A:Around} {E:Value→Shared→Prop} {s:Shared} {K:Frag}

end
end Att

namespace L2
open PySem PySem.Spec PyProof.Rows

theorem vals_ints:∀ {vs:List Value} {ns:List Int},IntsAre vs ns→Vals (ns.map V.int) vs
  | _,_,.nil=>.nil
  | _,_,.cons n t h=>.cons ⟨t,rfl⟩ (vals_ints h)

noncomputable def Only (H:Hp):Prop:=∀ b,H b=none∨∃ o xs,H b=some (.frz o (.lst xs))

theorem law_call {P:Program} {w:World} {K:PySem.W.Frag} {mg mb:Str→Option Value} {CX:CXT} {k:Nat} {fa a:Addr} {fd:FuncData} {x:Str} {sp:Sp} {s₁:Shared} {vs:List Value} {ns:List Int}
    (KX:K.In s₁.heap) (hns:s₁.heap.Ns mainGlobals mg) (hb:s₁.heap.Ns builtinsNs mb) (hbb:∀ x:Str,x ≠ "__name__"→mb x=bootBuiltins x) (hlim:s₁.heap.NoLimit) (hg:s₁.gens = #[])
    (ha:s₁.heap.get? a=some { cls:=.type "list",data:=.seq vs.toArray }) (hi:IntsAre vs ns) (hl:ns.length≤sizeLine) (hr:Room k callerA)
    (F:∀ base:Heap,K.In base→base.Ns mainGlobals mg→FnOk P w K mg base CX k fa fd [x] sp) (hbind:∀ (s:Shared) (u:Value),BindsTo s fd ⟨[u],[]⟩ [(x,u)])
    (hsp:∀ H:Hp,Only H→SqL K H a (ns.map V.int)→sp [.ref a] H (fun v _=>v=.bl true) fun _ _ _=>False)
    (hCX:∀ H e s',CX [] H s₁ (fun _ _ _=>False) e s'→False) :
    codeAny (model P w) callerA (.call (.ref fa) ⟨[.ref a],[]⟩) (fun r s'=>r=.ok (.ret (.bool true))∧OldK s₁.heap s'.heap∧s'.os=s₁.os∧AllBare s'.gens) s₁:=by
  have rv:=vals_ints hi
  have lenV:=hi.length
  -- from an abstract heap in which nothing but the script may be tracked
  have core:∀ H:Hp,Only H→SqL K H a (ns.map V.int)→HOk P w H s₁.heap→(∀ b,H b≠none→b=a)→(H a≠none→K.lookup a=none) →
      codeAny (model P w) callerA (.call (.ref fa) ⟨[.ref a],[]⟩) (fun r s'=>r=.ok (.ret (.bool true))∧OldK s₁.heap s'.heap∧s'.os=s₁.os∧AllBare s'.gens) s₁:=by
    intro H hO hS hok hA hK
    have base_of:∀ {b:Addr} {o:Obj},s₁.heap.get? b=some o→H b=none→(hidT s₁.heap H).get? b=some o:=fun e n=>hidT_get e n
    have noA:∀ {b:Addr} {o:Obj} {es:Array DictEntry} {ep:Nat},s₁.heap.get? b=some o→o.data=.dict es ep→H b=none:=fun {b o es ep} e d=>by
      cases q:H b with
      | none=>rfl
      | some u =>
        have e':b=a:=hA b (by rw [q]; simp)
        subst e'
        rw [ha] at e; cases e
        have d':Data.seq vs.toArray _=Data.dict es ep:=d
        cases d'
    have nsK:∀ {b:Addr} {m:Str→Option Value},s₁.heap.Ns b m→(hidT s₁.heap H).Ns b m:=fun {b m} ⟨o,es,ep,e,d,r⟩=>⟨o,es,ep,base_of e (noA e d),d,r⟩
    have hKb:K.In (hidT s₁.heap H):=fun b o e=>base_of (KX b o e) (by
      cases q:H b with
      | none=>rfl
      | some u =>
        have e':b=a:=hA b (by rw [q]; simp)
        subst e'
        rw [hK (by rw [q]; simp)] at e; cases e)
    have hM:Mod K mg (hidT s₁.heap H):=⟨hKb,nsK hns,⟨mb,nsK hb,hbb⟩,let ⟨mc,h1,h2⟩:=hlim; ⟨mc,nsK h1,h2⟩⟩
    have e0:Env0 P w K mg (hidT s₁.heap H) callerA [] s₁ H:=⟨rfl,hM,fun b o e=>of_hidT e,Nat.le_of_eq (hidT_size _ _),trivial,fun b hb=>absurd (show b∈([]:List Addr) from hb) (by simp),hok,.of_eq hg⟩
    refine codeAny_mono ((F _ hKb (nsK hns)).run callerA [] s₁ H ⟨[.ref a],[]⟩ [.ref a] [.ref a] _ _ hr e0 (hbind s₁ (.ref a)) (.cons rfl .nil) (hsp H hO hS)) fun r s' h=>?_
    cases r with
    | error e=>exact (hCX H e s' h).elim
    | ok fl =>
      cases fl with
      | next=>exact False.elim h
      | brk=>exact False.elim h
      | cont=>exact False.elim h
      | ret u =>
        obtain ⟨v,H',os,bare,un,hok',r',q⟩:=h
        have q':v=.bl true:=q
        subst q'
        obtain rfl:u=Value.bool true:=r'
        refine ⟨rfl,OldK.of_keep fun b o e=>?_,os,bare⟩
        cases q:H b with
        | none=>exact un.keep b o e q (by intro z; exact absurd (show b∈([]:List Addr) from z) (by simp)) (by simp)
        | some u =>
          rcases hO b with z | ⟨ob,xs,z⟩
          · rw [q] at z; cases z
          · have z2:=un.frzs b ob _ z
            obtain ⟨e1,_⟩:=hok b _ z
            obtain ⟨e2,_⟩:=hok' b _ z2
            rw [e] at e1; cases e1
            exact e2
  cases hk:K.lookup a with
  | some o =>
    -- the script is one of the module's own objects
    have e:=KX a o hk
    rw [ha] at e
    cases e
    refine core (fun _=>none) (fun _=>.inl rfl) (.inr ⟨_,vs.toArray,_,hk,rfl,rfl,rfl,by rw [List.size_toArray,lenV]; exact hl,by simpa using rv⟩) (fun b u z=>by have z':(none:Option HO)=some u:=z; cases z') (fun b z=>absurd rfl z) fun z=>absurd rfl z
  | none =>
    refine core (fun b=>if b=a then some (.frz { cls:=.type "list",data:=.seq vs.toArray } (.lst (ns.map V.int))) else none) (fun b=>?_) (.inl (.inr ⟨{ cls:=.type "list",data:=.seq vs.toArray },if_pos rfl⟩)) (fun b u z=>?_) (fun b z=>?_) fun _=>hk
    · by_cases hb:b=a
      · exact .inr ⟨_,_,if_pos hb⟩
      · exact .inl (if_neg hb)
    · by_cases hb:b=a
      · have z':=(if_pos hb).symm.trans z
        cases z'
        subst hb
        exact ⟨ha,by rw [List.length_map]; exact hl,vs,_,rv,ha⟩
      · have z':=(if_neg hb).symm.trans z
        cases z'
    · by_cases hb:b=a
      · exact hb
      · exact absurd (if_neg hb) z
end L2

namespace L2
open PySem PySem.Spec PyProof.Rows

theorem walk_of {l:PySem.W.OpenLaw} {n k:Nat} {q:Program} {loose:List Str} {XP:(Str→Option Value)→Heap→Prop} {YP:World→Heap→Prop} {d:DefRec} {K:Params→PySem.W.Frag} {CX:World→CXT} {sp:World→Sp} {x:Str}
    (hn:l.most=some n) (hn2:n≤sizeLine) (hdf:d.params.defaults=[]) (hr:Room k callerA)
    (hY:∀ (w:World) (h:Heap),YP w h→(K w.params).In h)
    (F:∀ (w:World) (mg:Str→Option Value) (fa:Addr) (h:Heap),(K w.params).In h→h.Ns mainGlobals mg→mg d.name=some (.ref fa) →
      ∃ fd:FuncData,(∀ (s:Shared) (u:Value),BindsTo s fd ⟨[u],[]⟩ [(x,u)]) ∧
        ∀ base:Heap,(K w.params).In base→base.Ns mainGlobals mg→FnOk l.prog w (K w.params) mg base (CX w) k fa fd [x] (sp w))
    (hsp:∀ (w:World) (H:Hp) (a:Addr) (ns:List Int),ns.length≤n→Only H→SqL (K w.params) H a (ns.map V.int)→sp w [.ref a] H (fun v _=>v=.bl true) fun _ _ _=>False)
    (hCX:∀ (w:World) (H:Hp) (s:Shared) (e:Value) (s':Shared),CX w [] H s (fun _ _ _=>False) e s'→False) :
    PySem.W.WalkO q loose XP YP l.row.toRowW d [] (fun f vs=>PySem.call f vs):=by
  refine Att.attach_call hn hdf fun w s₀ s₁ mg mb fa o pm cd doc a vs ns G Y ho hd hcd hmg hobj hints hlen hg=>?_
  have KX:=hY w _ Y
  obtain ⟨fd,hb,hF⟩:=F w mg fa _ KX G.T.g hmg
  exact law_call KX G.T.g G.T.b G.T.builtins G.T.nolimit hg hobj hints (Nat.le_trans hlen hn2) hr hF hb (fun H hO hS=>hsp w H a ns hlen hO hS) fun H e s'=>hCX w H s₁ e s'
end L2


namespace L2
open PySem PySem.Spec PyProof.Rows

noncomputable def defArgs (s:Stmt):Arguments:=match s with
  | .FunctionDef _ a _ _ _ _ _ _ _ _=>a
  | _=>{ posonlyargs:=[],args:=[],vararg:=none,kwonlyargs:=[],kw_defaults:=[],kwarg:=none,defaults:=[] }
noncomputable def defBody (s:Stmt):List Stmt:=match s with
  | .FunctionDef _ _ b _ _ _ _ _ _ _=>b
  | _=>[]
noncomputable def defScope (s:Stmt):Scope:=match s with
  | .FunctionDef _ _ _ _ _ _ sc _ _ _=>sc
  | _=>{ kind:=.function,names:=[],isGenerator:=false,isCoroutine:=false }

noncomputable abbrev CX0:CXT:=fun _ _ _ _ _ _=>False
noncomputable abbrev E0:XK:=fun _ _ _=>False
theorem pass0 {X:Cx}:Passes CX0 X E0:=fun _ _ _ _ _ _ _ h=>h.elim

structure Fun (K:PySem.W.Frag) (x qual:Str) (st:Stmt) (f:Addr) (fd:FuncData):Prop where
  ex:∃ (oc:Value) (od:Option Addr) (kV doc pm:Value) (an:Option Addr) (cdv ct:Value) (osl:Array (Option Value)),
    fd=PySem.W.fnOf x qual (defArgs st) (defBody st) (defScope st) .none kV doc pm an cdv ct∧K.lookup f=some ⟨oc,od,.func fd,osl⟩∧PySem.W.codeIn K cdv qual=true
  kp:PySem.W.keepIn K (.ref f)=true
section
variable {P:Program} {w:World} {K:PySem.W.Frag} {mg:Str→Option Value} {base:Heap}
theorem Fun.ok {x qual:Str} {st:Stmt} {f:Addr} {fd:FuncData} {N ps:List Str} {k:Nat} {sp:Sp} (F:Fun K x qual st f fd) (S:FnScope N ps (defScope st)) (len:∀ vs H Q E,sp vs H Q E→vs.length=ps.length)
    (hbody:∀ (cdv:Value) (A:Around) (outer:List Env) (s:Shared) (H:Hp) (vs:List V) (Q:VK) (E:XK),Room k (A.deeper (envOfC qual (defScope st) s.heap.objs.size f cdv))→sp vs H Q E →
      ∃ t,PSs (cxOf CX0 P w K mg base N qual (defScope st) f cdv A outer s H E).nox (defBody st) t∧t { nx:=fun _ H'=>Q .non H',rt:=Q } (start N vs) H):FnOk P w K mg base CX0 (k+1) f fd ps sp:=by
  obtain ⟨oc,od,kV,doc,pm,an,cdv,ct,osl,rfl,lk,hcd⟩:=F.ex
  refine fn_of lk hcd S len fun A outer s H vs Q E hr hsp=>?_
  obtain ⟨t,h,q⟩:=hbody cdv A outer s H vs Q E hr hsp
  exact ⟨t,h.nox,q⟩
theorem Fun.binds {x qual:Str} {st:Stmt} {f:Addr} {fd:FuncData} {ps:List Str} (F:Fun K x qual st f fd)
    (h:∀ (kV doc pm:Value) (an:Option Addr) (cdv ct:Value) (us:List Value),us.length=ps.length→bindArgs (PySem.W.fnOf x qual (defArgs st) (defBody st) (defScope st) .none kV doc pm an cdv ct) ⟨us,[]⟩=pure (ps.zip us)):Binds K fd ps []:=by
  obtain ⟨oc,od,kV,doc,pm,an,cdv,ct,osl,rfl,lk,hcd⟩:=F.ex
  exact .all (h kV doc pm an cdv ct)
theorem fun_mk {x qual:Str} {st:Stmt} {f:Addr} {oc:Value} {od an:Option Addr} {osl:Array (Option Value)} {kV doc pm cdv ct:Value} (l:K.lookup f=some ⟨oc,od,.func (PySem.W.fnOf x qual (defArgs st) (defBody st) (defScope st) .none kV doc pm an cdv ct),osl⟩)
    (c:PySem.W.codeIn K cdv qual=true) (k:PySem.W.keepIn K (.ref f)=true):Fun K x qual st f (PySem.W.fnOf x qual (defArgs st) (defBody st) (defScope st) .none kV doc pm an cdv ct):=⟨⟨oc,od,kV,doc,pm,an,cdv,ct,osl,rfl,l,c⟩,k⟩
end
section
variable {X:Cx}
theorem pv (i:Nat) {x:Str} {pos:Pos} (hN:X.N[i]? = some x:=by rfl) (hv:Vis X.env.scope x:=by first | exact Or.inl rfl | exact Or.inr (Or.inl rfl) | exact Or.inr (Or.inr rfl)) (hd:(x == ("__debug__" : Str))=false:=by decide)
    (hcd:(x == ("__classdict__" : Str))=false:=by decide):PE X (.Name x pos) (tVar i):=pe_var hN hv hd hcd
theorem call_lenD:CallR X (.builtin "len") (fun xs H Q=>∃ a kvs,xs=[V.ref a]∧H a=some (.dK kvs)∧Q (.int kvs.length) H):=by
  intro pins s σ H xs us Q I r h
  obtain ⟨a,kvs,rfl,ha,q⟩:=h
  obtain ⟨u,rfl,ru⟩:=vals1 r
  cases ru
  exact d_len I (.inl ha) fun t s' I'=>⟨.int kvs.length,H,I',⟨t,rfl⟩,q⟩
end

noncomputable def Same (H H':Hp):Prop:=∀ b o,H b=some o→H' b=some o
theorem Same.refl (H:Hp):Same H H:=fun _ _ h=>h
theorem Same.trans {H H1 H2:Hp} (a:Same H H1) (b:Same H1 H2):Same H H2:=fun c o h=>b c o (a c o h)
theorem Same.free {H H':Hp} (e:Same H H') {l:Addr} (h:H' l=Option.none):H l=Option.none:=by
  cases q:H l with
  | none=>rfl
  | some o =>
    rw [e l o q] at h
    cases h
theorem Same.seq {K:PySem.W.Frag} {H H':Hp} {a:Addr} {xs:List V} (e:Same H H') (h:SqL K H a xs):SqL K H' a xs:=by
  rcases h with (h | ⟨o,h⟩) | h
  · exact .inl (.inl (e _ _ h))
  · exact .inl (.inr ⟨o,e _ _ h⟩)
  · exact .inr h

section
variable {κ:Type} [DecidableEq κ]
end
end L2

set_option Elab.async false
set_option linter.all false
set_option maxRecDepth 100000
set_option maxHeartbeats 4000000

namespace L2
open PySem PySem.Spec PyProof.Rows

noncomputable def clOf (env:Env):List (Str × NameKind)→List (Str × Addr)→List (Str × Addr)
  | [],cs=>cs
  | (n,k) :: r,cs=>clOf env r (if k == NameKind.free then (n,(env.cells.lookup n).getD 0) :: cs else cs)

theorem eG (env:Env):∀ (names:List (Str × NameKind)) (cs:List (Str × Addr)),(∀ y∈names,y.2=.free→∃ c,env.cells.lookup y.1=some c) →
    (forIn names cs fun x r=>match x with
      | (name,kind)=>if (kind == NameKind.free)=true then do let a ← cellOf env name; pure (ForInStep.yield ((name,a) :: r)) else pure (ForInStep.yield r):Sem (List (Str × Addr)))=pure (clOf env names cs)
  | [],cs,_=>rfl
  | (n,k) :: r,cs,h=>by
    rw [List.forIn_cons]
    have ih:=eG env r
    by_cases hk:k=.free
    · subst hk
      obtain ⟨c,e⟩:=h (n,.free) List.mem_cons_self rfl
      have e:env.cells.lookup n=some c:=e
      have e2:cellOf env n=pure c:=by unfold cellOf; rw [e]
      have e3:clOf env ((n,.free) :: r) cs=clOf env r ((n,c) :: cs):=by
        show clOf env r (if (NameKind.free == NameKind.free)=true then (n,(env.cells.lookup n).getD 0) :: cs else cs)=_
        rw [e]; rfl
      rw [e3,← ih ((n,c) :: cs) fun y hy=>h y (List.mem_cons_of_mem _ hy)]
      simp only [beq_self_eq_true,if_true,e2]
      rfl
    · have hb:(k == NameKind.free)=false:=by simpa using hk
      have e3:clOf env ((n,k) :: r) cs=clOf env r cs:=by
        show clOf env r (if (k == NameKind.free)=true then _ else cs)=_
        rw [hb]; rfl
      rw [e3,← ih cs fun y hy=>h y (List.mem_cons_of_mem _ hy)]
      simp only [hb,Bool.false_eq_true,if_false]
      rfl
theorem lD {scope:Scope} {env:Env} (h:∀ y∈scope.names,y.2=.free→∃ c,env.cells.lookup y.1=some c):closureFor scope env=pure (clOf env scope.names []):=by
  have:=eG env scope.names [] h
  unfold closureFor
  rw [← bind_pure (forIn scope.names [] _)] at this
  exact this

theorem j_ {env:Env} {x:Str} {c:Addr}:∀ {names:List (Str × NameKind)} {cs:List (Str × Addr)},(∀ y∈names,y.2=.free→∃ c,env.cells.lookup y.1=some c)→(∀ y d,cs.lookup y=some d→env.cells.lookup y=some d) →
    (clOf env names cs).lookup x=some c→env.cells.lookup x=some c
  | [],cs,_,h,e=>h x c e
  | (n,k) :: r,cs,hf,h,e=>by
    refine j_ (names:=r) (fun y hy=>hf y (List.mem_cons_of_mem _ hy)) ?_ e
    intro y d hd
    by_cases hk:k=.free
    · subst hk
      obtain ⟨c',e'⟩:=hf (n,.free) List.mem_cons_self rfl
      have e':env.cells.lookup n=some c':=e'
      simp only [beq_self_eq_true,if_true,e',Option.getD_some,List.lookup_cons] at hd
      cases hb:y == n with
      | true=>rw [hb] at hd; have:y=n:=eq_of_beq hb; subst this; rw [e']; exact hd
      | false=>rw [hb] at hd; exact h y d hd
    · have hb:(k == NameKind.free)=false:=by simpa using hk
      simp only [hb,Bool.false_eq_true,if_false] at hd
      exact h y d hd
theorem iT {env:Env} {x:Str}:∀ {names:List (Str × NameKind)} {cs:List (Str × Addr)},((x,NameKind.free)∈names∨∃ c,cs.lookup x=some c)→∃ c,(clOf env names cs).lookup x=some c
  | [],cs,h=>by
    rcases h with h | h
    · exact nomatch h
    · exact h
  | (n,k) :: r,cs,h=>by
    refine iT (names:=r) ?_
    rcases h with h | ⟨c,h⟩
    · rcases List.mem_cons.mp h with e | h
      · cases e
        refine .inr ⟨(env.cells.lookup x).getD 0,?_⟩
        simp only [beq_self_eq_true,if_true,List.lookup_cons]
      · exact .inl h
    · refine .inr ?_
      by_cases hk:(k == NameKind.free)=true
      · simp only [hk,if_true,List.lookup_cons]
        cases hb:x == n with
        | true=>exact ⟨_,rfl⟩
        | false=>exact ⟨c,h⟩
      · simp only [hk,if_false]
        exact ⟨c,h⟩

noncomputable def bR (X:Cx) (scope:Scope) (C:Addr) (N:List Str) (fp:List Addr) (s₃:Shared) (H₃:Hp):Cx :=
  { X with N:=N,s₀:=s₃,H₀:=H₃,env:=compEnvC scope (clOf X.env scope.names []) C X.env,outer:=X.stack,stack:=X.stack,ex:=fp,fn:=fun _=>false,pn:=[],xe:=fun _ _=>False }

noncomputable def PTs (X:Cx) (ifs:List Expr) (t:TT):Prop :=
  ∀ (pins:List (Addr × Obj)) (s:Shared) (σ:St) (H:Hp) (Q:Bool→Hp→Prop),Inv X pins σ H s→t σ H Q →
    wpAny (model X.prog X.w) X.A (forIn ifs true fun c r=>if r=true then do let ok ← isTrue c X.env (eval c X.env); pure (ForInStep.yield ok) else pure (ForInStep.yield r)) (TP X pins σ Q) X.xe s
noncomputable def tYes:TT:=fun _ H Q=>Q true H
theorem vQ {X:Cx}:PTs X [] tYes:=fun _ _ _ H _ I h=>wpAny_tests_nil ⟨H,I,h⟩
theorem xW {X:Cx} {c:Expr} {t:TT} (h:PT X c t):PTs X [c] t:=fun pins s σ H Q I hw=>wpAny_tests_one (h pins s σ H Q I hw)

theorem dJ {prog:Program} {w:World} {A:Around} {R:Result→Shared→Prop} {s:Shared} {elt target iter:Expr} {ifs:List Expr} {scope:Scope} {pos:Pos} {it acc:Value} {env:Env} (I:Nat→Shared→Prop) (E:Value→Shared→Prop)
    (turn:∀ n s,I n s→wpAny (model prog w) A (pyNext it) (fun r s₁=>match r with
      | none=>R (.ok .next) s₁
      | some v=>wpAny (model prog w) A (letOwnedTupleGo target it v) (fun _ s₀=>wpAny (model prog w) A (assign target env v) (fun _ s₂ =>
          wpAny (model prog w) A (forIn ifs true fun c r=>if r=true then do let ok ← isTrue c env (eval c env); pure (ForInStep.yield ok) else pure (ForInStep.yield r)) (fun ok s₃ =>
            if ok=true then wpAny (model prog w) A (eval elt env) (fun x s₄ =>
              wpAny (model prog w) A (call (.builtin "list.append") [acc,x]) (fun _ s₅=>∃ m,m<n∧I m s₅) E s₄) E s₃
            else ∃ m,m<n∧I m s₃) E s₂) E s₀) E s₁) E s)
    (hE:∀ e s',E e s'→notedBy (model prog w) A env (fun e s'=>R (.error e) s') e s')
    (n:Nat) (h:I n s) :
    codeAny (model prog w) A (.compLoop (.ListComp elt [⟨target,iter,ifs,0⟩] scope pos) 0 it acc env) R s:=by
  refine codeAny_loop rfl I (fun n s hI=>?_) n h
  show wpAny _ A ((compTurn (.ListComp elt [⟨target,iter,ifs,0⟩] scope pos) 0 it acc env).onRaise (fun x=>do noteFrame x env; theTreesLotGoes x)) _ _ s
  refine wpAny_noted ?_
  rw [compTurn_list]
  refine wpAny_mono (Q:=_) (E:=E) ?_ (fun _ _ q=>q) hE
  refine wpAny_bind (wpAny_standAt (wpAny_bind (wpAny_mono (turn n s hI) (fun r s₁ h₁=>?_) fun _ _ h'=>h')))
  cases r with
  | none=>exact wpAny_pure h₁
  | some v =>
    refine wpAny_bind (wpAny_mono h₁ (fun _ s₀ h₀=>?_) fun _ _ h'=>h')
    refine wpAny_bind (wpAny_mono h₀ (fun _ s₂ h₂=>wpAny_bind (wpAny_mono h₂ (fun ok s₃ h₃=>?_) fun _ _ h'=>h')) fun _ _ h'=>h')
    cases ok with
    | false=>exact wpAny_pure ⟨rfl,h₃⟩
    | true =>
      exact wpAny_bind (wpAny_bind (wpAny_mono h₃ (fun x s₄ h₄=>wpAny_bind (wpAny_mono h₄ (fun _ s₅ h₅=>wpAny_pure (wpAny_pure ⟨rfl,h₅⟩)) fun _ _ h'=>h')) fun _ _ h'=>h'))

noncomputable def j4 (tn:Nat) (ix:List Nat) (σ:St):St:=List.replicate tn none++ix.map fun j=>(σ[j]?).join
noncomputable def uU (wi:TI) (g:TG) (tc:TT) (te:TE) (tn:Nat) (ix:List Nat):TE:=fun σ H Q=>wi σ H fun J H1=>∀ D,H1 D=none →
  ∃ W:Nat→Nat→St→Hp→Prop,(∃ m,W 0 m (j4 tn ix σ) (upd H1 D (.lst [])))∧∀ i m τ H,W i m τ H →
    (J.stop i H∧Q (.ref D) H)∨(J.go i H∧∃ (N1:St→V→Hp→Prop) (N2:St→Hp→Prop),
      (∀ τ2 v H4,N1 τ2 v H4→∃ ys m',H4 D=some (.lst ys)∧ys.length<sizeLine∧m'<m∧W (i+1) m' τ2 (upd H4 D (.lst (ys++[v])))) ∧
      (∀ τ2 H3,N2 τ2 H3→∃ m',m'<m∧W (i+1) m' τ2 H3) ∧
      ∀ x H',J.yld i H x H'→g x τ H' fun τ2 H2=>tc τ2 H2 fun b H3=>if b=true then te τ2 H3 (N1 τ2) else N2 τ2 H3)

section
variable {X:Cx} {tg iter elt:Expr} {ifs:List Expr} {scope:Scope} {pos:Pos} {wi:TI} {g:TG} {tc:TT} {te:TE} {tn cn:List Str} {ix:List Nat}

structure eQ (X:Cx) (scope:Scope) (tn cn:List Str) (ix:List Nat):Prop where
  kind:scope.kind=.function
  nocell:∀ y∈scope.names,y.2≠.cell
  free:∀ y∈scope.names,y.2=.free→X.env.scope.names.lookup y.1=some .cell∨X.env.scope.names.lookup y.1=some .free
  names:∀ y∈scope.names,y.2=.local→scope.names.lookup y.1=some .local
  len:ix.length=cn.length
  cap:∀ (k j:Nat),ix[k]? = some j→∃ y,cn[k]? = some y∧X.N[j]? = some y∧(X.env.scope.names.lookup y=some .cell∨X.env.scope.names.lookup y=some .free)∧(y,NameKind.free)∈scope.names ∧
    ((relabel scope X.env).names.lookup y=some .cell∨(relabel scope X.env).names.lookup y=some .free)
  all:∀ x,(relabel scope X.env).names.lookup x=some .cell∨(relabel scope X.env).names.lookup x=some .free→(x,NameKind.free)∈scope.names

theorem ud {pins:List (Addr × Obj)} {σ:St} {H:Hp} {s:Shared} {fp:List Addr} {C:Addr} (O:eQ X scope tn cn ix) (I:Inv X pins σ H s) (hf:∀ b∈fp,FpOk X pins H b) (hfs:∀ b∈fp,b<s.heap.objs.size) (hC:s.heap.objs.size≤C) :
    (bR X scope C (tn++cn) fp s H).Ok:=by
  have hcl:∀ y∈scope.names,y.2=.free→∃ c,X.env.cells.lookup y.1=some c:=fun y hy hk=>I.ok.has y.1 (O.free y hy hk)
  have sub:∀ x c,(clOf X.env scope.names []).lookup x=some c→X.env.cells.lookup x=some c:=fun x c e=>j_ hcl (fun y d h=>by simp at h) e
  refine ⟨I.ok.mod,O.kind,I.ok.glob,I.ok.blt,hC,fun x y c h1 h2=>I.ok.inj x y c (sub x c h1) (sub y c h2),fun x hx=>iT (.inl (O.all x hx)),(fun x c h _=>nomatch h),I.ok.hd,I.ok.frames,.inl rfl,fun b hb=>⟨?_,fun x c e=>?_⟩,
    I.bs,Nat.le_trans I.ok.bsz I.sz,fun b o e hb=>?_,fun b hb=>?_,I.stack,I.stkFree⟩
  · exact Nat.ne_of_lt (Nat.lt_of_lt_of_le (hfs b hb) hC)
  · exact (hf b hb).2.2.2.2.1 x c (sub x c e)
  · rcases (hf b hb).2.2.2.1 with z | z
    · exact I.ok.noex b o e z
    · exact absurd (Nat.lt_of_lt_of_le (Heap.lt_size e) (Nat.le_trans I.ok.bsz z)) (Nat.lt_irrefl _)
  · intro hz
    rcases List.mem_cons.mp (I.stkSub b hz) with e | e
    · exact (hf b hb).2.1 e
    · exact (hf b hb).2.2.1 e

theorem uJ {pos1:Pos} {use:Option (Value→Sem Unit)} {P:Value→Shared→Prop} (hc:X.calm=true) (hi:PI X tg iter wi) (O:eQ X scope tn cn ix)
    (hg:∀ C fp s₃ H₃,PG (bR X scope C (tn++cn) fp s₃ H₃) tg g) (hcs:∀ C fp s₃ H₃,PTs (bR X scope C (tn++cn) fp s₃ H₃) ifs tc) (he:∀ C fp s₃ H₃,PE (bR X scope C (tn++cn) fp s₃ H₃) elt te)
    (hs:∀ x,foldedSetIterable iter X.env x=pure x) {pins:List (Addr × Obj)} {s:Shared} {σ:St} {H:Hp} {Q:V→Hp→Prop} (I:Inv X pins σ H s) (h:uU wi g tc te tn.length ix σ H Q)
    (fin:∀ (C D:Addr) (m:Str→Option Value) (H5:Hp) (s6:Shared) (r:Flow),Inv X pins σ H5 s6→s6.heap.Ns C m→H5 C=none→FpOk X pins H5 C→Q (.ref D) H5→compPost (model X.prog X.w) X.A X.xe use P (.ref D) C (.ok r) s6) :
    wpAny (model X.prog X.w) X.A (comprehension (.ListComp elt [⟨tg,iter,ifs,0⟩] scope pos) scope X.env pos1 (newList []) false (eval iter X.env) use) P X.xe s:=by
  have hcl:∀ y∈scope.names,y.2=.free→∃ c,X.env.cells.lookup y.1=some c:=fun y hy hk=>I.ok.has y.1 (O.free y hy hk)
  have sub:∀ x c,(clOf X.env scope.names []).lookup x=some c→X.env.cells.lookup x=some c:=fun x c e=>j_ hcl (fun y d h=>by simp at h) e
  refine wpAny_comprehension_free (use:=use) rfl hs (lD hcl) O.kind O.names (thn (hi pins s σ H _ I h) fun v s1 h1=>thn h1 fun itv s2 h2=>?_)
  obtain ⟨it,fp,tnn,J,H2,e,I2,T,st2,f2,h2⟩:=h2
  subst e
  obtain ⟨W,⟨m0,w0⟩,turn⟩:=h2 s2.heap.objs.size (I2.hok.fresh (Nat.le_refl _))
  refine wpAny_newObj_type ?_
  have I3:Inv X pins σ (upd H2 s2.heap.objs.size (.lst [])) { s2 with heap:=s2.heap.push { cls:=.type "list",data:=.seq ([]:List Value).toArray } }:=I2.lnew (its:=[]) (t':=s2.toks) .nil (Nat.zero_le _)
  generalize hD:s2.heap.objs.size=D at *
  generalize hs3:({ s2 with heap:=s2.heap.push { cls:=.type "list",data:=.seq ([]:List Value).toArray } }:Shared)=s3 at *
  have k23:∀ b o,s2.heap.get? b=some o→s3.heap.get? b=some o:=fun b o e=>by rw [← hs3]; exact Heap.get?_push_of_some _ e
  have sz3:s3.heap.objs.size=D+1:=by rw [← hs3,← hD]; exact Heap.size_push ..
  have f3:∀ b∈fp,FpOk X pins (upd H2 D (.lst [])) b:=fun b hb=>by
    obtain ⟨f0,fr⟩:=f2 b hb
    obtain ⟨o,ho,_⟩:=T.obj _ _ st2 b hb
    refine ⟨?_,fr⟩
    rw [upd_ne (Nat.ne_of_lt (by rw [← hD]; exact Heap.lt_size ho))]
    exact f0
  have st3:tnn 0 s3.heap:=T.keep _ _ _ st2 fun b hb o e=>k23 b o e
  have lt3:∀ b∈fp,b<s3.heap.objs.size:=fun b hb=>by
    obtain ⟨o,ho,_⟩:=T.obj _ _ st3 b hb
    exact Heap.lt_size ho
  refine wpAny_newFunctionEnv O.nocell (by intro y hy; simp at hy) (fun h₁ hns₁ hsb₁=>?_) O.kind
  have k34:∀ b o,s3.heap.get? b=some o→h₁.get? b=some o:=fun b o e=>hsb₁.extBut b o (Nat.ne_of_lt (Heap.lt_size e)) (Heap.get?_push_of_some _ e)
  -- the block's context
  have ok':=ud (C:=s3.heap.objs.size) O I3 f3 lt3 (Nat.le_refl _)
  have I4:Inv (bR X scope s3.heap.objs.size (tn++cn) fp s3 (upd H2 D (.lst []))) [] (j4 tn.length ix σ) (upd H2 D (.lst [])) { s3 with heap:=h₁,toks:=s3.toks+([]:List (Str × Value)).length }:=by
    refine ⟨ok',rfl,I3.bare,Un.kept k34,⟨_,hns₁,fun i x v e1 e2 e3=>?_⟩,fun x c e=>?_,I3.hok.fresh (Nat.le_refl _),fun x c e=>I3.freeC x c (sub x c e),fun p hp=>absurd hp (by simp [bR]),I3.hok.kept k34,?_⟩
    · have hi':tn.length≤i:=by
        by_cases q:i<tn.length
        · unfold j4 at e2
          rw [List.getElem?_append_left (by simpa using q),List.getElem?_replicate] at e2
          simp [q] at e2
        · walk_at "l"
      unfold j4 at e2
      rw [List.getElem?_append_right (by simpa using hi'),List.length_replicate,List.getElem?_map] at e2
      have e1:(tn++cn)[i]? = some x:=e1
      rw [List.getElem?_append_right hi'] at e1
      cases q:ix[i - tn.length]? with
      | none=>rw [q] at e2; cases e2
      | some j =>
        rw [q] at e2
        obtain ⟨y,c1,c2,c3,c4,c5⟩:=O.cap _ _ q
        rw [c1] at e1; cases e1
        have e2:σ[j]?.join=some v:=Option.some.inj e2
        have ej:σ[j]? = some (some v):=by
          cases z:σ[j]? with
          | none=>rw [z] at e2; cases e2
          | some o=>rw [z] at e2; exact congrArg some e2
        obtain ⟨m,hn,hl⟩:=I3.loc
        obtain ⟨u,r,l⟩:=hl j x v c2 ej (c3.elim (fun z=>.inr (.inl z)) fun z=>.inr (.inr z))
        refine ⟨u,r,.inr ⟨c5,?_⟩⟩
        rcases l with ⟨hk,_⟩ | ⟨hk,c,hcc,hce⟩
        · have hk:X.env.scope.names.lookup x=some .local:=hk
          rcases c3 with z | z
          · rw [z] at hk; cases hk
          · rw [z] at hk; cases hk
        · obtain ⟨c',hc'⟩:=iT (env:=X.env) (cs:=[]) (Or.inl c4)
          have:=sub x c' hc'
          rw [hcc] at this; cases this
          obtain ⟨o,ho,hd⟩:=hce
          exact ⟨c,hc',o,k34 _ _ ho,hd⟩
    · obtain ⟨v,o,ho,hd⟩:=I3.cell x c (sub x c e)
      exact ⟨v,o,k34 _ _ ho,hd⟩
    · show (j4 tn.length ix σ).length=(tn++cn).length
      unfold j4
      simp [O.len]
  -- from the block back to the body
  have back:∀ {τ:St} {H':Hp} {s':Shared},Inv (bR X scope s3.heap.objs.size (tn++cn) fp s3 (upd H2 D (.lst []))) [] τ H' s'→Inv X pins σ H' s':=fun {τ H' s'} I' =>
    Inv.call' (ch:=fp) I3 I'.os I'.base I'.hok I'.bare fun b hb=>by
      obtain ⟨_,f1,_,f3',f4,f5⟩:=f3 b hb
      exact ⟨f3',f1,f4,f5⟩
  have fpC:∀ {H':Hp},(∀ b∈fp,H' b=none)→∀ b∈fp,FpOk (bR X scope s3.heap.objs.size (tn++cn) fp s3 (upd H2 D (.lst []))) [] H' b:=fun hn b hb =>
    ⟨hn b hb,(ok'.exf b hb).1,ok'.exfs b hb,.inl hb,(ok'.exf b hb).2,fun p hp=>absurd hp (by simp [bR])⟩
  have loop:∀ s4:Shared,Inv (bR X scope s3.heap.objs.size (tn++cn) fp s3 (upd H2 D (.lst []))) [] (j4 tn.length ix σ) (upd H2 D (.lst [])) s4→tnn 0 s4.heap →
      codeAny (model X.prog X.w) X.A (.compLoop (.ListComp elt [⟨tg,iter,ifs,0⟩] scope pos) 0 (.ref it) (.ref D) (compEnvC scope (clOf X.env scope.names []) s3.heap.objs.size X.env))
        (compPost (model X.prog X.w) X.A X.xe use P (.ref D) s3.heap.objs.size) s4:=by
    intro s4 I4 st4
    refine dJ (fun n s'=>∃ i τ H',Inv (bR X scope s3.heap.objs.size (tn++cn) fp s3 (upd H2 D (.lst []))) [] τ H' s'∧tnn i s'.heap∧(∀ b∈fp,H' b=none)∧W i n τ H') (fun _ _=>False) ?_ (fun _ _ z=>z.elim) m0
      ⟨0,_,_,I4,st4,fun b hb=>(f3 b hb).1,w0⟩
    rintro n s5 ⟨i,τ,H5,I5,st5,fr5,w5⟩
    rcases turn i n τ H5 w5 with ⟨stop,qn⟩ | ⟨go,N1,N2,hN1,hN2,step⟩
    · refine thn (T.done (bR X scope s3.heap.objs.size (tn++cn) fp s3 (upd H2 D (.lst []))) rfl rfl rfl hc i [] s5 τ H5 (fun _ _=>False) I5 (fpC fr5) st5 stop) fun r s6 hx9=>?_
      obtain ⟨hr,I6⟩:=hx9
      subst hr
      have J6:=back I6
      obtain ⟨m,hn,_⟩:=I6.loc
      exact fin _ D m H5 s6 _ J6 hn I6.free (I3.fpOk (b:=s3.heap.objs.size) (H':=H5) (Nat.le_refl _) I6.free) qn
    · refine thn (T.item (bR X scope s3.heap.objs.size (tn++cn) fp s3 (upd H2 D (.lst []))) rfl rfl rfl hc i [] s5 τ H5 (fun _ _=>False) I5 (fpC fr5) st5 go) fun r s6 hx9=>?_
      obtain ⟨u,hr,h6⟩:=hx9
      subst hr
      refine thn h6 fun _ s7 hx9=>?_
      obtain ⟨x,H7,I7,r7,y7,st7,fr7⟩:=hx9
      have I7':=I7.pinned (fpC fr7) (T.obj _ _ st7)
      refine thn (hg _ _ _ _ _ s7 τ H7 x u _ I7' r7 (step x H7 y7)) fun _ s8 hx9=>?_
      obtain ⟨τ8,H8,I8,q8⟩:=hx9
      refine thn (hcs _ _ _ _ _ s8 τ8 H8 _ I8 q8) fun ok s9 hx9=>?_
      obtain ⟨H9,I9,q9⟩:=hx9
      have again:∀ {s':Shared} {H':Hp} {m':Nat},Inv (bR X scope s3.heap.objs.size (tn++cn) fp s3 (upd H2 D (.lst []))) ([]++pinsAt fp s7.heap) τ8 H' s'→m'<n→W (i+1) m' τ8 H' →
          ∃ m,m<n∧∃ i τ H',Inv (bR X scope s3.heap.objs.size (tn++cn) fp s3 (upd H2 D (.lst []))) [] τ H' s'∧tnn i s'.heap∧(∀ b∈fp,H' b=none)∧W i m τ H':=fun {s' H' m'} J hm w'=>by
        refine ⟨m',hm,i+1,τ8,H',J.unpinned,T.keep _ _ _ st7 fun b hb o e=>(J.pin (b,o) (List.mem_append_right _ (List.mem_append_right _ (mem_pinsAt hb e)))).1,fun b hb=>?_,w'⟩
        obtain ⟨o,e,d⟩:=T.obj _ _ st7 b hb
        exact (J.pin (b,o) (List.mem_append_right _ (List.mem_append_right _ (mem_pinsAt hb e)))).2.1
      cases ok with
      | false =>
        rw [if_neg Bool.false_ne_true] at q9 ⊢
        obtain ⟨m',hm,w'⟩:=hN2 _ _ q9
        exact again I9 hm w'
      | true =>
        rw [if_pos rfl] at q9 ⊢
        refine thn (he _ _ _ _ _ s9 τ8 H9 _ I9 q9) fun x9 s10 hx5=>L2.ex2 hx5 fun v10 H10 I10 r10 q10=>?_
        obtain ⟨ys,m',hH,hz,hm,w'⟩:=hN1 _ _ _ q10
        refine thn (mt_append _ s10 τ8 H10 (.ref D) [v10] (.ref D) [x9] (fun _ H'=>H'=upd H10 D (.lst (ys++[v10]))) I10 rfl (.cons r10 .nil) ⟨D,ys,v10,rfl,rfl,hH,hz,rfl⟩) fun _ s11 hx5=>L2.ex2 hx5 fun _ H11 I11 _ q11=>?_
        subst q11
        exact again I11 hm w'
  exact codeAny_compStart_list (loop _ I4 (T.keep _ _ _ st3 fun b hb o e=>k34 b o e)) (T.self _ 0 _ _ _ (T.keep _ _ _ st3 fun b hb o e=>k34 b o e) (loop _ I4 (T.keep _ _ _ st3 fun b hb o e=>k34 b o e)))
theorem wu (hc:X.calm=true) (hi:PI X tg iter wi) (O:eQ X scope tn cn ix)
    (hg:∀ C fp s₃ H₃,PG (bR X scope C (tn++cn) fp s₃ H₃) tg g) (hcs:∀ C fp s₃ H₃,PTs (bR X scope C (tn++cn) fp s₃ H₃) ifs tc) (he:∀ C fp s₃ H₃,PE (bR X scope C (tn++cn) fp s₃ H₃) elt te)
    (hs:∀ x,foldedSetIterable iter X.env x=pure x:=by intro _; rfl):PE X (.ListComp elt [⟨tg,iter,ifs,0⟩] scope pos) (uU wi g tc te tn.length ix):=by
  intro pins s σ H Q I h
  rw [eval_ListComp]
  refine uJ (use:=none) (P:=EP X pins σ Q) hc hi O hg hcs he hs I h fun C D m H5 s6 r J6 hn hf ⟨_,g1,_,g3,g4,g5⟩ qn=>⟨m,hn,fun h' hsb=>⟨.ref D,H5,?_,rfl,qn⟩⟩
  exact J6.turned (t':=s6.toks) (fun b o hb e=>hsb.extBut b o hb e) hf g1 g3 g4 g5
end
end L2

set_option Elab.async false
set_option linter.all false
set_option maxRecDepth 100000
set_option maxHeartbeats 4000000

namespace L2
open PySem PySem.Spec PyProof.Rows
section
variable {X:Cx} {tg iter elt:Expr} {ifs:List Expr} {scope:Scope} {pos:Pos} {wi:TI} {g:TG} {tc:TT} {te:TE} {tn cn:List Str} {ix:List Nat}
end
end L2

set_option Elab.async false
set_option linter.all false
set_option maxRecDepth 100000
set_option maxHeartbeats 4000000

namespace L2
open PySem PySem.Spec PyProof.Rows

noncomputable def isiT (a b:String):Bool:=a == b || (a == "bool" && b == "int")
noncomputable def okTy (b:String):Bool:=["str", "int", "bool", "list", "tuple", "dict"].contains b
theorem gf (K:PySem.W.Frag) (a b:String) (ha:a∈["NoneType", "bool", "int", "str", "list", "tuple", "dict"]) (hb:b∈["str", "int", "bool", "list", "tuple", "dict"]):PySem.W.kitOne K (.type a) (.type b)=some (isiT a b):=by
  simp only [List.mem_cons,List.not_mem_nil,or_false] at ha hb
  rcases ha with rfl | rfl | rfl | rfl | rfl | rfl | rfl <;> rcases hb with rfl | rfl | rfl | rfl | rfl | rfl <;> kernel_rfl
section
variable {X:Cx}
theorem OpR.imp {f:Value→Value→Sem Value} {r r':R2} (h:OpR X f r) (hi:∀ x y H Q,r' x y H Q→r x y H Q):OpR X f r' :=
  fun pins s σ H x y v u Q I rx ry q=>h pins s σ H x y v u Q I rx ry (hi x y H Q q)
noncomputable def Be (K:PySem.W.Frag):R2:=fun x y H Q=>∃ l b xs zs,x=.ref l∧y=.ref b∧SqL K H l xs∧SqL K H b zs∧xs.length+zs.length≤sizeLine∧∀ p,H p=none→Q (.ref p) (upd H p (.lst (xs++zs)))
theorem vL:OpR X (binaryOp .Add) (Be X.K):=by
  intro pins s σ H x y v u Q I rx ry h
  obtain ⟨l,b,xs,zs,rfl,rfl,hH,hB,hz,q⟩:=h
  cases rx
  cases ry
  obtain ⟨its,r,pl,z⟩:=I.list hH
  obtain ⟨its2,r2,pl2,z2⟩:=I.list hB
  have hl:=r.length
  have hl2:=r2.length
  obtain ⟨⟨cls,dd,data,sl⟩,ho,hc,n,hd⟩:=id pl.isList
  obtain ⟨⟨cls2,dd2,data2,sl2⟩,ho2,hc2,n2,hd2⟩:=id pl2.isList
  simp only at hc hd hc2 hd2
  subst hc hd hc2 hd2
  have ea:its.toArray++its2.toArray=(its++its2).toArray:=by simp
  refine concat_meets ⟨_,ho,rfl⟩ ⟨_,ho2,rfl⟩ noFill_list_add seq_list_add PySem.F.slot_list_add PySem.F.entry_list_add (PySem.F.args_list_add_2 _ _) (list_addW l b its.toArray its2.toArray n n2 dd dd2 sl sl2 (by simp only [List.size_toArray]; walk_at "l")) ⟨ho,ho2,?_⟩
  rw [ea]
  exact ⟨.ref _,_,I.lnew (t':=s.toks) (r.append r2) (by rw [List.length_append]; walk_at "l"),rfl,q _ I.fresh⟩
noncomputable def uP (K:PySem.W.Frag):R2:=fun x y H Q=>match x,y with
  | .int i,.int j=>Q (.int (i+j)) H
  | .str i,.str j=>i.length+j.length≤sizeLine∧Q (.str (i++j)) H
  | .ref a,.ref b=>∃ xs zs,SqL K H a xs∧SqL K H b zs∧xs.length+zs.length≤sizeLine∧∀ p,H p=none→Q (.ref p) (upd H p (.lst (xs++zs)))
  | _,_=>False
theorem xT:OpR X (binaryOp .Add) (uP X.K):=by
  refine (op_add.or (op_add_str.or vL)).imp fun x y H Q h=>?_
  unfold uP at h
  split at h
  · exact .inl ⟨_,_,rfl,rfl,h⟩
  · exact .inr (.inl ⟨_,_,rfl,rfl,h.1,h.2⟩)
  · obtain ⟨xs,zs,h1,h2,h3,h4⟩:=h
    exact .inr (.inr ⟨_,_,xs,zs,rfl,rfl,h1,h2,h3,h4⟩)
  · exact h.elim
noncomputable def vU:R2:=fun x y H Q=>match x,y with
  | .int i,.int j=>Q (.int (i - j)) H
  | _,_=>False
theorem xP:OpR X (binaryOp .Sub) vU:=op_sub.imp fun x y H Q h=>by
  unfold vU at h
  split at h
  · exact ⟨_,_,rfl,rfl,h⟩
  · exact h.elim
noncomputable def wN:R2:=fun x y H Q=>match x,y with
  | .int i,.int j=>(0<j∧j<1073741824)∧Q (.int (i / j)) H
  | _,_=>False
theorem xf:OpR X (binaryOp .FloorDiv) wN:=op_fdiv.imp fun x y H Q h=>by
  unfold wN at h
  split at h
  · exact ⟨_,_,rfl,rfl,h.1,h.2⟩
  · exact h.elim
noncomputable def xm:R2:=fun x y H Q=>match x,y with
  | .int i,.int j=>0<j∧Q (.int (i % j)) H
  | _,_=>False
theorem xR:OpR X (binaryOp .Mod) xm:=op_mod.imp fun x y H Q h=>by
  unfold xm at h
  split at h
  · exact ⟨_,_,rfl,rfl,h.1,h.2⟩
  · exact h.elim
noncomputable def wU:R2:=fun x y H Q=>match x,y with
  | .int i,.int j=>CPow i j∧Q (.int (i ^ j.toNat)) H
  | _,_=>False
theorem vR:OpR X (binaryOp .Pow) wU:=op_pow.imp fun x y H Q h=>by
  unfold wU at h
  split at h
  · exact ⟨_,_,rfl,rfl,h.1,h.2⟩
  · exact h.elim
noncomputable def ltS (x y:Str):Bool:=decide (x.cps.toList<y.cps.toList)
noncomputable def rLtU:R2:=fun x y H Q=>match x,y with
  | .int i,.int j=>Q (.bl (decide (i<j))) H
  | .str i,.str j=>Q (.bl (ltS i j)) H
  | _,_=>False
theorem gP:OpR X (compareOp .Lt) rLtU:=(op_lt.or op_lt_str).imp fun x y H Q h=>by
  unfold rLtU at h
  split at h
  · exact .inl ⟨_,_,rfl,rfl,h⟩
  · exact .inr ⟨_,_,rfl,rfl,h⟩
  · exact h.elim
theorem su:OpR X (compareOp .LtE) (fun x y H Q=>∃ i j,x=.str i∧y=.str j∧Q (.bl (!ltS j i)) H):=by
  intro pins s σ H x y v u Q I rx ry h
  obtain ⟨i,j,rfl,rfl,q⟩:=h
  obtain ⟨t,rfl⟩:=rx
  obtain ⟨t',rfl⟩:=ry
  exact PySem.P.le_str ⟨.bl _,H,I,rfl,q⟩
noncomputable def rLeU:R2:=fun x y H Q=>match x,y with
  | .int i,.int j=>Q (.bl (decide (i≤j))) H
  | .str i,.str j=>Q (.bl (!ltS j i)) H
  | _,_=>False
theorem rA:OpR X (compareOp .LtE) rLeU:=(op_le.or su).imp fun x y H Q h=>by
  unfold rLeU at h
  split at h
  · exact .inl ⟨_,_,rfl,rfl,h⟩
  · exact .inr ⟨_,_,rfl,rfl,h⟩
  · exact h.elim
noncomputable def rGtU:R2:=fun x y H Q=>match x,y with
  | .int i,.int j=>Q (.bl (decide (j<i))) H
  | _,_=>False
theorem mU:OpR X (compareOp .Gt) rGtU:=op_gt.imp fun x y H Q h=>by
  unfold rGtU at h
  split at h
  · exact ⟨_,_,rfl,rfl,h⟩
  · exact h.elim
noncomputable def rLen (K:PySem.W.Frag):List V→Hp→VK→Prop:=fun xs H Q=>match xs with
  | [.str y]=>y.length≤sizeLine∧Q (.int y.length) H
  | [.ref p]=>(∃ ys,SqL K H p ys∧Q (.int ys.length) H)∨(∃ ys,SqT K H p ys∧Q (.int ys.length) H)∨∃ kvs,H p=some (.dK kvs)∧Q (.int kvs.length) H
  | _=>False
theorem sG:CallR X (.builtin "len") (rLen X.K):=by
  intro pins s σ H xs us Q I r h
  unfold rLen at h
  split at h
  · exact call_len pins s σ H _ us Q I r ⟨_,_,rfl,⟨h.1,rfl⟩,h.2⟩
  · rcases h with ⟨ys,h1,h2⟩ | ⟨ys,h1,h2⟩ | ⟨kvs,h1,h2⟩
    · exact call_len pins s σ H _ us Q I r ⟨_,_,rfl,.inl ⟨ys,h1,rfl⟩,h2⟩
    · exact call_len pins s σ H _ us Q I r ⟨_,_,rfl,.inr ⟨ys,h1,rfl⟩,h2⟩
    · exact call_lenD pins s σ H _ us Q I r ⟨_,kvs,rfl,h1,h2⟩
  · exact h.elim

noncomputable def rIxU (K:PySem.W.Frag):R2:=fun x y H Q=>match x,y with
  | .ref p,.int i=>(∃ xs v,SqL K H p xs∧atI xs i=some v∧Q v H)∨∃ xs v,SqT K H p xs∧atI xs i=some v∧Q v H
  | .str z,.int i=>z.length≤sizeLine∧∃ c,atI z.cps.toList i=some c∧Q (.str ⟨#[c]⟩) H
  | _,_=>False
theorem vD:IxR X (rIxU X.K):=by
  intro value slice pins s σ H x y v u Q I rx ry h hs
  refine ix_seq value slice pins s σ H x y v u Q I rx ry ?_ hs
  unfold rIxU at h
  split at h
  · rcases h with ⟨xs,w,h1,h2,h3⟩ | ⟨xs,w,h1,h2,h3⟩
    · exact .inl ⟨_,xs,_,w,rfl,rfl,h1,h2,h3⟩
    · exact .inr (.inl ⟨_,xs,_,w,rfl,rfl,h1,h2,h3⟩)
  · obtain ⟨h1,c,h2,h3⟩:=h
    exact .inr (.inr ⟨_,_,c,rfl,rfl,h1,h2,h3⟩)
  · exact h.elim

noncomputable def cutS (z:Str) (lo hi:Option Int):Str:=⟨((z.cps.toList.drop (HT.sIx z.length 0 lo)).take (HT.sIx z.length z.length hi - HT.sIx z.length 0 lo)).toArray⟩
end
end L2

namespace L2
open PySem PySem.Spec PyProof.Rows
theorem rD (l:List Nat) (lo hi:Option Int) (h:((l.drop (HT.sIx l.length 0 lo)).take (HT.sIx l.length l.length hi - HT.sIx l.length 0 lo)).length=l.length) :
    (l.drop (HT.sIx l.length 0 lo)).take (HT.sIx l.length l.length hi - HT.sIx l.length 0 lo)=l:=by
  generalize HT.sIx l.length 0 lo=a at *
  generalize HT.sIx l.length l.length hi=b at *
  by_cases hl:l.length=0
  · have:l=[]:=List.length_eq_zero_iff.mp hl
    subst this; simp
  · rw [List.length_take,List.length_drop] at h
    have h1:a=0:=by walk_at "l"
    subst h1
    rw [List.drop_zero]
    exact List.take_of_length_le (by walk_at "l")
theorem tY (lo hi:Option Int) (n:Nat):Builtin.Str.strSliceIndices lo hi 1 n=(List.range (HT.sIx n n hi - HT.sIx n 0 lo)).map (HT.sIx n 0 lo + ·):=by
  unfold Builtin.Str.strSliceIndices
  have e1:(match lo with | none=>(0:Int) | some i=>max 0 (min (if i<0 then i+n else i) n))=((HT.sIx n 0 lo:Nat):Int):=by
    cases lo with
    | none=>simp [HT.sIx]
    | some i =>
      simp only [HT.sIx]
      by_cases h:i<0
      · simp only [h,if_true] <;> walk_at "l"
      · simp only [h,if_false] <;> walk_at "l"
  have e2:(match hi with | none=>(n:Int) | some i=>max 0 (min (if i<0 then i+n else i) n))=((HT.sIx n n hi:Nat):Int):=by
    cases hi with
    | none=>simp [HT.sIx]
    | some i =>
      simp only [HT.sIx]
      by_cases h:i<0
      · simp only [h,if_true] <;> walk_at "l"
      · simp only [h,if_false] <;> walk_at "l"
  rw [← sliceRange_one,← e1,← e2]
  simp only [show (1:Int)>0 by decide,if_true]
  cases lo <;> cases hi <;> rfl
section
variable {X:Cx}
theorem part_of {v:Value} {o:Option Int} (h:IsPart v o):∃ p:Option (Int × Tok),v=partValue p∧p.map (·.1)=o:=by
  cases h with
  | none=>exact ⟨none,rfl,rfl⟩
  | int i t=>exact ⟨some (i,t),rfl,rfl⟩
noncomputable def rSlS (K:PySem.W.Frag):V→Option Int→Option Int→Hp→VK→Prop:=fun x lo hi H Q=>match x with
  | .str z=>z.length≤sizeLine∧Q (.str (cutS z lo hi)) H
  | .ref a=>∃ xs,SqL K H a xs∧∀ p,H p=none→Q (.ref p) (upd H p (.lst (cutV xs lo hi)))
  | _=>False
theorem yu:SlR X (fun x lo hi H Q=>∃ z,x=.str z∧z.length≤sizeLine∧Q (.str (cutS z lo hi)) H):=by
  intro pins s σ H x v vl vu lo hi sl Q I rx hs pl pu h
  obtain ⟨z,rfl,hz,q⟩:=h
  obtain ⟨t,rfl⟩:=rx
  obtain ⟨p1,rfl,e1⟩:=part_of pl
  obtain ⟨p2,rfl,e2⟩:=part_of pu
  refine ⟨"str",_,F.slot_str_getitem.lookup,typeIs_str s z t,wpAny_getItem_str_slice (l:=p1) (u:=p2) (st:=none) hs rfl ?_⟩
  have hl:z.cps.toList.length=z.length:=by simp [Str.length]
  have ep:slicePicked z p1 p2 none=(List.range (HT.sIx z.length z.length hi - HT.sIx z.length 0 lo)).map (HT.sIx z.length 0 lo + ·):=by
    unfold slicePicked
    rw [e1,e2]
    exact tY lo hi z.length
  have ef:(slicePicked z p1 p2 none).filterMap (z.cps[·]?)=(z.cps.toList.drop (HT.sIx z.length 0 lo)).take (HT.sIx z.length z.length hi - HT.sIx z.length 0 lo):=by
    rw [ep]; exact pick_run z.cps _ _
  unfold sliceMade
  split
  · rename_i hc
    have hw:(slicePicked z p1 p2 none).length=z.length:=by simpa using hc
    have:cutS z lo hi=z:=by
      unfold cutS
      have e3:((z.cps.toList.drop (HT.sIx z.cps.toList.length 0 lo)).take (HT.sIx z.cps.toList.length z.cps.toList.length hi - HT.sIx z.cps.toList.length 0 lo)).length=z.cps.toList.length:=by
        rw [hl,List.length_take,List.length_drop,hl]
        rw [ep,List.length_map,List.length_range] at hw
        have h0:HT.sIx z.length 0 lo≤z.length:=by
          cases lo with
          | none=>simp [HT.sIx]
          | some i=>simp only [HT.sIx]; split <;> walk_at "l"
        have h1:HT.sIx z.length z.length hi≤z.length:=by
          cases hi with
          | none=>simp [HT.sIx]
          | some i=>simp only [HT.sIx]; split <;> walk_at "l"
        walk_at "l"
      have:=rD z.cps.toList lo hi e3
      rw [hl] at this
      rw [this]
    rw [this] at q
    exact ⟨.str z,H,I,⟨t,rfl⟩,q⟩
  · rw [ef]
    exact ⟨by
      show (cutS z lo hi).length≤sizeLine
      unfold cutS Str.length
      simp only [List.size_toArray,List.length_take,List.length_drop,hl]
      have:z.cps.toList.length=z.length:=hl
      walk_at "l",⟨.str (cutS z lo hi),H,I.tok _,⟨_,rfl⟩,q⟩⟩
theorem yx:SlR X (rSlS X.K):=by
  intro pins s σ H x v vl vu lo hi sl Q I rx hs pl pu h
  unfold rSlS at h
  split at h
  · exact yu pins s σ H _ v vl vu lo hi sl Q I rx hs pl pu ⟨_,rfl,h.1,h.2⟩
  · obtain ⟨xs,h1,h2⟩:=h
    exact sl_list pins s σ H _ v vl vu lo hi sl Q I rx hs pl pu ⟨_,xs,rfl,h1,h2⟩
  · exact h.elim

noncomputable def Its (z:Str):It:=⟨fun i _=>i<z.cps.size,fun i H x H'=>H'=H∧∃ c,z.cps[i]? = some c∧x=.str ⟨#[c]⟩,fun i _=>z.cps.size≤i⟩
theorem pM {P:Program} {w:World} {K:PySem.W.Frag} {tg:Expr} {it:Addr} {z:Str} {t:Tok} {ty:String} (hty:ty = "str_ascii_iterator"∨ty = "str_iterator") :
    Turn P w K tg (Its z) [it] it (fun i h=>h.IsStrIter it ty z t i∧i≤z.cps.size) where
  mem:=by simp
  obj:=fun i h st b hb=>by
    have e:b=it:=by simpa using hb
    subst e
    obtain ⟨⟨o,e,c,d⟩,_⟩:=st
    exact ⟨o,e,fun v z=>by rw [d] at z; cases z⟩
  keep:=fun i h h' st k=>let ⟨⟨o,e,c,d⟩,l⟩:=st; ⟨⟨o,k it (by simp) o e,c,d⟩,l⟩
  item:=by
    intro X hP hw hK hc i pins s σ H E I hf st hg
    subst hP hw hK
    obtain ⟨f0,f1,f2,f3,f4,f5⟩:=hf it (by simp)
    obtain ⟨st,_⟩:=st
    have hg:i<z.cps.size:=hg
    have W:Walks X.prog X.w X.A it [it] [it] z.cps.size (SignAt z) (fun i h=>h.IsStrIter it ty z t i):=by
      rcases hty with rfl | rfl
      · exact Walks.strAscii (I.ok.hd hc) it z t
      · exact Walks.strWide (I.ok.hd hc) it z t
    refine W.item i s _ _ hg st fun v h' tk hv st' kk=>?_
    obtain ⟨c,u,ec,rfl⟩:=hv
    have I1:Inv X pins σ H { s with heap:=h',toks:=tk }:=I.turned (fun b o hb e=>kk b o (by simpa using hb) e) f0 f1 f3 f4 f5
    obtain ⟨o,e,c',d⟩:=id st'
    exact ⟨_,rfl,go_of (s:={ s with heap:=h',toks:=tk }) e c' d (by rcases hty with rfl | rfl <;> decide) ⟨.str ⟨#[c]⟩,H,I1,⟨u,rfl⟩,⟨rfl,c,ec,rfl⟩,⟨st',hg⟩,fun b hb=>(hf b hb).1⟩⟩
  done:=by
    intro X hP hw hK hc i pins s σ H E I hf st hg
    subst hP hw hK
    obtain ⟨f0,f1,f2,f3,f4,f5⟩:=hf it (by simp)
    obtain ⟨st,hle⟩:=st
    have hg:z.cps.size≤i:=hg
    have e:i=z.cps.size:=Nat.le_antisymm hle hg
    subst e
    have W:Walks X.prog X.w X.A it [it] [it] z.cps.size (SignAt z) (fun i h=>h.IsStrIter it ty z t i):=by
      rcases hty with rfl | rfl
      · exact Walks.strAscii (I.ok.hd hc) it z t
      · exact Walks.strWide (I.ok.hd hc) it z t
    exact W.done s _ _ st fun h' tk kk=>⟨rfl,I.turned (fun b o hb e=>kk b o (by simpa using hb) e) f0 f1 f3 f4 f5⟩
  self:=fun A i s Q E st h=>by
    rcases hty with rfl | rfl
    · exact wpAny_pyIter_striter_ascii st.1 h
    · exact wpAny_pyIter_striter_wide st.1 h
theorem yE {tg l:Expr} {tl:TE} (hl:PE X l tl):PI X tg l (fun σ H R=>tl σ H fun x H1=>∃ z,x=.str z∧R (Its z) H1):=by
  intro pins s σ H R I h
  refine thn (hl pins s σ H _ I h) fun v s1 hx5=>L2.ex2 hx5 fun x H1 I1 r1 q1=>?_
  obtain ⟨z,rfl,q⟩:=q1
  obtain ⟨t,rfl⟩:=r1
  have fp:∀ b∈[s1.heap.objs.size],FpOk X pins H1 b:=fun b hb=>by
    have e:b=s1.heap.objs.size:=by simpa using hb
    subst e
    exact I1.fpOk (Nat.le_refl _) (I1.hok.fresh (Nat.le_refl _))
  cases ha:z.cps.all (· < 128)
  · exact wpAny_pyIter_wide ha ⟨s1.heap.objs.size,[s1.heap.objs.size],_,_,H1,rfl,I1.kept (t':=s1.toks) fun b o e=>Heap.get?_push_of_some _ e,pM (.inr rfl),⟨⟨_,Heap.get?_push_size _ rfl,rfl,rfl⟩,Nat.zero_le _⟩,fp,q⟩
  · exact wpAny_pyIter_ascii ha ⟨s1.heap.objs.size,[s1.heap.objs.size],_,_,H1,rfl,I1.kept (t':=s1.toks) fun b o e=>Heap.get?_push_of_some _ e,pM (.inl rfl),⟨⟨_,Heap.get?_push_size _ rfl,rfl,rfl⟩,Nat.zero_le _⟩,fp,q⟩
end
end L2

set_option Elab.async false
set_option linter.all false
set_option maxRecDepth 100000
set_option maxHeartbeats 4000000

namespace L2
open PySem PySem.Spec PyProof.Rows

structure lF (J:It) (its:List V) (cond:Hp→Prop):Prop where
  go:∀ i H,cond H→i<its.length→J.go i H
  yld:∀ i H x H',cond H→i<its.length→J.yld i H x H'→H'=H∧its[i]? = some x
  stop:∀ H,cond H→J.stop its.length H
noncomputable def sgnV (z:Str):List V:=z.cps.toList.map fun c=>.str ⟨#[c]⟩
theorem xV (z:Str):lF (Its z) (sgnV z) (fun _=>True) where
  go:=fun i H _ h=>by simpa [sgnV,Its] using h
  yld:=fun i H x H' _ _ h=>by
    obtain ⟨rfl,c,e,rfl⟩:=h
    refine ⟨rfl,?_⟩
    unfold sgnV
    rw [List.getElem?_map,Array.getElem?_toList,e]
    rfl
  stop:=fun H _=>by simp [sgnV,Its]
theorem uQ (K:PySem.W.Frag) (a:Addr) (xs:List V):lF (Itl K a) xs (fun H=>SqL K H a xs) where
  go:=fun i H h hi=>⟨xs,xs[i],h,by simp [hi]⟩
  yld:=fun i H x H' h _ y=>⟨y.1,y.2 xs h⟩
  stop:=fun H h=>⟨xs,h,Nat.le_refl _⟩
noncomputable def ForW (J:It) (g:TG) (tb:TS) (D:Ends) (σ:St) (H:Hp):Prop :=
  ∃ W:Nat→Nat→St→Hp→Prop,(∃ m,W 0 m σ H)∧∀ i m σ H,W i m σ H →
      (J.stop i H∧D.nx σ H)∨(J.go i H∧∃ N:St→Hp→Prop,(∀ σ' H',N σ' H'→∃ m',m'<m∧W (i+1) m' σ' H')∧∀ x H',J.yld i H x H'→g x σ H' fun σ2 H2=>tb { D with nx:=N,ct:=N,bk:=D.nx } σ2 H2)
theorem xg (wi:TI) (g:TG) (tb:TS) (D:Ends) (σ:St) (H:Hp):tFor wi g tb D σ H=wi σ H fun J H1=>ForW J g tb D σ H1:=rfl
noncomputable def Ar (J:It) (g:TG) (tc:TT) (te:TE) (τ0:St) (H1:Hp) (D:Addr) (Q:VK):Prop :=
  ∃ W:Nat→Nat→St→Hp→Prop,(∃ m,W 0 m τ0 (upd H1 D (.lst [])))∧∀ i m τ H,W i m τ H →
    (J.stop i H∧Q (.ref D) H)∨(J.go i H∧∃ (N1:St→V→Hp→Prop) (N2:St→Hp→Prop),
      (∀ τ2 v H4,N1 τ2 v H4→∃ ys m',H4 D=some (.lst ys)∧ys.length<sizeLine∧m'<m∧W (i+1) m' τ2 (upd H4 D (.lst (ys++[v])))) ∧
      (∀ τ2 H3,N2 τ2 H3→∃ m',m'<m∧W (i+1) m' τ2 H3) ∧
      ∀ x H',J.yld i H x H'→g x τ H' fun τ2 H2=>tc τ2 H2 fun b H3=>if b=true then te τ2 H3 (N1 τ2) else N2 τ2 H3)
theorem uG (wi:TI) (g:TG) (tc:TT) (te:TE) (tn:Nat) (ix:List Nat) (σ:St) (H:Hp) (Q:VK):uU wi g tc te tn ix σ H Q=wi σ H fun J H1=>∀ D,H1 D=none→Ar J g tc te (j4 tn ix σ) H1 D Q:=rfl
mutual
inductive Rep (K:PySem.W.Frag) (H:Hp):PyData→V→Prop
  | none:Rep K H .none .non
  | bool (b:Bool):Rep K H (.bool b) (.bl b)
  | int (i:Int):Rep K H (.int i) (.int i)
  | str (x:Str):Rep K H (.str x) (.str x)
  | list {a:Addr} {vs:List V} {ds:List PyData}:SqL K H a vs→Reps K H ds vs→Rep K H (.list ds) (.ref a)
  | tuple {a:Addr} {vs:List V} {ds:List PyData}:SqT K H a vs→Reps K H ds vs→Rep K H (.tuple ds) (.ref a)
inductive Reps (K:PySem.W.Frag) (H:Hp):List PyData→List V→Prop
  | nil:Reps K H [] []
  | cons {d:PyData} {v:V} {ds:List PyData} {vs:List V}:Rep K H d v→Reps K H ds vs→Reps K H (d :: ds) (v :: vs)
end
section
variable {X:Cx} {pins:List (Addr × Obj)} {σ:St} {H:Hp} {s:Shared}
mutual
theorem Rep.reads (I:Inv X pins σ H s):∀ {d:PyData} {v:V} {u:Value},Rep X.K H d v→RelV v u→∃ as,Reads s.heap u d as
  | _,_,_,.none,r=>by cases (show _=Value.none from r); exact ⟨_,.none⟩
  | _,_,_,.bool b,r=>by cases (show _=Value.bool b from r); exact ⟨_,.bool b⟩
  | _,_,_,.int i,r=>by obtain ⟨t,e⟩:=r; subst e; exact ⟨_,.int i t⟩
  | _,_,_,.str x,r=>by obtain ⟨t,e⟩:=r; subst e; exact ⟨_,.str x t⟩
  | _,_,_,.list h hs,r=>by
    cases r
    obtain ⟨its,rv,pl,_⟩:=I.list h
    obtain ⟨o,e,c,n,d⟩:=pl.isList
    obtain ⟨as,q⟩:=Reps.reads I hs rv
    exact ⟨_,.list e c d q⟩
  | _,_,_,.tuple h hs,r=>by
    cases r
    obtain ⟨its,rv,⟨o,e,c,n,d⟩,_⟩:=I.tuple h
    obtain ⟨as,q⟩:=Reps.reads I hs rv
    exact ⟨_,.tuple e c d q⟩
theorem Reps.reads (I:Inv X pins σ H s):∀ {ds:List PyData} {vs:List V} {us:List Value},Reps X.K H ds vs→Vals vs us→∃ as,ReadsAll s.heap us ds as
  | _,_,_,.nil,.nil=>⟨_,.nil⟩
  | _,_,_,.cons h hs,.cons r rs=>by
    obtain ⟨as,q⟩:=Rep.reads I h r
    obtain ⟨bs,q'⟩:=Reps.reads I hs rs
    exact ⟨_,.cons q q'⟩
end
noncomputable def rEqD (K:PySem.W.Frag):R2:=fun x y H Q=>∃ d e,Rep K H d x∧Rep K H e y∧d.canLay0=true∧e.canLay0=true∧d.depth≤60∧Q (.bl (PyData.eqv d e)) H
noncomputable def rNeD (K:PySem.W.Frag):R2:=fun x y H Q=>∃ d e,Rep K H d x∧Rep K H e y∧d.canLay0=true∧e.canLay0=true∧d.depth≤60∧Q (.bl (!PyData.eqv d e)) H
theorem yJ (hu:X.A.units+64<cLine):OpR X (compareOp .Eq) (rEqD X.K):=by
  intro pins s σ H x y v u Q I rx ry h
  obtain ⟨d,e,h1,h2,h3,h4,h5,q⟩:=h
  obtain ⟨as,r1⟩:=h1.reads I rx
  obtain ⟨bs,r2⟩:=h2.reads I ry
  exact PySem.SeqAt.rcAt_reads r1 r2 h3 h4 (by walk_at "l") X.prog X.w X.xe _ ⟨.bl _,H,I,rfl,q⟩
theorem yM (hu:X.A.units+64<cLine):OpR X (compareOp .NotEq) (rNeD X.K):=by
  intro pins s σ H x y v u Q I rx ry h
  obtain ⟨d,e,h1,h2,h3,h4,h5,q⟩:=h
  obtain ⟨as,r1⟩:=h1.reads I rx
  obtain ⟨bs,r2⟩:=h2.reads I ry
  exact PySem.SeqAt.rcNeAt_reads r1 r2 h3 h4 (by walk_at "l") X.prog X.w X.xe _ ⟨.bl _,H,I,rfl,q⟩
noncomputable def rEqU (K:PySem.W.Frag):R2:=fun x y H Q=>match x,y with
  | .int i,.int j=>Q (.bl (decide (i=j))) H
  | .str i,.str j=>Q (.bl (decide (i=j))) H
  | .bl i,.bl j=>Q (.bl (decide (i=j))) H
  | _,_=>rEqD K x y H Q
theorem yZ (hu:X.A.units+64<cLine):OpR X (compareOp .Eq) (rEqU X.K):=(op_eq.or (yJ hu)).imp fun x y H Q h=>by
  unfold rEqU at h
  split at h
  · refine .inl ⟨rfl,?_⟩; simpa using h
  · refine .inl ⟨rfl,?_⟩; simpa using h
  · refine .inl ⟨rfl,?_⟩; simpa using h
  · exact .inr h
noncomputable def rNeU (K:PySem.W.Frag):R2:=fun x y H Q=>match x,y with
  | .int i,.int j=>Q (.bl (!decide (i=j))) H
  | .str i,.str j=>Q (.bl (!decide (i=j))) H
  | .bl i,.bl j=>Q (.bl (!decide (i=j))) H
  | _,_=>rNeD K x y H Q
theorem x_ (hu:X.A.units+64<cLine):OpR X (compareOp .NotEq) (rNeU X.K):=(op_ne.or (yM hu)).imp fun x y H Q h=>by
  unfold rNeU at h
  split at h
  · refine .inl ⟨rfl,?_⟩; simpa using h
  · refine .inl ⟨rfl,?_⟩; simpa using h
  · refine .inl ⟨rfl,?_⟩; simpa using h
  · exact .inr h

noncomputable def rAll (K:PySem.W.Frag):List V→Hp→VK→Prop:=fun xs H Q=>match xs with
  | [.ref a]=>∃ bs:List Bool,SqL K H a (bs.map V.bl)∧Q (.bl (bs.all id)) H
  | _=>False
theorem tZ (hc:X.calm=true):CallR X (.builtin "all") (rAll X.K):=by
  intro pins s σ H xs us Q I r h
  unfold rAll at h
  split at h
  · rename_i a
    obtain ⟨bs,e,q⟩:=h
    obtain ⟨u,rfl,ru⟩:=Vals.one r
    cases ru
    obtain ⟨its,rv,pl,hz⟩:=I.list e
    have hl:s.heap.IsList a its.toArray:=pl.isList
    obtain ⟨o,ho,hoc,n,hod⟩:=id hl
    have hlen:=rv.length
    rw [List.length_map] at hlen
    refine call_all_walk (wpAny_pyIter_list hl ?_)
    have hne:a≠s.heap.objs.size:=Nat.ne_of_lt (Heap.lt_size ho)
    have hhd:X.A.in1.handled=none:=I.ok.hd hc
    refine ⟨s.heap.objs.size,_,_,_,_,_,fun i=>bs.getD i true,rfl,Walks.list hhd s.heap.objs.size a hne its.toArray,⟨⟨_,Heap.get?_push_size _ rfl,rfl,rfl⟩,⟨_,Heap.get?_push_of_some _ ho,hoc,n,hod⟩⟩,?_,fun h' tk hk=>?_⟩
    · intro i v s' Q' E' hv hq
      have hv:its.toArray[i]? = some v:=hv
      have hv':its[i]? = some v:=by simpa using hv
      have hi:i<bs.length:=by
        have:=(List.getElem?_eq_some_iff.mp hv').1
        walk_at "l"
      obtain ⟨w',e1,r1⟩:=rv.get (i:=i) (x:=V.bl bs[i]) (by simp [hi])
      rw [hv'] at e1
      cases e1
      cases (show v=Value.bool bs[i] from r1)
      have e2:bs.getD i true=bs[i]:=by simp [List.getD,hi]
      have hq:Q' (bs.getD i true) s':=hq
      rw [e2] at hq
      exact wpAny_truthy_bool hq
    · have e3:((List.range its.toArray.size).all fun i=>bs.getD i true)=bs.all id:=by
        rw [List.size_toArray,← hlen]
        apply Bool.eq_iff_iff.mpr
        simp only [List.all_eq_true,List.mem_range,id]
        constructor
        · intro h b hb
          obtain ⟨i,hi,rfl⟩:=List.mem_iff_getElem.mp hb
          have:=h i hi
          simpa [List.getD,hi] using this
        · intro h i hi
          have:=h bs[i] (List.getElem_mem hi)
          simpa [List.getD,hi] using this
      rw [e3]
      refine ⟨.bl (bs.all id),H,?_,rfl,q⟩
      exact I.kept (t':=tk) fun b o e=>hk b o (by simp; exact Nat.ne_of_lt (Heap.lt_size e)) (Heap.get?_push_of_some _ e)
  · exact h.elim
end
end L2

set_option Elab.async false
set_option linter.all false
set_option maxRecDepth 100000
set_option maxHeartbeats 4000000

namespace L2
open PySem PySem.Spec PyProof.Rows
section
variable {X:Cx} {pins:List (Addr × Obj)} {σ:St} {H:Hp} {s:Shared} {h':Heap}
end
section
variable {X:Cx}
end
end L2

set_option Elab.async false
set_option linter.all false
set_option maxRecDepth 100000
set_option maxHeartbeats 4000000

namespace L2
open PySem PySem.Spec PyProof.Rows

noncomputable def rlN (sc:Scope) (names:List (Str × NameKind)):List (Str × NameKind):=names.map fun y=>if (y.2 == NameKind.free && sc.kind == .function && sc.names.lookup y.1 == some .cell)=true then (y.1,NameKind.cell) else (y.1,y.2)
noncomputable def vis2 (o:Option NameKind):Bool:=o == some .cell || o == some .free
noncomputable def yR (sc scope:Scope) (N cn:List Str) (ix:List Nat):Bool :=
  scope.kind == .function && scope.names.all (fun y=>y.2 != .cell) && scope.names.all (fun y=>y.2 != .free || vis2 (sc.names.lookup y.1)) && scope.names.all (fun y=>y.2 != .local || scope.names.lookup y.1 == some .local) &&
  ix.length == cn.length && (List.range ix.length).all (fun k=>match ix[k]?,cn[k]? with
    | some j,some y=>N[j]? == some y && vis2 (sc.names.lookup y) && scope.names.contains (y,NameKind.free) && vis2 ((rlN sc scope.names).lookup y)
    | _,_=>false) &&
  (rlN sc scope.names).all (fun y=>!(y.2 == .cell || y.2 == .free) || scope.names.contains (y.1,NameKind.free))
theorem oU {o:Option NameKind} (h:vis2 o=true):o=some .cell∨o=some .free:=by
  unfold vis2 at h
  simpa using h
theorem eQ.of {X:Cx} {sc scope:Scope} {N tn cn:List Str} {ix:List Nat} (hsc:X.env.scope=sc) (hN:X.N=N) (h:yR sc scope N cn ix=true):eQ X scope tn cn ix:=by
  unfold yR at h
  simp only [Bool.and_eq_true] at h
  obtain ⟨⟨⟨⟨⟨⟨h1,h2⟩,h3⟩,h4⟩,h5⟩,h6⟩,h7⟩:=h
  rw [List.all_eq_true] at h2 h3 h4 h6 h7
  have erl:(relabel scope X.env).names=rlN sc scope.names:=by
    unfold relabel rlN
    rw [← hsc]
    rfl
  refine ⟨by simpa using h1,fun y hy=>by simpa using h2 y hy,fun y hy hk=>?_,fun y hy hk=>?_,by simpa using h5,fun k j hk=>?_,fun x hx=>?_⟩
  · have:=h3 y hy
    rw [hk] at this
    rw [hsc]
    exact oU (by simpa using this)
  · have:=h4 y hy
    rw [hk] at this
    simpa using this
  · have hk':k<ix.length:=(List.getElem?_eq_some_iff.mp hk).1
    have:=h6 k (List.mem_range.mpr hk')
    rw [hk] at this
    cases e:cn[k]? with
    | none=>rw [e] at this; cases this
    | some y =>
      rw [e] at this
      simp only [Bool.and_eq_true] at this
      obtain ⟨⟨⟨a1,a2⟩,a3⟩,a4⟩:=this
      refine ⟨y,rfl,by rw [hN]; simpa using a1,by rw [hsc]; exact oU a2,by simpa using a3,by rw [erl]; exact oU a4⟩
  · rw [erl] at hx
    have mem:∃ k,(x,k)∈rlN sc scope.names∧(k=.cell∨k=.free):=by
      rcases hx with hx | hx
      · exact ⟨_,PySem.mem_of_lookup hx,.inl rfl⟩
      · exact ⟨_,PySem.mem_of_lookup hx,.inr rfl⟩
    obtain ⟨k,hm,hk⟩:=mem
    have:=h7 _ hm
    rcases hk with rfl | rfl <;> simpa using this

structure Cal (P:Program) (w:World) (K:PySem.W.Frag) (mg:Str→Option Value) (base:Heap) (k:Nat) (x:Str) (ps:List Str) (sp:Sp):Prop where
  ex:∃ (g:Addr) (fd:FuncData),mg x=some (.ref g)∧PySem.W.keepIn K (.ref g)=true∧Binds K fd ps []∧FnOk P w K mg base CX0 k g fd ps sp
section
variable {X:Cx} {k:Nat} {x:Str} {ps:List Str} {sp:Sp} {p pos:Pos} {e:Expr} {es:List Expr} {t:TA}
theorem zy (C:Cal X.prog X.w X.K X.mg X.base k x ps sp) (hr:Room k X.A) (ha:PA X (e :: es) t) (hg:Gl X x:=by rfl) (hdb:(x == ("__debug__" : Str))=false:=by decide) (he:starEach (e :: es) X.env=(false,eval e X.env) :: starEach es X.env:=by rfl)
    (hpl:(backTo pos (starEach es X.env)).any (·.1)=false:=by rfl):PE X (.Call (.Name x p) (e :: es) [] pos) (tCall sp [] E0 t):=by
  obtain ⟨g,fd,hm,hk,hb,F⟩:=C.ex
  exact pe_call F hr hg hm hk hb .nil pass0 ha hdb he hpl
end
theorem Fun.cal {P:Program} {w:World} {K:PySem.W.Frag} {mg:Str→Option Value} {base:Heap} {k:Nat} {x qual:Str} {st:Stmt} {f:Addr} {fd:FuncData} {ps:List Str} {sp:Sp} (F:Fun K x qual st f fd) (hm:mg x=some (.ref f))
    (G:FnOk P w K mg base CX0 k f fd ps sp)
    (h:∀ (kV doc pm:Value) (an:Option Addr) (cdv ct:Value) (us:List Value),us.length=ps.length→bindArgs (PySem.W.fnOf x qual (defArgs st) (defBody st) (defScope st) .none kV doc pm an cdv ct) ⟨us,[]⟩=pure (ps.zip us)):Cal P w K mg base k x ps sp :=
  ⟨f,fd,hm,F.kp,F.binds h,G⟩
noncomputable def GlS (mg:Str→Option Value) (x:Str) (z:Str):Prop:=∃ t,mg x=some (.str z t)
noncomputable def GlI (mg:Str→Option Value) (x:Str) (i:Int):Prop:=∃ t,mg x=some (.int i t)
theorem Ag {X:Cx} {x z:Str} {pos:Pos} (h:GlS X.mg x z) (hg:Gl X x:=by rfl) (hd:(x == ("__debug__" : Str))=false:=by decide):PE X (.Name x pos) (tC (.str z)):=by
  obtain ⟨t,e⟩:=h
  exact pe_glob hg e ⟨t,rfl⟩ hd
theorem z_ {X:Cx} {x:Str} {i:Int} {pos:Pos} (h:GlI X.mg x i) (hg:Gl X x:=by rfl) (hd:(x == ("__debug__" : Str))=false:=by decide):PE X (.Name x pos) (tC (.int i)):=by
  obtain ⟨t,e⟩:=h
  exact pe_glob hg e ⟨t,rfl⟩ hd
theorem vG:bootBuiltins "str" = some (.type "str"):=by decide +kernel
theorem zq:bootBuiltins "int" = some (.type "int"):=by decide +kernel
theorem v7:bootBuiltins "bool" = some (.type "bool"):=by decide +kernel
theorem j7:bootBuiltins "list" = some (.type "list"):=by decide +kernel
theorem o8:bootBuiltins "tuple" = some (.type "tuple"):=by decide +kernel
theorem e_:bootBuiltins "isinstance" = some (.builtin "isinstance"):=by decide +kernel
theorem yo:bootBuiltins "all" = some (.builtin "all"):=by decide +kernel
theorem jb:bootBuiltins "len" = some (.builtin "len"):=by decide +kernel
theorem oK {X:Cx} {x:Str} {T:String} {pos:Pos} (hm:X.mg x=none) (hv:bootBuiltins x=some (.type T)) (hg:Gl X x:=by rfl) (hn:x ≠ "__name__" := by decide) (hd:(x == ("__debug__" : Str))=false:=by decide):PE X (.Name x pos) (tC (.ty T)) :=
  pe_bltn hg hm hv rfl hn hd

noncomputable def inS (i j:Str):Bool:=!(Builtin.Str.occurrences j i 0 j.length 1).isEmpty
theorem xH (c:Nat) (j:Str):inS ⟨#[c]⟩ j=decide (c∈j.cps.toList):=PySem.StrLaws.found_one j c
noncomputable def rInU (K:PySem.W.Frag) (neg:Bool):R2:=fun x y H Q=>match x,y with
  | .str i,.str j=>Q (.bl (if neg then !inS i j else inS i j)) H
  | _,.ref p=>(∃ o,DGet H p x o∧Q (.bl (if neg then !o.isSome else o.isSome)) H)∨rIn K neg x y H Q
  | _,_=>False
theorem yF {X:Cx} (hu:X.A.units+64<cLine):OpR X (compareOp .In) (rInU X.K false):=by
  intro pins s σ H x y v u Q I rx ry h
  unfold rInU at h
  split at h
  · exact op_in_str pins s σ H _ _ v u Q I rx ry ⟨_,_,rfl,rfl,h⟩
  · rcases h with ⟨o,g,q⟩ | h
    · cases ry
      exact d_in (by walk_at "l") I g rx fun s3 I3=>⟨.bl o.isSome,H,I3,rfl,q⟩
    · exact op_in_seq pins s σ H _ _ v u Q I rx ry h
  · exact h.elim
theorem Same.upd {H H':Hp} {p:Addr} {o:HO} (h:Same H H') (hp:H' p=none):Same H (upd H' p o):=fun b u e=>by
  have e':=h b u e
  rw [upd_ne (ne_of_none e' hp)]
  exact e'
theorem Same.lst {K:PySem.W.Frag} {H H':Hp} {a:Addr} {xs:List V} (e:Same H H') (h:SqL K H a xs):SqL K H' a xs:=e.seq h
theorem Same.tup {K:PySem.W.Frag} {H H':Hp} {a:Addr} {xs:List V} (e:Same H H') (h:SqT K H a xs):SqT K H' a xs:=by
  rcases h with (h | ⟨o,h⟩) | h
  · exact .inl (.inl (e _ _ h))
  · exact .inl (.inr ⟨o,e _ _ h⟩)
  · exact .inr h
mutual
theorem Rep.same {K:PySem.W.Frag} {H H':Hp} (s:Same H H'):∀ {d:PyData} {v:V},Rep K H d v→Rep K H' d v
  | _,_,.none=>.none
  | _,_,.bool b=>.bool b
  | _,_,.int i=>.int i
  | _,_,.str x=>.str x
  | _,_,.list h hs=>.list (s.lst h) (Reps.same s hs)
  | _,_,.tuple h hs=>.tuple (s.tup h) (Reps.same s hs)
theorem Reps.same {K:PySem.W.Frag} {H H':Hp} (s:Same H H'):∀ {ds:List PyData} {vs:List V},Reps K H ds vs→Reps K H' ds vs
  | _,_,.nil=>.nil
  | _,_,.cons h hs=>.cons (Rep.same s h) (Reps.same s hs)
end
section
variable {X:Cx} {K:PySem.W.Frag}
theorem kIx (hK:X.K=K:=by rfl):IxR X (rIxU K):=by subst hK; exact vD
theorem kEq (hu:X.A.units+64<cLine) (hK:X.K=K:=by rfl):OpR X (compareOp .Eq) (rEqU K):=by subst hK; exact yZ hu
theorem kNe (hu:X.A.units+64<cLine) (hK:X.K=K:=by rfl):OpR X (compareOp .NotEq) (rNeU K):=by subst hK; exact x_ hu
theorem kIn (hu:X.A.units+64<cLine) (hK:X.K=K:=by rfl):OpR X (compareOp .In) (rInU K false):=by subst hK; exact yF hu
theorem kAll (hc:X.calm=true:=by rfl) (hK:X.K=K:=by rfl):CallR X (.builtin "all") (rAll K):=by subst hK; exact tZ hc
variable {tg l:Expr} {tl:TE}
end

theorem Ec {α:Type} {a:α} {p:α→Prop}:(∃ v,a=v∧p v)↔p a:=⟨fun ⟨_,e,h⟩=>e ▸ h,fun h=>⟨a,rfl,h⟩⟩
end L2

set_option Elab.async false
set_option linter.all false
set_option maxRecDepth 100000
set_option maxHeartbeats 4000000

namespace L2
open PySem PySem.Spec PyProof.Rows

noncomputable abbrev Ents:=Array DictEntry
noncomputable def RawD (h:Heap) (d:Addr) (es:Ents) (ep:Nat):Prop:=∃ o,h.get? d=some o∧o.ExactDict∧o.data=.dict es ep
theorem RawD.typ {s:Shared} {d:Addr} {es:Ents} {ep:Nat} (x:RawD s.heap d es ep):s.TypeIs (.ref d) "dict" := let ⟨o,e,c,_⟩:=x; ⟨o,e,c.1⟩
section
variable {prog:Program} {w:World} {A:Around} {E:Value→Shared→Prop} {s:Shared} {d it:Addr} {es:Ents} {ep i:Nat}
theorem uC {Q:Value→Shared→Prop} (lo:(d == sysModules)=false) (x:RawD s.heap d es ep)
    (q:Q (.ref s.heap.objs.size) { s with heap:=s.heap.push { cls:=.type "dict_keyiterator",data:=.fields #[.ref d,.int 0 0,.int es.size 0,.int ep 0] } }):wpAny (model prog w) A (pyIter (.ref d)) Q E s:=by
  obtain ⟨o,ho,hc,hdat⟩:=id x
  refine wpAny_pyIter_slot x.typ F.slot_dict_iter (wpAny_call_entry F.slot_dict_iter x.typ F.entry_dict_iter ?_ (F.args_dict_iter_1 _))
  unfold Builtin.«dict.__iter__»
  refine wpAny_bind ?_
  unfold Builtin.Dict.dictSlotNone
  refine wpAny_bind (wpAny_notOrdered_dict x.typ ?_)
  refine (show wpAny _ _ (pure (Value.ref d)) _ _ s from wpAny_pure ?_)
  refine (show wpAny _ _ (Builtin.Dict.showsAll d >>= _) _ _ s from ?_)
  unfold Builtin.Dict.showsAll
  rw [if_neg (by rw [lo]; decide)]
  refine wpAny_bind (wpAny_pure (wpAny_bind (wpAny_dictEntries ho hdat (wpAny_bind (wpAny_dictEpoch ho hdat (wpAny_bind (wpAny_newObj_type (wpAny_pure ⟨_,rfl, "dict_keyiterator",_,⟨_,Heap.get?_push_size _ rfl,rfl⟩,F.slot_dict_keyiterator_next.lookup,?_⟩))))))))
  simpa [rawInt] using q
theorem uF {Q:Option Value→Shared→Prop} (hit:s.heap.IsKeyIter it d i es.size ep) (x:RawD s.heap d es ep) (hx:i<es.size)
    (q:∀ h',h'.IsKeyIter it d (i+1) es.size ep→Heap.SameBut it s.heap h'→Q (some es[i].key) { s with heap:=h' }):wpAny (model prog w) A (pyNext (.ref it)) Q E s:=by
  obtain ⟨o,ho,hc,hd⟩:=id hit
  obtain ⟨od,hod,hcd,hdd⟩:=id x
  have ty:=hit.typeIs
  unfold pyNext
  refine wpAny_bind (wpAny_attempt (wpAny_callSpecial?_slot (name:=Str.ofString "__next__") ty F.slot_dict_keyiterator_next (wpAny_call_entry F.slot_dict_keyiterator_next ty F.entry_dict_keyiterator_next ?_ (F.args_dict_keyiterator_next_1 _))))
  refine wpAny_bind (wpAny_pure (wpAny_bind (wpAny_bind ?_)))
  first | refine wpAny_bind (wpAny_typeNameOfWhole_keyiter ty (wpAny_pure ?_)) | refine wpAny_bind (wpAny_typeNameOf_keyiter ty (wpAny_pure ?_))
  refine wpAny_bind (wpAny_fieldsOf ho hd ?_)
  simp only [show Builtin.Dict_items.ownsTuple "dict_keyiterator" = false by decide,Bool.false_eq_true,if_false]
  refine (show wpAny _ _ (if (Value.ref d == Value.none)=true then _ else _) _ _ s from ?_)
  rw [if_neg (show ¬ ((Value.ref d == Value.none)=true) by intro h; cases h)]
  refine wpAny_bind (wpAny_pure (wpAny_bind (wpAny_dictEntries hod hdd ?_)))
  rw [if_neg (by intro h; simp at h)]
  refine wpAny_bind (wpAny_pure (wpAny_bind (wpAny_dictEpoch hod hdd ?_)))
  rw [if_neg (by intro h; simp at h)]
  refine wpAny_pure ?_
  simp only [show ¬ ((i:Int)<0) by walk_at "l",if_false,Int.toNat_natCast,Array.getElem?_eq_getElem hx]
  refine wpAny_bind ?_
  first | refine wpAny_bind (wpAny_typeNameOfWhole_keyiter ty (wpAny_pure ?_)) | refine wpAny_bind (wpAny_typeNameOf_keyiter ty (wpAny_pure ?_))
  refine wpAny_bind (wpAny_isOneOf_keyiter ty ?_)
  refine (show wpAny _ _ (setField (.ref it) 1 (rawInt ((i:Int)+1)) >>= _) _ _ s from wpAny_bind (wpAny_setField ho hd (by simp) ?_))
  have hit':(s.heap.update it (Obj.mapFields (·.setIfInBounds 1 (rawInt ((i:Int)+1))))).IsKeyIter it d (i+1) es.size ep :=
    ⟨_,Heap.get?_update_self _ ho (Obj.isFreed_of_fields (Obj.data_mapFields hd _)),(Obj.cls_mapFields ..).trans hc,by rw [Obj.data_mapFields hd]; simp [rawInt]⟩
  refine wpAny_bind (wpAny_holding (wpAny_bind (wpAny_isOneOf_keyiter (s:={ s with heap:=s.heap.update it (Obj.mapFields (·.setIfInBounds 1 (rawInt ((i:Int)+1)))) }) hit'.typeIs ?_)))
  refine (show wpAny _ _ (pure es[i].key) _ _ _ from wpAny_pure (wpAny_pure ⟨_,rfl,wpAny_pure (q _ hit' (Heap.SameBut.update ..))⟩))
theorem uM {Q:Option Value→Shared→Prop} (hh:A.handled=none) (hit:s.heap.IsKeyIter it d es.size es.size ep) (x:RawD s.heap d es ep) (q:∀ h',Heap.ExtBut it s.heap h'→Q none { s with heap:=h' }) :
    wpAny (model prog w) A (pyNext (.ref it)) Q E s:=by
  obtain ⟨o,ho,hc,hd⟩:=id hit
  obtain ⟨od,hod,hcd,hdd⟩:=id x
  have ty:=hit.typeIs
  unfold pyNext
  refine wpAny_bind (wpAny_attempt (wpAny_callSpecial?_slot (name:=Str.ofString "__next__") ty F.slot_dict_keyiterator_next (wpAny_call_entry F.slot_dict_keyiterator_next ty F.entry_dict_keyiterator_next ?_ (F.args_dict_keyiterator_next_1 _))))
  refine wpAny_bind (wpAny_pure (wpAny_bind (wpAny_bind ?_)))
  first | refine wpAny_bind (wpAny_typeNameOfWhole_keyiter ty (wpAny_pure ?_)) | refine wpAny_bind (wpAny_typeNameOf_keyiter ty (wpAny_pure ?_))
  refine wpAny_bind (wpAny_fieldsOf ho hd ?_)
  simp only [show Builtin.Dict_items.ownsTuple "dict_keyiterator" = false by decide,Bool.false_eq_true,if_false]
  refine (show wpAny _ _ (if (Value.ref d == Value.none)=true then _ else _) _ _ s from ?_)
  rw [if_neg (show ¬ ((Value.ref d == Value.none)=true) by intro h; cases h)]
  refine wpAny_bind (wpAny_pure (wpAny_bind (wpAny_dictEntries hod hdd ?_)))
  rw [if_neg (by intro h; simp at h)]
  refine wpAny_bind (wpAny_pure (wpAny_bind (wpAny_dictEpoch hod hdd ?_)))
  rw [if_neg (by intro h; simp at h)]
  refine wpAny_pure ?_
  simp only [show ¬ ((es.size:Int)<0) by walk_at "l",if_false,Int.toNat_natCast,Array.getElem?_eq_none (Nat.le_refl es.size)]
  refine wpAny_bind ?_
  first | refine wpAny_bind (wpAny_typeNameOfWhole_keyiter ty (wpAny_pure ?_)) | refine wpAny_bind (wpAny_typeNameOf_keyiter ty (wpAny_pure ?_))
  refine (show wpAny _ _ (setField (.ref it) 0 .none >>= _) _ _ s from wpAny_bind (wpAny_setField ho hd (by simp) ?_))
  refine (show wpAny _ _ (newExc (.type "StopIteration") [] >>= _) _ _ _ from wpAny_bind ?_)
  simp only [newExc,newTuple]
  refine wpAny_bind (wpAny_newObj_type ?_ (by size_fits))
  refine wpAny_bind (m:=firstArgMember _ _) (wpAny_of_eq (a:=Value.none) (by first | rfl | (simp only [firstArgMember]; rfl)) (wpAny_newObj_type ?_ (by size_fits)))
  simp only [raiseNew]
  refine wpAny_bind (wpAny_handled ?_)
  rw [show A.in1.handled=none from hh]
  refine wpAny_bind (wpAny_pure (wpAny_throw ?_))
  refine wpAny_bind (wpAny_isInstance (b:=true) (T := "StopIteration") ⟨_,Heap.get?_push_size _ rfl,rfl⟩ isSubtype_stop ?_)
  exact wpAny_pure (q _ (((Heap.SameBut.update ..).extBut.push _).push _))
theorem RawD.at {h h':Heap} (x:RawD h d es ep) (e:∀ o,h.get? d=some o→h'.get? d=some o):RawD h' d es ep:=let ⟨o,ho,r⟩:=x; ⟨o,e o ho,r⟩
theorem RawD.lt {h:Heap} (x:RawD h d es ep):d<h.objs.size:=let ⟨_,e,_⟩:=x; Heap.lt_size e
theorem rF (hh:A.handled=none) (I:Addr) (hne:d≠I):Walks prog w A I [I,d] [I] es.size (fun i v=>∃ e,es[i]? = some e∧v=e.key) (fun i h=>h.IsKeyIter I d i es.size ep∧RawD h d es ep) where
  sub:=fun b hb=>by simp at hb; simp [hb]
  frame:=fun _ _ _ st hk=>⟨st.1.at fun o e=>hk I (by simp) o e,st.2.at fun o e=>hk d (by simp) o e⟩
  item:=fun i s Q E hi st hQ=>uF st.1 st.2 hi fun h' a b=>hQ _ h' s.toks ⟨es[i],by simp [hi],rfl⟩ ⟨a,st.2.at fun o e=>b.extBut d o hne e⟩ fun c o hb e=>b.extBut c o (fun h=>hb (by simp [h])) e
  done:=fun s Q E st hQ=>uM hh st.1 st.2 fun h' he'=>hQ h' s.toks fun b o hb e=>he' b o (fun h=>hb (by simp [h])) e
  self:=fun _ _ _ _ st hQ=>wpAny_pyIter_keyiter st.1 hQ
theorem xO (lo:(d == sysModules)=false):PySem.W.KdlSrc prog w "dict" d d es.size (fun i v=>∃ e,es[i]? = some e∧v=e.key) (fun h=>RawD h d es ep) where
  type:=fun _ x=>x.typ
  there:=fun _ x=>⟨x.lt,x.lt⟩
  keep:=fun _ _ x hk=>x.at fun o e=>hk d (.inl rfl) o e
  notList:=by decide
  notTuple:=by decide
  hint:=fun _ _ _ _ x hq=>PySem.W.kdl_hint_dict x.typ hq
  iter:=fun _ _ hh x=>⟨_,_,(fun _ _ hq=>uC lo x hq),rF hh _ (Nat.ne_of_lt x.lt),⟨⟨_,Heap.get?_push_size _ rfl,rfl,rfl⟩,x.at fun o e=>Heap.get?_push_of_some _ e⟩⟩
end

theorem Paired.n0 {α β:Type} {R:α→β→Prop} {bs:List β} (h:Paired R [] bs):bs=[]:=by cases h; rfl
theorem Paired.c {α β:Type} {R:α→β→Prop} {a:α} {as:List α} {bs:List β} (h:Paired R (a :: as) bs):∃ b cs,bs=b :: cs∧R a b∧Paired R as cs:=by
  cases h with
  | cons r t=>exact ⟨_,_,rfl,r,t⟩
noncomputable def b8 (H:Hp) (ys:List V) (ks:List (List Key)):Prop:=Paired (fun (v:V) (k:List Key)=>∃ b,v=.ref b∧H b=some (.tup (k.map kV))) ys ks
section
variable {X:Cx}
noncomputable def pH:List V→Hp→VK→Prop:=fun xs H Q=>match xs with
  | [.ref p]=>∃ kvs,H p=some (.dT kvs)∧∀ ys l,b8 H ys (kvs.map (·.1))→H l=none→Q (.ref l) (upd H l (.lst ys))
  | _=>False
theorem wJ {prog:Program} {w:World} {H:Hp} {kvs:List (List Key × V)} {xs:List (List Key × Addr × Value)}
    (h:Paired (fun (p:List Key × V) (q:List Key × Addr × Value)=>p.1=q.1∧H q.2.1=some (.tup (p.1.map kV))∧RelV p.2 q.2.2) kvs xs) :
    b8 H (xs.map fun q=>.ref q.2.1) (kvs.map (·.1))∧Vals (xs.map fun q=>.ref q.2.1) ((xs.map (entryOfKey (tupleKind (mixKind prog w)))).map (·.key)):=by
  induction h with
  | nil=>exact ⟨.nil,.nil⟩
  | cons r t ih=>exact ⟨.cons ⟨_,rfl,r.2.1⟩ ih.1,.cons rfl ih.2⟩
theorem qx (hc:X.calm=true):CallR X (.type "list") pH:=by
  intro pins s σ H xs us Q I r h
  unfold pH at h
  split at h
  · rename_i p
    obtain ⟨kvs,e,q⟩:=h
    obtain ⟨u,rfl,ru⟩:=Vals.one r
    cases ru
    obtain ⟨z,y,ps,rel,o,es,ep,h1,h2,h3,h4,h5⟩:=(show ObjOk X.prog X.w H s.heap p (.dT kvs) from I.hok p _ e)
    obtain ⟨ta,va⟩:=wJ (prog:=X.prog) (w:=X.w) rel
    have hlen:es.size=kvs.length:=by
      have:=congrArg List.length h4
      rw [Array.length_toList,List.length_map] at this
      rw [this]; exact rel.length.symm
    refine PySem.W.kdl_call (xO (es:=es) (ep:=ep) y) (I.ok.hd hc) ⟨o,h1,h2,h3⟩ (by walk_at "l") fun h' tk acc c kp eo hacc=>?_
    have hv:acc.toList=(ps.map (entryOfKey (tupleKind (mixKind X.prog X.w)))).map (·.key):=by
      apply List.ext_getElem?
      intro i
      by_cases hi:i<es.size
      · have hi2:i<acc.size:=by rw [hacc.1]; exact hi
        obtain ⟨en,e1,e2⟩:=hacc.2 i acc[i] (by simp [hi2])
        rw [← h4,List.getElem?_map,Array.getElem?_toList,Array.getElem?_toList,e1]
        simp [hi2,e2]
      · rw [← h4,List.getElem?_map,Array.getElem?_toList,Array.getElem?_toList,Array.getElem?_eq_none (by rw [hacc.1]; walk_at "l"),Array.getElem?_eq_none (by walk_at "l")]
        rfl
    refine ⟨.ref s.heap.objs.size,_,I.laid (t':=tk) kp (Nat.le_refl _) (show ObjOk X.prog X.w _ h' _ (.lst (ps.map fun q=>.ref q.2.1)) from ⟨?_,acc.toList,c,?_,?_⟩),rfl,q _ _ ta (I.hok.fresh (Nat.le_refl _))⟩
    · rw [List.length_map,← rel.length]; exact z
    · rw [hv]; exact va
    · rw [Array.toArray_toList]; exact eo
  · exact h.elim
end
end L2

set_option Elab.async false
set_option linter.all false
set_option maxRecDepth 100000
set_option maxHeartbeats 4000000
namespace Tim
open PySem PyProof.Rows

noncomputable def R (r:Value→Int) (xs:Array Keyed) (i:Nat):Int:=match xs[i]? with
  | some p=>r p.1
  | none=>0
theorem gR {r:Value→Int} {xs ys:Array Keyed} {i j:Nat} (h:xs[i]? = ys[j]?):R r xs i=R r ys j:=by unfold R; rw [h]
noncomputable def Cmp (prog:Program) (w:World) (A:Around) (s:Shared) (κ:SortKind) (r:Value→Int) (P:Value→Prop):Prop :=
  ∀ x y,P x→P y→∀ (Q:Bool→Shared→Prop) (E:Value→Shared→Prop),Q (decide (r x<r y)) s→wpAny (model prog w) A (keyLt' κ x y) Q E s
noncomputable def AllP (P:Value→Prop) (xs:Array Keyed):Prop:=∀ p∈xs.toList,P p.1
theorem AllP.perm {P:Value→Prop} {xs ys:Array Keyed} (h:AllP P xs) (hp:ys.Perm xs):AllP P ys:=fun p hm=>h p ((Array.perm_iff_toList_perm.mp hp).mem_iff.mp hm)
theorem AllP.at {P:Value→Prop} {xs:Array Keyed} (h:AllP P xs) {i:Nat} {p:Keyed} (e:xs[i]? = some p):P p.1:=h p (by
  obtain ⟨hi,rfl⟩:=Array.getElem?_eq_some_iff.mp e
  simp)
structure Win (lo hi:Nat) (st st':SortSt):Prop where
  kind:kindOf st'=kindOf st
  failed:failedOf st'=failedOf st
  pend:pendingOf st'=pendingOf st
  perm:(arrOf st').Perm (arrOf st)
  out:∀ k,k<lo∨hi≤k→(arrOf st')[k]? = (arrOf st)[k]?
theorem Win.refl (lo hi:Nat) (st:SortSt):Win lo hi st st:=⟨rfl,rfl,rfl,Array.Perm.refl _,fun _ _=>rfl⟩
theorem Win.trans {lo hi:Nat} {a b c:SortSt} (h:Win lo hi a b) (g:Win lo hi b c):Win lo hi a c :=
  ⟨g.kind.trans h.kind,g.failed.trans h.failed,g.pend.trans h.pend,g.perm.trans h.perm,fun k hk=>(g.out k hk).trans (h.out k hk)⟩
theorem Win.mono {lo hi lo' hi':Nat} {a b:SortSt} (h:Win lo hi a b) (h1:lo'≤lo) (h2:hi≤hi'):Win lo' hi' a b :=
  ⟨h.kind,h.failed,h.pend,h.perm,fun k hk=>h.out k (by walk_at "l")⟩
theorem Win.size {lo hi:Nat} {a b:SortSt} (h:Win lo hi a b):(arrOf b).size=(arrOf a).size:=h.perm.size_eq
noncomputable def Up (r:Value→Int) (xs:Array Keyed) (lo hi:Nat):Prop:=∀ i j,lo≤i→i≤j→j<hi→R r xs i≤R r xs j
noncomputable def Down (r:Value→Int) (xs:Array Keyed) (lo hi:Nat):Prop:=∀ i j,lo≤i→i≤j→j<hi→R r xs j≤R r xs i

theorem o6 {r:Value→Int} {xs:Array Keyed} {src d:Nat} (hs:src<xs.size) (hd:d≤src) (k:Nat) :
    R r (bubble xs src d) k=if k=src - d then R r xs src else if src - d<k∧k≤src then R r xs (k - 1) else R r xs k:=by
  have e:=getElem?_bubble hs d hd k
  by_cases h1:k=src - d
  · rw [if_pos h1] at e ⊢; exact gR e
  · rw [if_neg h1] at e ⊢
    by_cases h2:src - d<k∧k≤src
    · rw [if_pos h2] at e ⊢; exact gR e
    · rw [if_neg h2] at e ⊢; exact gR e
theorem kZ {r:Value→Int} {xs:Array Keyed} {i j:Nat} (hj:j≤xs.size) (k:Nat) :
    R r (mirror xs i j ((j - i) / 2)) k=if i≤k∧k<j then R r xs (i+j - 1 - k) else R r xs k:=by
  have e:=getElem?_mirror_all (i:=i) hj k
  by_cases h1:i≤k∧k<j
  · rw [if_pos h1] at e ⊢; exact gR e
  · rw [if_neg h1] at e ⊢; exact gR e
theorem bQ {r:Value→Int} {xs:Array Keyed} {i j:Nat} (hj:j≤xs.size) (heq:∀ k,i≤k→k<j→R r xs k=R r xs (j - 1)) (k:Nat) :
    R r (mirror xs i j ((j - i) / 2)) k=R r xs k:=by
  rw [kZ hj]
  split
  · rw [heq _ (by walk_at "l") (by walk_at "l"),heq k (by walk_at "l") (by walk_at "l")]
  · rfl

section
variable {prog:Program} {w:World} {A:Around} {E:Value→Shared→Prop} {s:Shared} {κ:SortKind} {r:Value→Int} {P:Value→Prop}

theorem zx {st:SortSt} {x y:Keyed} {Q:Option Bool→SortSt→Prop} (C:Cmp prog w A s κ r P) (hk:kindOf st=κ) (hx:P x.1) (hy:P y.1) (h:Q (some (decide (r x.1<r y.1))) st) :
    wpS (model prog w) A E s (lt' x y) Q st:=by
  rw [lt'_eq]
  refine wpS_bind (wpS_get ?_)
  rw [hk]
  refine wpS_bind (wpS_lift (wpAny_attempt (C x.1 y.1 hx hy _ _ ⟨rfl,?_⟩)))
  exact wpS_pure h
theorem o7 {xs:Array Keyed} {i:Nat} {Q:Keyed→SortSt→Prop} {st:SortSt} (hi:i<xs.size) (h:∀ p,xs[i]? = some p→Q p st):wpS (model prog w) A E s (elem' xs i) Q st:=by
  rw [elem'_eq,getElem?_pos xs i hi]
  exact wpS_pure (h _ (getElem?_pos xs i hi))
theorem iI {st:SortSt} {i j:Nat} {Q:Option Bool→SortSt→Prop} (C:Cmp prog w A s κ r P) (hk:kindOf st=κ) (hP:AllP P (arrOf st)) (hi:i<(arrOf st).size) (hj:j<(arrOf st).size)
    (h:Q (some (decide (R r (arrOf st) i<R r (arrOf st) j))) st):wpS (model prog w) A E s (ltAt' i j) Q st:=by
  rw [ltAt'_eq]
  refine wpS_bind (wpS_get ?_)
  show wpS _ _ _ _ (do let x ← elem' (arrOf st) i; let y ← elem' (arrOf st) j; lt' x y) Q st
  refine wpS_bind (o7 hi fun p ep=>wpS_bind (o7 hj fun q eq=>zx C hk (hP.at ep) (hP.at eq) ?_))
  have e1:R r (arrOf st) i=r p.1:=by unfold R; rw [ep]
  have e2:R r (arrOf st) j=r q.1:=by unfold R; rw [eq]
  rw [← e1,← e2]
  exact h
theorem cC {st:SortSt} {i j:Nat} {Q:Unit→SortSt→Prop} (h:Q () (setArr st (mirror (arrOf st) i j ((j - i) / 2)))) :
    wpS (model prog w) A E s (reverseSlice' i j) Q st:=by
  rw [reverseSlice'_eq]; exact wpS_modify h
theorem dG {st:SortSt} {i j:Nat} (hj:j≤(arrOf st).size):Win i j st (setArr st (mirror (arrOf st) i j ((j - i) / 2))) :=
  ⟨rfl,rfl,rfl,mirror_perm _ _ _ _,fun k hk=>by
    have e:=getElem?_mirror_all (i:=i) hj k
    rw [if_neg (by (clear hj e; walk_at "l"))] at e
    exact e⟩
theorem qt {st:SortSt} {lo src d:Nat} (hs:src<(arrOf st).size) (hd:lo+d≤src):Win lo (src+1) st (setArr st (bubble (arrOf st) src d)) :=
  ⟨rfl,rfl,rfl,bubble_perm _ _ _,fun k hk=>by
    have e:=getElem?_bubble hs d (by (clear hs hk; walk_at "l")) k
    rw [if_neg (by (clear hs e; walk_at "l")),if_neg (by (clear hs e; walk_at "l"))] at e
    exact e⟩

theorem wpS_binarySort {st:SortSt} {lo n ok:Nat} {Q:Bool→SortSt→Prop} (C:Cmp prog w A s κ r P) (hk:kindOf st=κ) (hP:AllP P (arrOf st)) (hn:lo+n≤(arrOf st).size) (hok:ok≤n) (hs:Up r (arrOf st) lo (lo+ok))
    (h:∀ st',Win lo (lo+n) st st'→Up r (arrOf st') lo (lo+n)→Q true st'):wpS (model prog w) A E s (binarySort' lo n ok) Q st:=by
  rw [binarySort'_eq]
  refine wpS_bind (wpS_mono (wpS_forRange (I:=fun k c st'=>c=(none,())∧Win lo (lo+n) st st'∧Up r (arrOf st') lo (lo+min k n))
    (Q:=fun c st'=>c=(none,())∧Win lo (lo+n) st st'∧Up r (arrOf st') lo (lo+n)) ?step ?fin ?init) ?post)
  case post =>
    rintro c st' ⟨rfl,hB',hs'⟩
    exact wpS_pure (h st' hB' hs')
  case init =>
    refine ⟨rfl,.refl _ _ _,fun i j hl hij hj=>?_⟩
    by_cases h1:ok=0
    · have:i=j:=by (clear hk hn hok; walk_at "l")
      subst this; exact Int.le_refl _
    · exact hs i j hl hij (by (clear hk hn hl hij; walk_at "l"))
  case fin =>
    rintro c st' ⟨hc,hB',hs'⟩
    refine ⟨hc,hB',?_⟩
    rwa [show min (max (max ok 1) n) n=n by (clear hk hn hok hc; walk_at "l")] at hs'
  case step =>
    rintro k c st' hak hkn ⟨rfl,hB',hs'⟩
    rw [show min k n=k by (clear hk hn hok hak; walk_at "l")] at hs'
    have hsz:=hB'.size
    have hk':kindOf st'=κ:=hB'.kind.trans hk
    have hP':=hP.perm hB'.perm
    refine wpS_bind (wpS_mono (wpS_forRange (I:=fun x c st''=>st''=st'∧∃ l r',c=(none,l,r')∧l≤r'∧r'≤k∧r' - l≤k - x ∧
        (∀ i,lo≤i→i<lo+l→R r (arrOf st') i≤R r (arrOf st') (lo+k))∧(∀ i,lo+r'≤i→i<lo+k→R r (arrOf st') (lo+k)<R r (arrOf st') i))
      (Q:=fun c st''=>st''=st'∧∃ l r',c=(none,l,r')∧l≤k ∧
        (∀ i,lo≤i→i<lo+l→R r (arrOf st') i≤R r (arrOf st') (lo+k))∧(∀ i,lo+l≤i→i<lo+k→R r (arrOf st') (lo+k)<R r (arrOf st') i)) ?istep ?ifin ?iinit) ?ipost)
    case iinit=>exact ⟨rfl,0,k,rfl,by (clear hk hn hok hak hkn hsz hk'; walk_at "l"),by (clear hk hn hok hak hkn hsz hk'; walk_at "l"),by (clear hk hn hok hak hkn hsz hk'; walk_at "l"),fun i _ hi=>by (clear hk hn hok hak hkn hsz hk'; walk_at "l"),fun i h1 h2=>by (clear hk hn hok hak hkn hsz hk'; walk_at "l")⟩
    case ifin =>
      rintro c st'' ⟨rfl,l,r',rfl,hlr,hrk,hm,hlo,hhi⟩
      have:l=r':=by (clear hk hn hok hak hkn hsz hk' hrk; walk_at "l")
      subst this
      exact ⟨rfl,l,l,rfl,hrk,hlo,hhi⟩
    case istep =>
      rintro x c st'' _ hxk ⟨rfl,l,r',rfl,hlr,hrk,hm,hlo,hhi⟩
      dsimp only
      by_cases hge:l ≥ r'
      · rw [if_pos hge]
        have:l=r':=by (clear hk hn hok hak hkn hxk hsz hk' hrk hm; walk_at "l")
        subst this
        exact wpS_pure ⟨rfl,l,l,rfl,hrk,hlo,hhi⟩
      · rw [if_neg hge]
        refine wpS_bind (iI C hk' hP' (by (clear hk hok hak hxk hk' hlr hrk hm hge; walk_at "l")) (by (clear hk hok hak hxk hk' hlr hm; walk_at "l")) ?_)
        by_cases hless:R r (arrOf st'') (lo+k)<R r (arrOf st'') (lo+(l+r') / 2)
        · simp only [hless,decide_true,if_true]
          refine wpS_pure ⟨rfl,l,(l+r') / 2,rfl,by (clear hk hn hok hak hkn hxk hsz hk' hlr hrk hm hless; walk_at "l"),by (clear hk hn hok hak hkn hxk hsz hk' hlr hm hless; walk_at "l"),by (clear hk hn hok hak hkn hsz hk' hlr hrk hless; walk_at "l"),hlo,fun i h1 h2=>?_⟩
          exact Int.lt_of_lt_of_le hless (hs' _ _ (by (clear hk hn hok hak hkn hxk hsz hk' hlr hrk hm hless h1 h2; walk_at "l")) h1 h2)
        · simp only [hless,decide_false,Bool.false_eq_true,if_false]
          refine wpS_pure ⟨rfl,(l+r') / 2+1,r',rfl,by (clear hk hn hok hak hkn hxk hsz hk' hlr hrk hm hless; walk_at "l"),by (clear hk hn hok hak hkn hxk hsz hk' hlr hm hge hless; walk_at "l"),by (clear hk hn hok hak hkn hsz hk' hlr hrk hless; walk_at "l"),fun i h0 h1=>?_,hhi⟩
          exact Int.le_trans (hs' i (lo+(l+r') / 2) h0 (by (clear hk hn hok hak hkn hxk hsz hk' hlr hrk hm hge hless h0; walk_at "l")) (by (clear hk hn hok hak hkn hxk hsz hk' hlr hm hless h0 h1; walk_at "l"))) (Int.not_lt.mp hless)
    case ipost =>
      rintro c st'' ⟨rfl,l,r',rfl,hlk,hlo,hhi⟩
      show wpS _ _ _ _ (do moveDown' (lo+k) (lo+l); pure (ForInStep.yield (none,()))) _ _
      rw [moveDown'_eq]
      have hks:lo+k<(arrOf st'').size:=by (clear hk hok hak hk' hlk; walk_at "l")
      refine wpS_bind (wpS_modify (wpS_pure ⟨rfl,hB'.trans ((qt (lo:=lo) hks (by (clear hk hn hok hak hkn hsz hk' hks; walk_at "l"))).mono (Nat.le_refl _) (by (clear hk hn hok hak hsz hk' hlk hks; walk_at "l"))),?_⟩))
      rw [show min (k+1) n=k+1 by (clear hk hn hok hak hsz hk' hlk hks; walk_at "l")]
      intro i j hl hij hj
      show R r (bubble (arrOf st'') (lo+k) (lo+k - (lo+l))) i≤R r (bubble (arrOf st'') (lo+k) (lo+k - (lo+l))) j
      rw [o6 hks (by (clear hk hn hok hak hkn hsz hk' hks hl hij hj; walk_at "l")),o6 hks (by (clear hk hn hok hak hkn hsz hk' hks hl hij hj; walk_at "l")),show lo+k - (lo+k - (lo+l))=lo+l by (clear hk hn hok hak hkn hsz hk' hks hl hij hj; walk_at "l")]
      repeat' split
      all_goals first
        | (exfalso; (clear hk hn hok hak hkn hsz hk' hlk hks hl; walk_at "l"))
        | exact Int.le_refl _
        | exact hlo _ (by (clear hk hn hok hak hkn hsz hk' hlk hks hij hj; walk_at "l")) (by (clear hk hn hok hak hkn hsz hk' hlk hks hl; walk_at "l"))
        | exact Int.le_of_lt (hhi _ (by (clear hk hn hok hak hkn hsz hk' hlk hks hl hij hj; walk_at "l")) (by (clear hk hn hok hak hkn hsz hk' hlk hks hl hij; walk_at "l")))
        | exact hs' _ _ (by (clear hk hn hok hak hkn hsz hk' hlk hks hij hj; walk_at "l")) (by (clear hk hn hok hak hkn hsz hk' hlk hks hl; walk_at "l")) (by (clear hk hn hok hak hkn hsz hk' hks hl hij; walk_at "l"))
end

noncomputable def ascL (lo a nrem:Nat):StateT SortSt Sem AscSt :=
  forIn [a:nrem] ((none,a):AscSt) fun _ __s=>do
    let __x ← ltAt' (lo+__s.snd) (lo+__s.snd - 1)
    match __x with
    | some smaller=>if smaller=true then pure (ForInStep.done (none,__s.snd)) else pure (ForInStep.yield (none,__s.snd+1))
    | _=>pure (ForInStep.done (some none,__s.snd))
noncomputable def lL (lo n nrem:Nat):StateT SortSt Sem (Option Nat):=do
  reverseSlice' lo (lo+n)
  let __s ← ascL lo n nrem
  match __s.fst with
  | some r=>pure r
  | none=>pure (some __s.snd)
noncomputable def ux (lo n nrem:Nat):StateT SortSt Sem DescSt :=
  forIn [n:nrem] ((none,n,0):DescSt) fun _ __s=>do
    let __x ← ltAt' (lo+__s.snd.fst) (lo+__s.snd.fst - 1)
    match __x with
    | some smaller =>
      if smaller=true then
        if __s.snd.snd>0 then do
          reverseSlice' (lo+__s.snd.fst - (__s.snd.snd+1)) (lo+__s.snd.fst)
          pure (ForInStep.yield (none,__s.snd.fst+1,0))
        else pure (ForInStep.yield (none,__s.snd.fst+1,0))
      else do
        let __x ← ltAt' (lo+__s.snd.fst - 1) (lo+__s.snd.fst)
        match __x with
        | some larger =>
          if larger=true then pure (ForInStep.done (none,__s.snd.fst,__s.snd.snd))
          else pure (ForInStep.yield (none,__s.snd.fst+1,__s.snd.snd+1))
        | _=>pure (ForInStep.done (some none,__s.snd.fst,__s.snd.snd))
    | _=>pure (ForInStep.done (some none,__s.snd.fst,__s.snd.snd))
noncomputable def dg (lo n nrem:Nat):StateT SortSt Sem (Option Nat):=do
  liftM (rule "list.sort.descending-run")
  let __s ← ux lo (n + 1) nrem
  match __s.fst with
  | some r=>pure r
  | none =>
    if __s.snd.snd>0 then do
      reverseSlice' (lo+__s.snd.fst - (__s.snd.snd+1)) (lo+__s.snd.fst)
      lL lo __s.snd.fst nrem
    else lL lo __s.snd.fst nrem

theorem lM (lo nrem:Nat):countRun' lo nrem=(do
    let __s ← ascL lo 1 nrem
    match __s.fst with
    | some r=>pure r
    | none =>
      if (__s.snd == nrem)=true then pure (some __s.snd)
      else if __s.snd>1 then do
        let __x ← ltAt' lo (lo+__s.snd - 1)
        match __x with
        | some rose=>if rose=true then pure (some __s.snd) else do
            reverseSlice' lo (lo+__s.snd)
            dg lo __s.snd nrem
        | _=>pure none
      else dg lo __s.snd nrem):=by
  rw [countRun'_eq]
  dsimp only
  unfold dg lL ux ascL
  congr 1
  funext __s
  obtain ⟨r,n⟩:=__s
  cases r with
  | some r=>rfl
  | none =>
    dsimp only
    split
    · rfl
    · split
      · congr 1
        funext x
        cases x with
        | none=>rfl
        | some rose =>
          dsimp only
          split
          · rfl
          · congr 1
            funext _r
            (congr 1; funext _u; congr 1; congr 1; funext s2; obtain ⟨r2,n2,q2⟩:=s2; cases r2 with
              | some r2=>rfl
              | none=>(dsimp only; split; (congr 1; funext _v; (congr 1; funext _w; congr 1; (funext s3; obtain ⟨r3,n3⟩:=s3; cases r3 <;> rfl))); (congr 1; funext _w; congr 1; (funext s3; obtain ⟨r3,n3⟩:=s3; cases r3 <;> rfl))))
      · (congr 1; funext _u; congr 1; congr 1; funext s2; obtain ⟨r2,n2,q2⟩:=s2; cases r2 with
          | some r2=>rfl
          | none=>(dsimp only; split; (congr 1; funext _v; (congr 1; funext _w; congr 1; (funext s3; obtain ⟨r3,n3⟩:=s3; cases r3 <;> rfl))); (congr 1; funext _w; congr 1; (funext s3; obtain ⟨r3,n3⟩:=s3; cases r3 <;> rfl))))

section
variable {prog:Program} {w:World} {A:Around} {E:Value→Shared→Prop} {s:Shared} {κ:SortKind} {r:Value→Int} {P:Value→Prop}

theorem o9 {st:SortSt} {lo a nrem:Nat} {Q:AscSt→SortSt→Prop} (C:Cmp prog w A s κ r P) (hk:kindOf st=κ) (hP:AllP P (arrOf st)) (hn:lo+nrem≤(arrOf st).size) (ha:1≤a) (han:a≤nrem)
    (hs:Up r (arrOf st) lo (lo+a))
    (h:∀ n,a≤n→n≤nrem→Up r (arrOf st) lo (lo+n)→(n=nrem∨R r (arrOf st) (lo+n)<R r (arrOf st) (lo+n - 1))→Q (none,n) st) :
    wpS (model prog w) A E s (ascL lo a nrem) Q st:=by
  unfold ascL
  refine wpS_forRange (I:=fun x c st'=>st'=st∧c=(none,x)∧Up r (arrOf st) lo (lo+x)) ?step ?fin ⟨rfl,rfl,hs⟩
  case fin =>
    rintro c st' ⟨rfl,rfl,hs'⟩
    rw [show max a nrem=nrem by (clear ha hk hn; walk_at "l")] at hs' ⊢
    exact h nrem han (Nat.le_refl _) hs' (.inl rfl)
  case step =>
    rintro x c st' hax hxn ⟨rfl,rfl,hs'⟩
    dsimp only
    refine wpS_bind (iI C hk hP (by (clear ha han hax hk; walk_at "l")) (by (clear han hk; walk_at "l")) ?_)
    by_cases hless:R r (arrOf st') (lo+x)<R r (arrOf st') (lo+x - 1)
    · simp only [hless,decide_true,if_true]
      exact wpS_pure (h x hax (by (clear ha han hax hk hn hless; walk_at "l")) hs' (.inr hless))
    · simp only [hless,decide_false,Bool.false_eq_true,if_false]
      refine wpS_pure ⟨rfl,rfl,fun i j hl hij hj=>?_⟩
      by_cases hjx:j<lo+x
      · exact hs' i j hl hij hjx
      · have hj':j=lo+x:=by (clear ha han hax hxn hk hn hless hl hij; walk_at "l")
        subst hj'
        by_cases hi':i=lo+x
        · subst hi'; exact Int.le_refl _
        · exact Int.le_trans (hs' i (lo+x - 1) hl (by (clear han hxn hk hn hless hl hj hjx; walk_at "l")) (by (clear han hxn hk hn hless hl hij hj hjx hi'; walk_at "l"))) (Int.not_lt.mp hless)

theorem jK {st:SortSt} {lo n nrem:Nat} {Q:Option Nat→SortSt→Prop} (C:Cmp prog w A s κ r P) (hk:kindOf st=κ) (hP:AllP P (arrOf st)) (hn:lo+nrem≤(arrOf st).size) (h1:1≤n) (hnn:n≤nrem)
    (hs:Down r (arrOf st) lo (lo+n)) (h:∀ m st',Win lo (lo+nrem) st st'→1≤m→m≤nrem→Up r (arrOf st') lo (lo+m)→Q (some m) st') :
    wpS (model prog w) A E s (lL lo n nrem) Q st:=by
  unfold lL
  have hsz:lo+n≤(arrOf st).size:=by (clear hk h1; walk_at "l")
  refine wpS_bind (cC ?_)
  have hB':=dG (i:=lo) hsz
  refine wpS_bind (o9 C (hB'.kind.trans hk) (hP.perm hB'.perm) (by rw [hB'.size]; exact hn) h1 hnn ?_ fun m hm1 hm2 hsm _=>wpS_pure (h m _ (hB'.mono (Nat.le_refl _) (by (clear hk hn h1 hsz hm1 hm2; walk_at "l"))) (by (clear hk hn hnn hsz hm2; walk_at "l")) hm2 hsm))
  intro i j hl hij hj
  show R r (mirror (arrOf st) lo (lo+n) ((lo+n - lo) / 2)) i≤R r (mirror (arrOf st) lo (lo+n) ((lo+n - lo) / 2)) j
  rw [kZ hsz,kZ hsz,if_pos (by (clear hk hn h1 hnn hsz; walk_at "l")),if_pos (by (clear hk hn h1 hnn hsz; walk_at "l"))]
  exact hs _ _ (by (clear hk hn h1 hnn hsz hl hij; walk_at "l")) (by (clear hk hn h1 hnn hsz hl; walk_at "l")) (by (clear hk hn h1 hnn hsz hij; walk_at "l"))

theorem tW {st:SortSt} {lo n nrem:Nat} {Q:DescSt→SortSt→Prop} (C:Cmp prog w A s κ r P) (hk:kindOf st=κ) (hP:AllP P (arrOf st)) (hn:lo+nrem≤(arrOf st).size) (h1:1≤n) (hnn:n≤nrem)
    (hs:Down r (arrOf st) lo (lo+n))
    (h:∀ m neq st',Win lo (lo+nrem) st st'→n≤m→m≤nrem→Down r (arrOf st') lo (lo+m)→neq+1≤m→(∀ i,lo+m - (neq+1)≤i→i<lo+m→R r (arrOf st') i=R r (arrOf st') (lo+m - 1))→Q (none,m,neq) st') :
    wpS (model prog w) A E s (ux lo n nrem) Q st:=by
  unfold ux
  refine wpS_forRange (I:=fun x c st'=>∃ neq,c=(none,x,neq)∧Win lo (lo+nrem) st st'∧Down r (arrOf st') lo (lo+x)∧neq+1≤x ∧
      (∀ i,lo+x - (neq+1)≤i→i<lo+x→R r (arrOf st') i=R r (arrOf st') (lo+x - 1))) ?step ?fin ⟨0,rfl,.refl _ _ _,hs,by (clear hk hn hnn; walk_at "l"),fun i h1 h2=>by congr 1; (clear hk hn hnn; walk_at "l")⟩
  case fin =>
    rintro c st' ⟨neq,rfl,hB',hs',hq,he⟩
    rw [show max n nrem=nrem by (clear hk hn h1 hq; walk_at "l")] at hs' hq he ⊢
    exact h nrem neq st' hB' hnn (Nat.le_refl _) hs' hq he
  case step =>
    rintro x c st' hax hxn ⟨neq,rfl,hB',hs',hq,he⟩
    dsimp only
    have hz:=hB'.size
    have hsz:lo+x≤(arrOf st').size:=by (clear hk h1 hnn hax hq; walk_at "l")
    have hk':=hB'.kind.trans hk
    have hP':=hP.perm hB'.perm
    refine wpS_bind (iI C hk' hP' (by (clear hk h1 hnn hax hq hk'; walk_at "l")) (by (clear hk hn hnn hxn hq hz hk'; walk_at "l")) ?_)
    by_cases hless:R r (arrOf st') (lo+x)<R r (arrOf st') (lo+x - 1)
    · simp only [hless,decide_true,if_true]
      have step1:∀ xs:Array Keyed,(∀ k,R r xs k=R r (arrOf st') k)→Down r xs lo (lo+(x+1)):=by
        intro xs hkk i j hl hij hj
        rw [hkk,hkk]
        by_cases hjx:j<lo+x
        · exact hs' i j hl hij hjx
        · have hj':j=lo+x:=by (clear hk hn h1 hnn hax hxn hq hz hsz hk' hless hl hij; walk_at "l")
          subst hj'
          by_cases hi':i=lo+x
          · subst hi'; exact Int.le_refl _
          · exact Int.le_trans (Int.le_of_lt hless) (hs' i (lo+x - 1) hl (by (clear hk hn h1 hnn hax hxn hq hz hsz hk' hless hl hj hjx; walk_at "l")) (by (clear hk hn hnn hxn hq hz hsz hk' hless hl hij hj hjx hi'; walk_at "l")))
      by_cases hneq:neq>0
      · rw [if_pos hneq]
        refine wpS_bind (cC (wpS_pure ⟨0,rfl,hB'.trans ((dG hsz).mono (by (clear hk hn h1 hnn hax hxn hz hsz hk' hless hneq; walk_at "l")) (by (clear hk hn h1 hnn hax hq hz hsz hk' hless hneq; walk_at "l"))),step1 _ (bQ hsz he),by (clear hk hn h1 hnn hax hxn hq hz hsz hk' hless hneq; walk_at "l"),fun i h1 h2=>by congr 1; (clear hk hn hnn hxn hq hz hsz hk' hless hneq; walk_at "l")⟩))
      · rw [if_neg hneq]
        exact wpS_pure ⟨0,rfl,hB',step1 _ (fun _=>rfl),by (clear hk hn h1 hnn hax hxn hq hz hsz hk' hless hneq; walk_at "l"),fun i h1 h2=>by congr 1; (clear hk hn hnn hxn hq hz hsz hk' hless hneq; walk_at "l")⟩
    · simp only [hless,decide_false,Bool.false_eq_true,if_false]
      refine wpS_bind (iI C hk' hP' (by (clear hk hn hnn hxn hq hz hk' hless; walk_at "l")) (by (clear hk h1 hnn hax hq hk' hless; walk_at "l")) ?_)
      by_cases hlarger:R r (arrOf st') (lo+x - 1)<R r (arrOf st') (lo+x)
      · simp only [hlarger,decide_true,if_true]
        exact wpS_pure (h x neq st' hB' hax (by (clear hk hn h1 hnn hax hq hz hsz hk' hless hlarger; walk_at "l")) hs' hq he)
      · simp only [hlarger,decide_false,Bool.false_eq_true,if_false]
        have heqx:R r (arrOf st') (lo+x)=R r (arrOf st') (lo+x - 1):=by (clear hk hn h1 hnn hax hxn hq hz hsz hk'; walk_at "l")
        refine wpS_pure ⟨neq+1,rfl,hB',fun i j hl hij hj=>?_,by (clear hk hn h1 hnn hax hxn hz hsz hk' hless hlarger heqx; walk_at "l"),fun i h1 h2=>?_⟩
        · by_cases hjx:j<lo+x
          · exact hs' i j hl hij hjx
          · have hj':j=lo+x:=by (clear hk hn h1 hnn hax hxn hq hz hsz hk' hless hlarger heqx hl hij; walk_at "l")
            subst hj'
            by_cases hi':i=lo+x
            · subst hi'; exact Int.le_refl _
            · rw [heqx]; exact hs' i (lo+x - 1) hl (by (clear hk hn h1 hnn hax hxn hq hz hsz hk' hless hlarger heqx hl hj hjx; walk_at "l")) (by (clear hk hn hnn hxn hq hz hsz hk' hless hlarger heqx hl hij hj hjx hi'; walk_at "l"))
        · rw [show lo+(x+1) - 1=lo+x by (clear hk hn hnn hxn hq hz hsz hk' hless hlarger heqx h1 h2; walk_at "l")]
          by_cases hix:i=lo+x
          · subst hix; rfl
          · rw [heqx]; exact he i (by (clear hk hn hnn hax hxn hz hsz hk' hless hlarger heqx; walk_at "l")) (by (clear hk hn hnn hax hxn hq hz hsz hk' hless hlarger heqx h1; walk_at "l"))

theorem eO {st:SortSt} {lo n nrem:Nat} {Q:Option Nat→SortSt→Prop} (C:Cmp prog w A s κ r P) (hk:kindOf st=κ) (hP:AllP P (arrOf st)) (hn:lo+nrem≤(arrOf st).size) (hnn:n+1≤nrem)
    (hs:Down r (arrOf st) lo (lo+(n+1))) (h:∀ m st',Win lo (lo+nrem) st st'→1≤m→m≤nrem→Up r (arrOf st') lo (lo+m)→Q (some m) st') :
    wpS (model prog w) A E s (dg lo n nrem) Q st:=by
  unfold dg
  refine wpS_bind (wpS_lift (wpAny_rule ⟨rfl,?_⟩))
  refine wpS_bind (tW C hk hP hn (by (clear hk hn hnn; walk_at "l")) hnn hs fun m neq st' hB' hm1 hm2 hs' hq he=>?_)
  dsimp only
  have hz:=hB'.size
  have hsz:lo+m≤(arrOf st').size:=by (clear hk hnn hm1 hq; walk_at "l")
  have hk':=hB'.kind.trans hk
  have hP':=hP.perm hB'.perm
  by_cases hneq:neq>0
  · rw [if_pos hneq]
    have hW:=dG (i:=lo+m - (neq+1)) hsz
    refine wpS_bind (cC (jK C (hW.kind.trans hk') (hP'.perm hW.perm) (by rw [hW.size,hz]; exact hn) (by (clear hk hn hnn hm1 hm2 hz hsz hk'; walk_at "l")) hm2 ?_ fun m2 st2 hB2=>h m2 st2 ((hB'.trans (hW.mono (by (clear hk hn hnn hm1 hm2 hz hsz hk' hneq; walk_at "l")) (by (clear hk hn hnn hm1 hq hz hsz hk' hneq; walk_at "l")))).trans hB2)))
    intro i j hl hij hj
    show R r (mirror (arrOf st') _ _ _) j≤R r (mirror (arrOf st') _ _ _) i
    rw [bQ hsz he,bQ hsz he]
    exact hs' i j hl hij hj
  · rw [if_neg hneq]
    exact jK C hk' hP' (by rw [hz]; exact hn) (by (clear hk hn hnn hm1 hm2 hz hsz hk'; walk_at "l")) hm2 hs' fun m2 st2 hB2=>h m2 st2 (hB'.trans hB2)

theorem wpS_countRun {st:SortSt} {lo nrem:Nat} {Q:Option Nat→SortSt→Prop} (C:Cmp prog w A s κ r P) (hk:kindOf st=κ) (hP:AllP P (arrOf st)) (hn:lo+nrem≤(arrOf st).size) (h1:1≤nrem)
    (h:∀ m st',Win lo (lo+nrem) st st'→1≤m→m≤nrem→Up r (arrOf st') lo (lo+m)→Q (some m) st') :
    wpS (model prog w) A E s (countRun' lo nrem) Q st:=by
  rw [lM]
  refine wpS_bind (o9 C hk hP hn (Nat.le_refl 1) h1 (fun i j hl hij hj=>by
    have:i=j:=by (clear hk hn h1; walk_at "l")
    subst this; exact Int.le_refl _) fun n hn1 hn2 hsn hor=>?_)
  dsimp only
  by_cases hnn:n=nrem
  · rw [if_pos (by simpa using hnn)]
    exact wpS_pure (h n st (.refl _ _ _) hn1 hn2 hsn)
  · rw [if_neg (by simpa using hnn)]
    have hlt:R r (arrOf st) (lo+n)<R r (arrOf st) (lo+n - 1):=hor.resolve_left hnn
    by_cases hgt:n>1
    · rw [if_pos hgt]
      refine wpS_bind (iI C hk hP (by (clear hk hn1 hn2 hor hnn hlt hgt; walk_at "l")) (by (clear hk h1 hn1 hor hnn hlt; walk_at "l")) ?_)
      by_cases hrose:R r (arrOf st) lo<R r (arrOf st) (lo+n - 1)
      · simp only [hrose,decide_true,if_true]
        exact wpS_pure (h n st (.refl _ _ _) hn1 hn2 hsn)
      · simp only [hrose,decide_false,Bool.false_eq_true,if_false]
        have hsz:lo+n≤(arrOf st).size:=by (clear hk h1 hn1 hor hnn hlt hgt hrose; walk_at "l")
        have hall:∀ k,lo≤k→k<lo+n→R r (arrOf st) k=R r (arrOf st) (lo+n - 1):=by
          intro k hl hk
          have a1:=hsn lo k (by (clear hn h1 hn1 hn2 hor hnn hlt hgt hrose hsz hl hk; walk_at "l")) hl hk
          have a2:=hsn k (lo+n - 1) hl (by (clear hn h1 hn1 hn2 hor hnn hlt hgt hrose hsz hl a1; walk_at "l")) (by (clear hn h1 hn1 hn2 hor hnn hlt hrose hsz hl hk a1; walk_at "l"))
          (clear hn h1 hn1 hn2 hor hnn hlt hgt hsz hl hk; walk_at "l")
        have hW:=dG (i:=lo) hsz
        refine wpS_bind (cC (eO C (hW.kind.trans hk) (hP.perm hW.perm) (by rw [hW.size]; exact hn) (by (clear hk hn h1 hn1 hor hlt hgt hrose hsz; walk_at "l")) ?_ fun m2 st2 hB2=>h m2 st2 ((hW.mono (Nat.le_refl _) (by (clear hk hn h1 hn1 hor hnn hlt hgt hrose hsz; walk_at "l"))).trans hB2)))
        intro i j hl hij hj
        show R r (mirror (arrOf st) _ _ _) j≤R r (mirror (arrOf st) _ _ _) i
        rw [bQ hsz hall,bQ hsz hall]
        by_cases hjn:j<lo+n
        · rw [hall i hl (by (clear hk hn h1 hn1 hn2 hor hnn hlt hgt hrose hsz hl hj; walk_at "l")),hall j (by (clear hk hn h1 hn1 hn2 hor hnn hlt hgt hrose hsz hj hjn; walk_at "l")) hjn]; exact Int.le_refl _
        · have hj':j=lo+n:=by (clear hk hn h1 hn1 hn2 hor hnn hlt hgt hrose hsz hl hij; walk_at "l")
          subst hj'
          by_cases hi':i=lo+n
          · subst hi'; exact Int.le_refl _
          · rw [hall i hl (by (clear hk hn h1 hn1 hn2 hor hnn hlt hgt hrose hsz hl hj hjn; walk_at "l"))]; exact Int.le_of_lt hlt
    · rw [if_neg hgt]
      have hn1':n=1:=by (clear hk hn h1 hn2 hor hnn hlt; walk_at "l")
      subst hn1'
      refine eO C hk hP hn (by (clear hk hn hn1 hn2 hor hlt hgt; walk_at "l")) ?_ h
      intro i j hl hij hj
      by_cases hi':i=j
      · subst hi'; exact Int.le_refl _
      · have hi0:i=lo:=by (clear hk hn h1 hn1 hn2 hor hnn hlt hgt; walk_at "l")
        have hj1:j=lo+1:=by (clear hk hn h1 hn1 hn2 hor hnn hlt hgt hl; walk_at "l")
        subst hi0; subst hj1
        exact Int.le_of_lt hlt
end
end Tim

set_option Elab.async false
set_option linter.all false
set_option maxRecDepth 100000
set_option maxHeartbeats 4000000

namespace Tim
open PySem PyProof.Rows
section
variable {prog:Program} {w:World} {A:Around} {E:Value→Shared→Prop} {s:Shared} {κ:SortKind} {r:Value→Int} {P:Value→Prop}
theorem R_at {r:Value→Int} {xs:Array Keyed} {i:Nat} {p:Keyed} (e:xs[i]? = some p):R r xs i=r p.1:=by unfold R; rw [e]
theorem zg {r:Value→Int} {xs:Array Keyed} {i:Nat} (h:i<xs.size):R r xs i=r xs[i].1:=R_at (Array.getElem?_eq_getElem h)
structure One (r:Value→Int) (a₀:Array Keyed) (st:SortSt):Prop where
  perm:(arrOf st).Perm a₀
  failed:failedOf st=none
  pend:(pendingOf st).size≤1
  up:Up r (arrOf st) 0 a₀.size
theorem wpS_sortRuns {st:SortSt} {Q:Unit→SortSt→Prop} (C:Cmp prog w A s κ r P) (hk:kindOf st=κ) (hP:AllP P (arrOf st)) (hp:pendingOf st = #[]) (hf:failedOf st=none) (h64:(arrOf st).size<64) (h1:1≤(arrOf st).size)
    (h:∀ st',(arrOf st').Perm (arrOf st)→failedOf st'=none→Up r (arrOf st') 0 (arrOf st).size→Q () st'):wpS (model prog w) A E s sortRuns' Q st:=by
  rw [sortRuns'_eq]
  refine wpS_bind (wpS_get ?_)
  dsimp only
  generalize ha:arrOf st=a₀ at *
  have hmr:minRun' a₀.size a₀.size 0=a₀.size:=by
    obtain ⟨f,hf⟩:∃ f,a₀.size=f+1:=⟨a₀.size - 1,by walk_at "l"⟩
    have:minRun' (f+1) a₀.size 0=a₀.size:=by rw [minRun'_succ,if_pos h64]; rfl
    rwa [← hf] at this
  rw [hmr]
  have push:∀ st':SortSt,Win 0 a₀.size st st'→Up r (arrOf st') 0 a₀.size→One r a₀ (setPending st' ((pendingOf st').push (0,a₀.size,0))):=fun st' hw u =>
    ⟨ha ▸ hw.perm,hw.failed.trans hf,by show ((pendingOf st').push _).size≤1; rw [hw.pend,hp]; simp,u⟩
  refine wpS_bind (wpS_mono (wpS_forRange (I:=fun x c st'=>(x=0∧c=(none,0)∧st'=st)∨(1≤x∧c=(none,a₀.size)∧One r a₀ st'))
    (Q:=fun c st'=>c=(none,a₀.size)∧One r a₀ st') ?step ?fin (.inl ⟨rfl,rfl,rfl⟩)) ?post)
  case fin =>
    rintro c st' (⟨hx,_,_⟩ | ⟨_,hc,hD⟩)
    · walk_at "l"
    · exact ⟨hc,hD⟩
  case step =>
    rintro x c st' _ hx (⟨rfl,rfl,rfl⟩ | ⟨hx1,rfl,hD⟩)
    · dsimp only
      rw [if_neg (by walk_at "l")]
      simp only [Nat.sub_zero,Nat.min_self,Nat.zero_add]
      refine wpS_bind (wpS_countRun C hk (by rw [ha]; exact hP) (by rw [ha]; walk_at "l") h1 fun m st2 hw hm1 hm2 hu=>?_)
      dsimp only
      rw [Nat.zero_add] at hw hu
      have hz:(arrOf st2).size=a₀.size:=by rw [hw.size,ha]
      by_cases z:m<a₀.size
      · rw [if_pos z]
        refine wpS_bind (wpS_lift (wpAny_rule ⟨rfl,?_⟩))
        refine wpS_bind (wpS_binarySort C (hw.kind.trans hk) (hP.perm (ha ▸ hw.perm)) (by walk_at "l") (by walk_at "l") (by rw [Nat.zero_add]; exact hu) fun st3 hw3 hu3=>?_)
        rw [Nat.zero_add] at hw3 hu3
        simp only [Bool.not_true,Bool.false_eq_true,if_false]
        refine wpS_bind (wpS_get ?_)
        have hb:(pendingOf st3).back? = none:=by rw [hw3.pend,hw.pend,hp]; rfl
        rw [hb]
        dsimp only
        exact wpS_bind (wpS_modify (wpS_pure (.inr ⟨by walk_at "l",rfl,push st3 (hw.trans hw3) hu3⟩)))
      · rw [if_neg z]
        have hm:m=a₀.size:=by walk_at "l"
        rw [hm] at hu ⊢
        refine wpS_bind (wpS_get ?_)
        have hb:(pendingOf st2).back? = none:=by rw [hw.pend,hp]; rfl
        rw [hb]
        dsimp only
        exact wpS_bind (wpS_modify (wpS_pure (.inr ⟨by walk_at "l",rfl,push st2 hw hu⟩)))
    · dsimp only
      rw [if_pos (Nat.le_refl _)]
      exact wpS_pure ⟨rfl,hD⟩
  case post =>
    rintro c st' ⟨rfl,hD⟩
    dsimp only
    refine wpS_bind (wpS_mono (wpS_forRange (I:=fun _ c st'=>c=(none,())∧One r a₀ st') (Q:=fun c st'=>c=(none,())∧One r a₀ st') ?step3 (fun _ _ q=>q) ⟨rfl,hD⟩) ?post3)
    case step3 =>
      rintro y c st1 _ hy ⟨rfl,H⟩
      refine wpS_bind (wpS_get ?_)
      rw [if_pos H.pend]
      exact wpS_pure ⟨rfl,H⟩
    case post3 =>
      rintro c st1 ⟨rfl,H⟩
      exact wpS_pure (h st1 H.perm H.failed H.up)
end
end Tim

set_option Elab.async false
set_option linter.all false
set_option maxRecDepth 100000
set_option maxHeartbeats 4000000
namespace Tim
open PySem PyProof.Rows
section
variable {prog:Program} {w:World} {A:Around} {E:Value→Shared→Prop} {s:Shared} {κ:SortKind} {r:Value→Int} {P:Value→Prop}

noncomputable def cN (h:Heap) (a:Addr) (vs:List Value):Heap:=((h.update a (Obj.mapSeq fun _=>#[])).push (seqObj "tuple" vs.toArray 0)).push (seqObj "list" #[] 0)
theorem ig {h:Heap} {a b:Addr} {vs:List Value} (hb:b≠a) (hlt:b<h.objs.size):(cN h a vs).get? b=h.get? b:=by
  unfold cN
  rw [Heap.get?_push_ne _ _ _ (by rw [size_push',Heap.size_update]; exact Nat.ne_of_lt (Nat.lt_succ_of_lt hlt)),
    Heap.get?_push_ne _ _ _ (by rw [Heap.size_update]; exact Nat.ne_of_lt hlt),Heap.get?_update_ne _ _ _ _ hb]

theorem oV {vs:List Value} {xs:Array Keyed} (hp:xs.Perm (pairsOf vs)) (hs:Up r xs 0 vs.length):(xs.map (·.2)).toList.Perm vs∧(xs.map (·.2)).toList.Pairwise fun x y=>r x≤r y:=by
  have hl:xs.toList.Perm (vs.zip vs):=by rw [← pairsOf_toList]; exact Array.perm_iff_toList_perm.mp hp
  have hmem:∀ p,p∈xs.toList→p.1=p.2:=fun p hp'=>(mem_zip_self (hl.mem_iff.mp hp')).1
  have e:(xs.map (·.2)).toList=xs.toList.map (·.1):=by
    rw [Array.toList_map]; exact List.map_congr_left fun p hp'=>(hmem p hp').symm
  have hsz:xs.size=vs.length:=by rw [hp.size_eq,pairsOf_size]
  rw [e]
  refine ⟨?_,?_⟩
  · have h1:=hl.map (·.1)
    rwa [List.map_fst_zip (Nat.le_refl _)] at h1
  · rw [List.pairwise_iff_getElem]
    intro i j hi hj hij
    have hi':i<xs.size:=by simpa using hi
    have hj':j<xs.size:=by simpa using hj
    have h1:=hs i j (Nat.zero_le _) (Nat.le_of_lt hij) (by walk_at "l")
    rw [zg hi',zg hj'] at h1
    simpa using h1

theorem gj {a:Addr} {vs:List Value} {n:Nat} {F:PySem.Fin→Shared→Prop} (ho:s.heap.get? a=some (seqObj "list" vs.toArray n)) (h63:vs.length≤63) (hP:∀ v∈vs,P v)
    (hk:2≤vs.length→∀ (Q:SortKind→Shared→Prop),Q κ { s with heap:=cN s.heap a vs }→wpAny (model prog w) A (keyKind' vs.toArray) Q E { s with heap:=cN s.heap a vs })
    (C:2≤vs.length→Cmp prog w A { s with heap:=cN s.heap a vs } κ r P)
    (h:∀ out:Array Value,out.toList.Perm vs→(out.toList.Pairwise fun x y=>r x≤r y)→F (.done (.ret .none)) { s with heap:=sortedHeap s.heap a vs out }) :
    wpAny (model prog w) A (Builtin.«list.sort» ⟨[.ref a],[]⟩) F E s:=by
  have hsz:vs.length≤sizeLine:=Nat.le_trans h63 (by rw [sizeLine_eq]; decide)
  rw [list_sort_plain]
  have ha:a<s.heap.objs.size:=Heap.lt_size ho
  refine wpAny_bind (listItems_at ho rfl ?_)
  refine wpAny_bind (listUpdate_at ho rfl ?_ (by simpa using hsz) (Nat.zero_le _))
  obtain ⟨e1,ho1⟩:∃ e1,(s.heap.update a (Obj.mapSeq fun _=>#[])).get? a=some (seqObj "list" #[] e1):=⟨_,get?_update_seq ho (fun _=>#[])⟩
  refine wpAny_bind (seqEpoch_at ho1 rfl ?_)
  refine wpAny_bind (wpAny_newTuple ?_ (by simpa using hsz))
  refine wpAny_bind (wpAny_newList ?_ (Nat.zero_le _))
  refine wpAny_holding ?_
  have ho6:(cN s.heap a vs).get? a=some (seqObj "list" #[] e1):=by
    unfold cN
    rw [Heap.get?_push_ne _ _ _ (by rw [size_push',Heap.size_update]; exact Nat.ne_of_lt (Nat.lt_succ_of_lt ha)),Heap.get?_push_ne _ _ _ (by rw [Heap.size_update]; exact Nat.ne_of_lt ha)]
    exact ho1
  show wpAny (model prog w) A _ F E { s with heap:=cN s.heap a vs }
  dsimp only
  have hvz:vs.toArray.size=vs.length:=by simp
  have fin:∀ st':SortSt,(arrOf st').Perm (pairsOf vs)→Up r (arrOf st') 0 vs.length→F (.done (.ret .none)) { s with heap:=sortedHeap s.heap a vs ((arrOf st').map (·.2)) }:=by
    intro st' hp hs
    obtain ⟨h1,h2⟩:=oV hp hs
    exact h _ h1 h2
  by_cases h2:vs.toArray.size<2
  · rw [if_pos h2,if_pos h2]
    refine wpAny_bind (wpAny_pure ?_)
    rw [StateT.run_pure]
    refine wpAny_bind (wpAny_pure ?_)
    dsimp only
    refine wpAny_bind (seqEpoch_at ho6 rfl ?_)
    refine wpAny_bind (listUpdate_at ho6 rfl ?_ (Nat.zero_le _) (by rw [Array.size_map]; show (pairsOf vs).size≤_; rw [pairsOf_size]; walk_at "l"))
    simp only [bne_self_eq_false,Bool.false_eq_true,if_false]
    refine wpAny_pure (fin (SortSt.mk' general' (vs.toArray.zip vs.toArray) #[] 7 none) (Array.Perm.refl _) ?_)
    intro i j _ hij hj
    have:i=j:=by walk_at "l"
    subst this; exact Int.le_refl _
  · rw [if_neg h2,if_neg h2]
    refine wpAny_bind (hk (by walk_at "l") _ ?_)
    refine wpAny_bind (wpAny_mono (wpS_sortRuns (st:=SortSt.mk' κ (vs.toArray.zip vs.toArray) #[] 7 none)
      (Q:=fun _ st'=>(arrOf st').Perm (pairsOf vs)∧failedOf st'=none∧Up r (arrOf st') 0 vs.length)
      (C (by walk_at "l")) rfl (fun p hp=>?_) rfl rfl (Nat.lt_succ_of_le (Nat.le_trans (Nat.le_of_eq (pairsOf_size vs)) h63)) (Nat.le_trans (by walk_at "l") (Nat.le_of_eq (pairsOf_size vs).symm)) fun st' a1 a2 a3=>⟨a1,a2,?_⟩) ?_ fun _ _ e=>e)
    · have hp':p∈(pairsOf vs).toList:=hp
      rw [pairsOf_toList] at hp'
      exact hP _ (mem_zip_self hp').2
    · have e:(arrOf (SortSt.mk' κ (vs.toArray.zip vs.toArray) #[] 7 none)).size=vs.length:=pairsOf_size vs
      rw [e] at a3
      exact a3
    · rintro ⟨⟨⟩,st'⟩ s' ⟨rfl,hp,hf,hs⟩
      dsimp only
      refine wpAny_bind (seqEpoch_at ho6 rfl ?_)
      refine wpAny_bind (listUpdate_at ho6 rfl ?_ (Nat.zero_le _) (by refine Nat.le_trans (Nat.le_of_eq ((Array.size_map ..).trans (hp.size_eq.trans (pairsOf_size _)))) ?_; walk_at "l"))
      rw [hf]
      simp only [bne_self_eq_false,Bool.false_eq_true,if_false]
      exact wpAny_pure (fin st' hp hs)

noncomputable def dX (h:Heap) (vs:List Value):Heap:=((h.push (seqObj "list" #[] 0)).update h.objs.size (Obj.mapSeq (· ++ vs.toArray))).push (seqObj "list" vs.toArray 0)
theorem iV {h:Heap} {vs:List Value} {b:Addr} {o:Obj} (hb:h.get? b=some o):(cN (dX h vs) (h.objs.size+1) vs).get? b=some o:=by
  have hlt:b<h.objs.size:=Heap.lt_size hb
  have e:(dX h vs).get? b=some o:=by
    unfold dX
    rw [Heap.get?_push_ne _ _ _ (by rw [Heap.size_update,size_push']; exact Nat.ne_of_lt (Nat.lt_succ_of_lt hlt)),Heap.get?_update_ne _ _ _ _ (Nat.ne_of_lt hlt),Heap.get?_push_ne _ _ _ (Nat.ne_of_lt hlt)]
    exact hb
  rw [ig (Nat.ne_of_lt (Nat.lt_succ_of_lt hlt)) (Heap.lt_size e)]
  exact e

theorem tU {l:Addr} {vs:List Value} {Q:Value→Shared→Prop} (hl:s.heap.IsList l vs.toArray) (h63:vs.length≤63) (hP:∀ v∈vs,P v)
    (hk:2≤vs.length→∀ (A':Around) (E':Value→Shared→Prop) (s':Shared),(∀ b o,s.heap.get? b=some o→s'.heap.get? b=some o)→∀ (Q:SortKind→Shared→Prop),Q κ s'→wpAny (model prog w) A' (keyKind' vs.toArray) Q E' s')
    (C:2≤vs.length→∀ (s':Shared),(∀ b o,s.heap.get? b=some o→s'.heap.get? b=some o)→Cmp prog w A.in1.in1 s' κ r P)
    (h:∀ (h':Heap) (out:List Value) (n:Nat),out.Perm vs→(out.Pairwise fun x y=>r x≤r y)→(∀ b o,s.heap.get? b=some o→h'.get? b=some o)→h'.get? (s.heap.objs.size+1)=some (seqObj "list" out.toArray n)→Q (.ref (s.heap.objs.size+1)) { s with heap:=h' }) :
    wpAny (model prog w) A (call (.builtin "sorted") [.ref l]) Q E s:=by
  have hsz:vs.length≤sizeLine:=Nat.le_trans h63 (by rw [sizeLine_eq]; decide)
  refine Calls.call_function_entry kind_sorted plain_sorted entry_sorted (args_sorted1 _) ?_
  unfold Builtin.«sorted»
  refine wpAny_bind (m:=checkCount "sorted" 1 1 _) (wpAny_pure ?_)
  refine wpAny_bind (collect_list hl ?_ hsz)
  refine wpAny_bind (wpAny_newList ?_ (by simpa using hsz))
  have hsz2:((s.heap.push (seqObj "list" #[] 0)).update s.heap.objs.size (Obj.mapSeq (· ++ vs.toArray))).objs.size=s.heap.objs.size+1:=by
    rw [Heap.size_update,size_push']
  have hoL:(dX s.heap vs).get? (s.heap.objs.size+1)=some (seqObj "list" vs.toArray 0):=by
    unfold dX
    rw [← hsz2]; exact Heap.get?_push_size _ rfl
  show wpAny _ _ _ _ _ { s with heap:=dX s.heap vs }
  rw [hsz2]
  refine wpAny_bind (wpAny_holding (wpAny_call_entry slot_list_sort ⟨_,hoL,rfl⟩ entry_list_sort (gj (r:=r) (s:={ s with heap:=dX s.heap vs }) hoL h63 hP
    (fun h2=>hk h2 _ _ _ fun b o e=>iV e) (fun h2=>?_) fun out a1 a2=>⟨_,rfl,?_⟩) (args_list_sort _)))
  · exact C h2 _ fun b o e=>iV e
  · obtain ⟨n,e⟩:=sortedAll_at s.heap vs out
    refine wpAny_pure ⟨_,rfl,h (sortedAll s.heap vs out) out.toList n a1 a2 (fun b o e=>sortedAll_old e) (by rw [Array.toArray_toList]; exact e)⟩
end
end Tim

set_option Elab.async false
set_option linter.all false
set_option maxRecDepth 100000
set_option maxHeartbeats 4000000

namespace L2
open PySem PySem.Spec PyProof.Rows

noncomputable def lt1:Key→Key→Bool
  | .inl i,.inl j=>decide (i<j)
  | .inr x,.inr y=>ltS x y
  | _,_=>false
noncomputable def ltK:List Key→List Key→Bool
  | a :: as,b :: bs=>if a=b then ltK as bs else lt1 a b
  | _,_=>false
noncomputable def isI:Key→Bool
  | .inl _=>true
  | .inr _=>false
noncomputable def shOf (k:List Key):List Bool:=k.map isI
theorem vV (x:Str):ltS x x=false:=by unfold ltS; simp [List.lt_irrefl]
theorem yS {x y z:Str} (h:ltS x y=true) (g:ltS y z=true):ltS x z=true:=by
  unfold ltS at *
  simp only [decide_eq_true_eq] at *
  exact List.lt_trans h g
theorem sI {x y:Str} (h:x.cps.toList=y.cps.toList):x=y:=by
  cases x; cases y
  simp only at h
  rw [Array.toList_inj.mp h]
theorem wM {x y:Str} (h:ltS x y=false) (g:ltS y x=false):x=y:=by
  unfold ltS at *
  simp only [decide_eq_false_iff_not] at *
  apply sI
  exact List.le_antisymm (List.not_lt.mp g) (List.not_lt.mp h)
theorem tL (a:Key):lt1 a a=false:=by cases a with | inl i=>simp [lt1] | inr x=>exact vV x
theorem yr {a b c:Key} (h:lt1 a b=true) (g:lt1 b c=true):lt1 a c=true:=by
  cases a <;> cases b <;> cases c <;> simp only [lt1,decide_eq_true_eq] at * <;> first | walk_at "l" | contradiction | exact yS h g
theorem wQ {a b:Key} (e:isI a=isI b) (h:lt1 a b=false) (g:lt1 b a=false):a=b:=by
  cases a <;> cases b <;> simp only [lt1,isI,decide_eq_false_iff_not] at *
  · congr 1; walk_at "l"
  · cases e
  · cases e
  · congr 1; exact wM h g
theorem qR:∀ a:List Key,ltK a a=false
  | []=>rfl
  | a :: as=>by unfold ltK; rw [if_pos rfl]; exact qR as
theorem rW:∀ {a b c:List Key},ltK a b=true→ltK b c=true→ltK a c=true
  | [],_,_,h,_=>by simp [ltK] at h
  | _ :: _,[],_,h,_=>by simp [ltK] at h
  | _ :: _,_ :: _,[],_,g=>by simp [ltK] at g
  | a :: as,b :: bs,c :: cs,h,g=>by
    unfold ltK at h g ⊢
    by_cases e1:a=b
    · subst e1
      rw [if_pos rfl] at h
      by_cases e2:a=c
      · subst e2
        rw [if_pos rfl] at g ⊢
        exact rW h g
      · rw [if_neg e2] at g ⊢
        exact g
    · rw [if_neg e1] at h
      by_cases e2:b=c
      · subst e2
        rw [if_neg e1]
        exact h
      · rw [if_neg e2] at g
        have t:=yr h g
        have ne:a≠c:=fun e=>by subst e; rw [tL] at t; cases t
        rw [if_neg ne]
        exact t
theorem n_:∀ {a b:List Key},shOf a=shOf b→ltK a b=false→ltK b a=false→a=b
  | [],[],_,_,_=>rfl
  | [],_ :: _,e,_,_=>by simp [shOf] at e
  | _ :: _,[],e,_,_=>by simp [shOf] at e
  | a :: as,b :: bs,e,h,g=>by
    simp only [shOf,List.map_cons,List.cons.injEq] at e
    unfold ltK at h g
    by_cases e1:a=b
    · subst e1
      rw [if_pos rfl] at h g
      rw [n_ (show shOf as=shOf bs from e.2) h g]
    · rw [if_neg e1] at h
      rw [if_neg (Ne.symm e1)] at g
      exact absurd (wQ e.1 h g) e1

theorem count_le {α:Type} (p q:α→Bool):∀ (l:List α),(∀ x∈l,p x=true→q x=true)→l.countP p≤l.countP q
  | [],_=>Nat.le_refl _
  | x :: l,h=>by
    have ih:=count_le p q l fun y hy=>h y (List.mem_cons_of_mem _ hy)
    have h1:=h x List.mem_cons_self
    rw [List.countP_cons,List.countP_cons]
    cases hp:p x <;> cases hq:q x <;> simp_all <;> exact Nat.le_succ_of_le ‹_›
theorem pA {α:Type} (p q:α→Bool) (a:α) (ha:p a=false) (hb:q a=true):∀ (l:List α),a∈l→(∀ x∈l,p x=true→q x=true)→l.countP p<l.countP q
  | [],m,_=>by cases m
  | x :: l,m,h=>by
    rw [List.countP_cons,List.countP_cons]
    rcases List.mem_cons.mp m with rfl | m
    · have:=count_le p q l fun y hy=>h y (List.mem_cons_of_mem _ hy)
      rw [ha,hb]; simp; walk_at "l"
    · have ih:=pA p q a ha hb l m fun y hy=>h y (List.mem_cons_of_mem _ hy)
      have h1:=h x List.mem_cons_self
      cases hp:p x <;> cases hq:q x <;> simp_all <;> walk_at "l"
noncomputable def rkK (L:List (List Key)) (k:List Key):Int:=(L.countP fun j=>ltK j k:Nat)
theorem mL {L:List (List Key)} {a b:List Key} (e:shOf a=shOf b) (ma:a∈L):decide (rkK L a<rkK L b)=ltK a b:=by
  unfold rkK
  cases h:ltK a b with
  | true =>
    have:=pA (fun j=>ltK j a) (fun j=>ltK j b) a (qR a) h L ma fun x _ hx=>rW hx h
    exact decide_eq_true (by walk_at "l")
  | false =>
    apply decide_eq_false
    cases g:ltK b a with
    | false=>rw [n_ e h g]; walk_at "l"
    | true =>
      have:=count_le (fun j=>ltK j b) (fun j=>ltK j a) L fun x _ hx=>rW hx g
      walk_at "l"

noncomputable def unV:V→Option Key
  | .int i=>some (.inl i)
  | .str x=>some (.inr x)
  | _=>none
theorem z8 (k:Key):unV (kV k)=some k:=by cases k <;> rfl
theorem vp:∀ k:List Key,(k.map kV).filterMap unV=k
  | []=>rfl
  | a :: as=>by rw [List.map_cons,List.filterMap_cons,z8,vp as]
noncomputable def ji (H:Hp):Value→List Key
  | .ref b=>match H b with
    | some (.tup xs)=>xs.filterMap unV
    | _=>[]
  | _=>[]
theorem cu {H:Hp} {b:Addr} {k:List Key} (h:H b=some (.tup (k.map kV))):ji H (.ref b)=k:=by
  simp only [ji,h]; exact vp k
section
variable {prog:Program} {w:World} {A:Around} {E:Value→Shared→Prop} {s:Shared} {Q:Bool→Shared→Prop}
theorem yq {a b:Key} {u v:Value} (ru:RelV (kV a) u) (rv:RelV (kV b) v) (e:isI a=isI b) (q:Q (lt1 a b) s):wpAny (model prog w) A (oneLt' false u v) Q E s:=by
  refine PySem.W.kat_one u v ?_
  cases a with
  | inl i =>
    cases b with
    | inr x=>cases e
    | inl j =>
      obtain ⟨t,rfl⟩:=ru
      obtain ⟨t',rfl⟩:=rv
      exact lt_int q
  | inr x =>
    cases b with
    | inl j=>cases e
    | inr y =>
      obtain ⟨t,rfl⟩:=ru
      obtain ⟨t',rfl⟩:=rv
      exact PySem.P.lt_str q
theorem yt {a b:Key} {u v:Value} (ru:RelV (kV a) u) (rv:RelV (kV b) v) (e:isI a=isI b) (q:Q (decide (a=b)) s):wpAny (model prog w) A (eqBool u v) Q E s:=by
  cases a with
  | inl i =>
    cases b with
    | inr x=>cases e
    | inl j =>
      obtain ⟨t,rfl⟩:=ru
      obtain ⟨t',rfl⟩:=rv
      refine wpAny_eqBool_int ?_
      rw [← key_ll]; exact q
  | inr x =>
    cases b with
    | inl j=>cases e
    | inr y =>
      obtain ⟨t,rfl⟩:=ru
      obtain ⟨t',rfl⟩:=rv
      refine wpAny_eqBool_str ?_
      rw [← key_rr]; exact q
theorem u9 {fin:Bool} (k m:List Key) (us vs:List Value) (i:Nat) (ha:Vals (k.map kV) us) (hb:Vals (m.map kV) vs) (e:shOf k=shOf m) (hf:fin=false) (hi:i=0→k.head?.elim True (fun a=>isI a=true)) (q:Q (ltK k m) s) :
    PySem.W.KatLex prog w A true fin Q (us.zip vs) i s:=by
  induction k generalizing m us vs i with
  | nil =>
    cases m with
    | cons b m=>simp [shOf] at e
    | nil =>
      rw [Paired.n0 ha,Paired.n0 hb]
      subst hf
      exact PySem.W.kat_nil q
  | cons a k ih =>
    cases m with
    | nil=>simp [shOf] at e
    | cons b m =>
      obtain ⟨u,us,rfl,ra,rk⟩:=Paired.c ha
      obtain ⟨v,vs,rfl,rb,rm⟩:=Paired.c hb
      simp only [shOf,List.map_cons,List.cons.injEq] at e
      rw [List.zip_cons_cons]
      refine PySem.W.kat_cons (yt ra rb e.1 (PySem.W.kat_go (fun h=>PySem.W.kat_yes ?_) (fun h=>PySem.W.kat_no ?_)))
      · have h:=of_decide_eq_true h
        subst h
        unfold ltK at q
        rw [if_pos rfl] at q
        exact ih m _ _ (i+1) rk rm e.2 (fun h=>by walk_at "l") q
      · have h:=of_decide_eq_false h
        unfold ltK at q
        rw [if_neg h] at q
        by_cases h0:i=0
        · subst h0
          have ia:isI a=true:=hi rfl
          cases a with
          | inr x=>cases ia
          | inl i =>
            cases b with
            | inr x=>cases e.1
            | inl j =>
              obtain ⟨t,rfl⟩:=ra
              obtain ⟨t',rfl⟩:=rb
              exact oneLt_int q
        · rw [show (true && i == 0)=false by simp [h0]]
          exact yq ra rb e.1 q
end
section
variable {X:Cx} {pins:List (Addr × Obj)} {σ:St} {H:Hp} {s:Shared}
theorem Inv.tup {b:Addr} {xs:List V} (I:Inv X pins σ H s) (h:H b=some (.tup xs)):∃ its:List Value,Vals xs its∧IsTup s.heap b its.toArray:=(I.hok b _ h).2
theorem oY (I:Inv X pins σ H s) {s':Shared} (kp:∀ b o,s.heap.get? b=some o→s'.heap.get? b=some o) {A:Around} {L:List (List Key)} {sh:List Bool} :
    Tim.Cmp X.prog X.w A s' (tuples' true) (fun v=>rkK L (ji H v)) (fun v=>∃ b k,v=.ref b∧H b=some (.tup (k.map kV))∧shOf k=true :: sh∧k∈L):=by
  rintro x y ⟨b,k,rfl,hb,hk,mk⟩ ⟨c,m,rfl,hc,hm,mm⟩ Q E q
  obtain ⟨us,ru,o,e1,c1,n1,d1⟩:=I.tup hb
  obtain ⟨vs,rv,o',e2,c2,n2,d2⟩:=I.tup hc
  have sh':shOf k=shOf m:=hk.trans hm.symm
  simp only [cu hb,cu hc] at q
  rw [mL sh' mk] at q
  refine PySem.W.kat_lt (kp _ _ e1) d1 (kp _ _ e2) d2 (u9 k m us vs 0 ru rv sh' ?_ (fun _=>?_) q)
  · have h1:=ru.length
    have h2:=rv.length
    have h3:k.length=m.length:=by
      have:=congrArg List.length sh'
      simpa [shOf] using this
    simp only [List.length_map] at h1 h2
    exact decide_eq_false (by simp only [List.size_toArray]; walk_at "l")
  · cases k with
    | nil=>simp [shOf] at hk
    | cons a k=>simp only [shOf,List.map_cons,List.cons.injEq] at hk; exact hk.1
theorem kat_tups (I:Inv X pins σ H s) {s':Shared} (kp:∀ b o,s.heap.get? b=some o→s'.heap.get? b=some o) {sh:List Bool} {ys:List V} {ks:List (List Key)} {vs:List Value} (ht:b8 H ys ks) (hv:Vals ys vs) (hs:∀ k∈ks,shOf k=true :: sh) :
    ∃ fs:List Value,PySem.W.KatTups s'.heap vs fs∧fs.length=vs.length∧∀ f∈fs,∃ i t,f=Value.int i t:=by
  induction ys generalizing ks vs with
  | nil =>
    rw [Paired.n0 hv]
    exact ⟨[],.nil,rfl,by simp⟩
  | cons y ys ih =>
    obtain ⟨k,ks,rfl,⟨b,rfl,hb⟩,t⟩:=Paired.c ht
    obtain ⟨v,vs,rfl,rfl,rs⟩:=Paired.c hv
    obtain ⟨fs,f1,f2,f3⟩:=ih t rs fun j hj=>hs j (List.mem_cons_of_mem _ hj)
    have hk:=hs k List.mem_cons_self
    obtain ⟨us,ru,o,e1,c1,n1,d1⟩:=I.tup hb
    cases k with
    | nil=>simp [shOf] at hk
    | cons a k =>
      obtain ⟨u,us,rfl,ra,rr⟩:=Paired.c ru
      simp only [shOf,List.map_cons,List.cons.injEq] at hk
      cases a with
      | inr x=>cases hk.1
      | inl i =>
        obtain ⟨tk,rfl⟩:=ra
        exact ⟨_ :: fs,.cons (kp _ _ e1) c1 d1 rfl f1,by simp [f2],fun f hf=>by
          rcases List.mem_cons.mp hf with rfl | hf
          · exact ⟨_,_,rfl⟩
          · exact f3 f hf⟩
end
noncomputable def pK (K:PySem.W.Frag):List V→Hp→VK→Prop:=fun xs H Q=>match xs with
  | [.ref p]=>∃ ys ks sh,SqL K H p ys∧ys.length≤63∧b8 H ys ks∧(∀ k∈ks,shOf k=true :: sh) ∧
      ∀ zs ms l,b8 H zs ms→ms.Perm ks→(ms.Pairwise fun a b=>ltK b a=false)→H l=none→Q (.ref l) (upd H l (.lst zs))
  | _=>False
theorem b8.keys {H:Hp} {ys:List V} {ks:List (List Key)} {vs:List Value} (h:b8 H ys ks) (hv:Vals ys vs):vs.map (ji H)=ks∧∀ v∈vs,∃ b k,v=.ref b∧H b=some (.tup (k.map kV))∧k∈ks:=by
  induction ys generalizing ks vs with
  | nil=>rw [Paired.n0 hv,show ks=[] from Paired.n0 h]; exact ⟨rfl,by simp⟩
  | cons y ys ih =>
    obtain ⟨k,ks,rfl,⟨b,rfl,g⟩,t⟩:=Paired.c h
    obtain ⟨v,vs,rfl,rfl,rs⟩:=Paired.c hv
    obtain ⟨e,m⟩:=ih t rs
    refine ⟨by rw [List.map_cons,cu g,e],fun v hv=>?_⟩
    rcases List.mem_cons.mp hv with rfl | hv
    · exact ⟨b,k,rfl,g,List.mem_cons_self⟩
    · obtain ⟨b',k',e1,e2,e3⟩:=m v hv
      exact ⟨b',k',e1,e2,List.mem_cons_of_mem _ e3⟩
theorem b8.of {H:Hp} {ks:List (List Key)} (vs:List Value) (h:∀ v∈vs,∃ b k,v=Value.ref b∧H b=some (.tup (k.map kV))∧k∈ks):∃ zs,b8 H zs (vs.map (ji H))∧Vals zs vs:=by
  induction vs with
  | nil=>exact ⟨[],.nil,.nil⟩
  | cons v vs ih =>
    obtain ⟨zs,a,c⟩:=ih fun u hu=>h u (List.mem_cons_of_mem _ hu)
    obtain ⟨b,k,rfl,e,_⟩:=h v List.mem_cons_self
    exact ⟨.ref b :: zs,.cons ⟨b,rfl,by rw [cu e]; exact e⟩ a,.cons rfl c⟩
section
variable {X:Cx}
theorem qF:CallR X (.builtin "sorted") (pK X.K):=by
  intro pins s σ H xs us Q I r h
  unfold pK at h
  split at h
  · rename_i p
    obtain ⟨ys,ks,sh,hl,h63,ht,hs,q⟩:=h
    obtain ⟨u,rfl,ru⟩:=Vals.one r
    cases ru
    obtain ⟨vs,rv,pl,hz⟩:=I.list hl
    obtain ⟨ek,mem⟩:=ht.keys rv
    have hlen:=rv.length
    refine Tim.tU (κ:=tuples' true) (r:=fun v=>rkK ks (ji H v)) (P:=fun v=>∃ b k,v=.ref b∧H b=some (.tup (k.map kV))∧shOf k=true :: sh∧k∈ks) pl.isList (by walk_at "l") (fun v hv=>?_) (fun h2 A' E' s' kp Q' q'=>?_) (fun h2 s' kp=>oY I kp) fun h' out n pm pw kp eo=>?_
    · obtain ⟨b,k,e1,e2,e3⟩:=mem v hv
      exact ⟨b,k,e1,e2,hs k e3,e3⟩
    · obtain ⟨fs,f1,f2,f3⟩:=kat_tups I kp ht rv hs
      refine PySem.W.kat_kind (T:=.type "int") f1 (by walk_at "l") (fun f hf=>?_) (by decide) q'
      obtain ⟨i,t,rfl⟩:=f3 f hf
      exact .now
    · obtain ⟨zs,z1,z2⟩:=b8.of (H:=H) (ks:=ks) out fun v hv=>mem v (pm.mem_iff.mp hv)
      have zl:=z2.length
      have ol:=pm.length_eq
      have pms:(out.map (ji H)).Perm ks:=by rw [← ek]; exact pm.map _
      refine ⟨.ref (s.heap.objs.size+1),_,I.laid (a:=s.heap.objs.size+1) (t':=s.toks) kp (Nat.le_succ _) (show ObjOk X.prog X.w _ h' _ (.lst zs) from ⟨by walk_at "l",out,n,z2,eo⟩),rfl,
        q zs _ _ z1 pms ?_ (I.hok.fresh (Nat.le_succ _))⟩
      rw [List.pairwise_map]
      refine pw.imp_of_mem fun {x y} mx my hle=>?_
      obtain ⟨b,k,rfl,hb,kk⟩:=mem x (pm.mem_iff.mp mx)
      obtain ⟨c,m,rfl,hc,km⟩:=mem y (pm.mem_iff.mp my)
      rw [cu hb,cu hc] at *
      have:=mL (L:=ks) ((hs m km).trans (hs k kk).symm) km
      rw [← this]
      exact decide_eq_false (by walk_at "l")
  · exact h.elim
end
end L2

set_option Elab.async false
set_option linter.all false
set_option maxRecDepth 100000
set_option maxHeartbeats 4000000

namespace Tim
open PySem PyProof.Rows
section
variable {prog:Program} {w:World} {A:Around} {E:Value→Shared→Prop} {s:Shared} {κ:SortKind} {r:Value→Int} {P:Value→Prop}
end
end Tim

namespace L2
open PySem PySem.Spec PyProof.Rows
noncomputable def f9:Value→List Key
  | .int i _=>[.inl i]
  | .str x _=>[.inr x]
  | _=>[]
theorem iz {k:Key} {v:Value} (h:RelV (kV k) v):f9 v=[k]:=by
  cases k with
  | inl i=>obtain ⟨t,rfl⟩:=h; rfl
  | inr x=>obtain ⟨t,rfl⟩:=h; rfl
theorem tE {a b:Key}:ltK [a] [b]=lt1 a b:=by
  unfold ltK
  by_cases e:a=b
  · subst e; rw [if_pos rfl,tL]; rfl
  · rw [if_neg e]
theorem ur {prog:Program} {w:World} {A:Around} {s:Shared} {b:Bool} {L:List Key} :
    Tim.Cmp prog w A s oneType' (fun v=>rkK (L.map fun k=>[k]) (f9 v)) (fun v=>∃ k,RelV (kV k) v∧isI k=b∧k∈L):=by
  rintro x y ⟨k,rk,ik,mk⟩ ⟨m,rm,im,mm⟩ Q E q
  simp only [iz rk,iz rm] at q
  rw [mL (by simp [shOf,ik,im]) (List.mem_map.mpr ⟨k,mk,rfl⟩),tE] at q
  rw [keyLt'_oneType]
  cases k with
  | inl i =>
    cases m with
    | inr y=>rw [← im] at ik; cases ik
    | inl j =>
      obtain ⟨t,rfl⟩:=rk
      obtain ⟨u,rfl⟩:=rm
      exact oneLt_int q
  | inr x =>
    cases m with
    | inl y=>rw [← im] at ik; cases ik
    | inr j =>
      obtain ⟨t,rfl⟩:=rk
      obtain ⟨u,rfl⟩:=rm
      exact oneLt_str q
theorem ints_of {ks:List Key} {vs:List Value} (r:Vals (ks.map kV) vs) (h:∀ k∈ks,isI k=true):∃ ns,IntsAre vs ns:=by
  induction ks generalizing vs with
  | nil=>rw [Paired.n0 r]; exact ⟨[],.nil⟩
  | cons k ks ih =>
    obtain ⟨v,vs,rfl,r,rs⟩:=Paired.c r
    obtain ⟨ns,q⟩:=ih rs fun j hj=>h j (List.mem_cons_of_mem _ hj)
    have:=h k List.mem_cons_self
    cases k with
    | inr x=>cases this
    | inl i=>obtain ⟨t,rfl⟩:=r; exact ⟨_,.cons i t q⟩
theorem vP {ks:List Key} {vs:List Value} (r:Vals (ks.map kV) vs) (h:∀ k∈ks,isI k=false):∃ ns,StrsAre vs ns:=by
  induction ks generalizing vs with
  | nil=>rw [Paired.n0 r]; exact ⟨[],.nil⟩
  | cons k ks ih =>
    obtain ⟨v,vs,rfl,r,rs⟩:=Paired.c r
    obtain ⟨ns,q⟩:=ih rs fun j hj=>h j (List.mem_cons_of_mem _ hj)
    have:=h k List.mem_cons_self
    cases k with
    | inl x=>cases this
    | inr i=>obtain ⟨t,rfl⟩:=r; exact ⟨_,.cons i t q⟩
theorem qO {prog:Program} {w:World} {A:Around} {E:Value→Shared→Prop} {s:Shared} {b:Bool} {ks:List Key} {vs:List Value} (r:Vals (ks.map kV) vs) (h:∀ k∈ks,isI k=b) (h2:2≤vs.length) {Q:SortKind→Shared→Prop} (q:Q oneType' s) :
    wpAny (model prog w) A (keyKind' vs.toArray) Q E s:=by
  match vs,h2 with
  | v1 :: v2 :: vs,_ =>
    cases b with
    | true=>obtain ⟨ns,hI⟩:=ints_of r h; rw [keyKind_ints hI]; exact wpAny_pure q
    | false=>obtain ⟨ns,hI⟩:=vP r h; rw [keyKind_strs hI]; exact wpAny_pure q
theorem keys_map {ks:List Key} {vs:List Value} (r:Vals (ks.map kV) vs):vs.map f9=ks.map fun k=>[k]:=by
  induction ks generalizing vs with
  | nil=>rw [Paired.n0 r]; rfl
  | cons k ks ih =>
    obtain ⟨u,vs,rfl,r,rs⟩:=Paired.c r
    rw [List.map_cons,List.map_cons,iz r,ih rs]
theorem mF {ks:List Key} (vs:List Value) (h:∀ v∈vs,∃ k,RelV (kV k) v∧k∈ks):∃ ms:List Key,Vals (ms.map kV) vs:=by
  induction vs with
  | nil=>exact ⟨[],.nil⟩
  | cons v vs ih =>
    obtain ⟨ms,r⟩:=ih fun u hu=>h u (List.mem_cons_of_mem _ hu)
    obtain ⟨k,rk,_⟩:=h v List.mem_cons_self
    exact ⟨k :: ms,.cons rk r⟩
theorem rM:∀ {ms ks:List Key},(ms.map fun k=>[k]).Perm (ks.map fun k=>[k])→ms.Perm ks:=fun {ms ks} h=>by
  have:=h.map (fun l:List Key=>l.head?)
  simp only [List.map_map] at this
  have e:∀ l:List Key,l.map ((fun l:List Key=>l.head?) ∘ fun k=>[k])=l.map some:=fun l=>List.map_congr_left fun _ _=>rfl
  rw [e,e] at this
  have:=this.filterMap id
  simpa using this
section
variable {X:Cx}
end
end L2

set_option Elab.async false
set_option linter.all false
set_option maxRecDepth 100000
set_option maxHeartbeats 4000000

namespace L2.Q
open PySem PySem.Spec PyProof.Rows

inductive D where
  | non | bl (b:Bool) | int (i:Int) | str (x:Str)
  | list (xs:List D) | tup (xs:List D) | dK (kvs:List (Key × D)) | dT (kvs:List (List Key × D))

mutual
/-- nothing in it can be changed -/
noncomputable def D.flat:D→Bool
  | .list _=>false
  | .dK _=>false
  | .dT _=>false
  | .tup xs=>flats xs
  | _=>true
noncomputable def flats:List D→Bool
  | []=>true
  | x :: xs=>x.flat && flats xs
end
theorem lR:∀ {xs:List D},flats xs=true↔∀ x∈xs,x.flat=true
  | []=>by simp [flats]
  | x :: xs=>by simp [flats,lR (xs:=xs)]
theorem cZ {xs ys:List D}:flats (xs++ys)=(flats xs && flats ys):=by
  induction xs with
  | nil=>simp [flats]
  | cons x xs ih=>simp [flats,ih,Bool.and_assoc]

noncomputable def kOk:Key→Bool
  | .inl _=>true
  | .inr x=>decide (x.length≤sizeLine)
noncomputable def KsOk (kvs:List (Key × D)):Prop:=kvs.length≤sizeLine∧∀ p∈kvs,kOk p.1=true
noncomputable def KtOk (kvs:List (List Key × D)):Prop:=kvs.length≤sizeLine∧∀ p∈kvs,p.1.length≤sizeLine∧∀ k∈p.1,kOk k=true
mutual
inductive Rep (K:PySem.W.Frag) (H:Hp):D→V→Prop
  | non:Rep K H .non .non
  | bl (b:Bool):Rep K H (.bl b) (.bl b)
  | int (i:Int):Rep K H (.int i) (.int i)
  | str {x:Str}:x.length≤sizeLine→Rep K H (.str x) (.str x)
  | list {a:Addr} {vs:List V} {ds:List D}:vs.length≤sizeLine→SqL K H a vs→Reps K H ds vs→Rep K H (.list ds) (.ref a)
  | tup {a:Addr} {vs:List V} {ds:List D}:vs.length≤sizeLine→H a=some (.tup vs)→Reps K H ds vs→Rep K H (.tup ds) (.ref a)
  | dK {a:Addr} {vs:List V} {kvs:List (Key × D)}:KsOk kvs→H a=some (.dK ((kvs.map (·.1)).zip vs))→Reps K H (kvs.map (·.2)) vs→Rep K H (.dK kvs) (.ref a)
  | dT {a:Addr} {vs:List V} {kvs:List (List Key × D)}:KtOk kvs→H a=some (.dT ((kvs.map (·.1)).zip vs))→Reps K H (kvs.map (·.2)) vs→Rep K H (.dT kvs) (.ref a)
inductive Reps (K:PySem.W.Frag) (H:Hp):List D→List V→Prop
  | nil:Reps K H [] []
  | cons {d:D} {v:V} {ds:List D} {vs:List V}:Rep K H d v→Reps K H ds vs→Reps K H (d :: ds) (v :: vs)
end
theorem Rep.ind {K:PySem.W.Frag} {H:Hp} {m1:D→V→Prop} {m2:List D→List V→Prop} (h0:m1 .non .non) (hb:∀ b,m1 (.bl b) (.bl b)) (hi:∀ i,m1 (.int i) (.int i)) (hs:∀ x,x.length≤sizeLine→m1 (.str x) (.str x))
    (hl:∀ a vs ds,vs.length≤sizeLine→SqL K H a vs→Reps K H ds vs→m2 ds vs→m1 (.list ds) (.ref a)) (ht:∀ a vs ds,vs.length≤sizeLine→H a=some (.tup vs)→Reps K H ds vs→m2 ds vs→m1 (.tup ds) (.ref a))
    (hk:∀ a vs kvs,KsOk kvs→H a=some (.dK ((kvs.map (·.1)).zip vs))→Reps K H (kvs.map (·.2)) vs→m2 (kvs.map (·.2)) vs→m1 (.dK kvs) (.ref a)) (hT:∀ a vs kvs,KtOk kvs→H a=some (.dT ((kvs.map (·.1)).zip vs))→Reps K H (kvs.map (·.2)) vs→m2 (kvs.map (·.2)) vs→m1 (.dT kvs) (.ref a))
    (hn:m2 [] []) (hc:∀ d v ds vs,Rep K H d v→Reps K H ds vs→m1 d v→m2 ds vs→m2 (d :: ds) (v :: vs)):(∀ {d v},Rep K H d v→m1 d v)∧∀ {ds vs},Reps K H ds vs→m2 ds vs :=
  ⟨fun r=>Rep.rec (motive_1:=fun d v _=>m1 d v) (motive_2:=fun ds vs _=>m2 ds vs) h0 hb hi (fun h=>hs _ h) (fun z s r ih=>hl _ _ _ z s r ih) (fun z s r ih=>ht _ _ _ z s r ih) (fun z s r ih=>hk _ _ _ z s r ih) (fun z s r ih=>hT _ _ _ z s r ih) hn (fun r s a b=>hc _ _ _ _ r s a b) r,
   fun r=>Reps.rec (motive_1:=fun d v _=>m1 d v) (motive_2:=fun ds vs _=>m2 ds vs) h0 hb hi (fun h=>hs _ h) (fun z s r ih=>hl _ _ _ z s r ih) (fun z s r ih=>ht _ _ _ z s r ih) (fun z s r ih=>hk _ _ _ z s r ih) (fun z s r ih=>hT _ _ _ z s r ih) hn (fun r s a b=>hc _ _ _ _ r s a b) r⟩
theorem Rep.yf {K:PySem.W.Frag} {H H':Hp} (s:Same H H'):(∀ {d:D} {v:V},Rep K H d v→Rep K H' d v)∧∀ {ds:List D} {vs:List V},Reps K H ds vs→Reps K H' ds vs :=
  Rep.ind .non .bl .int (fun _ h=>.str h) (fun _ _ _ z h _ ih=>.list z (s.lst h) ih) (fun _ _ _ z h _ ih=>.tup z (s _ _ h) ih) (fun _ _ _ kk h _ ih=>.dK kk (s _ _ h) ih) (fun _ _ _ kk h _ ih=>.dT kk (s _ _ h) ih) .nil fun _ _ _ _ _ _ a b=>.cons a b
theorem Rep.same {K:PySem.W.Frag} {H H':Hp} (s:Same H H') {d:D} {v:V} (r:Rep K H d v):Rep K H' d v:=(Rep.yf s).1 r
theorem Reps.same {K:PySem.W.Frag} {H H':Hp} (s:Same H H') {ds:List D} {vs:List V} (r:Reps K H ds vs):Reps K H' ds vs:=(Rep.yf s).2 r
theorem Reps.ind {K:PySem.W.Frag} {H:Hp} {m:List D→List V→Prop} (hn:m [] []) (hc:∀ d v ds vs,Rep K H d v→Reps K H ds vs→m ds vs→m (d :: ds) (v :: vs)):∀ {ds vs},Reps K H ds vs→m ds vs :=
  fun r=>(Rep.ind (m1:=fun _ _=>True) (m2:=m) trivial (fun _=>trivial) (fun _=>trivial) (fun _ _=>trivial) (fun _ _ _ _ _ _ _=>trivial) (fun _ _ _ _ _ _ _=>trivial) (fun _ _ _ _ _ _ _=>trivial) (fun _ _ _ _ _ _ _=>trivial) hn fun d v ds vs r s _ b=>hc d v ds vs r s b).2 r
theorem Reps.length {K:PySem.W.Frag} {H:Hp} {ds:List D} {vs:List V} (r:Reps K H ds vs):ds.length=vs.length :=
  Reps.ind (m:=fun ds vs=>ds.length=vs.length) rfl (fun _ _ _ _ _ _ ih=>by rw [List.length_cons,List.length_cons,ih]) r
theorem Reps.append {K:PySem.W.Frag} {H:Hp} {ds es:List D} {vs ws:List V} (r:Reps K H ds vs) (t:Reps K H es ws):Reps K H (ds++es) (vs++ws) :=
  Reps.ind (m:=fun ds vs=>Reps K H (ds++es) (vs++ws)) t (fun _ _ _ _ h _ ih=>.cons h ih) r
theorem Reps.get {K:PySem.W.Frag} {H:Hp} {ds:List D} {vs:List V} {i:Nat} {d:D} (r:Reps K H ds vs) (e:ds[i]? = some d):∃ v,vs[i]? = some v∧Rep K H d v :=
  Reps.ind (m:=fun ds vs=>∀ i d,ds[i]? = some d→∃ v,vs[i]? = some v∧Rep K H d v) (fun i d e=>by simp at e) (fun _ _ _ _ h _ ih i d e=>by
    cases i with
    | zero=>simp at e; subst e; exact ⟨_,rfl,h⟩
    | succ i =>
      obtain ⟨v,e1,r⟩:=ih i d (by simpa using e)
      exact ⟨v,by simpa using e1,r⟩) r i d e
theorem Reps.getV {K:PySem.W.Frag} {H:Hp} {ds:List D} {vs:List V} {i:Nat} {v:V} (r:Reps K H ds vs) (e:vs[i]? = some v):∃ d,ds[i]? = some d∧Rep K H d v :=
  Reps.ind (m:=fun ds vs=>∀ i v,vs[i]? = some v→∃ d,ds[i]? = some d∧Rep K H d v) (fun i d e=>by simp at e) (fun _ _ _ _ h _ ih i d e=>by
    cases i with
    | zero=>simp at e; subst e; exact ⟨_,rfl,h⟩
    | succ i =>
      obtain ⟨v,e1,r⟩:=ih i d (by simpa using e)
      exact ⟨v,by simpa using e1,r⟩) r i v e
theorem Reps.drop {K:PySem.W.Frag} {H:Hp} {ds:List D} {vs:List V} (n:Nat) (r:Reps K H ds vs):Reps K H (ds.drop n) (vs.drop n) :=
  Reps.ind (m:=fun ds vs=>∀ n,Reps K H (ds.drop n) (vs.drop n)) (fun n=>by rw [List.drop_nil,List.drop_nil]; exact .nil) (fun _ _ _ _ h hs ih n=>by
    cases n with
    | zero=>exact .cons h hs
    | succ n=>exact ih n) r n
theorem Reps.n0 {K:PySem.W.Frag} {H:Hp} {vs:List V} (h:Reps K H [] vs):vs=[]:=by cases h; rfl
theorem Reps.c {K:PySem.W.Frag} {H:Hp} {d:D} {ds:List D} {vs:List V} (h:Reps K H (d :: ds) vs):∃ u us,vs=u :: us∧Rep K H d u∧Reps K H ds us:=by
  cases h with
  | cons r rs=>exact ⟨_,_,rfl,r,rs⟩
theorem Reps.take {K:PySem.W.Frag} {H:Hp} {ds:List D} {vs:List V} (n:Nat) (r:Reps K H ds vs):Reps K H (ds.take n) (vs.take n) :=
  Reps.ind (m:=fun ds vs=>∀ n,Reps K H (ds.take n) (vs.take n)) (fun n=>by rw [List.take_nil,List.take_nil]; exact .nil) (fun _ _ _ _ h hs ih n=>by
    cases n with
    | zero=>exact .nil
    | succ n=>exact .cons h (ih n)) r n

mutual
/-- what is owned: a tree whose lists and dicts stand at As,nobody else's; its leaves shared (fl: and flat) -/
inductive RepO (K:PySem.W.Frag) (Hs H:Hp) (fl:Bool):D→V→List Addr→Prop
  | sh {d:D} {v:V}:(fl=true→d.flat=true)→Rep K Hs d v→RepO K Hs H fl d v []
  | list {a:Addr} {vs:List V} {ds:List D} {As:List Addr}:vs.length≤sizeLine→H a=some (.lst vs)→aF K Hs H fl ds vs As→RepO K Hs H fl (.list ds) (.ref a) (a :: As)
  | tup {a:Addr} {vs:List V} {ds:List D} {As:List Addr}:vs.length≤sizeLine→Hs a=some (.tup vs)→flats ds=false→aF K Hs H fl ds vs As→RepO K Hs H fl (.tup ds) (.ref a) As
  | dK {a:Addr} {vs:List V} {kvs:List (Key × D)} {As:List Addr}:KsOk kvs→H a=some (.dK ((kvs.map (·.1)).zip vs))→aF K Hs H fl (kvs.map (·.2)) vs As→RepO K Hs H fl (.dK kvs) (.ref a) (a :: As)
  | dT {a:Addr} {vs:List V} {kvs:List (List Key × D)} {As:List Addr}:KtOk kvs→H a=some (.dT ((kvs.map (·.1)).zip vs))→aF K Hs H fl (kvs.map (·.2)) vs As→RepO K Hs H fl (.dT kvs) (.ref a) (a :: As)
inductive aF (K:PySem.W.Frag) (Hs H:Hp) (fl:Bool):List D→List V→List Addr→Prop
  | nil:aF K Hs H fl [] [] []
  | cons {d:D} {v:V} {ds:List D} {vs:List V} {As Bs:List Addr}:RepO K Hs H fl d v As→aF K Hs H fl ds vs Bs→aF K Hs H fl (d :: ds) (v :: vs) (As++Bs)
end
noncomputable def Own (H:Hp) (a:Addr):Prop:=(∃ vs,H a=some (.lst vs))∨(∃ kvs,H a=some (.dK kvs))∨∃ kvs,H a=some (.dT kvs)
section
variable {K:PySem.W.Frag} {Hs Hs' H H':Hp} {fl:Bool}
theorem Own.ne {a:Addr} (h:Own H a):H a≠none:=by
  rcases h with ⟨_,e⟩ | ⟨_,e⟩ | ⟨_,e⟩ <;> rw [e] <;> exact fun z=>nomatch z
theorem Own.vC {a:Addr} {vs:List V} (h:Own H a):H a≠some (.tup vs):=by
  rcases h with ⟨_,e⟩ | ⟨_,e⟩ | ⟨_,e⟩ <;> rw [e] <;> exact fun z=>nomatch z
theorem RepO.ind {m1:D→V→List Addr→Prop} {m2:List D→List V→List Addr→Prop} (hs:∀ d v,(fl=true→d.flat=true)→Rep K Hs d v→m1 d v [])
    (hl:∀ a vs ds As,vs.length≤sizeLine→H a=some (.lst vs)→aF K Hs H fl ds vs As→m2 ds vs As→m1 (.list ds) (.ref a) (a :: As)) (ht:∀ a vs ds As,vs.length≤sizeLine→Hs a=some (.tup vs)→flats ds=false→aF K Hs H fl ds vs As→m2 ds vs As→m1 (.tup ds) (.ref a) As)
    (hk:∀ a vs kvs As,KsOk kvs→H a=some (.dK ((kvs.map (·.1)).zip vs))→aF K Hs H fl (kvs.map (·.2)) vs As→m2 (kvs.map (·.2)) vs As→m1 (.dK kvs) (.ref a) (a :: As)) (hT:∀ a vs kvs As,KtOk kvs→H a=some (.dT ((kvs.map (·.1)).zip vs))→aF K Hs H fl (kvs.map (·.2)) vs As→m2 (kvs.map (·.2)) vs As→m1 (.dT kvs) (.ref a) (a :: As))
    (hn:m2 [] [] []) (hc:∀ d v ds vs As Bs,RepO K Hs H fl d v As→aF K Hs H fl ds vs Bs→m1 d v As→m2 ds vs Bs→m2 (d :: ds) (v :: vs) (As++Bs)):(∀ {d v As},RepO K Hs H fl d v As→m1 d v As)∧∀ {ds vs As},aF K Hs H fl ds vs As→m2 ds vs As :=
  ⟨fun r=>RepO.rec (motive_1:=fun d v As _=>m1 d v As) (motive_2:=fun ds vs As _=>m2 ds vs As) (fun f r=>hs _ _ f r) (fun z s r ih=>hl _ _ _ _ z s r ih) (fun z s n r ih=>ht _ _ _ _ z s n r ih) (fun z s r ih=>hk _ _ _ _ z s r ih) (fun z s r ih=>hT _ _ _ _ z s r ih) hn (fun r s a b=>hc _ _ _ _ _ _ r s a b) r,
   fun r=>aF.rec (motive_1:=fun d v As _=>m1 d v As) (motive_2:=fun ds vs As _=>m2 ds vs As) (fun f r=>hs _ _ f r) (fun z s r ih=>hl _ _ _ _ z s r ih) (fun z s n r ih=>ht _ _ _ _ z s n r ih) (fun z s r ih=>hk _ _ _ _ z s r ih) (fun z s r ih=>hT _ _ _ _ z s r ih) hn (fun r s a b=>hc _ _ _ _ _ _ r s a b) r⟩
theorem mem0 {a:Addr} {p:Prop} (h:a∈([]:List Addr)):p:=absurd h List.not_mem_nil
theorem RepO.own2:(∀ {d:D} {v:V} {As:List Addr},RepO K Hs H fl d v As→∀ a∈As,Own H a)∧∀ {ds:List D} {vs:List V} {As:List Addr},aF K Hs H fl ds vs As→∀ a∈As,Own H a :=
  RepO.ind (m1:=fun _ _ As=>∀ a∈As,Own H a) (m2:=fun _ _ As=>∀ a∈As,Own H a) (fun _ _ _ _ a h=>mem0 h) (fun _ _ _ _ _ e _ ih a h=>(List.mem_cons.mp h).elim (fun z=>z ▸ .inl ⟨_,e⟩) (ih a)) (fun _ _ _ _ _ _ _ _ ih=>ih)
    (fun _ _ _ _ _ e _ ih a h=>(List.mem_cons.mp h).elim (fun z=>z ▸ .inr (.inl ⟨_,e⟩)) (ih a)) (fun _ _ _ _ _ e _ ih a h=>(List.mem_cons.mp h).elim (fun z=>z ▸ .inr (.inr ⟨_,e⟩)) (ih a)) (fun a h=>mem0 h) fun _ _ _ _ _ _ _ _ i1 i2 a h=>(List.mem_append.mp h).elim (i1 a) (i2 a)
theorem RepO.own {d:D} {v:V} {As:List Addr} (r:RepO K Hs H fl d v As):∀ a∈As,Own H a:=RepO.own2.1 r
theorem aF.own {ds:List D} {vs:List V} {As:List Addr} (r:aF K Hs H fl ds vs As):∀ a∈As,Own H a:=RepO.own2.2 r
theorem RepO.yg (s:Same Hs Hs'):(∀ {d:D} {v:V} {As:List Addr},RepO K Hs H fl d v As→(∀ a∈As,H' a=H a)→RepO K Hs' H' fl d v As)∧∀ {ds:List D} {vs:List V} {As:List Addr},aF K Hs H fl ds vs As→(∀ a∈As,H' a=H a)→aF K Hs' H' fl ds vs As :=
  RepO.ind (m1:=fun d v As=>(∀ a∈As,H' a=H a)→RepO K Hs' H' fl d v As) (m2:=fun ds vs As=>(∀ a∈As,H' a=H a)→aF K Hs' H' fl ds vs As) (fun _ _ f r _=>.sh f (r.same s))
    (fun _ _ _ _ z e _ ih k=>.list z ((k _ List.mem_cons_self).trans e) (ih fun a h=>k a (List.mem_cons_of_mem _ h))) (fun _ _ _ _ z e n _ ih k=>.tup z (s _ _ e) n (ih k)) (fun _ _ _ _ z e _ ih k=>.dK z ((k _ List.mem_cons_self).trans e) (ih fun a h=>k a (List.mem_cons_of_mem _ h)))
    (fun _ _ _ _ z e _ ih k=>.dT z ((k _ List.mem_cons_self).trans e) (ih fun a h=>k a (List.mem_cons_of_mem _ h))) (fun _=>.nil) fun _ _ _ _ _ _ _ _ i1 i2 k=>.cons (i1 fun a h=>k a (List.mem_append_left _ h)) (i2 fun a h=>k a (List.mem_append_right _ h))
theorem RepO.stay (s:Same Hs Hs') {d:D} {v:V} {As:List Addr} (r:RepO K Hs H fl d v As) (k:∀ a∈As,H' a=H a):RepO K Hs' H' fl d v As:=(RepO.yg s).1 r k
theorem aF.stay (s:Same Hs Hs') {ds:List D} {vs:List V} {As:List Addr} (r:aF K Hs H fl ds vs As) (k:∀ a∈As,H' a=H a):aF K Hs' H' fl ds vs As:=(RepO.yg s).2 r k
theorem RepO.grow {d:D} {v:V} {As:List Addr} (s:Same Hs Hs') (t:Same H H') (r:RepO K Hs H fl d v As):RepO K Hs' H' fl d v As :=
  r.stay s fun a h=>by
    cases e:H a with
    | none=>exact absurd e (r.own a h).ne
    | some o=>exact t a o e
theorem aF.grow {ds:List D} {vs:List V} {As:List Addr} (s:Same Hs Hs') (t:Same H H') (r:aF K Hs H fl ds vs As):aF K Hs' H' fl ds vs As :=
  r.stay s fun a h=>by
    cases e:H a with
    | none=>exact absurd e (r.own a h).ne
    | some o=>exact t a o e
theorem RepO.rep2 {G:Hp} (s:Same Hs G):(∀ {d:D} {v:V} {As:List Addr},RepO K Hs H fl d v As→(∀ a∈As,G a=H a)→Rep K G d v)∧∀ {ds:List D} {vs:List V} {As:List Addr},aF K Hs H fl ds vs As→(∀ a∈As,G a=H a)→Reps K G ds vs :=
  RepO.ind (m1:=fun d v As=>(∀ a∈As,G a=H a)→Rep K G d v) (m2:=fun ds vs As=>(∀ a∈As,G a=H a)→Reps K G ds vs) (fun _ _ _ r _=>r.same s)
    (fun _ _ _ _ z e _ ih k=>.list z (.inl (.inl ((k _ List.mem_cons_self).trans e))) (ih fun a h=>k a (List.mem_cons_of_mem _ h))) (fun _ _ _ _ z e n _ ih k=>.tup z (s _ _ e) (ih k)) (fun _ _ _ _ z e _ ih k=>.dK z ((k _ List.mem_cons_self).trans e) (ih fun a h=>k a (List.mem_cons_of_mem _ h)))
    (fun _ _ _ _ z e _ ih k=>.dT z ((k _ List.mem_cons_self).trans e) (ih fun a h=>k a (List.mem_cons_of_mem _ h))) (fun _=>.nil) fun _ _ _ _ _ _ _ _ i1 i2 k=>.cons (i1 fun a h=>k a (List.mem_append_left _ h)) (i2 fun a h=>k a (List.mem_append_right _ h))
theorem RepO.rep {G:Hp} (s:Same Hs G) {d:D} {v:V} {As:List Addr} (r:RepO K Hs H fl d v As) (k:∀ a∈As,G a=H a):Rep K G d v:=(RepO.rep2 s).1 r k
theorem Rep.rR {G:Hp} (t:∀ a vs,H a=some (.tup vs)→G a=some (.tup vs)):(∀ {d:D} {v:V},Rep K H d v→d.flat=true→Rep K G d v)∧∀ {ds:List D} {vs:List V},Reps K H ds vs→flats ds=true→Reps K G ds vs :=
  Rep.ind (m1:=fun d v=>d.flat=true→Rep K G d v) (m2:=fun ds vs=>flats ds=true→Reps K G ds vs) (fun _=>.non) (fun b _=>.bl b) (fun i _=>.int i) (fun _ h _=>.str h) (fun _ _ _ _ _ _ _ f=>by simp [D.flat] at f) (fun _ _ _ z e _ ih f=>.tup z (t _ _ e) (ih (by simpa [D.flat] using f)))
    (fun _ _ _ _ _ _ _ f=>by simp [D.flat] at f) (fun _ _ _ _ _ _ _ f=>by simp [D.flat] at f) (fun _=>.nil) fun _ _ _ _ _ _ i1 i2 f=>by
      simp only [flats,Bool.and_eq_true] at f
      exact .cons (i1 f.1) (i2 f.2)
theorem Rep.gn {G:Hp} (t:∀ a vs,H a=some (.tup vs)→G a=some (.tup vs)) {d:D} {v:V} (r:Rep K H d v) (f:d.flat=true):Rep K G d v:=(Rep.rR t).1 r f
theorem Reps.gn {G:Hp} (t:∀ a vs,H a=some (.tup vs)→G a=some (.tup vs)) {ds:List D} {vs:List V} (r:Reps K H ds vs) (f:flats ds=true):Reps K G ds vs:=(Rep.rR t).2 r f
theorem Reps.owned {ds:List D} {vs:List V} (r:Reps K Hs ds vs) (f:flats ds=true):aF K Hs H fl ds vs [] :=
  Reps.ind (m:=fun ds vs=>flats ds=true→aF K Hs H fl ds vs []) (fun _=>.nil) (fun _ _ _ _ h _ ih f=>by
    simp only [flats,Bool.and_eq_true] at f
    exact .cons (As:=[]) (.sh (fun _=>f.1) h) (ih f.2)) r f
theorem Reps.yW {ds:List D} {vs:List V} (r:Reps K Hs ds vs):aF K Hs H false ds vs [] :=
  Reps.ind (m:=fun ds vs=>aF K Hs H false ds vs []) .nil (fun _ _ _ _ h _ ih=>.cons (As:=[]) (.sh (fun z=>Bool.noConfusion z) h) ih) r
theorem RepO.fls2:(∀ {d:D} {v:V} {As:List Addr},RepO K Hs H fl d v As→RepO K Hs H false d v As)∧∀ {ds:List D} {vs:List V} {As:List Addr},aF K Hs H fl ds vs As→aF K Hs H false ds vs As :=
  RepO.ind (fun _ _ _ r=>.sh (fun z=>Bool.noConfusion z) r) (fun _ _ _ _ z e _ ih=>.list z e ih) (fun _ _ _ _ z e n _ ih=>.tup z e n ih) (fun _ _ _ _ z e _ ih=>.dK z e ih) (fun _ _ _ _ z e _ ih=>.dT z e ih) .nil fun _ _ _ _ _ _ _ _ a b=>.cons a b
theorem RepO.fls {d:D} {v:V} {As:List Addr} (r:RepO K Hs H fl d v As):RepO K Hs H false d v As:=RepO.fls2.1 r
theorem aF.fls {ds:List D} {vs:List V} {As:List Addr} (r:aF K Hs H fl ds vs As):aF K Hs H false ds vs As:=RepO.fls2.2 r
theorem RepO.v9 {G:Hp} (t:∀ a vs,Hs a=some (.tup vs)→G a=some (.tup vs)):(∀ {d:D} {v:V} {As:List Addr},RepO K Hs H true d v As→RepO K G H true d v As)∧∀ {ds:List D} {vs:List V} {As:List Addr},aF K Hs H true ds vs As→aF K G H true ds vs As :=
  RepO.ind (fun _ _ f r=>.sh f (r.gn t (f rfl))) (fun _ _ _ _ z e _ ih=>.list z e ih) (fun _ _ _ _ z e n _ ih=>.tup z (t _ _ e) n ih) (fun _ _ _ _ z e _ ih=>.dK z e ih) (fun _ _ _ _ z e _ ih=>.dT z e ih) .nil fun _ _ _ _ _ _ _ _ a b=>.cons a b
theorem RepO.leaves {G:Hp} (t:∀ a vs,Hs a=some (.tup vs)→G a=some (.tup vs)) {d:D} {v:V} {As:List Addr} (r:RepO K Hs H true d v As):RepO K G H true d v As:=(RepO.v9 t).1 r
theorem aF.ind {m:List D→List V→List Addr→Prop} (hn:m [] [] []) (hc:∀ d v ds vs As Bs,RepO K Hs H fl d v As→aF K Hs H fl ds vs Bs→m ds vs Bs→m (d :: ds) (v :: vs) (As++Bs)):∀ {ds vs As},aF K Hs H fl ds vs As→m ds vs As :=
  fun r=>(RepO.ind (m1:=fun _ _ _=>True) (m2:=m) (fun _ _ _ _=>trivial) (fun _ _ _ _ _ _ _ _=>trivial) (fun _ _ _ _ _ _ _ _ _=>trivial) (fun _ _ _ _ _ _ _ _=>trivial) (fun _ _ _ _ _ _ _ _=>trivial) hn fun d v ds vs As Bs r s _ b=>hc d v ds vs As Bs r s b).2 r
theorem aF.append {ds es:List D} {vs ws:List V} {As Bs:List Addr} (r:aF K Hs H fl ds vs As) (t:aF K Hs H fl es ws Bs):aF K Hs H fl (ds++es) (vs++ws) (As++Bs) :=
  aF.ind (m:=fun ds vs As=>aF K Hs H fl (ds++es) (vs++ws) (As++Bs)) t (fun _ _ _ _ _ _ h _ ih=>by
    rw [List.append_assoc]
    exact .cons h ih) r
theorem aF.c {d:D} {ds:List D} {vs:List V} {As:List Addr} (h:aF K Hs H fl (d :: ds) vs As):∃ u us A B,vs=u :: us∧As=A++B∧RepO K Hs H fl d u A∧aF K Hs H fl ds us B:=by
  cases h with
  | cons r rs=>exact ⟨_,_,_,_,rfl,rfl,r,rs⟩
theorem aF.length {ds:List D} {vs:List V} {As:List Addr} (r:aF K Hs H fl ds vs As):ds.length=vs.length :=
  aF.ind (m:=fun ds vs _=>ds.length=vs.length) rfl (fun _ _ _ _ _ _ _ _ ih=>by rw [List.length_cons,List.length_cons,ih]) r
end

inductive Sl where
  /-- shared; owned; owned and walked by a loop just now (at a) -/
  | sh (d:D) | ow (fl:Bool) (d:D) | lk (a:Addr) (fl:Bool) (d:D)
  /-- an exception,at a -/
  | xc (a:Addr)
noncomputable abbrev Env:=List (Option Sl)
inductive SR (K:PySem.W.Frag) (Hs H:Hp):Env→St→List Addr→Prop
  | nil:SR K Hs H [] [] []
  | non {ρ:Env} {σ:St} {tot:List Addr} {o:Option V}:SR K Hs H ρ σ tot→SR K Hs H (none :: ρ) (o :: σ) tot
  | sh {ρ:Env} {σ:St} {tot:List Addr} {d:D} {v:V}:Rep K Hs d v→SR K Hs H ρ σ tot→SR K Hs H (some (.sh d) :: ρ) (some v :: σ) tot
  | xc {ρ:Env} {σ:St} {tot:List Addr} {a:Addr}:SR K Hs H ρ σ tot→SR K Hs H (some (.xc a) :: ρ) (some (.ref a) :: σ) tot
  | ow {ρ:Env} {σ:St} {tot As:List Addr} {fl:Bool} {d:D} {v:V}:As≠[]→RepO K Hs H fl d v As→SR K Hs H ρ σ tot→SR K Hs H (some (.ow fl d) :: ρ) (some v :: σ) (As++tot)
  | lk {ρ:Env} {σ:St} {tot As:List Addr} {a:Addr} {fl:Bool} {d:D}:As≠[]→RepO K Hs H fl d (.ref a) As→SR K Hs H ρ σ tot→SR K Hs H (some (.lk a fl d) :: ρ) (some (.ref a) :: σ) (As++tot)
structure Wf (Hs H:Hp):Prop where
  sub:Same Hs H
  tups:∀ a vs,H a=some (.tup vs)→Hs a=some (.tup vs)
structure SRel (K:PySem.W.Frag) (Hs:Hp) (ρ:Env) (σ:St) (H:Hp) (tot:List Addr):Prop where
  sr:SR K Hs H ρ σ tot
  wf:Wf Hs H
  nod:tot.Nodup
  own:∀ a∈tot,Hs a=none
structure Grow (Hs H Hs' H':Hp):Prop where
  all:Same H H'
  sh:Same Hs Hs'
  wf:Wf Hs' H'
  new:∀ a,Hs' a≠none→Hs a≠none∨H a=none
section
variable {K:PySem.W.Frag} {Hs H Hs' H' Hs'' H'':Hp}
theorem Grow.refl (w:Wf Hs H):Grow Hs H Hs H:=⟨Same.refl _,Same.refl _,w,fun _ h=>.inl h⟩
theorem Grow.trans (a:Grow Hs H Hs' H') (b:Grow Hs' H' Hs'' H''):Grow Hs H Hs'' H'' :=
  ⟨a.all.trans b.all,a.sh.trans b.sh,b.wf,fun c h=>by
    rcases b.new c h with h | h
    · exact a.new c h
    · exact .inr (a.all.free h)⟩
theorem Grow.hsn (g:Grow Hs H Hs' H') {a:Addr} (h:Hs a=none) (h':H a≠none):Hs' a=none:=by
  cases e:Hs' a with
  | none=>rfl
  | some o =>
    rcases g.new a (by rw [e]; exact fun z=>nomatch z) with z | z
    · exact absurd h z
    · exact absurd z h'
theorem SR.own {ρ:Env} {σ:St} {tot:List Addr} (s:SR K Hs H ρ σ tot):∀ a∈tot,Own H a:=by
  induction s with
  | nil=>exact fun a h=>mem0 h
  | non _ ih=>exact ih
  | sh _ _ ih=>exact ih
  | xc _ ih=>exact ih
  | ow _ r _ ih=>exact fun a h=>(List.mem_append.mp h).elim (r.own a) (ih a)
  | lk _ r _ ih=>exact fun a h=>(List.mem_append.mp h).elim (r.own a) (ih a)
theorem SR.stay (s:Same Hs Hs') {ρ:Env} {σ:St} {tot:List Addr} (r:SR K Hs H ρ σ tot):(∀ a∈tot,H' a=H a)→SR K Hs' H' ρ σ tot:=by
  induction r with
  | nil=>exact fun _=>.nil
  | non _ ih=>exact fun k=>.non (ih k)
  | sh h _ ih=>exact fun k=>.sh (h.same s) (ih k)
  | xc _ ih=>exact fun k=>.xc (ih k)
  | ow ne h _ ih=>exact fun k=>.ow ne (h.stay s fun a m=>k a (List.mem_append_left _ m)) (ih fun a m=>k a (List.mem_append_right _ m))
  | lk ne h _ ih=>exact fun k=>.lk ne (h.stay s fun a m=>k a (List.mem_append_left _ m)) (ih fun a m=>k a (List.mem_append_right _ m))
theorem SRel.grow {ρ:Env} {σ:St} {tot:List Addr} (r:SRel K Hs ρ σ H tot) (g:Grow Hs H Hs' H'):SRel K Hs' ρ σ H' tot :=
  ⟨r.sr.stay g.sh fun a h=>by
    cases e:H a with
    | none=>exact absurd e (r.sr.own a h).ne
    | some o=>exact g.all a o e,g.wf,r.nod,fun a h=>g.hsn (r.own a h) (r.sr.own a h).ne⟩
theorem SR.length {ρ:Env} {σ:St} {tot:List Addr} (s:SR K Hs H ρ σ tot):ρ.length=σ.length:=by
  induction s with
  | nil=>rfl
  | non _ ih=>exact congrArg (· + 1) ih
  | sh _ _ ih=>exact congrArg (· + 1) ih
  | xc _ ih=>exact congrArg (· + 1) ih
  | ow _ _ _ ih=>exact congrArg (· + 1) ih
  | lk _ _ _ ih=>exact congrArg (· + 1) ih
noncomputable def uN (K:PySem.W.Frag) (Hs H:Hp) (tot:List Addr) (sl:Sl) (v:V):Prop:=match sl with
  | .sh d=>Rep K Hs d v
  | .ow fl d=>∃ As,As≠[]∧RepO K Hs H fl d v As∧∀ a∈As,a∈tot
  | .lk a fl d=>∃ As,As≠[]∧RepO K Hs H fl d v As∧v=.ref a∧∀ a∈As,a∈tot
  | .xc a=>v=.ref a
theorem uN.mono {tot tot':List Addr} {sl:Sl} {v:V} (h:uN K Hs H tot sl v) (m:∀ a∈tot,a∈tot'):uN K Hs H tot' sl v:=by
  cases sl with
  | sh d=>exact h
  | xc a=>exact h
  | ow fl d =>
    obtain ⟨As,ne,r,q⟩:=h
    exact ⟨As,ne,r,fun a ha=>m a (q a ha)⟩
  | lk a fl d =>
    obtain ⟨As,ne,r,e,q⟩:=h
    exact ⟨As,ne,r,e,fun a ha=>m a (q a ha)⟩
theorem SR.get {ρ:Env} {σ:St} {tot:List Addr} {i:Nat} {sl:Sl} (s:SR K Hs H ρ σ tot) (e:ρ[i]? = some (some sl)):∃ v,σ[i]? = some (some v)∧uN K Hs H tot sl v:=by
  induction s generalizing i with
  | nil=>simp at e
  | non s ih =>
    cases i with
    | zero=>simp at e
    | succ i=>exact ih e
  | sh r s ih =>
    cases i with
    | zero=>simp at e; subst e; exact ⟨_,rfl,r⟩
    | succ i=>exact ih e
  | xc s ih =>
    cases i with
    | zero=>simp at e; subst e; exact ⟨_,rfl,rfl⟩
    | succ i=>exact ih e
  | ow ne r s ih =>
    cases i with
    | zero=>simp at e; subst e; exact ⟨_,rfl,_,ne,r,fun a m=>List.mem_append_left _ m⟩
    | succ i =>
      obtain ⟨v,e1,h⟩:=ih e
      exact ⟨v,e1,h.mono fun a m=>List.mem_append_right _ m⟩
  | lk ne r s ih =>
    cases i with
    | zero=>simp at e; subst e; exact ⟨_,rfl,_,ne,r,rfl,fun a m=>List.mem_append_left _ m⟩
    | succ i =>
      obtain ⟨v,e1,h⟩:=ih e
      exact ⟨v,e1,h.mono fun a m=>List.mem_append_right _ m⟩
end

inductive Md where
  | sh | ow (fl:Bool) | bo
noncomputable def RM (K:PySem.W.Frag) (Hs H:Hp):Md→D→V→List Addr→Prop
  | .sh,d,v,As=>As=[]∧Rep K Hs d v
  | .ow fl,d,v,As=>RepO K Hs H fl d v As∧As≠[]
  | .bo,d,v,As=>As=[]∧Rep K H d v
inductive RMs (K:PySem.W.Frag) (Hs H:Hp):List (Md × D)→List V→List Addr→Prop
  | nil:RMs K Hs H [] [] []
  | cons {m:Md} {d:D} {v:V} {ps:List (Md × D)} {vs:List V} {As Bs:List Addr}:RM K Hs H m d v As→RMs K Hs H ps vs Bs→RMs K Hs H ((m,d) :: ps) (v :: vs) (As++Bs)
section
variable {K:PySem.W.Frag} {Hs H Hs' H':Hp}
theorem RM.own {m:Md} {d:D} {v:V} {As:List Addr} (r:RM K Hs H m d v As):∀ a∈As,Own H a:=by
  cases m with
  | sh=>obtain ⟨rfl,_⟩:=r; exact fun a h=>mem0 h
  | ow fl=>exact RepO.own r.1
  | bo=>obtain ⟨rfl,_⟩:=r; exact fun a h=>mem0 h
theorem RM.grow {m:Md} {d:D} {v:V} {As:List Addr} (r:RM K Hs H m d v As) (g:Grow Hs H Hs' H'):RM K Hs' H' m d v As:=by
  cases m with
  | sh=>exact ⟨r.1,r.2.same g.sh⟩
  | ow fl=>exact ⟨RepO.grow g.sh g.all r.1,r.2⟩
  | bo=>exact ⟨r.1,r.2.same g.all⟩
theorem RM.rep {m:Md} {d:D} {v:V} {As:List Addr} (w:Wf Hs H) (r:RM K Hs H m d v As):Rep K H d v:=by
  cases m with
  | sh=>exact r.2.same w.sub
  | ow fl=>exact RepO.rep w.sub r.1 fun _ _=>rfl
  | bo=>exact r.2
theorem RM.flat {m:Md} {d:D} {v:V} {As:List Addr} (w:Wf Hs H) (r:RM K Hs H m d v As) (f:d.flat=true):Rep K Hs d v:=(r.rep w).gn w.tups f
theorem RMs.reps (w:Wf Hs H) {ps:List (Md × D)} {vs:List V} {As:List Addr} (r:RMs K Hs H ps vs As):Reps K H (ps.map (·.2)) vs:=by
  induction r with
  | nil=>exact .nil
  | cons r _ ih=>exact .cons (r.rep w) ih
end

noncomputable abbrev WE:=Env→(Md→D→Prop)→Prop
noncomputable abbrev WT:=Env→(Bool→Prop)→Prop
noncomputable abbrev WA:=Env→(List (Md × D)→Prop)→Prop
structure ou where
  nx:Env→Prop
  rt:Md→D→Prop
  bk:Env→Prop:=fun _=>False
  ct:Env→Prop:=fun _=>False
noncomputable abbrev WS:=ou→Env→Prop

noncomputable def cA (Hs' H:Hp) (As:List Addr):Prop:=As.Nodup∧∀ a∈As,Hs' a=none∧H a=none
noncomputable def tpE (K:PySem.W.Frag) (t:WE):TE:=fun σ H Qv=>∃ Hs ρ tot Q,SRel K Hs ρ σ H tot∧t ρ Q ∧
  ∀ v H' Hs' m d As,Grow Hs H Hs' H'→RM K Hs' H' m d v As→cA Hs' H As→Q m d→Qv v H'
noncomputable def tpT (K:PySem.W.Frag) (t:WT):TT:=fun σ H Qv=>∃ Hs ρ tot Q,SRel K Hs ρ σ H tot∧t ρ Q∧∀ b H' Hs',Grow Hs H Hs' H'→Q b→Qv b H'
noncomputable def tpA (K:PySem.W.Frag) (t:WA):TA:=fun σ H Qv=>∃ Hs ρ tot Q,SRel K Hs ρ σ H tot∧t ρ Q ∧
  ∀ vs H' Hs' ps As,Grow Hs H Hs' H'→RMs K Hs' H' ps vs As→cA Hs' H As→Q ps→Qv vs H'
noncomputable def tpS (K:PySem.W.Frag) (L:Str→Hp→Prop) (t:WS):TS:=fun D σ H=>∃ Hs ρ tot E,SRel K Hs ρ σ H tot∧t E ρ ∧
  (∀ σ' H' Hs' ρ' tot',Same Hs Hs'→SRel K Hs' ρ' σ' H' tot'→E.nx ρ'→D.nx σ' H') ∧
  (∀ σ' H' Hs' ρ' tot',Same Hs Hs'→SRel K Hs' ρ' σ' H' tot'→E.bk ρ'→D.bk σ' H') ∧
  (∀ σ' H' Hs' ρ' tot',Same Hs Hs'→SRel K Hs' ρ' σ' H' tot'→E.ct ρ'→D.ct σ' H') ∧
  (∀ v H' Hs' m d As,Same Hs Hs'→Wf Hs' H'→RM K Hs' H' m d v As→As.Nodup→(∀ a∈As,Hs' a=none)→E.rt m d→D.rt v H') ∧
  ∀ n H',Same Hs H'→E.rt (.ow false) (.str n)→L n H'
theorem fO {K:PySem.W.Frag} {L:Str→Hp→Prop} {t:WS} {D:Ends} {σ:St} {H:Hp} {G:Prop} (x:tpS K L t D σ H) (k:∀ Hs ρ tot E,SRel K Hs ρ σ H tot→t E ρ →
  (∀ σ' H' Hs' ρ' tot',Same Hs Hs'→SRel K Hs' ρ' σ' H' tot'→E.nx ρ'→D.nx σ' H') →
  (∀ σ' H' Hs' ρ' tot',Same Hs Hs'→SRel K Hs' ρ' σ' H' tot'→E.bk ρ'→D.bk σ' H') →
  (∀ σ' H' Hs' ρ' tot',Same Hs Hs'→SRel K Hs' ρ' σ' H' tot'→E.ct ρ'→D.ct σ' H') →
  (∀ v H' Hs' m d As,Same Hs Hs'→Wf Hs' H'→RM K Hs' H' m d v As→As.Nodup→(∀ a∈As,Hs' a=none)→E.rt m d→D.rt v H') →
  (∀ n H',Same Hs H'→E.rt (.ow false) (.str n)→L n H')→G):G :=
  by
  obtain ⟨Hs,ρ,tot,E,sr,h,k1,k2,k3,k4,kx⟩:=x
  exact k Hs ρ tot E sr h k1 k2 k3 k4 kx
theorem iZ {K:PySem.W.Frag} {L:Str→Hp→Prop} {t:WS} {D:Ends} {σ:St} {H:Hp} {G:Prop} (x:tpS K L t D σ H) (k:∀ Hs ρ tot E,SRel K Hs ρ σ H tot→t E ρ →
  (∀ σ' H' Hs' ρ' tot',Same Hs Hs'→SRel K Hs' ρ' σ' H' tot'→E.nx ρ'→D.nx σ' H') →
  (∀ σ' H' Hs' ρ' tot',Same Hs Hs'→SRel K Hs' ρ' σ' H' tot'→E.bk ρ'→D.bk σ' H') →
  (∀ σ' H' Hs' ρ' tot',Same Hs Hs'→SRel K Hs' ρ' σ' H' tot'→E.ct ρ'→D.ct σ' H') →
  (∀ v H' Hs' m d As,Same Hs Hs'→Wf Hs' H'→RM K Hs' H' m d v As→As.Nodup→(∀ a∈As,Hs' a=none)→E.rt m d→D.rt v H')→G):G :=
  fO x fun Hs ρ tot E sr h k1 k2 k3 k4 _=>k Hs ρ tot E sr h k1 k2 k3 k4
theorem ex4 {α β γ δ:Type _} {A B C:α→β→γ→δ→Prop} {G:Prop} (x:∃ a b c d,A a b c d∧B a b c d∧C a b c d) (k:∀ a b c d,A a b c d→B a b c d→C a b c d→G):G :=
  by
  obtain ⟨a,b,c,d,p,q,r⟩:=x
  exact k a b c d p q r
noncomputable abbrev QE (X:Cx) (K:PySem.W.Frag) (e:Expr) (t:WE):Prop:=PE X e (tpE K t)
noncomputable abbrev QT (X:Cx) (K:PySem.W.Frag) (e:Expr) (t:WT):Prop:=PT X e (tpT K t)
noncomputable abbrev QW (X:Cx) (K:PySem.W.Frag) (e:Expr) (t:WT):Prop:=PW X e (tpT K t)
noncomputable abbrev QA (X:Cx) (K:PySem.W.Frag) (es:List Expr) (t:WA):Prop:=PA X es (tpA K t)
noncomputable abbrev QS (X:Cx) (K:PySem.W.Frag) (L:Str→Hp→Prop) (st:Stmt) (t:WS):Prop:=PS X st (tpS K L t)
noncomputable abbrev QSs (X:Cx) (K:PySem.W.Frag) (L:Str→Hp→Prop) (st:List Stmt) (t:WS):Prop:=PSs X st (tpS K L t)
noncomputable abbrev L0:Str→Hp→Prop:=fun _ _=>True
end L2.Q

set_option Elab.async false
set_option linter.all false
set_option maxRecDepth 100000
set_option maxHeartbeats 4000000

namespace L2.Q
open PySem PySem.Spec PyProof.Rows

structure Kt {α:Type} (f:α→Prop):Type where
noncomputable def onK {α:Type} (a:α) {f:α→Prop} (_:Kt f):Prop:=f a
mutual
noncomputable def D.py:D→PyData
  | .non=>.none
  | .bl b=>.bool b
  | .int i=>.int i
  | .str x=>.str x
  | .list xs=>.list (pys xs)
  | .tup xs=>.tuple (pys xs)
  | .dK _=>.none
  | .dT _=>.none
noncomputable def pys:List D→List PyData
  | []=>[]
  | x :: xs=>x.py :: pys xs
end
noncomputable def okD:Nat→D→Bool
  | _,.non=>true
  | _,.bl _=>true
  | _,.int _=>true
  | _,.str x=>PyData.strOk x
  | n+1,.list xs=>xs.all (okD n)
  | n+1,.tup xs=>xs.all (okD n)
  | _,_=>false
noncomputable def eqD (x y:D):Bool:=PyData.eqv x.py y.py
noncomputable def D.ty:D→String
  | .non => "NoneType"
  | .bl _ => "bool"
  | .int _ => "int"
  | .str _ => "str"
  | .list _ => "list"
  | .tup _ => "tuple"
  | .dK _ => "dict"
  | .dT _ => "dict"
noncomputable def D.key1:D→Option Key
  | .int i=>some (.inl i)
  | .str x=>some (.inr x)
  | _=>none
noncomputable def jD:List D→Option (List Key)
  | []=>some []
  | x :: xs=>match x.key1,jD xs with
    | some k,some ks=>some (k :: ks)
    | _,_=>none
section
variable {κ:Type} [DecidableEq κ] {β:Type}
noncomputable def getG (kvs:List (κ × β)) (k:κ):Option β:=(kvs.find? fun kv=>decide (kv.1=k)).map (·.2)
noncomputable def putG (kvs:List (κ × β)) (k:κ) (v:β):List (κ × β) :=
  if (kvs.any fun kv=>decide (kv.1=k))=true then kvs.map (fun kv=>if kv.1=k then (kv.1,v) else kv) else kvs++[(k,v)]
end
theorem Rep.l22 {K:PySem.W.Frag} {H:Hp}:(∀ {d:D} {v:V},Rep K H d v→∀ n,okD n d=true→L2.Rep K H d.py v)∧∀ {ds:List D} {vs:List V},Reps K H ds vs→∀ n,(∀ d∈ds,okD n d=true)→L2.Reps K H (pys ds) vs :=
  Rep.ind (m1:=fun d v=>∀ n,okD n d=true→L2.Rep K H d.py v) (m2:=fun ds vs=>∀ n,(∀ d∈ds,okD n d=true)→L2.Reps K H (pys ds) vs) (fun _ _=>.none) (fun b _ _=>.bool b) (fun i _ _=>.int i) (fun _ _ _ _=>.str _)
    (fun _ _ _ _ h _ ih n o=>by
      cases n with
      | zero=>simp [okD] at o
      | succ n=>exact .list h (ih n (by simpa [okD] using o)))
    (fun _ _ _ _ h _ ih n o=>by
      cases n with
      | zero=>simp [okD] at o
      | succ n=>exact .tuple (.inl (.inl h)) (ih n (by simpa [okD] using o)))
    (fun _ _ _ _ _ _ _ n o=>by cases n <;> simp [okD] at o) (fun _ _ _ _ _ _ _ n o=>by cases n <;> simp [okD] at o) (fun _ _=>.nil)
    fun _ _ _ _ _ _ i1 i2 n o=>.cons (i1 n (o _ List.mem_cons_self)) (i2 n fun d m=>o d (List.mem_cons_of_mem _ m))
theorem Rep.l2 {K:PySem.W.Frag} {H:Hp} {n:Nat} {d:D} {v:V} (r:Rep K H d v) (o:okD n d=true):L2.Rep K H d.py v:=Rep.l22.1 r n o
theorem sZ {n:Nat} (ih:∀ d,okD n d=true→d.py.canLay0=true∧d.py.depth≤n) (xs:List D) (h:∀ x∈xs,okD n x=true):PyData.canLayAll0 (pys xs)=true∧PyData.depthAll (pys xs)≤n:=by
  induction xs with
  | nil=>exact ⟨rfl,Nat.zero_le _⟩
  | cons x xs ih2 =>
    have h1:=ih x (h x List.mem_cons_self)
    have h2:=ih2 fun y hy=>h y (List.mem_cons_of_mem _ hy)
    simp only [pys,PyData.canLayAll0,PyData.depthAll,h1.1,h2.1,Bool.and_self,true_and]
    walk_at "l"
theorem il (n:Nat):∀ (d:D),okD n d=true→d.py.canLay0=true∧d.py.depth≤n:=by
  have st:∀ (n:Nat) (x:Str),okD n (.str x)=true→(D.str x).py.canLay0=true∧(D.str x).py.depth≤n:=fun n x h=>by
    have h:PyData.strOk x=true:=by cases n <;> simpa [okD] using h
    exact ⟨by simpa [D.py,PyData.canLay0] using h,Nat.zero_le _⟩
  induction n with
  | zero =>
    intro d h
    cases d with
    | str x=>exact st _ x h
    | non=>exact ⟨rfl,Nat.zero_le _⟩
    | bl _=>exact ⟨rfl,Nat.zero_le _⟩
    | int _=>exact ⟨rfl,Nat.zero_le _⟩
    | _=>simp [okD] at h
  | succ n ih =>
    intro d h
    cases d with
    | str x=>exact st _ x h
    | non=>exact ⟨rfl,Nat.zero_le _⟩
    | bl _=>exact ⟨rfl,Nat.zero_le _⟩
    | int _=>exact ⟨rfl,Nat.zero_le _⟩
    | list xs =>
      have h:∀ x∈xs,okD n x=true:=by simpa [okD] using h
      have:=sZ ih xs h
      simp only [D.py,PyData.canLay0,PyData.depth]
      exact ⟨this.1,by walk_at "l"⟩
    | tup xs =>
      have h:∀ x∈xs,okD n x=true:=by simpa [okD] using h
      have:=sZ ih xs h
      simp only [D.py,PyData.canLay0,PyData.depth]
      exact ⟨this.1,by walk_at "l"⟩
    | dK _=>simp [okD] at h
    | dT _=>simp [okD] at h
mutual
noncomputable def D.nb:D→Bool
  | .bl _=>false
  | .list xs=>nbs xs
  | .tup xs=>nbs xs
  | .dK _=>false
  | .dT _=>false
  | _=>true
noncomputable def nbs:List D→Bool
  | []=>true
  | x :: xs=>x.nb && nbs xs
end
mutual
theorem iW:∀ (x y:D),x.nb=true→y.nb=true→(eqD x y=true↔x=y)
  | .non,y,_,hy=>by cases y <;> simp_all [eqD,D.py,PyData.eqv,D.nb]
  | .bl _,y,hx,_=>by simp [D.nb] at hx
  | .int i,y,_,hy=>by cases y <;> simp_all [eqD,D.py,PyData.eqv,D.nb]
  | .str i,y,_,hy=>by cases y <;> simp_all [eqD,D.py,PyData.eqv,D.nb]
  | .dK _,y,hx,_=>by simp [D.nb] at hx
  | .dT _,y,hx,_=>by simp [D.nb] at hx
  | .list xs,y,hx,hy=>by
    cases y with
    | list ys =>
      have:=j6 xs ys (by simpa [D.nb] using hx) (by simpa [D.nb] using hy)
      simp only [eqD,D.py,PyData.eqv,D.list.injEq]
      exact this
    | _=>simp_all [eqD,D.py,PyData.eqv,D.nb]
  | .tup xs,y,hx,hy=>by
    cases y with
    | tup ys =>
      have:=j6 xs ys (by simpa [D.nb] using hx) (by simpa [D.nb] using hy)
      simp only [eqD,D.py,PyData.eqv,D.tup.injEq]
      exact this
    | _=>simp_all [eqD,D.py,PyData.eqv,D.nb]
theorem j6:∀ (xs ys:List D),nbs xs=true→nbs ys=true→(PyData.eqvAll (pys xs) (pys ys)=true↔xs=ys)
  | [],[],_,_=>by simp [pys,PyData.eqvAll]
  | [],_ :: _,_,_=>by simp [pys,PyData.eqvAll]
  | _ :: _,[],_,_=>by simp [pys,PyData.eqvAll]
  | x :: xs,y :: ys,hx,hy=>by
    simp only [nbs,Bool.and_eq_true] at hx hy
    have h1:=iW x y hx.1 hy.1
    have h2:=j6 xs ys hx.2 hy.2
    simp only [pys,PyData.eqvAll,Bool.and_eq_true,List.cons.injEq]
    exact and_congr h1 h2
end
section
variable {K:PySem.W.Frag} {H:Hp}
theorem Rep.key {d:D} {v:V} {k:Key} (r:Rep K H d v) (h:d.key1=some k):v=kV k:=by
  cases r <;> simp [D.key1] at h <;> subst h <;> rfl
theorem Reps.keys {ds:List D} {vs:List V} {ks:List Key} (r:Reps K H ds vs) (h:jD ds=some ks):vs=ks.map kV:=by
  induction ds generalizing vs ks with
  | nil=>simp [jD] at h; subst h; exact r.n0
  | cons d ds ih =>
    obtain ⟨u,us,rfl,r,rs⟩:=r.c
    unfold jD at h
    cases e1:d.key1 with
    | none=>rw [e1] at h; simp at h
    | some k =>
      cases e2:jD ds with
      | none=>rw [e1,e2] at h; simp at h
      | some ks' =>
        rw [e1,e2] at h
        simp at h
        subst h
        rw [List.map_cons,r.key e1,ih rs e2]
theorem Rep.keyT {ds:List D} {v:V} {ks:List Key} (r:Rep K H (.tup ds) v) (h:jD ds=some ks):∃ b,v=.ref b∧H b=some (.tup (ks.map kV)):=by
  cases r with
  | tup _ e rs=>exact ⟨_,rfl,by rw [e,rs.keys h]⟩
end
section
variable {κ:Type} [DecidableEq κ] {K:PySem.W.Frag} {H:Hp}
theorem zip_get {k:κ} {kvs:List (κ × D)} {vs:List V} (h:Reps K H (kvs.map (·.2)) vs):match getG kvs k with
    | some d=>∃ v,valV ((kvs.map (·.1)).zip vs) k=some v∧Rep K H d v
    | none=>valV ((kvs.map (·.1)).zip vs) k=none:=by
  induction kvs generalizing vs with
  | nil=>rfl
  | cons p kvs ih =>
    obtain ⟨u,us,rfl,r,rs⟩:=Reps.c (d:=p.2) h
    by_cases e:p.1=k
    · have e1:getG (p :: kvs) k=some p.2:=by simp [getG,e]
      rw [e1]
      exact ⟨_,by simp only [List.map_cons,List.zip_cons_cons]; exact valV_pos e,r⟩
    · have e1:getG (p :: kvs) k=getG kvs k:=by simp [getG,e]
      rw [e1]
      have:=ih rs
      simp only [List.map_cons,List.zip_cons_cons,valV_neg (p:=(p.1,_)) e]
      exact this
end

section
variable {K:PySem.W.Frag} {Hs H:Hp}
theorem newL {p:Addr} {o:HO} (w:Wf Hs H) (hp:H p=none) (ho:∀ vs,o≠.tup vs):Grow Hs H Hs (upd H p o) :=
  ⟨(Same.refl H).upd hp,Same.refl _,⟨w.sub.upd hp,fun a vs e=>by
    by_cases h:a=p
    · subst h; rw [upd_same] at e; exact absurd (Option.some.inj e) (ho vs)
    · rw [upd_ne h] at e; exact w.tups a vs e⟩,fun _ h=>.inl h⟩
theorem newT {p:Addr} {vs:List V} (w:Wf Hs H) (hp:H p=none):Grow Hs H (upd Hs p (.tup vs)) (upd H p (.tup vs)) :=
  ⟨(Same.refl H).upd hp,(Same.refl Hs).upd (w.sub.free hp),⟨fun a o e=>by
    by_cases h:a=p
    · subst h; rw [upd_same] at e ⊢; exact e
    · rw [upd_ne h] at e ⊢; exact w.sub a o e,fun a vs e=>by
    by_cases h:a=p
    · subst h; rw [upd_same] at e ⊢; exact e
    · rw [upd_ne h] at e ⊢; exact w.tups a vs e⟩,fun a h=>by
    by_cases e:a=p
    · subst e; exact .inr hp
    · rw [upd_ne e] at h; exact .inl h⟩
theorem cA.nil:cA Hs H []:=⟨List.nodup_nil,fun a h=>nomatch h⟩
theorem cA.of {H':Hp} {As:List Addr} (s:Same H H') (f:cA Hs H' As):cA Hs H As:=⟨f.1,fun a h=>⟨(f.2 a h).1,s.free (f.2 a h).2⟩⟩
noncomputable abbrev Fin (K:PySem.W.Frag) (Hs H:Hp) (Qd:Md→D→Prop) (Qv:VK):Prop:=∀ v H' Hs' m d As,Grow Hs H Hs' H'→RM K Hs' H' m d v As→cA Hs' H As→Qd m d→Qv v H'
theorem Fin.after {Hs' H':Hp} {Qd:Md→D→Prop} {Qv:VK} (f:Fin K Hs H Qd Qv) (g:Grow Hs H Hs' H'):Fin K Hs' H' Qd Qv:=fun v H2 Hs2 m d As g2 r fr q=>f v H2 Hs2 m d As (g.trans g2) r (fr.of g.all) q
theorem Fin.sh {Qd:Md→D→Prop} {Qv:VK} {d:D} {v:V} (f:Fin K Hs H Qd Qv) (w:Wf Hs H) (r:Rep K Hs d v) (q:Qd .sh d):Qv v H:=f v H Hs .sh d [] (Grow.refl w) ⟨rfl,r⟩ cA.nil q
theorem Fin.flat {Qd:Md→D→Prop} {Qv:VK} {d:D} {v:V} (f:Fin K Hs H Qd Qv) (w:Wf Hs H) (r:Rep K H d v) (hf:d.flat=true) (q:Qd .sh d):Qv v H:=f.sh w (r.gn w.tups hf) q
theorem Fin.bo {Qd:Md→D→Prop} {Qv:VK} {d:D} {v:V} (f:Fin K Hs H Qd Qv) (w:Wf Hs H) (r:Rep K H d v) (q:Qd .bo d):Qv v H:=f v H Hs .bo d [] (Grow.refl w) ⟨rfl,r⟩ cA.nil q
noncomputable def itm (m:Md) (d:D):Md:=match m with
  | .sh=>.sh
  | _=>bif d.flat then .sh else .bo
theorem Fin.itm {Qd:Md→D→Prop} {Qv:VK} {m:Md} {d:D} {v:V} (f:Fin K Hs H Qd Qv) (w:Wf Hs H) (r:Rep K H d v) (rs:m=.sh→Rep K Hs d v) (q:Qd (itm m d) d):Qv v H:=by
  cases m with
  | sh=>exact f.sh w (rs rfl) q
  | ow fl =>
    cases hf:d.flat with
    | true=>exact f.flat w r hf (by simpa [Q.itm,hf] using q)
    | false=>exact f.bo w r (by simpa [Q.itm,hf] using q)
  | bo =>
    cases hf:d.flat with
    | true=>exact f.flat w r hf (by simpa [Q.itm,hf] using q)
    | false=>exact f.bo w r (by simpa [Q.itm,hf] using q)
theorem Fin.lst {Qd:Md→D→Prop} {Qv:VK} {ds:List D} {vs:List V} (f:Fin K Hs H Qd Qv) (w:Wf Hs H) (hz:ds.length≤sizeLine) (r:Reps K H ds vs) (hf:flats ds=true) (q:Qd (.ow true) (.list ds)):∀ p,H p=none→Qv (.ref p) (upd H p (.lst vs)):=fun p hp =>
  f _ _ Hs (.ow true) (.list ds) [p] (newL w hp fun _ z=>nomatch z) ⟨.list (by rw [← r.length]; exact hz) upd_same ((r.gn w.tups hf).owned hf),by simp⟩ ⟨by simp,fun a h=>by
    obtain rfl:a=p:=by simpa using h
    exact ⟨w.sub.free hp,hp⟩⟩ q
theorem Fin.lstS {Qd:Md→D→Prop} {Qv:VK} {ds:List D} {vs:List V} (f:Fin K Hs H Qd Qv) (w:Wf Hs H) (hz:ds.length≤sizeLine) (r:Reps K Hs ds vs) (q:Qd (.ow false) (.list ds)):∀ p,H p=none→Qv (.ref p) (upd H p (.lst vs)):=fun p hp =>
  f _ _ Hs (.ow false) (.list ds) [p] (newL w hp fun _ z=>nomatch z) ⟨.list (by rw [← r.length]; exact hz) upd_same r.yW,by simp⟩ ⟨by simp,fun a h=>by
    obtain rfl:a=p:=by simpa using h
    exact ⟨w.sub.free hp,hp⟩⟩ q
theorem Fin.tup {Qd:Md→D→Prop} {Qv:VK} {ds:List D} {vs:List V} (f:Fin K Hs H Qd Qv) (w:Wf Hs H) (hz:ds.length≤sizeLine) (r:Reps K H ds vs) (hf:flats ds=true) (q:Qd .sh (.tup ds)):∀ p,H p=none→Qv (.ref p) (upd H p (.tup vs)):=fun p hp =>
  f _ _ (upd Hs p (.tup vs)) .sh (.tup ds) [] (newT w hp) ⟨rfl,.tup (by rw [← r.length]; exact hz) upd_same ((r.gn w.tups hf).same ((Same.refl Hs).upd (w.sub.free hp)))⟩ cA.nil q
end

section
variable {X:Cx} {K:PySem.W.Frag}
theorem PE.imp {e:Expr} {te te':TE} (h:PE X e te) (i:∀ σ H Q,te' σ H Q→te σ H Q):PE X e te':=fun pins s σ H Q I q=>h pins s σ H Q I (i σ H Q q)
theorem PT.imp {e:Expr} {te te':TT} (h:PT X e te) (i:∀ σ H Q,te' σ H Q→te σ H Q):PT X e te':=fun pins s σ H Q I q=>h pins s σ H Q I (i σ H Q q)
theorem PW.imp {e:Expr} {te te':TT} (h:PW X e te) (i:∀ σ H Q,te' σ H Q→te σ H Q):PW X e te':=fun wh pins s σ H Q I q=>h wh pins s σ H Q I (i σ H Q q)
theorem PA.imp {e:List Expr} {te te':TA} (h:PA X e te) (i:∀ σ H Q,te' σ H Q→te σ H Q):PA X e te':=fun p pins s σ H Q I q=>h p pins s σ H Q I (i σ H Q q)

noncomputable def useS:Option (Option Sl)→(Md→D→Prop)→Prop
  | some (some (.sh d)),Q=>Q .sh d
  | some (some (.ow _ d)),Q=>Q .bo d
  | some (some (.lk _ _ d)),Q=>Q .bo d
  | _,_=>False
noncomputable def wVar (i:Nat):WE:=fun ρ Q=>useS ρ[i]? Q
theorem zR {i:Nat} {e:Expr} (h:PE X e (tVar i)):QE X K e (wVar i):=by
  refine PE.imp h fun σ H Qv hx=>ex4 hx fun Hs ρ tot Q sr h f=>?_
  unfold wVar at h
  cases e:ρ[i]? with
  | none=>rw [e] at h; exact h.elim
  | some o =>
    cases o with
    | none=>rw [e] at h; exact h.elim
    | some sl =>
      obtain ⟨v,e1,r⟩:=sr.sr.get e
      rw [e] at h
      cases sl with
      | sh d=>exact ⟨v,e1,Fin.sh f sr.wf r h⟩
      | xc a=>exact h.elim
      | ow fl d =>
        obtain ⟨As,_,r,_⟩:=r
        exact ⟨v,e1,Fin.bo f sr.wf (r.rep sr.wf.sub fun _ _=>rfl) h⟩
      | lk a fl d =>
        obtain ⟨As,_,r,_⟩:=r
        exact ⟨v,e1,Fin.bo f sr.wf (r.rep sr.wf.sub fun _ _=>rfl) h⟩
theorem qv (i:Nat) {x:Str} {pos:Pos} (hN:X.N[i]? = some x:=by rfl) (hv:Vis X.env.scope x:=by first | exact Or.inl rfl | exact Or.inr (Or.inl rfl) | exact Or.inr (Or.inr rfl)) (hd:(x == ("__debug__" : Str))=false:=by decide)
    (hcd:(x == ("__classdict__" : Str))=false:=by decide):QE X K (.Name x pos) (wVar i):=zR (pe_var hN hv hd hcd)
noncomputable def wC (d:D):WE:=fun _ Q=>Q .sh d
theorem qg {e:Expr} {v:V} {d:D} (h:PE X e (tC v)) (r:∀ H,Rep K H d v):QE X K e (wC d) :=
  PE.imp h fun σ H Qv hx=>ex4 hx fun Hs ρ tot Q sr h f=>Fin.sh f sr.wf (r _) h
theorem aA {i j pos}:QE X K (.Constant (.int i) j pos) (wC (.int i)):=qg pe_int fun _=>.int i
theorem aZ {i j pos} (h:i.length≤sizeLine:=by decide):QE X K (.Constant (.str i) j pos) (wC (.str i)):=qg pe_str fun _=>.str h
theorem q_bl {i j pos}:QE X K (.Constant (.bool i) j pos) (wC (.bl i)):=qg pe_bl fun _=>.bl i
theorem rQ {j pos}:QE X K (.Constant .none j pos) (wC .non):=qg pe_non fun _=>.non
theorem q_gs {x z:Str} {pos:Pos} (h:GlS X.mg x z) (hg:Gl X x:=by rfl) (hd:(x == ("__debug__" : Str))=false:=by decide) (hz:z.length≤sizeLine:=by decide):QE X K (.Name x pos) (wC (.str z)):=qg (Ag h hg hd) fun _=>.str hz
theorem q_gi {x:Str} {i:Int} {pos:Pos} (h:GlI X.mg x i) (hg:Gl X x:=by rfl) (hd:(x == ("__debug__" : Str))=false:=by decide):QE X K (.Name x pos) (wC (.int i)):=qg (z_ h hg hd) fun _=>.int i

noncomputable abbrev W2:=Md→D→Md→D→(Md→D→Prop)→Prop
noncomputable abbrev W1:=Md→D→(Md→D→Prop)→Prop
noncomputable def Br2 (K:PySem.W.Frag) (r:R2) (f:W2):Prop:=∀ Hs H m x v As n y u Bs Qd Qv,Wf Hs H→RM K Hs H m x v As→RM K Hs H n y u Bs→f m x n y Qd→Fin K Hs H Qd Qv→r v u H Qv
noncomputable def Br1 (K:PySem.W.Frag) (r:V→Hp→VK→Prop) (f:W1):Prop:=∀ Hs H m x v As Qd Qv,Wf Hs H→RM K Hs H m x v As→f m x Qd→Fin K Hs H Qd Qv→r v H Qv
noncomputable def wOp (f:W2) (ta tb:WE):WE:=fun ρ Q=>ta ρ fun m x=>tb ρ fun n y=>f m x n y Q
noncomputable def wUn (f:W1) (ta:WE):WE:=fun ρ Q=>ta ρ fun m x=>f m x Q
variable {a b c:Expr} {ta tb tc:WE} {pos:Pos}
theorem lB {r:R2} {f:W2} (br:Br2 K r f) (σ:St) (H:Hp) (Qv:VK) (h:tpE K (wOp f ta tb) σ H Qv):tOp r (tpE K ta) (tpE K tb) σ H Qv:=by
  obtain ⟨Hs,ρ,tot,Q,sr,h,fin⟩:=h
  refine ⟨Hs,ρ,tot,_,sr,h,fun v H1 Hs1 m x As g1 r1 f1 q1=>⟨Hs1,ρ,tot,_,sr.grow g1,q1,fun u H2 Hs2 n y Bs g2 r2 f2 q2=>?_⟩⟩
  exact br Hs2 H2 m x v As n y u Bs Q Qv g2.wf (r1.grow g2) r2 q2 (Fin.after fin (g1.trans g2))
theorem q_op {op:Operator} {r:R2} {f:W2} (ho:OpR X (binaryOp op) r) (br:Br2 K r f) (ha:QE X K a ta) (hb:QE X K b tb):QE X K (.BinOp a op b pos) (wOp f ta tb):=PE.imp (pe_op ho ha hb) (lB br)
theorem q_un {op:UnaryOp} {r:V→Hp→VK→Prop} {f:W1} (ho:UnR X (unaryOp op) r) (br:Br1 K r f) (ha:QE X K a ta):QE X K (.UnaryOp op a pos) (wUn f ta):=by
  refine PE.imp (pe_un ho ha) fun σ H Qv hx=>ex4 hx fun Hs ρ tot Q sr h fin=>?_
  exact ⟨Hs,ρ,tot,_,sr,h,fun v H1 Hs1 m x As g1 r1 f1 q1=>br Hs1 H1 m x v As Q Qv g1.wf r1 q1 (Fin.after fin g1)⟩
theorem xN {op:CmpOp} {r:R2} {f:W2} (ho:OpR X (compareOp op) r) (br:Br2 K r f) (ha:QE X K a ta) (hb:QE X K b tb) (hm:behindInMarks op b=false):QE X K (.Compare a [op] [b] pos) (wOp f ta tb):=PE.imp (pe_cmpR ho ha hb hm) (lB br)
noncomputable def wB (t:WE):WT:=fun ρ Q=>t ρ fun _ x=>match x with
  | .bl b=>Q b
  | _=>False
theorem uH {t:WE} (σ:St) (H:Hp) (Qv:Bool→Hp→Prop) (h:tpT K (wB t) σ H Qv):tTest (tpE K t) σ H Qv:=by
  obtain ⟨Hs,ρ,tot,Q,sr,h,fin⟩:=h
  refine ⟨Hs,ρ,tot,_,sr,h,fun v H1 Hs1 m x As g1 r1 f1 q1=>?_⟩
  have r:=r1.rep g1.wf
  cases r with
  | bl b=>exact ⟨b,rfl,fin b H1 Hs1 g1 q1⟩
  | _=>exact q1.elim
theorem b7 {op:CmpOp} {r:R2} {f:W2} (ho:OpR X (compareOp op) r) (br:Br2 K r f) (ha:QE X K a ta) (hb:QE X K b tb) (hm:behindInMarks op b=false):QT X K (.Compare a [op] [b] pos) (wB (wOp f ta tb)):=by
  refine PT.imp (pt_cmpR ho ha hb hm) fun σ H Qv h=>?_
  obtain ⟨Hs,ρ,tot,Q,sr,h,fin⟩:=h
  refine lB br σ H _ ⟨Hs,ρ,tot,_,sr,h,fun v H1 Hs1 m x As g1 r1 f1 q1=>?_⟩
  have r:=r1.rep g1.wf
  cases r with
  | bl b=>exact ⟨b,rfl,fin b H1 Hs1 g1 q1⟩
  | _=>exact q1.elim
theorem fY {t:WE} (h:QE X K a t) (he:∀ whole,isTrue a X.env whole=(do let v ← whole; standAt a.pos; holding [v] (truthy v)):=by intro _; rfl):QT X K a (wB t):=PT.imp (pt_val h he) uH
noncomputable def gK (f g:W2) (ta tb tc:WE):WE:=fun ρ Q=>ta ρ fun m x=>tb ρ fun n y=>f m x n y fun _ z=>match z with
  | .bl k=>if k=true then tc ρ fun l w=>g n y l w Q else Q .sh (.bl false)
  | _=>False
end
end L2.Q

set_option Elab.async false
set_option linter.all false
set_option maxRecDepth 100000
set_option maxHeartbeats 4000000

namespace L2.Q
open PySem PySem.Spec PyProof.Rows

section
variable {X:Cx} {K:PySem.W.Frag} {a b c:Expr} {ta tb tc:WE} {pos:Pos}

theorem jP {r r':R2} {f g:W2} (br:Br2 K r f) (br':Br2 K r' g) (σ:St) (H:Hp) (Qv:VK) (h:tpE K (gK f g ta tb tc) σ H Qv):tChain r r' (tpE K ta) (tpE K tb) (tpE K tc) σ H Qv:=by
  obtain ⟨Hs,ρ,tot,Q,sr,h,fin⟩:=h
  refine ⟨Hs,ρ,tot,_,sr,h,fun v H1 Hs1 m x As g1 r1 f1 q1=>⟨Hs1,ρ,tot,_,sr.grow g1,q1,fun u H2 Hs2 n y Bs g2 r2 f2 q2=>?_⟩⟩
  refine br Hs2 H2 m x v As n y u Bs _ _ g2.wf (r1.grow g2) r2 q2 fun z H3 Hs3 m3 d3 As3 g3 r3 f3 q3=>?_
  have rr:=r3.rep g3.wf
  cases rr with
  | bl k =>
    refine ⟨k,rfl,?_⟩
    have fin3:Fin K Hs3 H3 Q Qv:=Fin.after fin ((g1.trans g2).trans g3)
    cases k with
    | false=>exact fin3.sh g3.wf (.bl false) q3
    | true =>
      refine ⟨Hs3,ρ,tot,_,((sr.grow g1).grow g2).grow g3,q3,fun w H4 Hs4 l z As4 g4 r4 f4 q4=>?_⟩
      exact br' Hs4 H4 n y u Bs l z w As4 Q Qv g4.wf ((r2.grow g3).grow g4) r4 q4 (Fin.after fin3 g4)
  | _=>exact q3.elim
theorem vM {op op':CmpOp} {r r':R2} {f g:W2} (ho:OpR X (compareOp op) r) (ho':OpR X (compareOp op') r') (br:Br2 K r f) (br':Br2 K r' g) (ha:QE X K a ta) (hb:QE X K b tb) (hc:QE X K c tc)
    (hm:lastMarks [op,op'] [b,c]=false:=by with_unfolding_all rfl):QE X K (.Compare a [op,op'] [b,c] pos) (gK f g ta tb tc):=PE.imp (pe_chain ho ho' ha hb hc hm) (jP br br')
theorem uB {op op':CmpOp} {r r':R2} {f g:W2} (ho:OpR X (compareOp op) r) (ho':OpR X (compareOp op') r') (br:Br2 K r f) (br':Br2 K r' g) (ha:QE X K a ta) (hb:QE X K b tb) (hc:QE X K c tc)
    (hm:lastMarks [op,op'] [b,c]=false:=by with_unfolding_all rfl):QT X K (.Compare a [op,op'] [b,c] pos) (wB (gK f g ta tb tc)):=by
  refine PT.imp (pt_chain ho ho' ha hb hc hm) fun σ H Qv h=>?_
  obtain ⟨Hs,ρ,tot,Q,sr,h,fin⟩:=h
  refine jP br br' σ H _ ⟨Hs,ρ,tot,_,sr,h,fun v H1 Hs1 m x As g1 r1 f1 q1=>?_⟩
  have r:=r1.rep g1.wf
  cases r with
  | bl b=>exact ⟨b,rfl,fin b H1 Hs1 g1 q1⟩
  | _=>exact q1.elim
noncomputable def wAnd (t u:WT):WT:=fun ρ Q=>t ρ fun c=>if c=true then u ρ Q else Q false
noncomputable def wOr (t u:WT):WT:=fun ρ Q=>t ρ fun c=>if c=true then Q true else u ρ Q
noncomputable def wNot (t:WT):WT:=fun ρ Q=>t ρ fun c=>Q (!c)
variable {tA tB:WT} {rest:List Expr}
theorem kW {t u:WT} {f:Bool→TT} {σ:St} {H:Hp} {Qv:Bool→Hp→Prop} {G:Bool→(Bool→Prop)→Env→Prop}
    (h:tpT K (fun ρ Q=>t ρ fun c=>G c Q ρ) σ H Qv)
    (i:∀ c H1 Hs1 ρ tot Q,SRel K Hs1 ρ σ H1 tot→G c Q ρ→(∀ b H' Hs',Grow Hs1 H1 Hs' H'→Q b→Qv b H')→f c σ H1 Qv):tpT K t σ H fun c H1=>f c σ H1 Qv:=by
  obtain ⟨Hs,ρ,tot,Q,sr,h,fin⟩:=h
  exact ⟨Hs,ρ,tot,_,sr,h,fun c H1 Hs1 g1 q1=>i c H1 Hs1 ρ tot Q (sr.grow g1) q1 fun b H' Hs' g2=>fin b H' Hs' (g1.trans g2)⟩
theorem vO (ha:QT X K a tA):QW X K (.BoolOp .And [a] pos) tA:=pw_and1 ha
theorem l_ (ha:QT X K a tA):QW X K (.BoolOp .Or [a] pos) tA:=pw_or1 ha
theorem vA (ha:QT X K a tA) (hb:QW X K (.BoolOp .And (b :: rest) pos) tB):QW X K (.BoolOp .And (a :: b :: rest) pos) (wAnd tA tB):=by
  refine PW.imp (pw_and ha hb) fun σ H Qv h=>?_
  refine kW (u:=tB) (f:=fun c σ H1 Q=>if c=true then tpT K tB σ H1 Q else Q false H1) h fun c H1 Hs1 ρ tot Q sr q fin=>?_
  cases c with
  | true=>exact ⟨Hs1,ρ,tot,Q,sr,q,fin⟩
  | false=>exact fin false H1 Hs1 (Grow.refl sr.wf) q
theorem qz (ha:QT X K a tA) (hb:QW X K (.BoolOp .Or (b :: rest) pos) tB):QW X K (.BoolOp .Or (a :: b :: rest) pos) (wOr tA tB):=by
  refine PW.imp (pw_or ha hb) fun σ H Qv h=>?_
  refine kW (u:=tB) (f:=fun c σ H1 Q=>if c=true then Q true H1 else tpT K tB σ H1 Q) h fun c H1 Hs1 ρ tot Q sr q fin=>?_
  cases c with
  | true=>exact fin true H1 Hs1 (Grow.refl sr.wf) q
  | false=>exact ⟨Hs1,ρ,tot,Q,sr,q,fin⟩
theorem qt_w (h:QW X K a tA):QT X K a tA:=h _
theorem iM (ha:QT X K a tA):QT X K (.UnaryOp .Not a pos) (wNot tA):=by
  refine PT.imp (pt_not ha) fun σ H Qv h=>?_
  exact kW (u:=tA) (f:=fun c σ H1 Q=>Q (!c) H1) h fun c H1 Hs1 ρ tot Q sr q fin=>fin _ H1 Hs1 (Grow.refl sr.wf) q
noncomputable def lJ (ta tb:WE):WE:=fun ρ Q=>ta ρ fun _ x=>match x with
  | .bl c=>if c=true then tb ρ Q else Q .sh (.bl false)
  | _=>False
noncomputable def wOrV (ta tb:WE):WE:=fun ρ Q=>ta ρ fun _ x=>match x with
  | .bl c=>if c=true then Q .sh (.bl true) else tb ρ Q
  | _=>False
noncomputable def uA (ta:WE):WE:=fun ρ Q=>ta ρ fun _ x=>match x with
  | .bl c=>Q .sh (.bl (!c))
  | _=>False
theorem sO {op} (h:QE X K a ta):QE X K (.BoolOp op [a] pos) ta:=pe_one h
theorem sX (ha:QE X K a ta) (hb:QE X K (.BoolOp .And (b :: rest) pos) tb):QE X K (.BoolOp .And (a :: b :: rest) pos) (lJ ta tb):=by
  refine PE.imp (pe_and ha hb) fun σ H Qv hx=>ex4 hx fun Hs ρ tot Q sr h fin=>?_
  refine ⟨Hs,ρ,tot,_,sr,h,fun v H1 Hs1 m x As g1 r1 f1 q1=>?_⟩
  have r:=r1.rep g1.wf
  cases r with
  | bl c =>
    refine ⟨c,rfl,?_⟩
    cases c with
    | true=>exact ⟨Hs1,ρ,tot,Q,sr.grow g1,q1,Fin.after fin g1⟩
    | false=>exact Fin.sh (Fin.after fin g1) g1.wf (.bl false) q1
  | _=>exact q1.elim
theorem q_or (ha:QE X K a ta) (hb:QE X K (.BoolOp .Or (b :: rest) pos) tb):QE X K (.BoolOp .Or (a :: b :: rest) pos) (wOrV ta tb):=by
  refine PE.imp (pe_or ha hb) fun σ H Qv hx=>ex4 hx fun Hs ρ tot Q sr h fin=>?_
  refine ⟨Hs,ρ,tot,_,sr,h,fun v H1 Hs1 m x As g1 r1 f1 q1=>?_⟩
  have r:=r1.rep g1.wf
  cases r with
  | bl c =>
    refine ⟨c,rfl,?_⟩
    cases c with
    | true=>exact Fin.sh (Fin.after fin g1) g1.wf (.bl true) q1
    | false=>exact ⟨Hs1,ρ,tot,Q,sr.grow g1,q1,Fin.after fin g1⟩
  | _=>exact q1.elim
theorem Ao (ha:QE X K a ta):QE X K (.UnaryOp .Not a pos) (uA ta):=by
  refine PE.imp (pe_not ha) fun σ H Qv hx=>ex4 hx fun Hs ρ tot Q sr h fin=>?_
  refine ⟨Hs,ρ,tot,_,sr,h,fun v H1 Hs1 m x As g1 r1 f1 q1=>?_⟩
  have r:=r1.rep g1.wf
  cases r with
  | bl c=>exact ⟨c,rfl,Fin.sh (Fin.after fin g1) g1.wf (.bl _) q1⟩
  | _=>exact q1.elim
noncomputable def truD:D→Option Bool
  | .non=>some false
  | .bl b=>some b
  | .int i=>some (i != 0)
  | .str x=>some ((x.length:Int) != 0)
  | .list xs=>some !xs.isEmpty
  | .tup xs=>some !xs.isEmpty
  | .dK kvs=>some !kvs.isEmpty
  | .dT kvs=>none
end
end L2.Q

set_option Elab.async false
set_option linter.all false
set_option maxRecDepth 100000
set_option maxHeartbeats 4000000

namespace L2.Q
open PySem PySem.Spec PyProof.Rows

noncomputable def fAdd:W2:=fun m x n y Q=>match x,y with
  | .int i,.int j=>Q .sh (.int (i+j))
  | .str i,.str j=>i.length+j.length≤sizeLine∧Q .sh (.str (i++j))
  | .list xs,.list ys=>xs.length+ys.length≤sizeLine∧((flats xs=true∧flats ys=true∧Q (.ow true) (.list (xs++ys)))∨(m=.sh∧n=.sh∧Q (.ow false) (.list (xs++ys))))
  | .tup xs,.tup ys=>xs≠[]∧xs.length+ys.length≤sizeLine∧flats xs=true∧flats ys=true∧Q .sh (.tup (xs++ys))
  | _,_=>False
noncomputable def int2 (P:Int→Int→(Md→D→Prop)→Prop):W2:=fun _ x _ y Q=>match x,y with
  | .int i,.int j=>P i j Q
  | _,_=>False
noncomputable def is2 (P:Int→Int→(Md→D→Prop)→Prop) (S:Str→Str→(Md→D→Prop)→Prop):W2:=fun _ x _ y Q=>match x,y with
  | .int i,.int j=>P i j Q
  | .str i,.str j=>S i j Q
  | _,_=>False
noncomputable def fSub:W2:=int2 fun i j Q=>Q .sh (.int (i - j))
noncomputable def fDiv:W2:=int2 fun i j Q=>(0<j∧j<1073741824)∧Q .sh (.int (i / j))
noncomputable def fMod:W2:=int2 fun i j Q=>0<j∧Q .sh (.int (i % j))
noncomputable def fPow:W2:=int2 fun i j Q=>CPow i j∧Q .sh (.int (i ^ j.toNat))
noncomputable def fLt:W2:=is2 (fun i j Q=>Q .sh (.bl (decide (i<j)))) fun i j Q=>Q .sh (.bl (ltS i j))
noncomputable def fLe:W2:=is2 (fun i j Q=>Q .sh (.bl (decide (i≤j)))) fun i j Q=>Q .sh (.bl (!ltS j i))
noncomputable def fGt:W2:=int2 fun i j Q=>Q .sh (.bl (decide (j<i)))
noncomputable def fEq:W2:=fun _ x _ y Q=>match x,y with
  | .int i,.int j=>Q .sh (.bl (decide (i=j)))
  | .str i,.str j=>Q .sh (.bl (decide (i=j)))
  | .bl i,.bl j=>Q .sh (.bl (decide (i=j)))
  | _,_=>okD 12 x=true∧okD 12 y=true∧Q .sh (.bl (eqD x y))
noncomputable def fNe:W2:=fun _ x _ y Q=>match x,y with
  | .int i,.int j=>Q .sh (.bl (!decide (i=j)))
  | .str i,.str j=>Q .sh (.bl (!decide (i=j)))
  | .bl i,.bl j=>Q .sh (.bl (!decide (i=j)))
  | _,_=>okD 12 x=true∧okD 12 y=true∧Q .sh (.bl (!eqD x y))
noncomputable def dM:D→Bool
  | .non=>true
  | .bl _=>true
  | .int _=>true
  | .str _=>true
  | _=>false
noncomputable def inD (x:D) (ys:List D):Bool:=ys.any fun y=>eqD y x
noncomputable def fIn (neg:Bool):W2:=fun _ x _ y Q=>match y with
  | .str j=>match x with
    | .str i=>Q .sh (.bl (if neg then !inS i j else inS i j))
    | _=>False
  | .list ys=>dM x=true∧ys.all dM=true∧Q .sh (.bl (if neg then !inD x ys else inD x ys))
  | .tup ys=>dM x=true∧ys.all dM=true∧Q .sh (.bl (if neg then !inD x ys else inD x ys))
  | .dK kvs=>∃ k,x.key1=some k∧Q .sh (.bl (if neg then !(getG kvs k).isSome else (getG kvs k).isSome))
  | .dT kvs=>match x with
    | .tup xs=>∃ ks,jD xs=some ks∧Q .sh (.bl (if neg then !(getG kvs ks).isSome else (getG kvs ks).isSome))
    | _=>False
  | _=>False

section
variable {K:PySem.W.Frag}
theorem tH {Hs H:Hp} {Qd:Md→D→Prop} {Qv:VK} (f:Fin K Hs H Qd Qv) (w:Wf Hs H) {x:Str} (h:x.length≤sizeLine) (q:Qd .sh (.str x)):Qv (.str x) H:=f.sh w (.str h) q
theorem nj (i j:Str):(i++j).length=i.length+j.length:=by
  show ((i++j).cps.size)=_
  show (i.cps++j.cps).size=_
  simp [Str.length]
theorem yI:Br2 K (fun x y H Q=>uP K x y H Q∨rCatT K x y H Q) fAdd:=by
  intro Hs H m x v As n y u Bs Qd Qv w rx ry h f
  have r1:=rx.rep w
  have r2:=ry.rep w
  unfold fAdd at h
  cases r1 with
  | int i=>cases r2 with
    | int j=>exact .inl (f.sh w (.int _) h)
    | _=>exact h.elim
  | str hi=>cases r2 with
    | str hj=>exact .inl ⟨h.1,tH f w (by rw [nj]; exact h.1) h.2⟩
    | _=>exact h.elim
  | list z1 s1 q1=>cases r2 with
    | list z2 s2 q2 =>
      have l1:=q1.length
      have l2:=q2.length
      have hz:=h.1
      rcases h.2 with ⟨f1,f2,q⟩ | ⟨rfl,rfl,q⟩
      · refine .inl ⟨_,_,s1,s2,by walk_at "l",?_⟩
        exact f.lst w (by rw [List.length_append]; exact hz) (q1.append q2) (by rw [cZ,f1,f2]; rfl) q
      · obtain ⟨_,rx⟩:=rx
        obtain ⟨_,ry⟩:=ry
        cases rx with
        | list z1' s1' q1'=>cases ry with
          | list z2' s2' q2' =>
            have l1:=q1'.length
            have l2:=q2'.length
            refine .inl ⟨_,_,Same.seq w.sub s1',Same.seq w.sub s2',by walk_at "l",?_⟩
            exact f.lstS w (by rw [List.length_append]; exact hz) (q1'.append q2') q
    | _=>exact h.elim
  | tup t1 s1 q1=>cases r2 with
    | tup t2 s2 q2 =>
      have l1:=q1.length
      have l2:=q2.length
      obtain ⟨hne,hz,f1,f2,q⟩:=h
      refine .inr ⟨_,_,_,_,rfl,rfl,.inl (.inl s1),.inl (.inl s2),?_,by walk_at "l",?_⟩
      · intro e
        subst e
        exact hne (List.length_eq_zero_iff.mp l1)
      · refine ⟨fun e=>?_,fun _=>f.tup w (by rw [List.length_append]; exact hz) (q1.append q2) (by rw [cZ,f1,f2]; rfl) q⟩
        subst e
        cases q2
        rw [List.append_nil] at q
        exact f.flat w (.tup t1 s1 q1) (by simpa [D.flat] using f1) q
    | _=>exact h.elim
  | _=>exact h.elim

theorem vo {H:Hp} {x y:D} {v u:V} {m n:Md} {P:Int→Int→(Md→D→Prop)→Prop} {S:Str→Str→(Md→D→Prop)→Prop} {Q:Md→D→Prop} {G:Prop} (r1:Rep K H x v) (r2:Rep K H y u) (h:is2 P S m x n y Q) (k:∀ i j,v=.int i→u=.int j→P i j Q→G) (ks:∀ i j,v=.str i→u=.str j→S i j Q→G):G:=by
  cases r1 with
  | int i=>cases r2 with
    | int j=>exact k i j rfl rfl h
    | _=>exact h.elim
  | str hi=>cases r2 with
    | str hj=>exact ks _ _ rfl rfl h
    | _=>exact h.elim
  | _=>exact h.elim
theorem iQ {H:Hp} {x y:D} {v u:V} {m n:Md} {P:Int→Int→(Md→D→Prop)→Prop} {Q:Md→D→Prop} {G:Prop} (r1:Rep K H x v) (r2:Rep K H y u) (h:int2 P m x n y Q) (k:∀ i j,v=.int i→u=.int j→P i j Q→G):G:=by
  cases r1 with
  | int i=>cases r2 with
    | int j=>exact k i j rfl rfl h
    | _=>exact h.elim
  | _=>exact h.elim
theorem yD:Br2 K vU fSub:=by
  intro Hs H m x v As n y u Bs Qd Qv w rx ry h f
  exact iQ (rx.rep w) (ry.rep w) h fun i j e1 e2 q=>by
    subst e1 e2
    exact f.sh w (.int _) q
theorem zm:Br2 K wN fDiv:=by
  intro Hs H m x v As n y u Bs Qd Qv w rx ry h f
  exact iQ (rx.rep w) (ry.rep w) h fun i j e1 e2 q=>by
    subst e1 e2
    exact ⟨q.1,f.sh w (.int _) q.2⟩
theorem zp:Br2 K xm fMod:=by
  intro Hs H m x v As n y u Bs Qd Qv w rx ry h f
  exact iQ (rx.rep w) (ry.rep w) h fun i j e1 e2 q=>by
    subst e1 e2
    exact ⟨q.1,f.sh w (.int _) q.2⟩
theorem yd:Br2 K wU fPow:=by
  intro Hs H m x v As n y u Bs Qd Qv w rx ry h f
  exact iQ (rx.rep w) (ry.rep w) h fun i j e1 e2 q=>by
    subst e1 e2
    exact ⟨q.1,f.sh w (.int _) q.2⟩
theorem rP:Br2 K rGtU fGt:=by
  intro Hs H m x v As n y u Bs Qd Qv w rx ry h f
  exact iQ (rx.rep w) (ry.rep w) h fun i j e1 e2 q=>by
    subst e1 e2
    exact f.sh w (.bl _) q
theorem nW:Br2 K rLtU fLt:=by
  intro Hs H m x v As n y u Bs Qd Qv w rx ry h f
  exact vo (rx.rep w) (ry.rep w) h (fun i j e1 e2 q=>by
    subst e1 e2
    exact f.sh w (.bl _) q) fun i j e1 e2 q=>by
    subst e1 e2
    exact f.sh w (.bl _) q
theorem xK:Br2 K rLeU fLe:=by
  intro Hs H m x v As n y u Bs Qd Qv w rx ry h f
  exact vo (rx.rep w) (ry.rep w) h (fun i j e1 e2 q=>by
    subst e1 e2
    exact f.sh w (.bl _) q) fun i j e1 e2 q=>by
    subst e1 e2
    exact f.sh w (.bl _) q
theorem eq_data {Hs H:Hp} {x y:D} {v u:V} {Qd:Md→D→Prop} {Qv:VK} (w:Wf Hs H) (rx:Rep K H x v) (ry:Rep K H y u) (f:Fin K Hs H Qd Qv) (h:okD 12 x=true∧okD 12 y=true∧Qd .sh (.bl (eqD x y))):rEqD K v u H Qv:=by
  obtain ⟨h1,h2,q⟩:=h
  have l1:=il 12 x h1
  have l2:=il 12 y h2
  exact ⟨x.py,y.py,rx.l2 h1,ry.l2 h2,l1.1,l2.1,by walk_at "l",f.sh w (.bl _) q⟩
theorem ne_data {Hs H:Hp} {x y:D} {v u:V} {Qd:Md→D→Prop} {Qv:VK} (w:Wf Hs H) (rx:Rep K H x v) (ry:Rep K H y u) (f:Fin K Hs H Qd Qv) (h:okD 12 x=true∧okD 12 y=true∧Qd .sh (.bl (!eqD x y))):rNeD K v u H Qv:=by
  obtain ⟨h1,h2,q⟩:=h
  have l1:=il 12 x h1
  have l2:=il 12 y h2
  exact ⟨x.py,y.py,rx.l2 h1,ry.l2 h2,l1.1,l2.1,by walk_at "l",f.sh w (.bl _) q⟩
theorem y_:Br2 K (rEqU K) fEq:=by
  intro Hs H m x v As n y u Bs Qd Qv w rx ry h f
  have r1:=rx.rep w
  have r2:=ry.rep w
  have d:=fun h=>eq_data (Qd:=Qd) (Qv:=Qv) w r1 r2 f h
  cases r1 with
  | int i=>cases r2 with
    | int j=>exact f.sh w (.bl _) h
    | _=>exact d h
  | str i=>cases r2 with
    | str j=>exact f.sh w (.bl _) h
    | _=>exact d h
  | bl i=>cases r2 with
    | bl j=>exact f.sh w (.bl _) h
    | _=>exact d h
  | _=>exact d h
theorem rZ:Br2 K (rNeU K) fNe:=by
  intro Hs H m x v As n y u Bs Qd Qv w rx ry h f
  have r1:=rx.rep w
  have r2:=ry.rep w
  have d:=fun h=>ne_data (Qd:=Qd) (Qv:=Qv) w r1 r2 f h
  cases r1 with
  | int i=>cases r2 with
    | int j=>exact f.sh w (.bl _) h
    | _=>exact d h
  | str i=>cases r2 with
    | str j=>exact f.sh w (.bl _) h
    | _=>exact d h
  | bl i=>cases r2 with
    | bl j=>exact f.sh w (.bl _) h
    | _=>exact d h
  | _=>exact d h
theorem iU {H:Hp} {x:D} {v:V} (r:Rep K H x v) (h:dM x=true):flatV v=true:=by
  cases r <;> first | rfl | (simp [dM] at h)
theorem xx {H:Hp} {x y:D} {v u:V} (r:Rep K H x v) (s:Rep K H y u) (h:dM x=true) (g:dM y=true):eqV v u=eqD x y:=by
  cases r <;> simp [dM] at h <;> cases s <;> simp [dM] at g <;> rfl
theorem yP {H:Hp} {x:D} {v:V} (r:Rep K H x v) (h:dM x=true) {ys:List D} {us:List V} (rs:Reps K H ys us) (g:ys.all dM=true):us.all flatV=true∧inV v us=inD x ys:=by
  induction ys generalizing us with
  | nil=>rw [rs.n0]; exact ⟨rfl,rfl⟩
  | cons y ys ih =>
    obtain ⟨u,us,rfl,s,ss⟩:=rs.c
    simp only [List.all_cons,Bool.and_eq_true] at g
    obtain ⟨e1,e2⟩:=ih ss g.2
    refine ⟨by simp only [List.all_cons,iU s g.1,e1,Bool.and_self],?_⟩
    unfold inV inD at *
    rw [List.any_cons,List.any_cons,e2,xx s r g.1 h]
theorem mJ {κ:Type} [DecidableEq κ] {H:Hp} {k:κ} {kvs:List (κ × D)} {vs:List V} (r:Reps K H (kvs.map (·.2)) vs):(valV ((kvs.map (·.1)).zip vs) k).isSome=(getG kvs k).isSome:=by
  have:=zip_get (k:=k) r
  split at this
  · rename_i e
    obtain ⟨v,e1,_⟩:=this
    rw [e1,e]; rfl
  · rename_i e
    rw [this,e]; rfl
theorem wV {neg:Bool}:Br2 K (rInU K neg) (fIn neg):=by
  intro Hs H m x v As n y u Bs Qd Qv w rx ry h f
  have r1:=rx.rep w
  have r2:=ry.rep w
  cases r2 with
  | str j=>cases r1 with
    | str i=>exact f.sh w (.bl _) h
    | _=>exact h.elim
  | list z s q =>
    obtain ⟨h1,h2,h3⟩:=h
    obtain ⟨e1,e2⟩:=yP r1 h1 q h2
    have h4:=iU r1 h1
    have g:rIn K neg v (.ref _) H Qv:=⟨_,_,rfl,.inl s,h4,e1,by rw [e2]; exact f.sh w (.bl _) h3⟩
    cases r1 <;> exact .inr g
  | tup _ s q =>
    obtain ⟨h1,h2,h3⟩:=h
    obtain ⟨e1,e2⟩:=yP r1 h1 q h2
    have h4:=iU r1 h1
    have g:rIn K neg v (.ref _) H Qv:=⟨_,_,rfl,.inr (.inl (.inl s)),h4,e1,by rw [e2]; exact f.sh w (.bl _) h3⟩
    cases r1 <;> exact .inr g
  | dK kk e q =>
    obtain ⟨k,hk,h3⟩:=h
    have ev:=r1.key hk
    subst ev
    have eg:=mJ (k:=k) q
    cases k <;> exact .inl ⟨_,DGet.k e,by rw [eg]; exact f.sh w (.bl _) h3⟩
  | dT kk e q =>
    cases r1 with
    | tup t1 e1 q1 =>
      obtain ⟨ks,hk,h3⟩:=h
      obtain ⟨b,eb,e2⟩:=Rep.keyT (.tup t1 e1 q1) hk
      cases eb
      have eg:=mJ (k:=ks) q
      exact .inl ⟨_,DGet.t e e2,by rw [eg]; exact f.sh w (.bl _) h3⟩
    | _=>exact h.elim
  | _=>exact h.elim
end
section
variable {X:Cx} {K:PySem.W.Frag} {a b:Expr} {ta tb:WE} {pos:Pos}
theorem A_ (hK:X.K=K:=by rfl):OpR X (binaryOp .Add) (fun x y H Q=>uP K x y H Q∨rCatT K x y H Q):=by subst hK; exact xT.or op_catT
theorem jG (ha:QE X K a ta) (hb:QE X K b tb) (hK:X.K=K:=by rfl):QE X K (.BinOp a .Add b pos) (wOp fAdd ta tb):=q_op (A_ hK) yI ha hb
theorem zc (ha:QE X K a ta) (hb:QE X K b tb):QE X K (.BinOp a .Sub b pos) (wOp fSub ta tb):=q_op xP yD ha hb
theorem jn (ha:QE X K a ta) (hb:QE X K b tb):QE X K (.BinOp a .FloorDiv b pos) (wOp fDiv ta tb):=q_op xf zm ha hb
theorem dq (ha:QE X K a ta) (hb:QE X K b tb):QE X K (.BinOp a .Mod b pos) (wOp fMod ta tb):=q_op xR zp ha hb
theorem yC (ha:QE X K a ta) (hb:QE X K b tb):QE X K (.BinOp a .Pow b pos) (wOp fPow ta tb):=q_op vR yd ha hb
noncomputable def fNeg:W1:=fun _ x Q=>match x with
  | .int i=>Q .sh (.int (-i))
  | _=>False
theorem yX:Br1 K (rU fun i=>.int (-i)) fNeg:=by
  intro Hs H m x v As Qd Qv w rx h f
  have r1:=rx.rep w
  cases r1 with
  | int i=>exact ⟨i,rfl,f.sh w (.int _) h⟩
  | _=>exact h.elim
theorem uI (ha:QE X K a ta):QE X K (.UnaryOp .USub a pos) (wUn fNeg ta):=q_un un_neg yX ha
end
end L2.Q

set_option Elab.async false
set_option linter.all false
set_option maxRecDepth 100000
set_option maxHeartbeats 4000000

namespace L2.Q
open PySem PySem.Spec PyProof.Rows

noncomputable def wNil:WA:=fun _ Q=>Q []
noncomputable def aj (te:WE) (t:WA):WA:=fun ρ Q=>te ρ fun m x=>t ρ fun ps=>Q ((m,x) :: ps)
noncomputable def okSh:Md × D→Bool
  | (.sh,_)=>true
  | (_,d)=>d.flat
noncomputable def okOw:Md × D→Bool
  | (.bo,d)=>d.flat
  | _=>true
noncomputable def okFl:Md × D→Bool
  | (.ow true,_)=>true
  | (_,d)=>d.flat
noncomputable def qb (ps:List (Md × D)):Md:=bif ps.all okSh then .sh else bif ps.all okOw then .ow (ps.all okFl) else .bo
noncomputable def xG (ps:List (Md × D)):Md:=bif ps.all okOw then .ow (ps.all okFl) else .bo
noncomputable def wTup (t:WA):WE:=fun ρ Q=>t ρ fun ps=>ps.length≤sizeLine∧Q (qb ps) (.tup (ps.map (·.2)))
noncomputable def wLst (t:WA):WE:=fun ρ Q=>t ρ fun ps=>ps.length≤sizeLine∧Q (xG ps) (.list (ps.map (·.2)))
section
variable {X:Cx} {K:PySem.W.Frag} {e:Expr} {es:List Expr} {te:WE} {t:WA} {pos:Pos} {Hs H:Hp}
theorem aq:QA X K [] wNil:=PA.imp pa_nil fun σ H Qv hx=>ex4 hx fun Hs ρ tot Q sr h f=>f [] H Hs [] [] (Grow.refl sr.wf) .nil cA.nil h
theorem cA.app {Hs1 Hs2 H1:Hp} {As Bs:List Addr} (f1:cA Hs1 H As) (o:∀ a∈As,H1 a≠none) (f2:cA Hs2 H1 Bs) (s:Same H H1) (k:∀ a,Hs1 a=none→H1 a≠none→Hs2 a=none):cA Hs2 H (As++Bs) :=
  ⟨List.nodup_append.mpr ⟨f1.1,f2.1,fun a ha b hb e=>by subst e; exact o a ha (f2.2 a hb).2⟩,fun a h=>by
    rcases List.mem_append.mp h with h | h
    · exact ⟨k a (f1.2 a h).1 (o a h),(f1.2 a h).2⟩
    · exact ⟨(f2.2 a h).1,s.free (f2.2 a h).2⟩⟩
theorem aa (ha:QE X K e te) (hr:QA X K es t) (hs:starEach (e :: es) X.env=(false,eval e X.env) :: starEach es X.env:=by rfl):QA X K (e :: es) (aj te t):=by
  refine PA.imp (pa_cons ha hr hs) fun σ H Qv hx=>ex4 hx fun Hs ρ tot Q sr h f=>?_
  refine ⟨Hs,ρ,tot,_,sr,h,fun v H1 Hs1 m x As g1 r1 f1 q1=>⟨Hs1,ρ,tot,_,sr.grow g1,q1,fun vs H2 Hs2 ps Bs g2 r2 f2 q2=>?_⟩⟩
  exact f (v :: vs) H2 Hs2 _ _ (g1.trans g2) (.cons (r1.grow g2) r2) (f1.app (fun a h=>(r1.own a h).ne) f2 g1.all fun a h1 h2=>g2.hsn h1 h2) q2
theorem RMs.sh (w:Wf Hs H) {ps:List (Md × D)} {vs:List V} {As:List Addr} (r:RMs K Hs H ps vs As):ps.all okSh=true→Reps K Hs (ps.map (·.2)) vs:=by
  induction r with
  | nil=>exact fun _=>.nil
  | @cons m d v ps vs As Bs r rs ih =>
    intro h
    simp only [List.all_cons,Bool.and_eq_true] at h
    refine .cons ?_ (ih h.2)
    cases m with
    | sh=>exact r.2
    | ow fl=>exact r.flat w h.1
    | bo=>exact r.flat w h.1
theorem RMs.ow {fl:Bool} (w:Wf Hs H) {ps:List (Md × D)} {vs:List V} {As:List Addr} (r:RMs K Hs H ps vs As):ps.all okOw=true→(fl=true→ps.all okFl=true)→∃ Bs,Bs.Sublist As∧(ps.all okSh=false→Bs≠[])∧aF K Hs H fl (ps.map (·.2)) vs Bs:=by
  induction r with
  | nil=>exact fun _ _=>⟨[],List.nil_sublist _,(fun z=>Bool.noConfusion z),.nil⟩
  | @cons m d v ps vs A1 Cs r rs ih =>
    intro h hf
    simp only [List.all_cons,Bool.and_eq_true] at h hf
    obtain ⟨Bs,sb,ne,q⟩:=ih h.2 fun z=>(hf z).2
    have sk:([]++Bs).Sublist (A1++Cs):=by simpa using sb.trans (List.sublist_append_right _ _)
    have flt:d.flat=true→okSh (m,d)=true→∃ Bs,Bs.Sublist (A1++Cs)∧(((m,d) :: ps).all okSh=false→Bs≠[])∧aF K Hs H fl (((m,d) :: ps).map (·.2)) (v :: vs) Bs:=fun hd ho =>
      ⟨[]++Bs,sk,fun z=>ne (by rw [List.all_cons,ho] at z; simpa using z),.cons (.sh (fun _=>hd) (r.flat w hd)) q⟩
    cases m with
    | sh=>exact ⟨[]++Bs,sk,fun z=>ne (by simpa [okSh] using z),.cons (.sh (fun z=>(hf z).1) r.2) q⟩
    | bo=>exact flt h.1 h.1
    | ow b =>
      cases hd:d.flat with
      | true=>exact flt hd hd
      | false =>
        refine ⟨A1++Bs,sb.append_left _,fun _ z=>r.2 (List.append_eq_nil_iff.mp z).1,.cons ?_ q⟩
        cases fl with
        | false=>exact RepO.fls r.1
        | true =>
          have:=(hf rfl).1
          cases b with
          | true=>exact r.1
          | false=>simp [okFl,hd] at this
theorem kJ:∀ {ps:List (Md × D)},flats (ps.map (·.2))=true→ps.all okSh=true
  | [],_=>rfl
  | (m,d) :: ps,h=>by
    simp only [List.map_cons,flats,Bool.and_eq_true] at h
    simp only [List.all_cons,Bool.and_eq_true]
    exact ⟨by cases m <;> simp [okSh,h.1],kJ h.2⟩
theorem cX {x1} (h:QA X K es t):QE X K (.Tuple es x1 pos) (wTup t):=by
  refine PE.imp (pe_tup h) fun σ H Qv hx=>ex4 hx fun Hs ρ tot Q sr h f=>?_
  refine ⟨Hs,ρ,tot,_,sr,h,fun vs H1 Hs1 ps As g1 r1 f1 q1=>?_⟩
  obtain ⟨hz,q⟩:=q1
  have rl:=(r1.reps g1.wf)
  have hl:=rl.length
  rw [List.length_map] at hl
  refine ⟨by walk_at "l",fun p hp=>?_⟩
  have g2:=newT (vs:=vs) g1.wf hp
  have fin:=Fin.after f g1
  unfold qb at q
  cases h1:ps.all okSh with
  | true =>
    rw [h1] at q
    exact fin _ _ _ .sh _ [] g2 ⟨rfl,.tup (by walk_at "l") upd_same ((r1.sh g1.wf h1).same g2.sh)⟩ cA.nil q
  | false =>
    rw [h1] at q
    cases h2:ps.all okOw with
    | false =>
      rw [h2] at q
      exact fin _ _ _ .bo _ [] g2 ⟨rfl,.tup (by walk_at "l") upd_same (rl.same g2.all)⟩ cA.nil q
    | true =>
      rw [h2] at q
      obtain ⟨Bs,sb,nz,ro⟩:=r1.ow (fl:=ps.all okFl) g1.wf h2 fun z=>z
      have hne:flats (ps.map (·.2))=false:=by
        cases hf:flats (ps.map (·.2)) with
        | false=>rfl
        | true=>rw [kJ hf] at h1; cases h1
      have own:=ro.own
      refine f _ _ _ (.ow _) _ Bs (g1.trans g2) ⟨.tup (by walk_at "l") upd_same hne (ro.grow g2.sh g2.all),nz h1⟩ ⟨sb.nodup f1.1,fun a ha=>⟨?_,(f1.2 a (sb.subset ha)).2⟩⟩ q
      exact g2.hsn (f1.2 a (sb.subset ha)).1 (own a ha).ne
theorem d7 (h:QA X K es t):QE X K (.List es pos) (wLst t):=by
  refine PE.imp (pe_lst h) fun σ H Qv hx=>ex4 hx fun Hs ρ tot Q sr h f=>?_
  refine ⟨Hs,ρ,tot,_,sr,h,fun vs H1 Hs1 ps As g1 r1 f1 q1=>?_⟩
  obtain ⟨hz,q⟩:=q1
  have rl:=(r1.reps g1.wf)
  have hl:=rl.length
  rw [List.length_map] at hl
  refine ⟨by walk_at "l",fun p hp=>?_⟩
  have g2:=newL (o:=.lst vs) g1.wf hp fun _ z=>nomatch z
  have fin:=Fin.after f g1
  unfold xG at q
  cases h2:ps.all okOw with
  | false =>
    rw [h2] at q
    exact fin _ _ _ .bo _ [] g2 ⟨rfl,.list (by walk_at "l") (.inl (.inl upd_same)) (rl.same g2.all)⟩ cA.nil q
  | true =>
    rw [h2] at q
    obtain ⟨Bs,sb,nz,ro⟩:=r1.ow (fl:=ps.all okFl) g1.wf h2 fun z=>z
    have own:=ro.own
    refine f _ _ _ (.ow _) _ (p :: Bs) (g1.trans g2) ⟨.list (by walk_at "l") upd_same (ro.grow g2.sh g2.all),by simp⟩ ⟨List.nodup_cons.mpr ⟨fun m=>(own p m).ne hp,sb.nodup f1.1⟩,fun a ha=>?_⟩ q
    rcases List.mem_cons.mp ha with rfl | ha
    · exact ⟨g1.wf.sub.free hp,g1.all.free hp⟩
    · exact ⟨g2.hsn (f1.2 a (sb.subset ha)).1 (own a ha).ne,(f1.2 a (sb.subset ha)).2⟩
end

theorem Reps.atI {K:PySem.W.Frag} {H:Hp} {ds:List D} {vs:List V} {i:Int} {d:D} (r:Reps K H ds vs) (h:atI ds i=some d):∃ v,L2.atI vs i=some v∧Rep K H d v:=by
  unfold L2.atI at *
  rw [← r.length]
  cases e:ixN ds.length i with
  | none=>rw [e] at h; cases h
  | some j =>
    rw [e] at h
    exact r.get h
noncomputable def fIx:W2:=fun m x _ y Q=>match x with
  | .list xs=>match y with
    | .int i=>∃ d,atI xs i=some d∧onK d (f:=fun d=>Q (itm m d) d) ⟨⟩
    | _=>False
  | .tup xs=>match y with
    | .int i=>∃ d,atI xs i=some d∧onK d (f:=fun d=>Q (itm m d) d) ⟨⟩
    | _=>False
  | .str z=>match y with
    | .int i=>∃ c,atI z.cps.toList i=some c∧Q .sh (.str ⟨#[c]⟩)
    | _=>False
  | .dK kvs=>∃ k d,y.key1=some k∧getG kvs k=some d∧onK d (f:=fun d=>Q (itm m d) d) ⟨⟩
  | .dT kvs=>match y with
    | .tup ys=>∃ ks d,jD ys=some ks∧getG kvs ks=some d∧onK d (f:=fun d=>Q (itm m d) d) ⟨⟩
    | _=>False
  | _=>False
noncomputable def rIxD (K:PySem.W.Frag):R2:=fun x y H Q=>rIxU K x y H Q∨∃ a v,x=.ref a∧DGet H a y (some v)∧Q v H
theorem t8 (c:Nat):(⟨#[c]⟩:Str).length≤sizeLine:=by show 1≤sizeLine; decide
theorem RM.here {K:PySem.W.Frag} {Hs H:Hp} {m:Md} {d:D} {v:V} {As:List Addr} (w:Wf Hs H) (r:RM K Hs H m d v As):(m=.sh∧Rep K Hs d v)∨(m≠.sh∧Rep K H d v):=by
  cases m with
  | sh=>exact .inl ⟨rfl,r.2⟩
  | ow fl=>exact .inr ⟨(fun z=>nomatch z),r.rep w⟩
  | bo=>exact .inr ⟨(fun z=>nomatch z),r.2⟩
section
variable {X:Cx} {K:PySem.W.Frag}
theorem Al:Br2 K (rIxD K) fIx:=by
  intro Hs H m x v As n y u Bs Qd Qv w rx ry h f
  have r2:=ry.rep w
  have core:∀ G:Hp,Same G H→(∀ d v,Rep K G d v→Rep K H d v∧(m=.sh→Rep K Hs d v))→Rep K G x v→rIxD K v u H Qv:=by
    intro G sg up r1
    cases r1 with
    | list z s q =>
      cases r2 with
      | int i =>
        obtain ⟨d,e,h⟩:=h
        obtain ⟨v',e',r'⟩:=q.atI e
        obtain ⟨u1,u2⟩:=up _ _ r'
        exact .inl (.inl ⟨_,v',Same.seq sg s,e',f.itm w u1 u2 h⟩)
      | _=>exact h.elim
    | tup _ s q =>
      cases r2 with
      | int i =>
        obtain ⟨d,e,h⟩:=h
        obtain ⟨v',e',r'⟩:=q.atI e
        obtain ⟨u1,u2⟩:=up _ _ r'
        exact .inl (.inr ⟨_,v',.inl (.inl (sg _ _ s)),e',f.itm w u1 u2 h⟩)
      | _=>exact h.elim
    | str hz =>
      cases r2 with
      | int i =>
        obtain ⟨c,e,h⟩:=h
        exact .inl ⟨hz,c,e,f.sh w (.str (t8 c)) h⟩
      | _=>exact h.elim
    | dK kk s q =>
      obtain ⟨k,d,hk,hg,h⟩:=h
      have ev:=r2.key hk
      subst ev
      have z:=zip_get (k:=k) q
      rw [hg] at z
      obtain ⟨v',e',r'⟩:=z
      obtain ⟨u1,u2⟩:=up _ _ r'
      exact .inr ⟨_,v',rfl,by rw [← e']; exact DGet.k (sg _ _ s),f.itm w u1 u2 h⟩
    | dT kk s q =>
      cases r2 with
      | tup t2 e2 q2 =>
        obtain ⟨ks,d,hk,hg,h⟩:=h
        obtain ⟨b,eb,e3⟩:=Rep.keyT (.tup t2 e2 q2) hk
        cases eb
        have z:=zip_get (k:=ks) q
        rw [hg] at z
        obtain ⟨v',e',r'⟩:=z
        obtain ⟨u1,u2⟩:=up _ _ r'
        exact .inr ⟨_,v',rfl,by rw [← e']; exact DGet.t (sg _ _ s) e3,f.itm w u1 u2 h⟩
      | _=>exact h.elim
    | _=>exact h.elim
  rcases rx.here w with ⟨hm,r⟩ | ⟨hm,r⟩
  · exact core Hs w.sub (fun d v q=>And.intro (q.same w.sub) fun _=>q) r
  · exact core H (Same.refl H) (fun d v q=>And.intro q fun z=>absurd z hm) r
theorem kIxD (hu:X.A.units+64<cLine) (hK:X.K=K:=by rfl):IxR X (rIxD K):=by
  subst hK
  refine IxR.or vD ?_
  intro value slice pins s σ H x y v u Q I rx ry h hs
  obtain ⟨a,w,rfl,g,q⟩:=h
  cases rx
  exact tail_any (dict_typeIs I g) F.slot_dict_getitem.lookup (d_getItem (by walk_at "l") I g ry fun w' s3 I3 rw'=>⟨w,H,I3,rw',q⟩) hs
variable {a b:Expr} {ta tb:WE} {pos:Pos}
theorem q_ix (hu:X.A.units+64<cLine) (ha:QE X K a ta) (hb:QE X K b tb) (hs:PlainIx b:=by exact fun _ _=>rfl) (hK:X.K=K:=by rfl):QE X K (.Subscript a b pos) (wOp fIx ta tb):=PE.imp (pe_ix (kIxD hu hK) ha hb hs) (lB Al)
end

noncomputable def cutG {α:Type} (xs:List α) (lo hi:Option Int):List α:=(xs.drop (HT.sIx xs.length 0 lo)).take (HT.sIx xs.length xs.length hi - HT.sIx xs.length 0 lo)
noncomputable abbrev WO:=Env→(Option Int→Prop)→Prop
noncomputable def dY:WO:=fun _ Q=>Q none
noncomputable def jt (t:WE):WO:=fun ρ Q=>t ρ fun _ x=>match x with
  | .int i=>Q (some i)
  | _=>False
noncomputable def fSl (m:Md) (x:D) (lo hi:Option Int) (Q:Md→D→Prop):Prop:=match x with
  | .str z=>Q .sh (.str (cutS z lo hi))
  | .list xs=>(flats xs=true∧Q (.ow true) (.list (cutG xs lo hi)))∨(m=.sh∧Q (.ow false) (.list (cutG xs lo hi)))
  | .tup xs=>flats xs=true∧¬ (HT.sIx xs.length 0 lo=0∧HT.sIx xs.length xs.length hi=xs.length)∧Q .sh (.tup (cutG xs lo hi))
  | _=>False
noncomputable def wSl (te:WE) (tl th:WO):WE:=fun ρ Q=>te ρ fun m x=>tl ρ fun lo=>th ρ fun hi=>fSl m x lo hi Q
noncomputable def tpO (K:PySem.W.Frag) (t:WO):TO:=fun σ H Qv=>∃ Hs ρ tot Q,SRel K Hs ρ σ H tot∧t ρ Q∧∀ o H' Hs',Grow Hs H Hs' H'→Q o→Qv o H'
noncomputable abbrev QO (X:Cx) (K:PySem.W.Frag) (e:Option Expr) (t:WO):Prop:=PO X e (tpO K t)
theorem uR (z:Str) (lo hi:Option Int):(cutS z lo hi).length≤z.length:=by
  unfold cutS Str.length
  simp only [List.size_toArray,List.length_take,List.length_drop,Array.length_toList]
  walk_at "l"
theorem cV {α:Type} (xs:List α) (lo hi:Option Int):(cutG xs lo hi).length≤xs.length:=by
  unfold cutG
  rw [List.length_take,List.length_drop]
  walk_at "l"
theorem mO {xs:List D} {lo hi:Option Int} (h:flats xs=true):flats (cutG xs lo hi)=true:=by
  rw [lR] at *
  intro x hx
  exact h x (List.mem_of_mem_drop (List.mem_of_mem_take hx))
section
variable {X:Cx} {K:PySem.W.Frag} {e:Expr} {lo hi:Option Expr} {te:WE} {tl th:WO} {pos p2:Pos}
theorem h_:QO X K none dY:=fun pins s σ H Q I h=>po_none pins s σ H Q I (by
  obtain ⟨Hs,ρ,tot,Qd,sr,h,f⟩:=h
  exact f none H Hs (Grow.refl sr.wf) h)
theorem dW (h:QE X K e te):QO X K (some e) (jt te):=fun pins s σ H Q I hh=>po_some h pins s σ H Q I (by
  obtain ⟨Hs,ρ,tot,Qd,sr,h,f⟩:=hh
  refine ⟨Hs,ρ,tot,_,sr,h,fun v H1 Hs1 m x As g1 r1 f1 q1=>?_⟩
  have r:=r1.rep g1.wf
  cases r with
  | int i=>exact ⟨i,rfl,f _ H1 Hs1 g1 q1⟩
  | _=>exact q1.elim)
theorem gW {H:Hp} {ds:List D} {vs:List V} {lo hi:Option Int} (r:Reps K H ds vs):Reps K H (cutG ds lo hi) (cutV vs lo hi):=by
  unfold cutG cutV
  rw [r.length]
  exact (r.drop _).take _
theorem kSl2 (hK:X.K=K:=by rfl):SlR X (fun x lo hi H Q=>rSlS K x lo hi H Q∨rSlT K x lo hi H Q):=by
  subst hK
  intro pins s σ H x v vl vu lo hi sl Q I rx hs pl pu h
  rcases h with h | h
  · exact yx pins s σ H x v vl vu lo hi sl Q I rx hs pl pu h
  · exact sl_tup pins s σ H x v vl vu lo hi sl Q I rx hs pl pu h
theorem fU (he:QE X K e te) (hl:QO X K lo tl) (hh:QO X K hi th) (hK:X.K=K:=by rfl):QE X K (.Subscript e (.Slice lo hi none p2) pos) (wSl te tl th):=by
  refine PE.imp (pe_slice (kSl2 hK) he hl hh) fun σ H Qv hx=>ex4 hx fun Hs ρ tot Q sr h f=>?_
  refine ⟨Hs,ρ,tot,_,sr,h,fun v H1 Hs1 m x As g1 r1 f1 q1=>⟨Hs1,ρ,tot,_,sr.grow g1,q1,fun l H2 Hs2 g2 q2=>⟨Hs2,ρ,tot,_,(sr.grow g1).grow g2,q2,fun u H3 Hs3 g3 q3=>?_⟩⟩⟩
  have r3:=(r1.grow g2).grow g3
  have fin:Fin K Hs3 H3 Q Qv:=Fin.after f ((g1.trans g2).trans g3)
  have rr:=r3.rep g3.wf
  cases rr with
  | str hz=>exact .inl ⟨hz,fin.sh g3.wf (.str (Nat.le_trans (uR _ _ _) hz)) q3⟩
  | list z s q =>
    have hz:=q.length
    rcases q3 with ⟨hf,q3⟩ | ⟨rfl,q3⟩
    · exact .inl ⟨_,s,fin.lst g3.wf (Nat.le_trans (cV _ _ _) (by walk_at "l")) (gW q) (mO hf) q3⟩
    · obtain ⟨_,r3⟩:=r3
      cases r3 with
      | list z' s' q' =>
        have hz:=q'.length
        exact .inl ⟨_,Same.seq g3.wf.sub s',fin.lstS g3.wf (Nat.le_trans (cV _ _ _) (by walk_at "l")) (gW q') q3⟩
  | tup z s q =>
    have hz:=q.length
    obtain ⟨hf,hn,q3⟩:=q3
    exact .inr ⟨_,_,rfl,.inl (.inl s),by rw [← hz]; exact hn,fin.tup g3.wf (Nat.le_trans (cV _ _ _) (by walk_at "l")) (gW q) (mO hf) q3⟩
  | _=>exact q3.elim
end

noncomputable def fLen:W1:=fun _ x Q=>match x with
  | .str z=>Q .sh (.int z.length)
  | .list xs=>Q .sh (.int xs.length)
  | .tup xs=>Q .sh (.int xs.length)
  | .dK kvs=>Q .sh (.int kvs.length)
  | .dT kvs=>Q .sh (.int kvs.length)
  | _=>False
noncomputable def fIsi (T:String):W1:=fun _ x Q=>Q .sh (.bl (isiT x.ty T))
noncomputable def BrC (K:PySem.W.Frag) (r:List V→Hp→VK→Prop) (f:W1):Prop:=∀ Hs H m x v As Qd Qv,Wf Hs H→RM K Hs H m x v As→f m x Qd→Fin K Hs H Qd Qv→r [v] H Qv
section
variable {X:Cx} {K:PySem.W.Frag} {e e2:Expr} {te:WE} {pos p:Pos} {x:Str} {id T:String}
theorem jW {r:List V→Hp→VK→Prop} {f:W1} (br:BrC K r f) (σ:St) (H:Hp) (Qv:VK) (h:tpE K (wUn f te) σ H Qv):tCB r (tCons (tpE K te) tNil) σ H Qv:=by
  obtain ⟨Hs,ρ,tot,Q,sr,h,fin⟩:=h
  exact ⟨Hs,ρ,tot,_,sr,h,fun v H1 Hs1 m x As g1 r1 f1 q1=>br Hs1 H1 m x v As Q Qv g1.wf r1 q1 (Fin.after fin g1)⟩
theorem cQ {r:List V→Hp→VK→Prop} {f:W1} (hc:CallR X (.builtin id) r) (br:BrC K r f) (hg:Gl X x) (hm:X.mg x=none) (hv:bootBuiltins x=some (.builtin id)) (he:QE X K e te)
    (hs:starEach [e] X.env=(false,eval e X.env) :: starEach [] X.env:=by rfl) (hn:x ≠ "__name__" := by decide) (hdb:(x == ("__debug__" : Str))=false:=by decide):QE X K (.Call (.Name x p) [e] [] pos) (wUn f te) :=
  PE.imp (pe_callB hc hg hm hv (pa_cons he pa_nil hs) hn hdb hs) (jW br)
theorem gH {r:List V→Hp→VK→Prop} {f:W1} (hc:CallR X (.type T) r) (br:BrC K r f) (hg:Gl X x) (hm:X.mg x=none) (hv:bootBuiltins x=some (.type T)) (he:QE X K e te)
    (hs:starEach [e] X.env=(false,eval e X.env) :: starEach [] X.env:=by rfl) (hn:x ≠ "__name__" := by decide) (hdb:(x == ("__debug__" : Str))=false:=by decide):QE X K (.Call (.Name x p) [e] [] pos) (wUn f te) :=
  PE.imp (pe_callTy hc hg hm hv (pa_cons he pa_nil hs) hn hdb hs) (jW br)
theorem xU {prog:Program} {w:World} {A:Around} {E:Value→Shared→Prop} {s:Shared} {d:Addr} {es:Ents} {ep:Nat} {Q:Value→Shared→Prop} (hd:(d == sysModules)=false) (x:RawD s.heap d es ep) (hfit:(es.size:Int)<2 ^ 63)
    (h:∀ t t',Q (.int es.size t) { s with toks:=t' }):wpAny (model prog w) A (call (.builtin "len") [.ref d]) Q E s:=by
  refine Calls.call_function_entry kind_len plain_len entry_len (args_len1 _) ?_
  have mt:MeetsIn prog w (Builtin.«dict.__len__» ⟨[.ref d],[]⟩) (fun _ R s=>RawD s.heap d es ep∧R (.ok (.ret (.int es.size s.toks))) { s with toks:=s.toks+1 }):=.of_wp fun A R s hx9=>by
    obtain ⟨hm,h⟩:=hx9
    obtain ⟨o,ho,hc,hdat⟩:=hm
    show wpAny _ _ (dictSize d >>= _) _ _ s
    unfold dictSize
    refine wpAny_bind (wpAny_bind (wpAny_dictEntries ho hdat (wpAny_pure ?_)))
    show wpAny _ _ (Builtin.Dict.pendingCount d >>= _) _ _ s
    refine wpAny_bind (wpAny_pendingCount_other hd ?_)
    refine wpAny_ret_mkInt ?_
    rw [Nat.add_zero]; exact h
  unfold Builtin.«len»
  refine wpAny_bind (m:=oneArg "len" _) (wpAny_pure ?_)
  refine wpAny_bind (m:=callSpecial? (.ref d) (Str.ofString "__len__")) (wpAny_callSpecial?_slot (name:=Str.ofString "__len__") x.typ F.slot_dict_len
    (call_meetsIn F.slot_dict_len x.typ F.entry_dict_len (F.args_dict_len_1 _) mt ⟨x,?_⟩))
  show wpAny _ _ _ _ _ { s with toks:=s.toks+1 }
  refine wpAny_bind (wpAny_holding (wpAny_pure ?_))
  refine wpAny_bind (wpAny_letGo ?_)
  show wpAny _ _ (if ((es.size:Nat):Int)<0 then _ else _) _ _ _
  rw [if_neg (by walk_at "l")]
  show wpAny _ _ (if ((es.size:Nat):Int) ≥ 2 ^ 63 then _ else _) _ _ _
  rw [if_neg (by walk_at "l")]
  exact wpAny_bind (wpAny_mkInt (wpAny_pure ⟨_,rfl,h _ _⟩))
theorem b_ (hK:X.K=K:=by rfl):CallR X (.builtin "len") (fun xs H Q=>rLen K xs H Q∨∃ a kvs,xs=[.ref a]∧H a=some (.dT kvs)∧Q (.int kvs.length) H):=by
  subst hK
  intro pins s σ H xs us Q I r h
  rcases h with h | ⟨a,kvs,rfl,ha,q⟩
  · exact sG pins s σ H xs us Q I r h
  · obtain ⟨u,rfl,ru⟩:=Vals.one r
    cases ru
    obtain ⟨z,hd,ys,rel,o,es,ep,h1,h2,h3,h4,h5⟩:=(show ObjOk X.prog X.w H s.heap a (.dT kvs) from I.hok a _ ha)
    have hl:es.size=kvs.length:=by
      have:=congrArg List.length h4
      rw [Array.length_toList,List.length_map] at this
      rw [this]; exact rel.length.symm
    exact xU hd ⟨o,h1,h2,h3⟩ (by rw [sizeLine_eq] at z; walk_at "l") fun t t'=>⟨.int kvs.length,H,I.tok _,⟨t,by rw [hl]⟩,q⟩
theorem iD:BrC K (fun xs H Q=>rLen K xs H Q∨∃ a kvs,xs=[.ref a]∧H a=some (.dT kvs)∧Q (.int kvs.length) H) fLen:=by
  intro Hs H m x v As Qd Qv w rx h f
  have r1:=rx.rep w
  cases r1 with
  | str hz=>exact .inl ⟨hz,f.sh w (.int _) h⟩
  | list z s q=>exact .inl (.inl ⟨_,s,by rw [← q.length]; exact f.sh w (.int _) h⟩)
  | tup _ s q=>exact .inl (.inr (.inl ⟨_,.inl (.inl s),by rw [← q.length]; exact f.sh w (.int _) h⟩))
  | dK kk s q=>exact .inl (.inr (.inr ⟨_,s,by
      have:=q.length
      rw [List.length_map] at this
      rw [List.length_zip,List.length_map,← this,Nat.min_self]
      exact f.sh w (.int _) h⟩))
  | dT kk s q=>exact .inr ⟨_,_,rfl,s,by
      have:=q.length
      rw [List.length_map] at this
      rw [List.length_zip,List.length_map,← this,Nat.min_self]
      exact f.sh w (.int _) h⟩
  | _=>exact h.elim
end
end L2.Q

set_option Elab.async false
set_option linter.all false
set_option maxRecDepth 100000
set_option maxHeartbeats 4000000

namespace L2.Q
open PySem PySem.Spec PyProof.Rows

section
variable {X:Cx} {K:PySem.W.Frag} {e e2:Expr} {te:WE} {pos p:Pos} {T:String}
theorem sY (hK:X.K=K:=by rfl):CallR X (.builtin "isinstance") (fun xs H Q=>∃ x d T,xs=[x,.ty T]∧Rep K H d x∧okTy T=true∧Q (.bl (isiT d.ty T)) H):=by
  subst hK
  intro pins s σ H xs us Q I r h
  obtain ⟨x,d,T,rfl,rd,hT,q⟩:=h
  obtain ⟨u,v,rfl,ru,rv⟩:=Vals.two r
  obtain rfl:v=Value.type T:=rv
  have hb:T∈["str", "int", "bool", "list", "tuple", "dict"]:=by simpa [okTy] using hT
  have fin:∀ tk,EP X pins σ Q (.bool (isiT d.ty T)) { s with toks:=tk }:=fun tk=>⟨.bl (isiT d.ty T),H,I.tok tk,rfl,q⟩
  cases rd with
  | non=>exact isinst_ok I ru .non (gf X.K _ T (by simp) hb) fin
  | bl b=>exact isinst_ok I ru (.bl b) (gf X.K _ T (by simp) hb) fin
  | int i=>exact isinst_ok I ru (.int i) (gf X.K _ T (by simp) hb) fin
  | str y=>exact isinst_ok I ru (.str _) (gf X.K _ T (by simp) hb) fin
  | list z s' q' =>
    cases ru
    obtain ⟨its,_,pl,_⟩:=I.list s'
    obtain ⟨o,h1,h2,_⟩:=pl.isList
    exact PySem.W.kia_one PySem.W.kitx_list I.kIn ⟨o,h1,h2⟩ (gf X.K "list" T (by simp) hb) (fun z=>nomatch z) fin
  | tup _ s' q'=>exact isinst_ok I ru (.tup s') (gf X.K _ T (by simp) hb) fin
  | dK _ s' q'=>exact isinst_ok I ru (.dK s') (gf X.K _ T (by simp) hb) fin
  | dT _ s' q'=>exact isinst_ok I ru (.dT s') (gf X.K _ T (by simp) hb) fin
theorem qD (hm:X.mg "isinstance" = none) (he:QE X K e te) (ht:PE X e2 (tC (.ty T))) (hT:okTy T=true:=by rfl) (hg:Gl X "isinstance" := by rfl) (hK:X.K=K:=by rfl)
    (hs:starEach (e :: [e2]) X.env=(false,eval e X.env) :: starEach [e2] X.env:=by rfl) (hs2:starEach (e2 :: []) X.env=(false,eval e2 X.env) :: starEach [] X.env:=by rfl) (hpl:(backTo pos (starEach [e2] X.env)).any (·.1)=false:=by rfl) :
    QE X K (.Call (.Name "isinstance" p) [e,e2] [] pos) (wUn (fIsi T) te):=by
  refine PE.imp (pe_callB (sY hK) hg hm e_ (pa_cons he (pa_cons ht pa_nil hs2) hs) (by decide) (by decide) hs hpl) fun σ H Qv hx=>ex4 hx fun Hs ρ tot Q sr h f=>?_
  refine ⟨Hs,ρ,tot,_,sr,h,fun v H1 Hs1 m x As g1 r1 f1 q1=>⟨v,x,T,rfl,r1.rep g1.wf,hT,Fin.sh (Fin.after f g1) g1.wf (.bl _) q1⟩⟩
end
noncomputable def keyD:Key→D
  | .inl i=>.int i
  | .inr x=>.str x
noncomputable def oH:W1:=fun m x Q=>match x with
  | .list xs=>(flats xs=true∧Q (.ow true) (.list xs))∨(m=.sh∧Q (.ow false) (.list xs))
  | .tup xs=>(flats xs=true∧Q (.ow true) (.list xs))∨(m=.sh∧Q (.ow false) (.list xs))
  | .dT kvs=>Q (.ow true) (.list (kvs.map fun kv=>.tup (kv.1.map keyD)))
  | _=>False

section
variable {X:Cx} {K:PySem.W.Frag}
theorem kj {H:Hp}:∀ {ks:List Key},(∀ k∈ks,kOk k=true)→Reps K H (ks.map keyD) (ks.map kV)
  | [],_=>.nil
  | k :: ks,h=>by
    refine .cons ?_ (kj fun j m=>h j (List.mem_cons_of_mem _ m))
    have:=h k List.mem_cons_self
    cases k with
    | inl i=>exact .int i
    | inr x=>exact .str (by simpa [kOk] using this)
theorem iC:∀ (ks:List Key),flats (ks.map keyD)=true
  | []=>rfl
  | k :: ks=>by simp only [List.map_cons,flats,iC ks,Bool.and_true]; cases k <;> rfl
theorem lg {H:Hp} {ks:List (List Key)} {ys:List V} (t:b8 H ys ks) (h:∀ l∈ks,l.length≤sizeLine∧∀ k∈l,kOk k=true):Reps K H (ks.map fun l=>.tup (l.map keyD)) ys:=by
  induction ys generalizing ks with
  | nil=>rw [show ks=[] from Paired.n0 t]; exact .nil
  | cons y ys ih =>
    obtain ⟨k,ks,rfl,⟨b,rfl,e⟩,t2⟩:=Paired.c t
    exact .cons (.tup (by rw [List.length_map]; exact (h _ List.mem_cons_self).1) e (kj (h _ List.mem_cons_self).2)) (ih t2 fun l m=>h l (List.mem_cons_of_mem _ m))
theorem eX:∀ (ks:List (List Key)),flats (ks.map fun l=>.tup (l.map keyD))=true
  | []=>rfl
  | l :: ks=>by simp only [List.map_cons,flats,eX ks,Bool.and_true,D.flat,iC]
theorem fC (hc:X.calm=true:=by rfl) (hK:X.K=K:=by rfl):CallR X (.type "list") (fun xs H Q=>(∃ p ys,xs=[.ref p]∧(SqL K H p ys∨SqT K H p ys)∧∀ l,H l=none→Q (.ref l) (upd H l (.lst ys)))∨pH xs H Q):=by
  subst hK; exact call_list_of.or (qx hc)
theorem nu:BrC K (fun xs H Q=>(∃ p ys,xs=[.ref p]∧(SqL K H p ys∨SqT K H p ys)∧∀ l,H l=none→Q (.ref l) (upd H l (.lst ys)))∨pH xs H Q) oH:=by
  intro Hs H m x v As Qd Qv w rx h f
  have r1:=rx.rep w
  cases r1 with
  | list z s q =>
    have hl:=q.length
    rcases h with ⟨hf,h⟩ | ⟨rfl,h⟩
    · exact .inl ⟨_,_,rfl,.inl s,f.lst w (by walk_at "l") q hf h⟩
    · obtain ⟨_,rx⟩:=rx
      cases rx with
      | list z' s' q' =>
        have hl:=q'.length
        exact .inl ⟨_,_,rfl,.inl (Same.seq w.sub s'),f.lstS w (by walk_at "l") q' h⟩
  | tup z s q =>
    have hl:=q.length
    rcases h with ⟨hf,h⟩ | ⟨rfl,h⟩
    · exact .inl ⟨_,_,rfl,.inr (.inl (.inl s)),f.lst w (by walk_at "l") q hf h⟩
    · obtain ⟨_,rx⟩:=rx
      cases rx with
      | tup z' s' q' =>
        have hl:=q'.length
        exact .inl ⟨_,_,rfl,.inr (.inl (.inl (w.sub _ _ s'))),f.lstS w (by walk_at "l") q' h⟩
  | @dT _ vs kvs kk s q =>
    refine .inr ⟨_,s,fun ys l ht hl=>?_⟩
    have hlen:=q.length
    rw [List.length_map] at hlen
    have e:((kvs.map (·.1)).zip vs).map (·.1)=kvs.map (·.1):=List.map_fst_zip (by rw [List.length_map]; exact Nat.le_of_eq hlen)
    rw [e] at ht
    have rr:=lg (K:=K) ht (fun l m=>by
      obtain ⟨p,hp,rfl⟩:=List.mem_map.mp m
      exact kk.2 p hp)
    have ff:=eX (kvs.map (·.1))
    rw [List.map_map] at rr ff
    exact f.lst w (by rw [List.length_map]; exact kk.1) rr ff h l hl
  | _=>exact h.elim
end
end L2.Q

set_option Elab.async false
set_option linter.all false
set_option maxRecDepth 100000
set_option maxHeartbeats 4000000

namespace L2.Q
open PySem PySem.Spec PyProof.Rows

section
variable {K:PySem.W.Frag} {Hs H:Hp}
theorem SR.vm {d:D} {v:V} (r:Rep K Hs d v) {ρ:Env} {σ:St} {tot:List Addr} (i:Nat) (s:SR K Hs H ρ σ tot):∃ tot',tot'.Sublist tot∧SR K Hs H (ρ.set i (some (.sh d))) (σ.set i (some v)) tot':=by
  induction s generalizing i with
  | nil=>exact ⟨[],List.nil_sublist _,.nil⟩
  | non s ih =>
    cases i with
    | zero=>exact ⟨_,List.Sublist.refl _,.sh r s⟩
    | succ i=>obtain ⟨t,a,b⟩:=ih i; exact ⟨t,a,.non b⟩
  | sh q s ih =>
    cases i with
    | zero=>exact ⟨_,List.Sublist.refl _,.sh r s⟩
    | succ i=>obtain ⟨t,a,b⟩:=ih i; exact ⟨t,a,.sh q b⟩
  | xc s ih =>
    cases i with
    | zero=>exact ⟨_,List.Sublist.refl _,.sh r s⟩
    | succ i=>obtain ⟨t,a,b⟩:=ih i; exact ⟨t,a,.xc b⟩
  | ow ne q s ih =>
    cases i with
    | zero=>exact ⟨_,List.sublist_append_right _ _,.sh r s⟩
    | succ i=>obtain ⟨t,a,b⟩:=ih i; exact ⟨_,a.append_left _,.ow ne q b⟩
  | lk ne q s ih =>
    cases i with
    | zero=>exact ⟨_,List.sublist_append_right _ _,.sh r s⟩
    | succ i=>obtain ⟨t,a,b⟩:=ih i; exact ⟨_,a.append_left _,.lk ne q b⟩
theorem mj {As tot:List Addr} (nd:As.Nodup) (n:tot.Nodup) (dj:∀ a∈As,a∉tot):(As++tot).Nodup:=List.nodup_append.mpr ⟨nd,n,fun a ha b hb e=>dj a ha (e ▸ hb)⟩
theorem dH {As tot B t:List Addr} (n:(B++tot).Nodup) (dj:∀ a∈As,a∉B++tot) (a:t.Nodup) (b:∀ x∈t,x∈tot∨x∈As):(B++t).Nodup∧∀ x∈B++t,x∈B++tot∨x∈As:=by
  obtain ⟨n1,n2,n3⟩:=List.nodup_append.mp n
  refine ⟨List.nodup_append.mpr ⟨n1,a,fun x hx y hy e=>?_⟩,fun x hx=>?_⟩
  · subst e
    rcases b x hy with z | z
    · exact n3 x hx x z rfl
    · exact dj x z (List.mem_append_left _ hx)
  · rcases List.mem_append.mp hx with z | z
    · exact .inl (List.mem_append_left _ z)
    · exact (b x z).imp (fun z=>List.mem_append_right _ z) fun z=>z
theorem SR.zj {d:D} {v:V} {fl:Bool} {As:List Addr} (ne:As≠[]) (r:RepO K Hs H fl d v As) (nd:As.Nodup) {ρ:Env} {σ:St} {tot:List Addr} (i:Nat) (s:SR K Hs H ρ σ tot):tot.Nodup→(∀ a∈As,a∉tot) →
    ∃ tot',tot'.Nodup∧(∀ a∈tot',a∈tot∨a∈As)∧SR K Hs H (ρ.set i (some (.ow fl d))) (σ.set i (some v)) tot':=by
  induction s generalizing i with
  | nil=>exact fun n _=>⟨[],List.nodup_nil,(fun a h=>mem0 h),.nil⟩
  | non s ih =>
    intro n dj
    cases i with
    | zero=>exact ⟨_,mj nd n dj,fun a h=>(List.mem_append.mp h).symm,.ow ne r s⟩
    | succ i=>obtain ⟨t,a,b,c⟩:=ih i n dj; exact ⟨t,a,b,.non c⟩
  | sh q s ih =>
    intro n dj
    cases i with
    | zero=>exact ⟨_,mj nd n dj,fun a h=>(List.mem_append.mp h).symm,.ow ne r s⟩
    | succ i=>obtain ⟨t,a,b,c⟩:=ih i n dj; exact ⟨t,a,b,.sh q c⟩
  | xc s ih =>
    intro n dj
    cases i with
    | zero=>exact ⟨_,mj nd n dj,fun a h=>(List.mem_append.mp h).symm,.ow ne r s⟩
    | succ i=>obtain ⟨t,a,b,c⟩:=ih i n dj; exact ⟨t,a,b,.xc c⟩
  | ow ne' q s ih =>
    intro n dj
    obtain ⟨n1,n2,n3⟩:=List.nodup_append.mp n
    have dj':=fun a ha m=>dj a ha (List.mem_append_right _ m)
    cases i with
    | zero=>exact ⟨_,mj nd n2 dj',fun a h=>(List.mem_append.mp h).symm.imp (fun z=>List.mem_append_right _ z) fun z=>z,.ow ne r s⟩
    | succ i=>obtain ⟨t,a,b,c⟩:=ih i n2 dj'; exact ⟨_,(dH n dj a b).1,(dH n dj a b).2,.ow ne' q c⟩
  | lk ne' q s ih =>
    intro n dj
    obtain ⟨n1,n2,n3⟩:=List.nodup_append.mp n
    have dj':=fun a ha m=>dj a ha (List.mem_append_right _ m)
    cases i with
    | zero=>exact ⟨_,mj nd n2 dj',fun a h=>(List.mem_append.mp h).symm.imp (fun z=>List.mem_append_right _ z) fun z=>z,.ow ne r s⟩
    | succ i=>obtain ⟨t,a,b,c⟩:=ih i n2 dj'; exact ⟨_,(dH n dj a b).1,(dH n dj a b).2,.lk ne' q c⟩
noncomputable def asg:Md→D→Option Sl
  | .sh,d=>some (.sh d)
  | .ow fl,d=>some (.ow fl d)
  | .bo,d=>bif d.flat then some (.sh d) else none
theorem SRel.set {ρ:Env} {σ:St} {tot As:List Addr} {m:Md} {d:D} {v:V} {sl:Sl} (i:Nat) (s:SRel K Hs ρ σ H tot) (r:RM K Hs H m d v As) (nd:As.Nodup) (dj:∀ a∈As,Hs a=none∧a∉tot) (e:asg m d=some sl) :
    ∃ tot',SRel K Hs (ρ.set i (some sl)) (σ.set i (some v)) H tot':=by
  have shc:Rep K Hs d v→∃ tot',SRel K Hs (ρ.set i (some (.sh d))) (σ.set i (some v)) H tot':=fun r=>by
    obtain ⟨t,a,b⟩:=s.sr.vm r i
    exact ⟨t,b,s.wf,a.nodup s.nod,fun x hx=>s.own x (a.subset hx)⟩
  cases m with
  | sh=>cases e; exact shc r.2
  | ow fl =>
    cases e
    obtain ⟨t,a,b,c⟩:=SR.zj r.2 r.1 nd i s.sr s.nod fun a ha=>(dj a ha).2
    exact ⟨t,c,s.wf,a,fun x hx=>(b x hx).elim (s.own x) fun z=>(dj x z).1⟩
  | bo =>
    cases hf:d.flat with
    | true =>
      simp only [asg,hf,cond_true,Option.some.injEq] at e
      subst e
      exact shc (r.flat s.wf hf)
    | false=>simp [asg,hf] at e
end

section
variable {X:Cx} {K:PySem.W.Frag} {e c:Expr} {te:WE} {tc:WT} {pos:Pos} {st:Stmt} {a b rest:List Stmt} {t u:WS}
theorem PS.imp {te te':TS} (h:PS X st te) (i:∀ D σ H,te' D σ H→te D σ H):PS X st te':=fun pins s σ H D I q=>h pins s σ H D I (i D σ H q)
theorem PSs.imp {te te':TS} (h:PSs X a te) (i:∀ D σ H,te' D σ H→te D σ H):PSs X a te':=fun pins s σ H D I q=>h pins s σ H D I (i D σ H q)
noncomputable def cH:WS:=fun E ρ=>E.nx ρ
noncomputable def wSeq (t u:WS):WS:=fun E ρ=>t { E with nx:=u E } ρ
noncomputable def wRet (te:WE):WS:=fun E ρ=>te ρ E.rt
noncomputable def wSet (i:Nat) (te:WE):WS:=fun E ρ=>te ρ fun m d=>match asg m d with
  | some sl=>E.nx (ρ.set i (some sl))
  | none=>False
noncomputable def wIfS (c:WT) (t u:WS):WS:=fun E ρ=>c ρ fun b=>if b=true then t E ρ else u E ρ
theorem bu:QSs X K L [] cH:=PSs.imp pss_nil fun D σ H hx=>iZ hx fun Hs ρ tot E sr h k1 _ _ _=>k1 σ H Hs ρ tot (Same.refl _) sr h
theorem uz {D:Ends} {σ:St} {H:Hp} (h:tpS K L (wSeq t u) D σ H):tSeq (tpS K L t) (tpS K L u) D σ H:=by
  obtain ⟨Hs,ρ,tot,E,sr,h,k1,k2,k3,k4,kx⟩:=h
  refine ⟨Hs,ρ,tot,{ E with nx:=u E },sr,h,fun σ' H' Hs' ρ' tot' s sr' q=>?_,k2,k3,k4,kx⟩
  exact ⟨Hs',ρ',tot',E,sr',q,fun σ2 H2 Hs2 ρ2 tot2 s2=>k1 σ2 H2 Hs2 ρ2 tot2 (s.trans s2),fun σ2 H2 Hs2 ρ2 tot2 s2=>k2 σ2 H2 Hs2 ρ2 tot2 (s.trans s2),fun σ2 H2 Hs2 ρ2 tot2 s2=>k3 σ2 H2 Hs2 ρ2 tot2 (s.trans s2),
    fun v H2 Hs2 m d As s2=>k4 v H2 Hs2 m d As (s.trans s2),fun n H2 s2=>kx n H2 (s.trans s2)⟩
theorem ao (h1:QS X K L st t) (h2:QSs X K L rest u):QSs X K L (st :: rest) (wSeq t u):=PSs.imp (pss_cons h1 h2) fun D σ H h=>uz h
theorem au (h1:QS X K L st t):QSs X K L [st] t:=pss_one h1
theorem bD (he:QE X K e te):QS X K L (.Return (some e) pos) (wRet te):=PS.imp (ps_ret he) fun D σ H hx=>iZ hx fun Hs ρ tot E sr h k1 k2 k3 k4 =>
  ⟨Hs,ρ,tot,_,sr,h,fun v H1 Hs1 m d As g1 r1 f1 q1=>k4 v H1 Hs1 m d As g1.sh g1.wf r1 f1.1 (fun a ha=>(f1.2 a ha).1) q1⟩
noncomputable def p8 (i:Nat):WS:=fun E ρ=>match ρ[i]? with
  | some (some (.sh d))=>E.rt .sh d
  | some (some (.ow fl d))=>E.rt (.ow fl) d
  | _=>False
theorem SR.at {ρ:Env} {σ:St} {tot:List Addr} {i:Nat} {fl:Bool} {d:D} {Hs H:Hp} (s:SR K Hs H ρ σ tot) (e:ρ[i]? = some (some (.ow fl d))):∃ v As,σ[i]? = some (some v)∧As≠[]∧RepO K Hs H fl d v As∧As.Sublist tot:=by
  induction s generalizing i with
  | nil=>simp at e
  | non s ih =>
    cases i with
    | zero=>simp at e
    | succ i=>exact ih e
  | sh r s ih =>
    cases i with
    | zero=>simp at e
    | succ i=>exact ih e
  | xc s ih =>
    cases i with
    | zero=>simp at e
    | succ i=>exact ih e
  | ow ne r s ih =>
    cases i with
    | zero=>simp at e; obtain ⟨rfl,rfl⟩:=e; exact ⟨_,_,rfl,ne,r,List.sublist_append_left _ _⟩
    | succ i =>
      obtain ⟨v,As,a,b,c,d⟩:=ih e
      exact ⟨v,As,a,b,c,d.trans (List.sublist_append_right _ _)⟩
  | lk ne r s ih =>
    cases i with
    | zero=>simp at e
    | succ i =>
      obtain ⟨v,As,a,b,c,d⟩:=ih e
      exact ⟨v,As,a,b,c,d.trans (List.sublist_append_right _ _)⟩
theorem oA {i:Nat} (he:PE X e (tVar i)):QS X K L (.Return (some e) pos) (p8 i):=PS.imp (ps_ret he) fun D σ H hx=>iZ hx fun Hs ρ tot E sr h k1 k2 k3 k4=>by
  unfold p8 at h
  split at h
  · rename_i d e1
    obtain ⟨v,e2,r⟩:=sr.sr.get e1
    exact ⟨v,e2,k4 v H Hs .sh d [] (Same.refl _) sr.wf ⟨rfl,r⟩ List.nodup_nil (fun a ha=>nomatch ha) h⟩
  · rename_i fl d e1
    obtain ⟨v,As,e2,ne,r,sb⟩:=sr.sr.at e1
    exact ⟨v,e2,k4 v H Hs (.ow fl) d As (Same.refl _) sr.wf ⟨r,ne⟩ (sb.nodup sr.nod) (fun a ha=>sr.own a (sb.subset ha)) h⟩
  · exact h.elim
theorem bN {i:Nat} {x:Str} {pos':Pos} (hN:X.N.Nodup) (hi:X.N[i]? = some x) (hx:Loc X.env.scope x) (he:QE X K e te) (hs:swapsWith e (some (.Name x pos')) pos.line X.env=pure false:=by rfl)
    (hf:X.fn x=true∨X.env.scope.names.lookup x=some .local:=by first | exact .inl rfl | exact .inr rfl | assumption):QS X K L (.Assign [.Name x pos'] e pos) (wSet i te):=PS.imp (ps_set hN hi hx he hs hf) fun D σ H hx=>iZ hx fun Hs ρ tot E sr h k1 k2 k3 k4=>by
  refine ⟨Hs,ρ,tot,_,sr,h,fun v H1 Hs1 m d As g1 r1 f1 q1=>?_⟩
  have q1:match asg m d with
    | some sl=>E.nx (ρ.set i (some sl))
    | none=>False:=q1
  cases e:asg m d with
  | none=>rw [e] at q1; exact q1.elim
  | some sl =>
    rw [e] at q1
    obtain ⟨tot',s'⟩:=(sr.grow g1).set i r1 f1.1 (fun a ha=>⟨(f1.2 a ha).1,fun m=>(sr.sr.own a m).ne (f1.2 a ha).2⟩) e
    exact k1 _ H1 Hs1 _ tot' g1.sh s' q1
theorem cR (hc:QT X K c tc) (ha:QSs X K L a t) (hb:QSs X K L b u):QS X K L (.If c a b pos) (wIfS tc t u):=PS.imp (ps_if hc ha hb) fun D σ H hx=>fO hx fun Hs ρ tot E sr h k1 k2 k3 k4 kx=>by
  refine ⟨Hs,ρ,tot,_,sr,h,fun k H1 Hs1 g1 q1=>?_⟩
  have k1':∀ σ' H' Hs' ρ' tot',Same Hs1 Hs'→SRel K Hs' ρ' σ' H' tot'→E.nx ρ'→D.nx σ' H':=fun σ2 H2 Hs2 ρ2 tot2 s2=>k1 σ2 H2 Hs2 ρ2 tot2 (g1.sh.trans s2)
  have k2':∀ σ' H' Hs' ρ' tot',Same Hs1 Hs'→SRel K Hs' ρ' σ' H' tot'→E.bk ρ'→D.bk σ' H':=fun σ2 H2 Hs2 ρ2 tot2 s2=>k2 σ2 H2 Hs2 ρ2 tot2 (g1.sh.trans s2)
  have k3':∀ σ' H' Hs' ρ' tot',Same Hs1 Hs'→SRel K Hs' ρ' σ' H' tot'→E.ct ρ'→D.ct σ' H':=fun σ2 H2 Hs2 ρ2 tot2 s2=>k3 σ2 H2 Hs2 ρ2 tot2 (g1.sh.trans s2)
  cases k with
  | true=>exact ⟨Hs1,ρ,tot,E,sr.grow g1,q1,k1',k2',k3',(fun v H2 Hs2 m d As s2=>k4 v H2 Hs2 m d As (g1.sh.trans s2)),fun n H2 s2=>kx n H2 (g1.sh.trans s2)⟩
  | false=>exact ⟨Hs1,ρ,tot,E,sr.grow g1,q1,k1',k2',k3',(fun v H2 Hs2 m d As s2=>k4 v H2 Hs2 m d As (g1.sh.trans s2)),fun n H2 s2=>kx n H2 (g1.sh.trans s2)⟩

noncomputable def frzH (Hs H:Hp) (As:List Addr):Hp:=fun a=>if a∈As then H a else Hs a
theorem fc {Hs H:Hp} {As:List Addr} (n:∀ a∈As,Hs a=none):Same Hs (frzH Hs H As):=fun a o e=>by
  unfold frzH
  rw [if_neg fun m=>by rw [n a m] at e; cases e]
  exact e
theorem ug {Hs H:Hp} {As:List Addr} (w:Wf Hs H) (o:∀ a∈As,Own H a):Wf (frzH Hs H As) H:=⟨fun a u e=>by
    unfold frzH at e
    by_cases m:a∈As
    · rw [if_pos m] at e; exact e
    · rw [if_neg m] at e; exact w.sub a u e,fun a vs e=>by
    unfold frzH
    rw [if_neg fun m=>(o a m).vC e]
    exact w.tups a vs e⟩
noncomputable def shS:Sl→Sl
  | .sh d=>.sh d
  | .ow _ d=>.sh d
  | .lk a fl d=>.lk a fl d
  | .xc a=>.xc a
noncomputable def shC:Sl→Sl
  | .sh d=>.sh d
  | .ow _ d=>.sh d
  | .lk _ _ d=>.sh d
  | .xc a=>.xc a
noncomputable def frzE (i:Nat) (ρ:Env):Env:=match ρ[i]? with
  | some (some sl)=>ρ.set i (some (shS sl))
  | _=>ρ
theorem t7 {As tot B t:List Addr} (n:(B++tot).Nodup) (a:As.Sublist tot) (c:∀ x∈As,x∉t):∀ x∈As,x∉B++t:=fun x hx m=>by
  obtain ⟨n1,n2,n3⟩:=List.nodup_append.mp n
  rcases List.mem_append.mp m with z | z
  · exact n3 x z x (a.subset hx) rfl
  · exact c x hx z
theorem SR.frz {Hs H:Hp} {ρ:Env} {σ:St} {tot:List Addr} (i:Nat) {fl:Bool} {d:D} (s:SR K Hs H ρ σ tot):ρ[i]? = some (some (.ow fl d))→tot.Nodup →
    ∃ (As tot':List Addr),As.Sublist tot∧tot'.Sublist tot∧(∀ a∈As,a∉tot')∧∀ Hs',Same Hs Hs'→(∀ a∈As,Hs' a=H a)→SR K Hs' H (ρ.set i (some (.sh d))) σ tot':=by
  induction s generalizing i with
  | nil=>intro e; simp at e
  | non q ih =>
    intro e n
    cases i with
    | zero=>simp at e
    | succ i =>
      obtain ⟨As,t,a,b,c,d⟩:=ih i e n
      exact ⟨As,t,a,b,c,fun Hs' s k=>.non (d Hs' s k)⟩
  | sh r q ih =>
    intro e n
    cases i with
    | zero=>simp at e
    | succ i =>
      obtain ⟨As,t,a,b,c,d⟩:=ih i e n
      exact ⟨As,t,a,b,c,fun Hs' s k=>.sh (r.same s) (d Hs' s k)⟩
  | xc q ih =>
    intro e n
    cases i with
    | zero=>simp at e
    | succ i =>
      obtain ⟨As,t,a,b,c,d⟩:=ih i e n
      exact ⟨As,t,a,b,c,fun Hs' s k=>.xc (d Hs' s k)⟩
  | ow ne r q ih =>
    intro e n
    obtain ⟨n1,n2,n3⟩:=List.nodup_append.mp n
    cases i with
    | zero =>
      simp at e
      obtain ⟨rfl,rfl⟩:=e
      exact ⟨_,_,List.sublist_append_left _ _,List.sublist_append_right _ _,fun a h m=>n3 a h a m rfl,fun Hs' s k=>.sh (r.rep s k) (q.stay s fun _ _=>rfl)⟩
    | succ i =>
      obtain ⟨As,t,a,b,c,d⟩:=ih i e n2
      exact ⟨As,_,a.trans (List.sublist_append_right _ _),b.append_left _,t7 n a c,fun Hs' s k=>.ow ne (r.stay s fun _ _=>rfl) (d Hs' s k)⟩
  | lk ne r q ih =>
    intro e n
    obtain ⟨n1,n2,n3⟩:=List.nodup_append.mp n
    cases i with
    | zero=>simp at e
    | succ i =>
      obtain ⟨As,t,a,b,c,d⟩:=ih i e n2
      exact ⟨As,_,a.trans (List.sublist_append_right _ _),b.append_left _,t7 n a c,fun Hs' s k=>.lk ne (r.stay s fun _ _=>rfl) (d Hs' s k)⟩
theorem SRel.frz {ρ:Env} {σ:St} {tot:List Addr} {Hs H:Hp} (i:Nat) (s:SRel K Hs ρ σ H tot):∃ Hs' tot',Same Hs Hs'∧SRel K Hs' (frzE i ρ) σ H tot':=by
  unfold frzE
  split
  · rename_i sl e
    have keep:shS sl=sl→∃ Hs' tot',Same Hs Hs'∧SRel K Hs' (ρ.set i (some (shS sl))) σ H tot':=fun hs=>by
      have e2:ρ.set i (some (shS sl))=ρ:=by
        apply List.ext_getElem?
        intro j
        rw [List.getElem?_set]
        by_cases h:i=j
        · subst h
          rw [if_pos rfl,e]
          have:i<ρ.length:=(List.getElem?_eq_some_iff.mp e).1
          simp [this,hs]
        · rw [if_neg h]
      rw [e2]
      exact ⟨Hs,tot,Same.refl _,s⟩
    cases sl with
    | sh d=>exact keep rfl
    | xc a=>exact keep rfl
    | lk a fl d=>exact keep rfl
    | ow fl d =>
      obtain ⟨As,t,a,b,c,g⟩:=SR.frz i s.sr e s.nod
      have hn:∀ a∈As,Hs a=none:=fun x hx=>s.own x (a.subset hx)
      have ho:∀ a∈As,Own H a:=fun x hx=>s.sr.own x (a.subset hx)
      refine ⟨frzH Hs H As,t,fc hn,g _ (fc hn) fun x hx=>by unfold frzH; rw [if_pos hx],ug s.wf ho,b.nodup s.nod,fun x hx=>?_⟩
      unfold frzH
      rw [if_neg fun m=>c x m hx]
      exact s.own x (b.subset hx)
  · exact ⟨Hs,tot,Same.refl _,s⟩
noncomputable def wFrz (i:Nat) (t:WS):WS:=fun E ρ=>t E (frzE i ρ)
theorem uZ {i:Nat} {D:Ends} {σ:St} {H:Hp} (h:tpS K L (wFrz i t) D σ H):tpS K L t D σ H:=by
  obtain ⟨Hs,ρ,tot,E,sr,h,k1,k2,k3,k4,kx⟩:=h
  obtain ⟨Hs',tot',s,sr'⟩:=sr.frz i
  exact ⟨Hs',_,tot',E,sr',h,fun σ2 H2 Hs2 ρ2 tot2 s2=>k1 σ2 H2 Hs2 ρ2 tot2 (s.trans s2),fun σ2 H2 Hs2 ρ2 tot2 s2=>k2 σ2 H2 Hs2 ρ2 tot2 (s.trans s2),fun σ2 H2 Hs2 ρ2 tot2 s2=>k3 σ2 H2 Hs2 ρ2 tot2 (s.trans s2),
    fun v H2 Hs2 m d As s2=>k4 v H2 Hs2 m d As (s.trans s2),fun n H2 s2=>kx n H2 (s.trans s2)⟩
theorem dR (i:Nat) (h:QS X K L st t):QS X K L st (wFrz i t):=PS.imp h fun D σ H h=>uZ h

noncomputable def gY (Hs1 H1 Hs' H':Hp):Hp:=fun a=>match H' a with
  | some (.tup vs)=>some (.tup vs)
  | _=>match H1 a with
    | none=>Hs' a
    | some _=>Hs1 a
theorem eN {Hs1 H1 Hs' H':Hp} (w:Wf Hs1 H1) (s:Same H1 Hs') (w':Wf Hs' H'):Grow Hs1 H1 (gY Hs1 H1 Hs' H') H':=by
  have sa:Same H1 H':=s.trans w'.sub
  have tp:∀ a vs,H' a=some (.tup vs)→gY Hs1 H1 Hs' H' a=some (.tup vs):=fun a vs e=>by unfold gY; rw [e]
  have nt:∀ a,(∀ vs,H' a≠some (.tup vs))→gY Hs1 H1 Hs' H' a=match H1 a with
    | none=>Hs' a
    | some _=>Hs1 a:=fun a h=>by
    unfold gY
    split
    · rename_i vs e; exact absurd e (h vs)
    · rfl
  refine ⟨sa,fun a o e=>?_,⟨fun a o e=>?_,tp⟩,fun a h=>?_⟩
  · have e1:=w.sub a o e
    have e2:=sa a o e1
    by_cases ht:∃ vs,o=.tup vs
    · obtain ⟨vs,rfl⟩:=ht
      exact tp a vs e2
    · rw [nt a fun vs z=>ht ⟨vs,by rw [e2] at z; exact Option.some.inj z⟩,e1]
      exact e
  · by_cases ht:∃ vs,H' a=some (.tup vs)
    · obtain ⟨vs,z⟩:=ht
      rw [tp a vs z] at e
      rw [z]; exact e
    · rw [nt a fun vs z=>ht ⟨vs,z⟩] at e
      cases q:H1 a with
      | none=>rw [q] at e; exact w'.sub a o e
      | some u =>
        rw [q] at e
        have:=w.sub a o e
        exact sa a o this
  · cases q:H1 a with
    | none=>exact .inr rfl
    | some u =>
      refine .inl ?_
      by_cases ht:∃ vs,H' a=some (.tup vs)
      · obtain ⟨vs,z⟩:=ht
        have:=sa a u q
        rw [z] at this
        cases this
        rw [w.tups a vs q]
        exact fun z=>nomatch z
      · rw [nt a fun vs z=>ht ⟨vs,z⟩,q] at h
        exact h
theorem q_ {Hs1 H1 Hs' H':Hp} {a:Addr} (s:Same H1 Hs') (h:Hs' a=none) (o:Own H' a):gY Hs1 H1 Hs' H' a=none∧H1 a=none:=by
  have h1:=s.free h
  refine ⟨?_,h1⟩
  unfold gY
  split
  · rename_i vs e; exact absurd e o.vC
  · rw [h1]; exact h
noncomputable def retM:Md→D→Md
  | .ow true,_=>.ow true
  | _,d=>bif d.flat then .sh else .bo
theorem oR {Hs1 H1 Hs' H':Hp} {m:Md} {d:D} {v:V} {As:List Addr} (w:Wf Hs1 H1) (s:Same H1 Hs') (w':Wf Hs' H') (r:RM K Hs' H' m d v As) (nd:As.Nodup) (own:∀ a∈As,Hs' a=none) :
    ∃ As',RM K (gY Hs1 H1 Hs' H') H' (retM m d) d v As'∧cA (gY Hs1 H1 Hs' H') H1 As':=by
  have g:=eN w s w'
  have other:∃ As',RM K (gY Hs1 H1 Hs' H') H' (bif d.flat then .sh else .bo) d v As'∧cA (gY Hs1 H1 Hs' H') H1 As':=by
    cases hf:d.flat with
    | true=>exact ⟨[],⟨rfl,(r.rep w').gn g.wf.tups hf⟩,cA.nil⟩
    | false=>exact ⟨[],⟨rfl,r.rep w'⟩,cA.nil⟩
  cases m with
  | sh=>exact other
  | bo=>exact other
  | ow fl =>
    cases fl with
    | false=>exact other
    | true=>exact ⟨As,⟨RepO.leaves (fun a vs e=>g.wf.tups a vs (w'.sub _ _ e)) r.1,r.2⟩,nd,fun a h=>q_ s (own a h) (r.own a h)⟩

noncomputable abbrev SpD:=List D→(Md→D→Prop)→Prop
noncomputable def ak (K:PySem.W.Frag) (sp:SpD):Sp:=fun vs H Qv _=>∃ ds Qd,Reps K H ds vs∧sp ds Qd ∧
  ∀ v H' Hs' m d As,Same H Hs'→Wf Hs' H'→RM K Hs' H' m d v As→As.Nodup→(∀ a∈As,Hs' a=none)→Qd m d→Qv v H'
noncomputable def bj (n:Nat) (ds:List D):Env:=ds.map (fun d=>some (.sh d))++List.replicate (n - ds.length) none
theorem SR.start {H:Hp} {ds:List D} {vs:List V} {n:Nat} (r:Reps K H ds vs):SR K H H (ds.map (fun d=>some (.sh d))++List.replicate n none) (vs.map some++List.replicate n none) []:=by
  induction ds generalizing vs with
  | nil =>
    rw [r.n0]
    induction n with
    | zero=>exact .nil
    | succ n ih=>exact .non ih
  | cons d ds ih =>
    obtain ⟨u,us,rfl,r,rs⟩:=r.c
    exact .sh r (ih rs)
theorem qY {sp:SpD} {N:List Str} {vs:List V} {H:Hp} {Qv:VK} {E:XK} (h:ak K sp vs H Qv E) (hp:∀ ds Q,sp ds Q→t { nx:=fun _=>Q .sh .non,rt:=Q } (bj N.length ds)) :
    tpS K L0 t { nx:=fun _ H'=>Qv .non H',rt:=Qv } (start N vs) H:=by
  obtain ⟨ds,Qd,rs,hs,fin⟩:=h
  have hl:=rs.length
  refine ⟨H,bj N.length ds,[],{ nx:=fun _=>Qd .sh .non,rt:=Qd },⟨?_,⟨Same.refl _,fun _ _ e=>e⟩,List.nodup_nil,fun a h=>nomatch h⟩,hp ds Qd hs,?_,?_,?_,?_,fun _ _ _ _=>trivial⟩
  · unfold bj start
    rw [hl]
    exact SR.start rs
  · exact fun σ' H' Hs' ρ' tot' s sr q=>fin .non H' Hs' .sh .non [] s sr.wf ⟨rfl,.non⟩ List.nodup_nil (fun a h=>nomatch h) q
  · exact fun σ' H' Hs' ρ' tot' s sr q=>q.elim
  · exact fun σ' H' Hs' ρ' tot' s sr q=>q.elim
  · exact fun v H' Hs' m d As s w r nd own q=>fin v H' Hs' m d As s w r nd own q
theorem FunQ.ok {P:Program} {w:World} {mg:Str→Option Value} {base:Heap} {x qual:Str} {st:Stmt} {f:Addr} {fd:FuncData} {N ps:List Str} {k:Nat} {sp:SpD} {t:WS} (F:Fun K x qual st f fd) (S:FnScope N ps (defScope st)) (len:∀ ds Q,sp ds Q→ds.length=ps.length)
    (hbody:∀ (cdv:Value) (A:Around) (outer:List PySem.Env) (s:Shared) (H:Hp) (E:XK),Room k (A.deeper (envOfC qual (defScope st) s.heap.objs.size f cdv))→QSs (cxOf CX0 P w K mg base N qual (defScope st) f cdv A outer s H E).nox K L0 (defBody st) t)
    (hp:∀ ds Q,sp ds Q→t { nx:=fun _=>Q .sh .non,rt:=Q } (bj N.length ds)):FnOk P w K mg base CX0 (k+1) f fd ps (ak K sp) :=
  F.ok S (fun vs H Q E ⟨ds,Qd,rs,hs,_⟩=>by rw [← rs.length]; exact len ds Qd hs) fun cdv A outer s H vs Q E hr hs=>⟨_,hbody cdv A outer s H E hr,qY hs hp⟩
noncomputable def bY (sp:SpD) (t:WA):WE:=fun ρ Q=>t ρ fun ps=>sp (ps.map (·.2)) fun m d=>onK (m,d) (f:=fun p=>Q (retM p.1 p.2) p.2) ⟨⟩
theorem um {sp:SpD} {t:WA} {σ:St} {H:Hp} {Qv:VK} {E:XK} (h:tpE K (bY sp t) σ H Qv):tCall (ak K sp) [] E (tpA K t) σ H Qv:=by
  obtain ⟨Hs,ρ,tot,Q,sr,h,f⟩:=h
  refine ⟨Hs,ρ,tot,_,sr,h,fun vs H1 Hs1 ps As g1 r1 f1 q1=>?_⟩
  refine ⟨_,_,by rw [List.append_nil]; exact r1.reps g1.wf,q1,fun v H' Hs' m d As s w r nd own q=>?_⟩
  obtain ⟨As',r',fr⟩:=oR g1.wf s w r nd own
  exact Fin.after f g1 v H' _ (retM m d) d As' (eN g1.wf s w) r' fr q
theorem cz {k:Nat} {x:Str} {ps:List Str} {sp:SpD} {p:Pos} {es:List Expr} {t:WA} (C:Cal X.prog X.w X.K X.mg X.base k x ps (ak K sp)) (hr:Room k X.A) (ha:QA X K (e :: es) t) (hg:Gl X x:=by rfl) (hdb:(x == ("__debug__" : Str))=false:=by decide) (he:starEach (e :: es) X.env=(false,eval e X.env) :: starEach es X.env:=by rfl)
    (hpl:(backTo pos (starEach es X.env)).any (·.1)=false:=by rfl):QE X K (.Call (.Name x p) (e :: es) [] pos) (bY sp t):=PE.imp (zy C hr ha hg hdb he hpl) fun σ H Qv h=>um h
end
end L2.Q

set_option Elab.async false
set_option linter.all false
set_option maxRecDepth 100000
set_option maxHeartbeats 4000000

namespace L2.Q
open PySem PySem.Spec PyProof.Rows

noncomputable abbrev WG:=D→Env→(Env→Prop)→Prop
noncomputable def tpG (K:PySem.W.Frag) (g:WG):TG:=fun v σ H Qv=>∃ Hs ρ tot d Q,SRel K Hs ρ σ H tot∧Rep K Hs d v∧g d ρ Q∧∀ σ' ρ' tot',SRel K Hs ρ' σ' H tot'→(∀ a∈tot',a∈tot)→Q ρ'→Qv σ' H
noncomputable abbrev QG (X:Cx) (K:PySem.W.Frag) (e:Expr) (g:WG):Prop:=PG X e (tpG K g)
noncomputable def gN (i:Nat):WG:=fun d ρ Q=>Q (ρ.set i (some (.sh d)))
noncomputable abbrev WGs:=List D→Env→(Env→Prop)→Prop
section
variable {X:Cx} {K:PySem.W.Frag} {e:Expr} {es:List Expr} {g:WG} {gs:WGs} {pos:Pos}
theorem PG.imp {t t':TG} (h:PG X e t) (i:∀ v σ H Q,t' v σ H Q→t v σ H Q):PG X e t':=fun pins s σ H v u Q I r q=>h pins s σ H v u Q I r (i v σ H Q q)
theorem SRel.z7 {ρ:Env} {σ:St} {tot:List Addr} {Hs H:Hp} {d:D} {v:V} (i:Nat) (s:SRel K Hs ρ σ H tot) (r:Rep K Hs d v):∃ tot',(∀ a∈tot',a∈tot)∧SRel K Hs (ρ.set i (some (.sh d))) (σ.set i (some v)) H tot':=by
  obtain ⟨t,a,b⟩:=s.sr.vm r i
  exact ⟨t,fun x hx=>a.subset hx,b,s.wf,a.nodup s.nod,fun x hx=>s.own x (a.subset hx)⟩
theorem fG {i:Nat} {x:Str} (hN:X.N.Nodup) (hi:X.N[i]? = some x) (hx:Loc X.env.scope x) (hf:X.fn x=true∨X.env.scope.names.lookup x=some .local:=by first | exact .inl rfl | exact .inr rfl | assumption):QG X K (.Name x pos) (gN i) :=
  PG.imp (pg_name hN hi hx hf) fun v σ H Qv hx9=>by
    obtain ⟨Hs,ρ,tot,d,Q,sr,r,h,k⟩:=hx9
    obtain ⟨t,m,s⟩:=sr.z7 i r
    exact k _ _ t s m h
end

noncomputable abbrev WI:=Env→(List D→Prop)→Prop
structure oJ (K:PySem.W.Frag) (J:It) (ds:List D) (C:Hp→Hp→Prop):Prop where
  go:∀ i Hs H,C Hs H→Wf Hs H→i<ds.length→J.go i H
  yld:∀ i Hs H x H' d,C Hs H→Wf Hs H→ds[i]? = some d→J.yld i H x H'→∃ Hs',Grow Hs H Hs' H'∧Rep K Hs' d x
  stop:∀ Hs H,C Hs H→Wf Hs H→J.stop ds.length H
noncomputable abbrev tV (K:PySem.W.Frag) (Hs:Hp) (J:It) (ds:List D):Prop:=oJ K J ds fun G _=>Same Hs G
section
variable {K:PySem.W.Frag} {Hs:Hp} {J:It} {ds es:List D} {C C':Hp→Hp→Prop} {a b:Addr}
theorem oJ.imp (S:oJ K J ds C) (h:∀ Hs H,C' Hs H→C Hs H):oJ K J ds C':=⟨fun i Hs H c=>S.go i Hs H (h _ _ c),fun i Hs H x H' d c=>S.yld i Hs H x H' d (h _ _ c),fun Hs H c=>S.stop Hs H (h _ _ c)⟩
theorem oJ.seq {vs:List V} (rs:Reps K Hs ds vs) (S:lF J vs fun H=>Same Hs H):tV K Hs J ds where
  go:=fun i G H s w h=>S.go i H (s.trans w.sub) (by rw [← rs.length]; exact h)
  yld:=fun i G H x H' d s w h y=>by
    have hi:i<ds.length:=by
      rcases Nat.lt_or_ge i ds.length with q | q
      · exact q
      · rw [List.getElem?_eq_none q] at h; cases h
    obtain ⟨e,z⟩:=S.yld i H x H' (s.trans w.sub) (by rw [← rs.length]; exact hi) y
    subst e
    obtain ⟨d',ed,rd⟩:=rs.getV z
    rw [h] at ed; cases ed
    exact ⟨G,Grow.refl w,rd.same s⟩
  stop:=fun G H s w=>by rw [rs.length]; exact S.stop H (s.trans w.sub)
noncomputable abbrev vB (K:PySem.W.Frag) (a:Addr) (ds:List D) (C:Hp→Hp→Prop):Prop:=∀ Hs H,C Hs H→Wf Hs H→∃ vs,SqL K H a vs∧Reps K Hs ds vs
theorem oJ.list (h:vB K a ds C):oJ K (Itl K a) ds C where
  go:=fun i G H c w hi=>by
    obtain ⟨vs,q,rs⟩:=h G H c w
    exact ⟨vs,vs[i]'(by rw [← rs.length]; exact hi),q,by simp⟩
  yld:=fun i G H x H' d c w hd y=>by
    obtain ⟨vs,q,rs⟩:=h G H c w
    obtain ⟨rfl,y⟩:=y
    obtain ⟨d',ed,rd⟩:=rs.getV (y vs q)
    rw [hd] at ed; cases ed
    exact ⟨G,Grow.refl w,rd⟩
  stop:=fun G H c w=>by
    obtain ⟨vs,q,rs⟩:=h G H c w
    exact ⟨vs,q,by rw [rs.length]; exact Nat.le_refl _⟩
theorem rJ {vs:List V} (s:SqL K Hs a vs) (rs:Reps K Hs ds vs):vB K a ds fun G _=>Same Hs G:=fun G H c w=>⟨vs,Same.seq (c.trans w.sub) s,rs.same c⟩
end
noncomputable def tpI (K:PySem.W.Frag) (wi:WI):TI:=fun σ H R=>∃ Hs ρ tot Q,SRel K Hs ρ σ H tot∧wi ρ Q∧∀ J H' Hs' ds,Grow Hs H Hs' H'→tV K Hs' J ds→ds.length≤sizeLine→Q ds→R J H'
noncomputable abbrev QI (X:Cx) (K:PySem.W.Frag) (tg iter:Expr) (wi:WI):Prop:=PI X tg iter (tpI K wi)
noncomputable def lQ:Md→Prop
  | .bo=>False
  | _=>True
noncomputable def jU (te:WE):WI:=fun ρ Q=>te ρ fun m d=>lQ m∧match d with
  | .list xs=>Q xs
  | _=>False
noncomputable def sgnD (z:Str):List D:=z.cps.toList.map fun c=>.str ⟨#[c]⟩
noncomputable def u6 (te:WE):WI:=fun ρ Q=>te ρ fun _ d=>match d with
  | .str z=>Q (sgnD z)
  | _=>False
noncomputable def qP (lo:Int) (n:Nat):List D:=(List.range n).map fun i=>.int (lo+(i:Nat))
section
variable {X:Cx} {K:PySem.W.Frag} {e e2 tg:Expr} {te te2:WE} {pos p:Pos}
theorem PI.imp {iter:Expr} {t t':TI} (h:PI X tg iter t) (i:∀ σ H R,t' σ H R→t σ H R):PI X tg iter t':=fun pins s σ H R I q=>h pins s σ H R I (i σ H R q)
theorem lF.imp {J:It} {vs:List V} {c c':Hp→Prop} (s:lF J vs c) (h:∀ H,c' H→c H):lF J vs c':=⟨fun i H q=>s.go i H (h H q),fun i H x H' q=>s.yld i H x H' (h H q),fun H q=>s.stop H (h H q)⟩
theorem RM.v_ {Hs H Hs1 H1:Hp} {m:Md} {d:D} {v:V} {As:List Addr} (g:Grow Hs H Hs1 H1) (r:RM K Hs1 H1 m d v As) (f:cA Hs1 H As) (h:lQ m):∃ Hs2,Grow Hs H Hs2 H1∧Rep K Hs2 d v:=by
  cases m with
  | sh=>exact ⟨Hs1,g,r.2⟩
  | bo=>exact h.elim
  | ow fl =>
    have n:∀ a∈As,Hs1 a=none:=fun a ha=>(f.2 a ha).1
    have o:=r.own
    refine ⟨frzH Hs1 H1 As,⟨g.all,g.sh.trans (fc n),ug g.wf o,fun a h=>?_⟩,RepO.rep (fc n) r.1 fun a ha=>by unfold frzH; rw [if_pos ha]⟩
    unfold frzH at h
    by_cases m:a∈As
    · exact .inr (f.2 a m).2
    · rw [if_neg m] at h; exact g.new a h
theorem nQ (he:QE X K e te) (hK:X.K=K:=by rfl):QI X K tg e (jU te):=by
  subst hK
  refine PI.imp (pi_list he) fun σ H R hx=>ex4 hx fun Hs ρ tot Q sr h k=>⟨Hs,ρ,tot,_,sr,h,fun v H1 Hs1 m d As g1 r1 f1 q1=>?_⟩
  obtain ⟨nb,q1⟩:=q1
  obtain ⟨Hs2,g2,r2⟩:=r1.v_ g1 f1 nb
  cases r2 with
  | list z s rs=>exact ⟨_,rfl,⟨_,Same.seq g2.wf.sub s⟩,k _ H1 Hs2 _ g2 (.seq rs (lF.imp (uQ X.K _ _) fun H' s'=>Same.seq s' s)) (by rw [rs.length]; exact z) q1⟩
  | _=>exact q1.elim
theorem oX {H:Hp}:∀ (l:List Nat),Reps K H (l.map fun c=>.str ⟨#[c]⟩) (l.map fun c=>V.str ⟨#[c]⟩)
  | []=>.nil
  | c :: l=>.cons (.str (t8 c)) (oX l)
theorem yQ (he:QE X K e te):QI X K tg e (u6 te):=by
  refine PI.imp (yE he) fun σ H R hx=>ex4 hx fun Hs ρ tot Q sr h k=>⟨Hs,ρ,tot,_,sr,h,fun v H1 Hs1 m d As g1 r1 f1 q1=>?_⟩
  have r:=r1.rep g1.wf
  cases r with
  | str hz=>exact ⟨_,rfl,k _ H1 Hs1 _ g1 (.seq (oX _) (lF.imp (xV _) fun _ _=>trivial)) (by rw [List.length_map,Array.length_toList]; exact hz) q1⟩
  | _=>exact q1.elim
section
variable {X:Cx} {K:PySem.W.Frag} {e e2 tg:Expr} {te te2:WE} {pos p:Pos}
noncomputable def tpIb (K:PySem.W.Frag) (wi:WI):TI:=fun σ H R=>∃ Hs ρ tot Q,SRel K Hs ρ σ H tot∧wi ρ Q∧∀ J H' Hs' ds,Grow Hs H Hs' H'→tV K H' J ds→ds.length≤sizeLine→Q ds→R J H'
noncomputable abbrev QIb (X:Cx) (K:PySem.W.Frag) (tg iter:Expr) (wi:WI):Prop:=PI X tg iter (tpIb K wi)
theorem yl {iter:Expr} {wi:WI} (h:QI X K tg iter wi):QIb X K tg iter wi:=PI.imp h fun σ H R hx=>ex4 hx fun Hs ρ tot Q sr h k=>⟨Hs,ρ,tot,Q,sr,h,fun J H' Hs' ds g w z q=>k J H' Hs' ds g (w.imp fun G H s=>g.wf.sub.trans s) z q⟩
noncomputable def lW (te:WE):WI:=fun ρ Q=>te ρ fun _ d=>match d with
  | .list xs=>Q xs
  | _=>False
theorem rK (he:QE X K e te) (hK:X.K=K:=by rfl):QIb X K tg e (lW te):=by
  subst hK
  refine PI.imp (pi_list he) fun σ H R hx=>ex4 hx fun Hs ρ tot Q sr h k=>⟨Hs,ρ,tot,_,sr,h,fun v H1 Hs1 m d As g1 r1 f1 q1=>?_⟩
  have r:=r1.rep g1.wf
  cases r with
  | list z s rs=>exact ⟨_,rfl,⟨_,s⟩,k _ H1 Hs1 _ g1 (.list (rJ s rs)) (by rw [rs.length]; exact z) q1⟩
  | _=>exact q1.elim
end
section
variable {X:Cx} {K:PySem.W.Frag} {e e2 tg:Expr} {te te2:WE} {pos p:Pos}
end
noncomputable def lE (g:WG) (b:WS) (E:ou):List D→Env→Prop
  | [],ρ=>E.nx ρ
  | x :: xs,ρ=>g x ρ fun ρ1=>b { E with nx:=lE g b E xs,ct:=lE g b E xs,bk:=E.nx } ρ1
noncomputable def wFor (wi:WI) (g:WG) (b:WS):WS:=fun E ρ=>wi ρ fun ds=>lE g b E ds ρ
variable {wi:WI} {g:WG} {b:WS} {body:List Stmt}
theorem qZ {iter:Expr} (hp:PassesOwn (model X.prog X.w) X.A X.env X.xe) (hc:X.calm=true) (hi:QI X K tg iter wi) (hg:QG X K tg g) (hb:QSs X K L body b) (hs:∀ x,foldedSetIterable iter X.env x=pure x:=by intro _; rfl) :
    QS X K L (.For tg iter body [] pos) (wFor wi g b):=by
  refine PS.imp (ps_for hp hc hi hg hb hs) fun D σ H hx=>fO hx fun Hs ρ tot E sr h k1 k2 k3 k4 kx=>?_
  rw [xg]
  refine ⟨Hs,ρ,tot,_,sr,h,fun J H1 Hs1 ds g1 S hz q1=>?_⟩
  refine ⟨fun i m σ H=>m=ds.length - i∧i≤ds.length∧∃ Hs' ρ' tot',Same Hs1 Hs'∧SRel K Hs' ρ' σ H tot'∧lE g b E (ds.drop i) ρ',⟨ds.length,by simp,Nat.zero_le _,Hs1,ρ,tot,Same.refl _,sr.grow g1,by simpa using q1⟩,?_⟩
  rintro i m σ2 H2 ⟨rfl,hi,Hs2,ρ2,tot2,s2,sr2,q2⟩
  by_cases hlt:i<ds.length
  · refine .inr ⟨S.go i Hs2 H2 s2 sr2.wf hlt,fun σ3 H3=>∃ Hs' ρ' tot',Same Hs1 Hs'∧SRel K Hs' ρ' σ3 H3 tot'∧lE g b E (ds.drop (i+1)) ρ',fun σ3 H3 h3=>⟨ds.length - (i+1),by walk_at "l",rfl,hlt,h3⟩,fun x H3 y=>?_⟩
    obtain ⟨Hs3,g3,rd⟩:=S.yld i Hs2 H2 x H3 ds[i] s2 sr2.wf (by simp [hlt]) y
    rw [List.drop_eq_getElem_cons hlt] at q2
    have s3:=s2.trans g3.sh
    refine ⟨Hs3,ρ2,tot2,ds[i],_,sr2.grow g3,rd,q2,fun σ4 ρ4 tot4 sr4 _ q4=>?_⟩
    refine ⟨Hs3,ρ4,tot4,_,sr4,q4,?_,?_,?_,?_,fun n H5 s5=>kx n H5 ((g1.sh.trans s3).trans s5)⟩
    · exact fun σ5 H5 Hs5 ρ5 tot5 s5 sr5 q5=>⟨Hs5,ρ5,tot5,s3.trans s5,sr5,q5⟩
    · exact fun σ5 H5 Hs5 ρ5 tot5 s5 sr5 q5=>k1 σ5 H5 Hs5 ρ5 tot5 ((g1.sh.trans s3).trans s5) sr5 q5
    · exact fun σ5 H5 Hs5 ρ5 tot5 s5 sr5 q5=>⟨Hs5,ρ5,tot5,s3.trans s5,sr5,q5⟩
    · exact fun v H5 Hs5 m d As s5=>k4 v H5 Hs5 m d As ((g1.sh.trans s3).trans s5)
  · have e:i=ds.length:=by walk_at "l"
    subst e
    refine .inl ⟨S.stop Hs2 H2 s2 sr2.wf,?_⟩
    rw [List.drop_length] at q2
    exact k1 σ2 H2 Hs2 ρ2 tot2 (g1.sh.trans s2) sr2 q2
theorem oN {g:WG} {b:WS} {E:ou} (xs:List D) (Pv:Nat→Env→Prop) {ρ:Env} (h0:Pv 0 ρ)
    (hs:∀ i x ρ,xs[i]? = some x→Pv i ρ→∀ N:Env→Prop,(∀ ρ',Pv (i+1) ρ'→N ρ')→g x ρ fun ρ1=>b { E with nx:=N,ct:=N,bk:=E.nx } ρ1)
    (hd:∀ ρ,Pv xs.length ρ→E.nx ρ):lE g b E xs ρ:=by
  have go:∀ (k i:Nat) (ρ:Env),i+k=xs.length→Pv i ρ→lE g b E (xs.drop i) ρ:=by
    intro k
    induction k with
    | zero =>
      intro i ρ e p
      have:i=xs.length:=by walk_at "l"
      subst this
      rw [List.drop_length]
      exact hd ρ p
    | succ k ih =>
      intro i ρ e p
      have hi:i<xs.length:=by walk_at "l"
      rw [List.drop_eq_getElem_cons hi]
      exact hs i xs[i] ρ (by simp [hi]) p _ fun ρ2 h2=>ih (i+1) ρ2 (by walk_at "l") h2
  have:=go xs.length 0 ρ (by exact Nat.add_comm ..) h0
  simpa using this
end
end L2.Q

set_option Elab.async false
set_option linter.all false
set_option maxRecDepth 100000
set_option maxHeartbeats 4000000

namespace L2.Q
open PySem PySem.Spec PyProof.Rows

noncomputable def wYes:WT:=fun _ Q=>Q true
noncomputable def okEl (m:Md) (d:D):Prop:=d.flat=true∨m=.ow true
noncomputable def gm (g:WG) (tc:WT) (te:WE):List D→Env→(List D→Prop)→Prop
  | [],_,k=>k []
  | x :: xs,ρ,k=>g x ρ fun ρ1=>tc ρ1 fun b=>if b=true then te ρ1 fun m d=>okEl m d∧gm g tc te xs ρ1 (fun out=>k (d :: out)) else gm g tc te xs ρ1 k
noncomputable def vZ (tn:Nat) (ix:List Nat) (ρ:Env):Env:=List.replicate tn none++ix.map fun j=>(ρ[j]?).join.map shC
noncomputable def qi (wi:WI) (g:WG) (tc:WT) (te:WE) (tn:Nat) (ix:List Nat):WE:=fun ρ Q=>wi ρ fun ds=>gm g tc te ds (vZ tn ix ρ) fun out=>Q (.ow true) (.list out)
section
variable {X:Cx} {K:PySem.W.Frag}
theorem jH {Hs H G:Hp} {ρ:Env} {σ:St} {tot:List Addr} (sr:SRel K Hs ρ σ H tot) (G':Hp):∀ (ix:List Nat),SR K H G' (ix.map fun j=>(ρ[j]?).join.map shC) (ix.map fun j=>(σ[j]?).join) []
  | []=>.nil
  | j :: ix=>by
    have ih:=jH sr G' ix (G:=G)
    simp only [List.map_cons]
    cases e:ρ[j]? with
    | none=>exact .non ih
    | some o =>
      cases o with
      | none=>exact .non ih
      | some sl =>
        obtain ⟨v,e1,r⟩:=sr.sr.get e
        rw [e1]
        cases sl with
        | sh d=>exact .sh (Rep.same sr.wf.sub r) ih
        | xc a=>subst r; exact .xc ih
        | ow fl d =>
          obtain ⟨As,_,r,_⟩:=r
          exact .sh (r.rep sr.wf.sub fun _ _=>rfl) ih
        | lk a fl d =>
          obtain ⟨As,_,r,_⟩:=r
          exact .sh (r.rep sr.wf.sub fun _ _=>rfl) ih
theorem mQ {H G:Hp} {ρ:Env} {σ:St} (s:SR K H G ρ σ []):∀ (n:Nat),SR K H G (List.replicate n none++ρ) (List.replicate n none++σ) []
  | 0=>s
  | n+1=>.non (mQ s n)
theorem SR.heap {Hs H H':Hp} {ρ:Env} {σ:St} (s:SR K Hs H ρ σ []):SR K Hs H' ρ σ []:=s.stay (Same.refl _) fun a h=>nomatch h
theorem vg {Hs H:Hp} {p:Addr} {o:HO} (w:Wf Hs H) (n:Hs p=none) (ho:∀ vs,o≠.tup vs):Wf Hs (upd H p o):=⟨fun b u q=>by
    rw [upd_ne (fun z=>by subst z; rw [n] at q; cases q)]; exact w.sub b u q,fun b us q=>by
    by_cases hb:b=p
    · subst hb; rw [upd_same] at q; exact absurd (Option.some.inj q) (ho us)
    · rw [upd_ne hb] at q; exact w.tups b us q⟩
structure CompI (K:PySem.W.Frag) (H1:Hp) (b:Addr) (acc:List D) (ys:List V) (As:List Addr) (Hs:Hp) (ρ:Env) (τ:St) (H:Hp):Prop where
  sm:Same H1 Hs
  sr:SRel K Hs ρ τ H []
  eD:H b=some (.lst ys)
  nD:Hs b=none
  ra:aF K Hs H true acc ys As
  nd:(b :: As).Nodup
  own:∀ a∈As,Hs a=none
theorem CompI.grow {H1:Hp} {b:Addr} {acc:List D} {ys:List V} {As:List Addr} {Hs H Hs' H':Hp} {ρ:Env} {τ:St} (c:CompI K H1 b acc ys As Hs ρ τ H) (g:Grow Hs H Hs' H'):CompI K H1 b acc ys As Hs' ρ τ H' :=
  ⟨c.sm.trans g.sh,c.sr.grow g,g.all _ _ c.eD,g.hsn c.nD (by rw [c.eD]; exact fun z=>nomatch z),c.ra.grow g.sh g.all,c.nd,fun a ha=>g.hsn (c.own a ha) (c.ra.own a ha).ne⟩
theorem CompI.push {H1:Hp} {b:Addr} {acc:List D} {ys:List V} {As Bs:List Addr} {Hs H:Hp} {ρ:Env} {τ:St} {m:Md} {d:D} {v:V} (c:CompI K H1 b acc ys As Hs ρ τ H) (r:RM K Hs H m d v Bs) (ok:okEl m d) (nb:Bs.Nodup) (fb:∀ a∈Bs,Hs a=none∧a∉b :: As):∃ As',CompI K H1 b (acc++[d]) (ys++[v]) As' Hs ρ τ (upd H b (.lst (ys++[v]))):=by
  obtain ⟨B,sb,rb⟩:∃ B,B.Sublist Bs∧RepO K Hs H true d v B:=by
    rcases ok with hf | rfl
    · exact ⟨[],List.nil_sublist _,.sh (fun _=>hf) (r.flat c.sr.wf hf)⟩
    · exact ⟨Bs,List.Sublist.refl _,r.1⟩
  obtain ⟨na,nA⟩:=List.nodup_cons.mp c.nd
  have fb':=fun a ha=>fb a (sb.subset ha)
  refine ⟨As++(B++[]),c.sm,⟨c.sr.sr.heap,vg c.sr.wf c.nD (fun _ z=>nomatch z),List.nodup_nil,fun a h=>nomatch h⟩,upd_same,c.nD,(c.ra.stay (H':=upd H b (.lst (ys++[v]))) (Same.refl _) fun a ha=>upd_ne fun z=>na (by subst z; exact ha)).append (.cons (rb.stay (Same.refl _) fun a ha=>upd_ne fun z=>(fb' a ha).2 (by subst z; exact List.mem_cons_self)) .nil),?_,?_⟩
  · rw [List.append_nil]
    refine List.nodup_cons.mpr ⟨fun m=>(List.mem_append.mp m).elim na fun m=>(fb' b m).2 List.mem_cons_self,List.nodup_append.mpr ⟨nA,sb.nodup nb,fun x hx y hy e=>(fb' y hy).2 (e ▸ List.mem_cons_of_mem _ hx)⟩⟩
  · rw [List.append_nil]
    exact fun a ha=>(List.mem_append.mp ha).elim (c.own a) fun m=>(fb' a m).1
theorem tG {wi:WI} {g:WG} {tc:WT} {te:WE} {tn:Nat} {ix:List Nat} {σ:St} {H:Hp} {Qv:VK} (h:tpE K (qi wi g tc te tn ix) σ H Qv):uU (tpIb K wi) (tpG K g) (tpT K tc) (tpE K te) tn ix σ H Qv:=by
  obtain ⟨Hs,ρ,tot,Q,sr,h,f⟩:=h
  rw [uG]
  refine ⟨Hs,ρ,tot,_,sr,h,fun J H1 Hs1 ds g1 S hz q1 b hb=>?_⟩
  have st:CompI K H1 b [] [] [] H1 (vZ tn ix ρ) (j4 tn ix σ) (upd H1 b (.lst [])):=by
    refine ⟨Same.refl _,⟨mQ (jH (G:=H1) (sr.grow g1) _ ix) tn,⟨(Same.refl H1).upd hb,fun a xs e=>?_⟩,List.nodup_nil,fun a h=>nomatch h⟩,upd_same,hb,.nil,by simp,fun a h=>nomatch h⟩
    by_cases ha:a=b
    · subst ha; rw [upd_same] at e; cases e
    · rw [upd_ne ha] at e; exact e
  refine ⟨fun i m τ H2=>m=ds.length - i∧i≤ds.length∧∃ Hs2 ρ2 acc ys As,CompI K H1 b acc ys As Hs2 ρ2 τ H2∧acc.length≤i∧gm g tc te (ds.drop i) ρ2 (fun out=>Q (.ow true) (.list (acc++out))),
    ⟨ds.length,by simp,Nat.zero_le _,H1,_,[],[],[],st,Nat.le_refl _,by simpa using q1⟩,?_⟩
  rintro i m τ H2 ⟨rfl,hi,Hs2,ρ2,acc,ys,As,c,la,q2⟩
  by_cases hlt:i<ds.length
  · refine .inr ⟨S.go i Hs2 H2 c.sm c.sr.wf hlt,
      fun τ3 v H4=>∃ Hs4 ρ4 d,CompI K H1 b acc ys As Hs4 ρ4 τ3 H4∧(∃ As',CompI K H1 b (acc++[d]) (ys++[v]) As' Hs4 ρ4 τ3 (upd H4 b (.lst (ys++[v]))))∧gm g tc te (ds.drop (i+1)) ρ4 (fun out=>Q (.ow true) (.list (acc++d :: out))),
      fun τ3 H3=>∃ Hs3 ρ3,CompI K H1 b acc ys As Hs3 ρ3 τ3 H3∧gm g tc te (ds.drop (i+1)) ρ3 (fun out=>Q (.ow true) (.list (acc++out))),?_,?_,?_⟩
    · rintro τ3 v H4 ⟨Hs4,ρ4,d,c4,⟨As',c5⟩,q4⟩
      have lya:=c4.ra.length
      exact ⟨ys,ds.length - (i+1),c4.eD,by walk_at "l",by walk_at "l",rfl,hlt,Hs4,ρ4,acc++[d],ys++[v],As',c5,by rw [List.length_append]; simpa using la,by simpa using q4⟩
    · rintro τ3 H3 ⟨Hs3,ρ3,c3,q3⟩
      exact ⟨ds.length - (i+1),by walk_at "l",rfl,hlt,Hs3,ρ3,acc,ys,As,c3,by walk_at "l",q3⟩
    · intro x H3 y
      obtain ⟨Hs3,g3,rd⟩:=S.yld i Hs2 H2 x H3 ds[i] c.sm c.sr.wf (by simp [hlt]) y
      rw [List.drop_eq_getElem_cons hlt] at q2
      have c3:=c.grow g3
      refine ⟨Hs3,ρ2,[],ds[i],_,c3.sr,rd,q2,fun τ4 ρ4 tot4 sr4 m4 q4=>?_⟩
      have t4:tot4=[]:=List.eq_nil_iff_forall_not_mem.mpr fun a ha=>nomatch m4 a ha
      subst t4
      have c4:CompI K H1 b acc ys As Hs3 ρ4 τ4 H3:=⟨c3.sm,sr4,c3.eD,c3.nD,c3.ra,c3.nd,c3.own⟩
      refine ⟨Hs3,ρ4,[],_,sr4,q4,fun k H5 Hs5 g5 q5=>?_⟩
      have c5:=c4.grow g5
      cases k with
      | false=>exact ⟨Hs5,ρ4,c5,q5⟩
      | true =>
        refine ⟨Hs5,ρ4,[],_,c5.sr,q5,fun v H6 Hs6 m6 d6 As6 g6 r6 f6 q6=>?_⟩
        have c6:=c5.grow g6
        refine ⟨Hs6,ρ4,d6,c6,c6.push r6 q6.1 f6.1 fun a ha=>⟨(f6.2 a ha).1,fun m=>?_⟩,q6.2⟩
        rcases List.mem_cons.mp m with rfl | m
        · have:=(f6.2 _ ha).2
          rw [c5.eD] at this; cases this
        · exact (c5.ra.own a m).ne (f6.2 a ha).2
  · have e:i=ds.length:=by walk_at "l"
    subst e
    refine .inl ⟨S.stop Hs2 H2 c.sm c.sr.wf,?_⟩
    rw [List.drop_length] at q2
    have q2:Q (.ow true) (.list (acc++[])):=q2
    rw [List.append_nil] at q2
    have lya:=c.ra.length
    have rm:RM K Hs2 H2 (.ow true) (.list acc) (.ref b) (b :: As):=⟨.list (by walk_at "l") c.eD c.ra,by simp⟩
    obtain ⟨As',r',fr⟩:=oR g1.wf c.sm c.sr.wf rm c.nd fun a ha=>(List.mem_cons.mp ha).elim (fun z=>z ▸ c.nD) (c.own a)
    exact Fin.after f g1 (.ref b) H2 _ (.ow true) (.list acc) As' (eN g1.wf c.sm c.sr.wf) r' fr q2
theorem PTs.imp {ifs:List Expr} {t t':TT} (h:PTs X ifs t) (i:∀ σ H Q,t' σ H Q→t σ H Q):PTs X ifs t':=fun pins s σ H Q I q=>h pins s σ H Q I (i σ H Q q)
noncomputable abbrev QTs (X:Cx) (K:PySem.W.Frag) (ifs:List Expr) (t:WT):Prop:=PTs X ifs (tpT K t)
theorem tO:QTs X K [] wYes:=PTs.imp vQ fun σ H Qv hx=>ex4 hx fun Hs ρ tot Q sr h k=>k true H Hs (Grow.refl sr.wf) h
theorem vN {c:Expr} {t:WT} (h:QT X K c t):QTs X K [c] t:=xW h
theorem rY {tg iter elt:Expr} {ifs:List Expr} {scope:Scope} {pos:Pos} {wi:WI} {g:WG} {tc:WT} {te:WE} {tn cn:List Str} {ix:List Nat} (hc:X.calm=true) (hi:QIb X K tg iter wi) (O:eQ X scope tn cn ix)
    (hg:∀ C fp s₃ H₃,QG (bR X scope C (tn++cn) fp s₃ H₃) K tg g) (hcs:∀ C fp s₃ H₃,QTs (bR X scope C (tn++cn) fp s₃ H₃) K ifs tc) (he:∀ C fp s₃ H₃,QE (bR X scope C (tn++cn) fp s₃ H₃) K elt te)
    (hs:∀ x,foldedSetIterable iter X.env x=pure x:=by intro _; rfl):QE X K (.ListComp elt [⟨tg,iter,ifs,0⟩] scope pos) (qi wi g tc te tn.length ix) :=
  PE.imp (wu hc hi O hg hcs he hs) fun σ H Qv h=>tG h
end
theorem eZ {g:WG} {tc:WT} {te:WE} (p:D→Bool) (f:D→D) (Iv:Env→Prop):∀ (xs:List D) (ρ:Env) (k:List D→Prop),Iv ρ →
    (∀ x∈xs,∀ ρ,Iv ρ→∀ N1:Env→Prop,∀ N2:Env→D→Prop,(∀ ρ',Iv ρ'→p x=false→N1 ρ')→(∀ ρ',Iv ρ'→p x=true→N2 ρ' (f x))→g x ρ fun ρ1=>tc ρ1 fun b=>if b=true then te ρ1 fun m d=>okEl m d∧N2 ρ1 d else N1 ρ1) →
    k ((xs.filter p).map f)→gm g tc te xs ρ k
  | [],_,k,_,_,h=>h
  | x :: xs,ρ,k,iv,hs,h=>by
    refine hs x List.mem_cons_self ρ iv _ _ (fun ρ' iv' hp=>?_) (fun ρ' iv' hp=>?_)
    · exact eZ p f Iv xs ρ' k iv' (fun y hy=>hs y (List.mem_cons_of_mem _ hy)) (by simpa [hp] using h)
    · exact eZ p f Iv xs ρ' _ iv' (fun y hy=>hs y (List.mem_cons_of_mem _ hy)) (by simpa [hp] using h)
end L2.Q

set_option Elab.async false
set_option linter.all false
set_option maxRecDepth 100000
set_option maxHeartbeats 4000000

namespace L2.Q
open PySem PySem.Spec PyProof.Rows

noncomputable def Upd (K:PySem.W.Frag) (Hs H:Hp) (σ:St) (fl:Bool) (v:V) (up:Bool→D→Env) (As':List Addr):Prop:=∀ Hs2 H2 fl2 d2 As2,Same Hs Hs2→Wf Hs2 H2→(∀ a,Hs a=none→H a≠none→Hs2 a=none)→(fl2=true→fl=true) →
    RepO K Hs2 H2 fl2 d2 v As2→As2≠[]→As2.Nodup→(∀ a∈As2,Hs2 a=none∧(a∈As'∨H a=none))→(∀ a,H a≠none→a∉As'→H2 a=H a)→∃ tot2,SRel K Hs2 (up fl2 d2) σ H2 tot2
structure Place (K:PySem.W.Frag) (Hs H:Hp) (σ:St) (fl:Bool) (d:D) (v:V) (up:Bool→D→Env):Prop where
  ex:∃ As',RepO K Hs H fl d v As'∧As'≠[]∧As'.Nodup∧(∀ a∈As',Hs a=none)∧Upd K Hs H σ fl v up As'
theorem Upd.node {K:PySem.W.Frag} {Hs H Hs2 H2:Hp} {σ:St} {fl fl2:Bool} {up:Bool→D→Env} {a:Addr} {A C:List Addr} {o:HO} {d2:D} (k:Upd K Hs H σ fl (.ref a) up (a :: A)) (g:Grow Hs H Hs2 H2) (own:∀ x∈a :: A,Hs x=none∧H x≠none) (ho:∀ vs,o≠.tup vs) (hf:fl2=true→fl=true)
    (r:RepO K Hs2 (upd H2 a o) fl2 d2 (.ref a) (a :: C)) (nC:C.Nodup) (naC:a∉C) (hC:∀ x∈C,x∈A∨(Hs2 x=none∧H x=none)):∃ tot2,SRel K Hs2 (up fl2 d2) σ (upd H2 a o) tot2:=by
  have hn:∀ x∈a :: A,Hs2 x=none:=fun x hx=>g.hsn (own x hx).1 (own x hx).2
  refine k Hs2 _ fl2 d2 (a :: C) g.sh (vg g.wf (hn a List.mem_cons_self) ho) (fun b h1 h2=>g.hsn h1 h2) hf r (List.cons_ne_nil _ _) (List.nodup_cons.mpr ⟨naC,nC⟩) (fun b hb=>?_) fun b h1 h2=>?_
  · rcases List.mem_cons.mp hb with rfl | hb
    · exact ⟨hn _ List.mem_cons_self,.inl List.mem_cons_self⟩
    · exact (hC b hb).elim (fun q=>⟨hn b (List.mem_cons_of_mem _ q),.inl (List.mem_cons_of_mem _ q)⟩) fun q=>⟨q.1,.inr q.2⟩
  · rw [upd_ne fun z=>h2 (by subst z; exact List.mem_cons_self)]
    cases q:H b with
    | none=>exact absurd q h1
    | some o=>exact g.all b o q
noncomputable abbrev WP:=Env→(Bool→D→(Bool→D→Env)→Prop)→Prop
noncomputable def tpP (K:PySem.W.Frag) (t:WP):TE:=fun σ H Qv=>∃ Hs ρ tot Q,SRel K Hs ρ σ H tot∧t ρ Q∧∀ v H' Hs' fl d up,Grow Hs H Hs' H'→Place K Hs' H' σ fl d v up→Q fl d up→Qv v H'
noncomputable abbrev QP (X:Cx) (K:PySem.W.Frag) (e:Expr) (t:WP):Prop:=PE X e (tpP K t)
section
variable {K:PySem.W.Frag} {Hs H Hs' H':Hp} {σ:St} {fl:Bool} {d:D} {v:V} {up:Bool→D→Env}
theorem RepO.ne2:(∀ {d:D} {v:V} {As:List Addr},RepO K Hs H true d v As→d.flat=false→As≠[])∧∀ {ds:List D} {vs:List V} {As:List Addr},aF K Hs H true ds vs As→flats ds=false→As≠[] :=
  RepO.ind (m1:=fun d _ As=>d.flat=false→As≠[]) (m2:=fun ds _ As=>flats ds=false→As≠[]) (fun _ _ f _ h=>by rw [f rfl] at h; cases h) (fun _ _ _ _ _ _ _ _ _=>List.cons_ne_nil _ _) (fun _ _ _ _ _ _ n _ ih _=>ih n) (fun _ _ _ _ _ _ _ _ _=>List.cons_ne_nil _ _) (fun _ _ _ _ _ _ _ _ _=>List.cons_ne_nil _ _)
    (fun h=>by simp [flats] at h) fun d _ _ _ _ _ _ _ i1 i2 h=>by
      cases e:d.flat with
      | false=>exact fun z=>i1 e (List.append_eq_nil_iff.mp z).1
      | true =>
        simp only [flats,e,Bool.true_and] at h
        exact fun z=>i2 h (List.append_eq_nil_iff.mp z).2
theorem RepO.ne {d:D} {v:V} {As:List Addr} (r:RepO K Hs H true d v As) (h:d.flat=false):As≠[]:=RepO.ne2.1 r h
noncomputable def wpN (i:Nat):WP:=fun ρ Q=>match ρ[i]? with
  | some (some (.ow fl d))=>Q fl d fun fl2 d2=>ρ.set i (some (.ow fl2 d2))
  | _=>False
theorem SR.put {Hs H:Hp} {fl:Bool} {d:D} {ρ:Env} {σ:St} {tot:List Addr} (i:Nat) (s:SR K Hs H ρ σ tot):ρ[i]? = some (some (.ow fl d))→tot.Nodup →
    ∃ (v:V) (As tot':List Addr),σ[i]? = some (some v)∧As≠[]∧RepO K Hs H fl d v As∧As.Sublist tot∧∀ Hs2 H2 fl2 d2 As2,Same Hs Hs2→RepO K Hs2 H2 fl2 d2 v As2→As2≠[]→As2.Nodup→(∀ a∈As2,a∈tot→a∈As)→(∀ a∈tot,a∉As→H2 a=H a) →
      ∃ tot2,tot2.Nodup∧(∀ a∈tot2,a∈tot∨a∈As2)∧SR K Hs2 H2 (ρ.set i (some (.ow fl2 d2))) σ tot2:=by
  induction s generalizing i with
  | nil=>intro e; simp at e
  | @non ρ σ tot o q ih =>
    intro e n
    cases i with
    | zero=>simp at e
    | succ i =>
      obtain ⟨v,As,t,a,b,c,d,g⟩:=ih i (by simpa using e) n
      refine ⟨v,As,t,by simpa using a,b,c,d,fun Hs2 H2 fl2 d2 As2 s2 r2 ne2 nd2 dj st=>?_⟩
      obtain ⟨t2,x,y,z⟩:=g Hs2 H2 fl2 d2 As2 s2 r2 ne2 nd2 dj st
      exact ⟨t2,x,y,.non z⟩
  | sh r q ih =>
    intro e n
    cases i with
    | zero=>simp at e
    | succ i =>
      obtain ⟨v,As,t,a,b,c,d,g⟩:=ih i (by simpa using e) n
      refine ⟨v,As,t,by simpa using a,b,c,d,fun Hs2 H2 fl2 d2 As2 s2 r2 ne2 nd2 dj st=>?_⟩
      obtain ⟨t2,x,y,z⟩:=g Hs2 H2 fl2 d2 As2 s2 r2 ne2 nd2 dj st
      exact ⟨t2,x,y,.sh (r.same s2) z⟩
  | xc q ih =>
    intro e n
    cases i with
    | zero=>simp at e
    | succ i =>
      obtain ⟨v,As,t,a,b,c,d,g⟩:=ih i (by simpa using e) n
      refine ⟨v,As,t,by simpa using a,b,c,d,fun Hs2 H2 fl2 d2 As2 s2 r2 ne2 nd2 dj st=>?_⟩
      obtain ⟨t2,x,y,z⟩:=g Hs2 H2 fl2 d2 As2 s2 r2 ne2 nd2 dj st
      exact ⟨t2,x,y,.xc z⟩
  | @ow ρ σ t2 B fl0 d0 v ne r q ih =>
    intro e n
    obtain ⟨n1,n2,n3⟩:=List.nodup_append.mp n
    cases i with
    | zero =>
      simp at e
      obtain ⟨rfl,rfl⟩:=e
      refine ⟨v,B,t2,rfl,ne,r,List.sublist_append_left _ _,fun Hs2 H2 fl2 d2 As2 s2 r2 ne2 nd2 dj st=>⟨As2++t2,List.nodup_append.mpr ⟨nd2,n2,fun a ha b hb e=>?_⟩,fun a h=>?_,.ow ne2 r2 (q.stay s2 fun a h=>st a (List.mem_append_right _ h) fun z=>n3 a z a h rfl)⟩⟩
      · subst e
        exact n3 a (dj a ha (List.mem_append_right _ hb)) a hb rfl
      · exact (List.mem_append.mp h).symm.imp (fun z=>List.mem_append_right _ z) id
    | succ i =>
      obtain ⟨v,As,t,a,b,c,d,g⟩:=ih i (by simpa using e) n2
      have hB:∀ x∈B,x∉As:=fun x hx m=>n3 x hx x (d.subset m) rfl
      refine ⟨v,As,B++t,by simpa using a,b,c,d.trans (List.sublist_append_right _ _),fun Hs2 H2 fl2 d2 As2 s2 r2 ne2 nd2 dj st=>?_⟩
      obtain ⟨t2,x,y,z⟩:=g Hs2 H2 fl2 d2 As2 s2 r2 ne2 nd2 (fun a ha m=>dj a ha (List.mem_append_right _ m)) fun a ha m=>st a (List.mem_append_right _ ha) m
      refine ⟨B++t2,List.nodup_append.mpr ⟨n1,x,fun a ha b hb e=>?_⟩,fun a h=>?_,.ow ne (r.stay s2 fun a h=>st a (List.mem_append_left _ h) (hB a h)) z⟩
      · subst e
        rcases y a hb with w | w
        · exact n3 a ha a w rfl
        · exact hB a ha (dj a w (List.mem_append_left _ ha))
      · rcases List.mem_append.mp h with w | w
        · exact .inl (List.mem_append_left _ w)
        · exact (y a w).imp (fun w=>List.mem_append_right _ w) id
  | @lk ρ σ t2 B a0 fl0 d0 ne r q ih =>
    intro e n
    obtain ⟨n1,n2,n3⟩:=List.nodup_append.mp n
    cases i with
    | zero=>simp at e
    | succ i =>
      obtain ⟨v,As,t,a,b,c,d,g⟩:=ih i (by simpa using e) n2
      have hB:∀ x∈B,x∉As:=fun x hx m=>n3 x hx x (d.subset m) rfl
      refine ⟨v,As,B++t,by simpa using a,b,c,d.trans (List.sublist_append_right _ _),fun Hs2 H2 fl2 d2 As2 s2 r2 ne2 nd2 dj st=>?_⟩
      obtain ⟨t2,x,y,z⟩:=g Hs2 H2 fl2 d2 As2 s2 r2 ne2 nd2 (fun a ha m=>dj a ha (List.mem_append_right _ m)) fun a ha m=>st a (List.mem_append_right _ ha) m
      refine ⟨B++t2,List.nodup_append.mpr ⟨n1,x,fun a ha b hb e=>?_⟩,fun a h=>?_,.lk ne (r.stay s2 fun a h=>st a (List.mem_append_left _ h) (hB a h)) z⟩
      · subst e
        rcases y a hb with w | w
        · exact n3 a ha a w rfl
        · exact hB a ha (dj a w (List.mem_append_left _ ha))
      · rcases List.mem_append.mp h with w | w
        · exact .inl (List.mem_append_left _ w)
        · exact (y a w).imp (fun w=>List.mem_append_right _ w) id
theorem tM {X:Cx} {i:Nat} {e:Expr} (h:PE X e (tVar i)):QP X K e (wpN i):=PE.imp h fun σ H Qv hx=>ex4 hx fun Hs ρ tot Q sr h f=>by
  unfold wpN at h
  split at h
  · rename_i fl d e1
    obtain ⟨v,As,t,e2,ne,r,sb,g⟩:=SR.put i sr.sr e1 sr.nod
    refine ⟨v,e2,f v H Hs fl d _ (Grow.refl sr.wf) ⟨As,r,ne,sb.nodup sr.nod,fun a h=>sr.own a (sb.subset h),fun Hs2 H2 fl2 d2 As2 s2 w2 n2 _ r2 ne2 nd2 o2 st=>?_⟩ h⟩
    obtain ⟨t2,x,y,z⟩:=g Hs2 H2 fl2 d2 As2 s2 r2 ne2 nd2 (fun a ha m=>(o2 a ha).2.elim id fun q=>absurd q (sr.sr.own a m).ne) fun a ha m=>st a (sr.sr.own a ha).ne m
    exact ⟨t2,z,w2,x,fun a h=>(y a h).elim (fun q=>n2 a (sr.own a q) (sr.sr.own a q).ne) fun q=>(o2 a q).1⟩
  · exact h.elim
theorem RepO.wk {fl fl2:Bool} {d:D} {v:V} {As:List Addr} (h:fl2=true→fl=true) (r:RepO K Hs H fl d v As):RepO K Hs H fl2 d v As:=by
  cases fl2 with
  | false=>exact r.fls
  | true=>rw [h rfl] at r; exact r
theorem aF.wk {fl fl2:Bool} {d:List D} {v:List V} {As:List Addr} (h:fl2=true→fl=true) (r:aF K Hs H fl d v As):aF K Hs H fl2 d v As:=by
  cases fl2 with
  | false=>exact r.fls
  | true=>rw [h rfl] at r; exact r
theorem aF.at {fl:Bool} {ds:List D} {vs:List V} {As:List Addr} {j:Nat} {d:D} (r:aF K Hs H fl ds vs As) (e:ds[j]? = some d) (n:As.Nodup) :
    ∃ (v:V) (B:List Addr),vs[j]? = some v∧RepO K Hs H fl d v B∧B.Sublist As∧∀ Hs2 H2 fl2 d2 B2,Same Hs Hs2→(fl2=true→fl=true)→RepO K Hs2 H2 fl2 d2 v B2→B2.Nodup→(∀ a∈B2,a∈As→a∈B)→(∀ a∈As,a∉B→H2 a=H a) →
      ∃ As2,As2.Nodup∧(∀ a∈As2,(a∈As∧a∉B)∨a∈B2)∧(B2≠[]→As2≠[])∧aF K Hs2 H2 fl2 (ds.set j d2) vs As2:=by
  induction ds generalizing vs As j with
  | nil=>simp at e
  | cons x ds ih =>
    obtain ⟨v,us,A,B,rfl,rfl,r,rs⟩:=r.c
    obtain ⟨n1,n2,n3⟩:=List.nodup_append.mp n
    cases j with
    | zero =>
      simp at e
      subst e
      refine ⟨v,A,rfl,r,List.sublist_append_left _ _,fun Hs2 H2 fl2 d2 B2 s2 hf r2 nd2 dj st=>⟨B2++B,List.nodup_append.mpr ⟨nd2,n2,fun a ha b hb e=>?_⟩,fun a h=>?_,fun ne z=>ne (List.append_eq_nil_iff.mp z).1,.cons r2 ((rs.wk hf).stay s2 fun a h=>st a (List.mem_append_right _ h) fun z=>n3 a z a h rfl)⟩⟩
      · subst e
        exact n3 a (dj a ha (List.mem_append_right _ hb)) a hb rfl
      · rcases List.mem_append.mp h with w | w
        · exact .inr w
        · exact .inl ⟨List.mem_append_right _ w,fun z=>n3 a z a w rfl⟩
    | succ j =>
      obtain ⟨v,C,a,b,c,g⟩:=ih (j:=j) rs (by simpa using e) n2
      have hA:∀ x∈A,x∉C:=fun x hx m=>n3 x hx x (c.subset m) rfl
      refine ⟨v,C,by simpa using a,b,c.trans (List.sublist_append_right _ _),fun Hs2 H2 fl2 d2 B2 s2 hf r2 nd2 dj st=>?_⟩
      obtain ⟨As2,x,y,w,z⟩:=g Hs2 H2 fl2 d2 B2 s2 hf r2 nd2 (fun a ha m=>dj a ha (List.mem_append_right _ m)) fun a ha m=>st a (List.mem_append_right _ ha) m
      refine ⟨A++As2,List.nodup_append.mpr ⟨n1,x,fun a ha b hb e=>?_⟩,fun a h=>?_,fun ne q=>w ne (List.append_eq_nil_iff.mp q).2,.cons ((r.wk hf).stay s2 fun a h=>st a (List.mem_append_left _ h) (hA a h)) z⟩
      · subst e
        rcases y a hb with q | q
        · exact n3 a ha a q.1 rfl
        · exact hA a ha (dj a q (List.mem_append_left _ ha))
      · rcases List.mem_append.mp h with q | q
        · exact .inl ⟨List.mem_append_left _ q,hA a q⟩
        · exact (y a q).imp (fun q=>⟨List.mem_append_right _ q.1,q.2⟩) id
theorem yh {α:Type} {xs:List α} {i:Int} {x:α} (h:atI xs i=some x):∃ j,ixN xs.length i=some j∧xs[j]? = some x:=by
  unfold L2.atI at h
  cases e:ixN xs.length i with
  | none=>rw [e] at h; cases h
  | some j=>rw [e] at h; exact ⟨j,rfl,h⟩
theorem zY {α:Type} {xs:List α} {i:Int} {j:Nat} {x:α} (h:ixN xs.length i=some j) (e:xs[j]? = some x):atI xs i=some x:=by unfold L2.atI; rw [h]; exact e
end

section
variable {X:Cx} {K:PySem.W.Frag} {e:Expr} {p:WP} {te:WE} {apos cpos pos:Pos}
noncomputable def jO (fl:Bool) (m:Md) (d:D):Option Bool:=match m with
  | .sh=>some (fl && d.flat)
  | .ow b=>some (fl && b)
  | .bo=>bif d.flat then some fl else none
noncomputable def wApp (p:WP) (te:WE):WS:=fun E ρ=>p ρ fun fl d up=>match d with
  | .list xs=>te ρ fun m x=>xs.length<sizeLine∧match jO fl m x with
    | some fl2=>E.nx (up fl2 (.list (xs++[x])))
    | none=>False
  | _=>False
theorem uD {Hs H:Hp} {fl fl2:Bool} {m:Md} {d:D} {v:V} {As:List Addr} (w:Wf Hs H) (r:RM K Hs H m d v As) (h:jO fl m d=some fl2):(fl2=true→fl=true)∧∃ B,B.Sublist As∧RepO K Hs H fl2 d v B:=by
  cases m with
  | sh =>
    cases h
    exact ⟨fun z=>by cases fl <;> simp_all,[],List.nil_sublist _,.sh (fun z=>by cases fl <;> simp_all) r.2⟩
  | ow b =>
    cases h
    refine ⟨fun z=>by cases fl <;> simp_all,As,List.Sublist.refl _,r.1.wk fun z=>by cases fl <;> simp_all⟩
  | bo =>
    cases hf:d.flat with
    | true =>
      simp only [jO,hf,cond_true,Option.some.injEq] at h
      subst h
      exact ⟨id,[],List.nil_sublist _,.sh (fun _=>hf) (r.flat w hf)⟩
    | false=>simp [jO,hf] at h
theorem Place.put {Hs1 H1 Hs2 H2:Hp} {σ:St} {fl:Bool} {xs:List D} {v:V} {up:Bool→D→Env} (pl:Place K Hs1 H1 σ fl (.list xs) v up) (g:Grow Hs1 H1 Hs2 H2) :
    ∃ a vs A,v=.ref a∧H2 a=some (.lst vs)∧H1 a=some (.lst vs)∧aF K Hs2 H2 fl xs vs A∧(a :: A).Nodup∧(∀ x∈a :: A,Hs2 x=none∧H1 x≠none) ∧
      ∀ fl2 ys ws C,(fl2=true→fl=true)→aF K Hs2 H2 fl2 ys ws C→ws.length≤sizeLine→C.Nodup→a∉C→(∀ x∈C,x∈A∨(Hs2 x=none∧H1 x=none))→∃ tot2,SRel K Hs2 (up fl2 (.list ys)) σ (upd H2 a (.lst ws)) tot2:=by
  obtain ⟨As',r,ne,nd,own,k⟩:=pl.ex
  cases r with
  | sh hf _=>exact absurd rfl ne
  | @list a vs _ A hz e rs =>
    have e2:=g.all _ _ e
    have rs2:=rs.grow g.sh g.all
    have hw:∀ x∈a :: A,Hs1 x=none∧H1 x≠none:=fun x hx=>⟨own x hx,by
      rcases List.mem_cons.mp hx with rfl | hx
      · rw [e]; exact fun z=>nomatch z
      · exact (rs.own x hx).ne⟩
    exact ⟨a,vs,A,rfl,e2,e,rs2,nd,fun x hx=>⟨g.hsn (hw x hx).1 (hw x hx).2,(hw x hx).2⟩,fun fl2 ys ws C hf rw' hz ndC naC hC=>k.node g hw (fun _ z=>by cases z) hf (.list hz upd_same (rw'.stay (Same.refl _) fun b hb=>upd_ne fun z=>naC (by subst z; exact hb))) ndC naC hC⟩
theorem Place.isL {Hs1 H1:Hp} {σ:St} {fl:Bool} {xs:List D} {v:V} {up:Bool→D→Env} (w:Wf Hs1 H1) (pl:Place K Hs1 H1 σ fl (.list xs) v up):∃ a vs,v=.ref a∧SqL K H1 a vs:=by
  obtain ⟨As',r,ne,nd,own,k⟩:=pl.ex
  cases r with
  | sh hf _=>exact absurd rfl ne
  | list hz e rs=>exact ⟨_,_,rfl,.inl (.inl e)⟩
theorem vJ (ho:QP X K e p) {e2:Expr} (he:QE X K e2 te) (hK:X.K=K:=by rfl) (hs:swapsWith (.Call (.Attribute e "append" apos) [e2] [] cpos) none pos.line X.env=pure false:=by rfl)
    (hbase:attributeBase e "append" X.env (eval e X.env)=eval e X.env:=by rfl)
    (hfew:((backTo cpos (starEach [e2] X.env)).all (fun x=>!x.1) && (backToKw cpos (keywordEach [] X.env)).all (fun x=>x.1.isSome)
      && decide ([e2].length+([]:List Keyword).length+(if ([]:List Keyword).isEmpty then 0 else 1)<30))=true:=by rfl)
    (hline:(apos.endLine == cpos.line)=true:=by rfl) (hss:starEach (e2 :: []) X.env=(false,eval e2 X.env) :: starEach [] X.env:=by rfl) (hplain:(backTo cpos (starEach [] X.env)).any (·.1)=false:=by rfl) :
    QS X K L (.Expr (.Call (.Attribute e "append" apos) [e2] [] cpos) pos) (wApp p te):=by
  subst hK
  refine PS.imp (ps_expr (pe_bm PySem.F.plainAttrs_list PySem.F.slot_list_append PySem.F.type_list_append mt_append ho (pa_cons he pa_nil hss) hbase hfew hline hss hplain) hs) fun D σ H hx=>iZ hx fun Hs ρ tot E sr h k1 k2 k3 k4=>?_
  refine ⟨Hs,ρ,tot,_,sr,h,fun v H1 Hs1 fl d up g1 p1 q1=>?_⟩
  cases d with
  | list xs =>
    obtain ⟨a1,vs1,e1,s1⟩:=p1.isL g1.wf
    subst e1
    refine ⟨.inl ⟨rfl,_,s1⟩,Hs1,ρ,tot,_,sr.grow g1,q1,fun y H2 Hs2 m x As g2 r2 f2 q2=>?_⟩
    obtain ⟨hz,q2⟩:=q2
    obtain ⟨a,vs,A,ea,e2,_,rs,nd,hn,k⟩:=p1.put g2
    cases ea
    have hl:=rs.length
    refine ⟨a1,vs,y,rfl,rfl,e2,by walk_at "l",?_⟩
    cases hp:jO fl m x with
    | none=>rw [hp] at q2; exact q2.elim
    | some fl2 =>
      rw [hp] at q2
      obtain ⟨hf,B,sb,rb⟩:=uD g2.wf r2 hp
      obtain ⟨na,nA⟩:=List.nodup_cons.mp nd
      have fB:∀ x∈B,Hs2 x=none∧H1 x=none:=fun x hx=>f2.2 x (sb.subset hx)
      have c1:(A++(B++[])).Nodup:=by
        rw [List.append_nil]
        exact List.nodup_append.mpr ⟨nA,sb.nodup f2.1,fun x hx z hz e=>by subst e; exact (hn x (List.mem_cons_of_mem _ hx)).2 (fB x hz).2⟩
      have c2:a1∉A++(B++[]):=by
        rw [List.append_nil]
        intro m
        rcases List.mem_append.mp m with m | m
        · exact na m
        · exact (hn _ List.mem_cons_self).2 (fB _ m).2
      have c3:∀ x∈A++(B++[]),x∈A∨(Hs2 x=none∧H1 x=none):=by
        rw [List.append_nil]
        intro x hx
        exact (List.mem_append.mp hx).imp id fun z=>fB x z
      obtain ⟨tot2,sr2⟩:=k fl2 (xs++[x]) (vs++[y]) (A++(B++[])) hf ((rs.wk hf).append (.cons rb .nil)) (by rw [List.length_append]; simp; walk_at "l") c1 c2 c3
      exact k1 σ _ Hs2 _ tot2 (g1.sh.trans g2.sh) sr2 q2
  | _=>exact q1.elim
section
variable {κ:Type} [DecidableEq κ]
theorem u5 {β:Type} {kvs:List (κ × β)} {k:κ} {v:β} {p:κ × β} (h:p∈putG kvs k v):p.1=k∨p.1∈kvs.map (·.1):=by
  unfold putG at h
  split at h
  · obtain ⟨q,hq,e⟩:=List.mem_map.mp h
    by_cases hk:q.1=k
    · rw [if_pos hk] at e; subst e; exact .inl hk
    · rw [if_neg hk] at e; subst e; exact .inr (List.mem_map.mpr ⟨q,hq,rfl⟩)
  · rcases List.mem_append.mp h with h | h
    · exact .inr (List.mem_map.mpr ⟨p,h,rfl⟩)
    · have:p=(k,v):=by simpa using h
      subst this; exact .inl rfl
end
end
end L2.Q

set_option Elab.async false
set_option linter.all false
set_option maxRecDepth 100000
set_option maxHeartbeats 4000000

namespace L2.Q
open PySem PySem.Spec PyProof.Rows

noncomputable abbrev WJ:=Env→Str→(Str→Prop)→Prop
section
variable {X:Cx} {K:PySem.W.Frag} {e v₁ v₂:Expr} {es rest:List Expr} {te:WE} {j:WJ} {pos:Pos}
noncomputable def Ax:List D→Option (List Str)
  | []=>some []
  | .str x :: xs=>(Ax xs).map (x :: ·)
  | _ :: _=>none
noncomputable def keyT (k:List Key):D:=.tup (k.map keyD)
noncomputable def vz:W1:=fun _ x Q=>match x with
  | .list xs=>∃ ks sh,xs=ks.map keyT∧ks.length≤63∧(∀ k∈ks,shOf k=true :: sh)∧∀ ms:List (List Key),ms.Perm ks→(ms.Pairwise fun a b=>ltK b a=false)→Q (.ow true) (.list (ms.map keyT))
  | _=>False
theorem t_ {H:Hp} {ks:List Key} {vs:List V} (r:Reps K H (ks.map keyD) vs):vs=ks.map kV∧∀ k∈ks,kOk k=true:=by
  induction ks generalizing vs with
  | nil=>exact ⟨r.n0,fun k h=>nomatch h⟩
  | cons k ks ih =>
    obtain ⟨u,us,rfl,r1,rs⟩:=Reps.c (d:=keyD k) r
    obtain ⟨e,o⟩:=ih rs
    subst e
    cases k with
    | inl i=>cases r1; exact ⟨rfl,fun j hj=>by rcases List.mem_cons.mp hj with rfl | hj; rfl; exact o j hj⟩
    | inr x =>
      cases r1 with
      | str hz=>exact ⟨rfl,fun j hj=>by rcases List.mem_cons.mp hj with rfl | hj; simp [kOk,hz]; exact o j hj⟩
theorem sV {H:Hp} {ks:List (List Key)} {vs:List V} (r:Reps K H (ks.map keyT) vs):b8 H vs ks∧∀ k∈ks,k.length≤sizeLine∧∀ j∈k,kOk j=true:=by
  induction ks generalizing vs with
  | nil=>rw [r.n0]; exact ⟨.nil,fun k h=>nomatch h⟩
  | cons k ks ih =>
    obtain ⟨u,us,rfl,r1,rs⟩:=Reps.c (d:=keyT k) r
    obtain ⟨t,o⟩:=ih rs
    cases r1 with
    | tup hz e q =>
      obtain ⟨e2,o2⟩:=t_ q
      subst e2
      exact ⟨.cons ⟨_,rfl,e⟩ t,fun j hj=>by
        rcases List.mem_cons.mp hj with rfl | hj
        · exact ⟨by simpa using hz,o2⟩
        · exact o j hj⟩
theorem u_:BrC K (pK K) vz:=by
  intro Hs H m x v As Qd Qv w rx h f
  have r1:=rx.rep w
  cases r1 with
  | list z s q =>
    obtain ⟨ks,sh,rfl,h63,hs,h⟩:=h
    obtain ⟨ta,ok⟩:=sV q
    have hl:=q.length
    rw [List.length_map] at hl
    refine ⟨_,ks,sh,s,by walk_at "l",ta,hs,fun zs ms l tz pm pw hl'=>?_⟩
    have rr:=lg (K:=K) tz fun k hk=>ok k (pm.mem_iff.mp hk)
    exact f.lst w (by rw [List.length_map,pm.length_eq]; walk_at "l") rr (eX ms) (h ms pm pw) l hl'
  | _=>exact h.elim
theorem ym (hK:X.K=K:=by rfl):CallR X (.builtin "sorted") (pK K):=by subst hK; exact qF
theorem iu:bootBuiltins "sorted" = some (.builtin "sorted"):=by decide +kernel
end
end L2.Q

set_option Elab.async false
set_option linter.all false
set_option maxRecDepth 100000
set_option maxHeartbeats 4000000

namespace L2.Q
open PySem PySem.Spec PyProof.Rows

noncomputable def shF (A:List Addr) (F:Nat→List Addr):Nat→List Addr
  | 0=>A
  | i+1=>F i
noncomputable def Adr (K:PySem.W.Frag) (Hs H:Hp) (ρ:Env) (σ:St) (tot:List Addr) (F:Nat→List Addr):Prop:=(∀ i fl d,ρ[i]? = some (some (.ow fl d))→∃ v,σ[i]? = some (some v)∧F i≠[]∧RepO K Hs H fl d v (F i)) ∧
    (∀ i,(F i).Sublist tot)∧∀ i j,i≠j→∀ a∈F i,a∉F j
theorem Adr.skip {K:PySem.W.Frag} {Hs H:Hp} {ρ:Env} {σ:St} {tot:List Addr} {F:Nat→List Addr} {o:Option Sl} {u:Option V} (h:Adr K Hs H ρ σ tot F) (no:∀ fl d,o≠some (.ow fl d)):Adr K Hs H (o :: ρ) (u :: σ) tot (shF [] F):=by
  obtain ⟨a,b,c⟩:=h
  refine ⟨fun i fl d e=>?_,fun i=>?_,fun i j ne x hx=>?_⟩
  · cases i with
    | zero=>simp at e; exact absurd e (no fl d)
    | succ i=>exact a i fl d (by simpa using e)
  · cases i with
    | zero=>exact List.nil_sublist _
    | succ i=>exact b i
  · cases i with
    | zero=>exact mem0 hx
    | succ i =>
      cases j with
      | zero=>exact fun z=>mem0 z
      | succ j=>exact c i j (fun z=>ne (by rw [z])) x hx
theorem Adr.own {K:PySem.W.Frag} {Hs H:Hp} {ρ:Env} {σ:St} {tot B:List Addr} {F:Nat→List Addr} {sl:Sl} {v:V} (h:Adr K Hs H ρ σ tot F) (n:(B++tot).Nodup) (hs:∀ fl d,sl=.ow fl d→B≠[]∧RepO K Hs H fl d v B):Adr K Hs H (some sl :: ρ) (some v :: σ) (B++tot) (shF B F):=by
  obtain ⟨a,b,c⟩:=h
  obtain ⟨n1,n2,n3⟩:=List.nodup_append.mp n
  refine ⟨fun i fl d e=>?_,fun i=>?_,fun i j ne x hx=>?_⟩
  · cases i with
    | zero=>simp at e; exact ⟨v,rfl,hs fl d e⟩
    | succ i=>exact a i fl d (by simpa using e)
  · cases i with
    | zero=>exact List.sublist_append_left _ _
    | succ i=>exact (b i).trans (List.sublist_append_right _ _)
  · cases i with
    | zero =>
      cases j with
      | zero=>exact absurd rfl ne
      | succ j=>exact fun z=>n3 x hx x ((b j).subset z) rfl
    | succ i =>
      cases j with
      | zero=>exact fun z=>n3 x z x ((b i).subset hx) rfl
      | succ j=>exact c i j (fun z=>ne (by rw [z])) x hx
theorem SR.addrs {K:PySem.W.Frag} {Hs H:Hp} {ρ:Env} {σ:St} {tot:List Addr} (s:SR K Hs H ρ σ tot):tot.Nodup→∃ F:Nat→List Addr,Adr K Hs H ρ σ tot F:=by
  induction s with
  | nil=>exact fun _=>⟨fun _=>[],fun i fl d e=>by simp at e,fun i=>List.nil_sublist _,fun i j _ a h=>mem0 h⟩
  | non s ih =>
    intro n
    obtain ⟨F,h⟩:=ih n
    exact ⟨_,h.skip fun fl d z=>by cases z⟩
  | sh r s ih =>
    intro n
    obtain ⟨F,h⟩:=ih n
    exact ⟨_,h.skip fun fl d z=>by cases z⟩
  | xc s ih =>
    intro n
    obtain ⟨F,h⟩:=ih n
    exact ⟨_,h.skip fun fl d z=>by cases z⟩
  | ow ne r s ih =>
    intro n
    obtain ⟨F,h⟩:=ih (List.nodup_append.mp n).2.1
    exact ⟨_,h.own n fun fl d e=>by cases e; exact ⟨ne,r⟩⟩
  | lk ne r s ih =>
    intro n
    obtain ⟨F,h⟩:=ih (List.nodup_append.mp n).2.1
    exact ⟨_,h.own n fun fl d e=>by cases e⟩
noncomputable abbrev Plan:=List (WE ⊕ Nat)
noncomputable def mvs:Plan→List Nat
  | []=>[]
  | .inl _ :: r=>mvs r
  | .inr i :: r=>i :: mvs r
noncomputable def movS:Option (Option Sl)→Option (Md × D)
  | some (some (.sh d))=>some (.sh,d)
  | some (some (.ow fl d))=>some (.ow fl,d)
  | _=>none
noncomputable def iY:Plan→Env→(List (Md × D)→Prop)→Prop
  | [],_,Q=>Q []
  | .inl t :: r,ρ,Q=>t ρ fun m x=>iY r ρ fun ps=>Q ((m,x) :: ps)
  | .inr i :: r,ρ,Q=>match movS ρ[i]? with
    | some p=>iY r ρ fun ps=>Q (p :: ps)
    | none=>False
noncomputable def tpM (K:PySem.W.Frag) (pl:Plan):TA:=fun σ H Qv=>∃ (Hs:Hp) (ρ:Env) (tot:List Addr) (F:Nat→List Addr) (Q:List (Md × D)→Prop),SRel K Hs ρ σ H tot∧(∀ i fl d,ρ[i]? = some (some (.ow fl d))→∃ v,σ[i]? = some (some v)∧F i≠[]∧RepO K Hs H fl d v (F i))∧(∀ i,(F i).Sublist tot)∧(∀ i j,i≠j→∀ a∈F i,a∉F j) ∧
  iY pl ρ Q∧∀ vs H' Hs' ps As,Grow Hs H Hs' H'→RMs K Hs' H' ps vs As→As.Nodup→(∀ a∈As,Hs' a=none∧(H a=none∨∃ i∈mvs pl,a∈F i))→Q ps→Qv vs H'
noncomputable abbrev QM (X:Cx) (K:PySem.W.Frag) (es:List Expr) (pl:Plan):Prop:=PA X es (tpM K pl)
section
variable {X:Cx} {K:PySem.W.Frag} {e:Expr} {es:List Expr} {te:WE} {pl:Plan} {pos:Pos}
theorem zu:QM X K [] []:=PA.imp pa_nil fun σ H Qv hx=>by
  obtain ⟨Hs,ρ,tot,F,Q,sr,h1,h2,h3,h,f⟩:=hx
  exact f [] H Hs [] [] (Grow.refl sr.wf) .nil List.nodup_nil (fun a h=>mem0 h) h
theorem qm_e (ha:QE X K e te) (hr:QM X K es pl) (hs:starEach (e :: es) X.env=(false,eval e X.env) :: starEach es X.env:=by rfl):QM X K (e :: es) (.inl te :: pl):=by
  refine PA.imp (pa_cons ha hr hs) fun σ H Qv hx9=>?_
  obtain ⟨Hs,ρ,tot,F,Q,sr,h1,h2,h3,h,f⟩:=hx9
  refine ⟨Hs,ρ,tot,_,sr,h,fun v H1 Hs1 m x As g1 r1 f1 q1=>⟨Hs1,ρ,tot,F,_,sr.grow g1,(fun i fl d e=>?_),h2,h3,q1,fun vs H2 Hs2 ps Bs g2 r2 nd2 o2 q2=>?_⟩⟩
  · obtain ⟨v,a,b,c⟩:=h1 i fl d e
    exact ⟨v,a,b,c.grow g1.sh g1.all⟩
  · refine f (v :: vs) H2 Hs2 _ _ (g1.trans g2) (.cons (r1.grow g2) r2) (List.nodup_append.mpr ⟨f1.1,nd2,fun a ha b hb e=>?_⟩) (fun a ha=>?_) q2
    · subst e
      rcases (o2 a hb).2 with z | ⟨i,_,z⟩
      · exact (r1.own a ha).ne z
      · exact (sr.sr.own a ((h2 i).subset z)).ne (f1.2 a ha).2
    · rcases List.mem_append.mp ha with z | z
      · exact ⟨g2.hsn (f1.2 a z).1 (r1.own a z).ne,.inl (f1.2 a z).2⟩
      · exact ⟨(o2 a z).1,(o2 a z).2.imp g1.all.free id⟩
theorem qm_v {i:Nat} (ha:PE X e (tVar i)) (hr:QM X K es pl) (hi:i∉mvs pl:=by decide) (hs:starEach (e :: es) X.env=(false,eval e X.env) :: starEach es X.env:=by rfl):QM X K (e :: es) (.inr i :: pl):=by
  refine PA.imp (pa_cons ha hr hs) fun σ H Qv hx9=>?_
  obtain ⟨Hs,ρ,tot,F,Q,sr,h1,h2,h3,h,f⟩:=hx9
  unfold iY at h
  cases hm:movS ρ[i]? with
  | none=>rw [hm] at h; exact h.elim
  | some p =>
    rw [hm] at h
    have key:∃ v A,σ[i]? = some (some v)∧RM K Hs H p.1 p.2 v A∧A.Nodup∧∀ a∈A,a∈F i:=by
      cases e1:ρ[i]? with
      | none=>rw [e1] at hm; cases hm
      | some o =>
        cases o with
        | none=>rw [e1] at hm; cases hm
        | some sl =>
          cases sl with
          | sh d =>
            rw [e1] at hm; cases hm
            obtain ⟨v,a,b⟩:=sr.sr.get e1
            exact ⟨v,[],a,⟨rfl,b⟩,List.nodup_nil,fun a h=>nomatch h⟩
          | lk a fl d=>rw [e1] at hm; cases hm
          | xc a=>rw [e1] at hm; cases hm
          | ow fl d =>
            rw [e1] at hm; cases hm
            obtain ⟨v,a,b,c⟩:=h1 i fl d e1
            exact ⟨v,F i,a,⟨c,b⟩,(h2 i).nodup sr.nod,fun a h=>h⟩
    obtain ⟨v,A,ev,rm,ndA,hA⟩:=key
    refine ⟨v,ev,Hs,ρ,tot,F,_,sr,h1,h2,h3,h,fun vs H2 Hs2 ps Bs g2 r2 nd2 o2 q2=>?_⟩
    refine f (v :: vs) H2 Hs2 _ _ g2 (.cons (rm.grow g2) r2) (List.nodup_append.mpr ⟨ndA,nd2,fun a ha b hb e=>?_⟩) (fun a ha=>?_) q2
    · subst e
      rcases (o2 a hb).2 with z | ⟨j,hj,z⟩
      · exact (rm.own a ha).ne z
      · exact h3 i j (fun z=>hi (by rw [z]; exact hj)) a (hA a ha) z
    · rcases List.mem_append.mp ha with z | z
      · have:a∈tot:=(h2 i).subset (hA a z)
        exact ⟨g2.hsn (sr.own a this) (sr.sr.own a this).ne,.inr ⟨i,List.mem_cons_self,hA a z⟩⟩
      · exact ⟨(o2 a z).1,(o2 a z).2.imp id fun ⟨j,hj,q⟩=>⟨j,List.mem_cons_of_mem _ hj,q⟩⟩
noncomputable def vW (pl:Plan):WS:=fun E ρ=>iY pl ρ fun ps=>ps.length≤sizeLine∧E.rt (qb ps) (.tup (ps.map (·.2)))
theorem v5 {x1} {tpos:Pos} (h:QM X K es pl):QS X K L (.Return (some (.Tuple es x1 tpos)) pos) (vW pl):=by
  refine PS.imp (ps_ret (pe_tup h)) fun D σ H hx=>iZ hx fun Hs ρ tot E sr h k1 k2 k3 k4=>?_
  obtain ⟨F,h1,h2,h3⟩:=sr.sr.addrs sr.nod
  refine ⟨Hs,ρ,tot,F,_,sr,h1,h2,h3,h,fun vs H1 Hs1 ps As g1 r1 nd1 o1 q1=>?_⟩
  obtain ⟨hz,q⟩:=q1
  have rl:=r1.reps g1.wf
  have hl:=rl.length
  rw [List.length_map] at hl
  refine ⟨by walk_at "l",fun p hp=>?_⟩
  have g2:=newT (vs:=vs) g1.wf hp
  have sm:Same Hs (upd Hs1 p (.tup vs)):=g1.sh.trans g2.sh
  unfold qb at q
  cases e1:ps.all okSh with
  | true =>
    rw [e1] at q
    exact k4 _ _ _ .sh _ [] sm g2.wf ⟨rfl,.tup (by walk_at "l") upd_same ((r1.sh g1.wf e1).same g2.sh)⟩ List.nodup_nil (fun a h=>nomatch h) q
  | false =>
    rw [e1] at q
    cases e2:ps.all okOw with
    | false =>
      rw [e2] at q
      exact k4 _ _ _ .bo _ [] sm g2.wf ⟨rfl,.tup (by walk_at "l") upd_same (rl.same g2.all)⟩ List.nodup_nil (fun a h=>nomatch h) q
    | true =>
      rw [e2] at q
      obtain ⟨Bs,sb,nz,ro⟩:=r1.ow (fl:=ps.all okFl) g1.wf e2 fun z=>z
      have hne:flats (ps.map (·.2))=false:=by
        cases hf:flats (ps.map (·.2)) with
        | false=>rfl
        | true=>rw [kJ hf] at e1; cases e1
      exact k4 _ _ _ (.ow _) _ Bs sm g2.wf ⟨.tup (by walk_at "l") upd_same hne (ro.grow g2.sh g2.all),nz e1⟩ (sb.nodup nd1) (fun a ha=>g2.hsn (o1 a (sb.subset ha)).1 (ro.own a ha).ne) q
end
end L2.Q

set_option Elab.async false
set_option linter.all false
set_option maxRecDepth 100000
set_option maxHeartbeats 4000000

namespace L2.Q
open PySem PySem.Spec PyProof.Rows

noncomputable def spLaw:SpD:=fun ds Q=>∃ ns:List Int,ds=[.list (ns.map .int)]∧ns.length≤63∧∀ m,Q m (.bl true)
theorem ints_rep {K:PySem.W.Frag} {H:Hp}:∀ (ns:List Int),Reps K H (ns.map .int) (ns.map V.int)
  | []=>.nil
  | n :: ns=>.cons (.int n) (ints_rep ns)
theorem uY {K:PySem.W.Frag} {H:Hp} {a:Addr} {ns:List Int} {E:XK} (hl:ns.length≤63) (hS:SqL K H a (ns.map V.int)):ak K spLaw [.ref a] H (fun v _=>v=.bl true) E:=by
  refine ⟨[.list (ns.map .int)],fun _ d=>d=.bl true,.cons (.list (by rw [List.length_map]; exact Nat.le_trans hl (by decide)) hS (ints_rep ns)) .nil,⟨ns,rfl,hl,fun _=>rfl⟩,?_⟩
  intro v H' Hs' m d As s w r nd own q
  subst q
  have:=r.rep w
  cases this
  rfl

noncomputable abbrev sg (x:Str):List Nat:=x.cps.toList
theorem vh (x y:Str):sg (x++y)=sg x++sg y:=by
  show (x.cps++y.cps).toList=_
  simp [sg]
theorem empty_app (x:Str):Str.empty++x=x:=sI (by rw [← sg,vh]; rfl)
noncomputable def okS (x:Str):Prop:=∀ c∈sg x,c<0x110000
theorem sJ (x:Str):PyData.strOk x=true↔okS x:=by
  unfold PyData.strOk okS sg
  rw [Array.all_eq_true']
  simp
end L2.Q
namespace L2.Q
open PySem PySem.Spec PyProof.Rows
theorem atI0 {α:Type} (x:α) (l:List α):atI (x :: l) 0=some x:=by simp [L2.atI,ixN]
theorem atI1 {α:Type} (x y:α) (l:List α):atI (x :: y :: l) 1=some y:=by
  have:=atI_nat (xs:=x :: y :: l) (j:=1) (v:=y) rfl
  exact this
theorem atI2 {α:Type} (x y z:α) (l:List α):atI (x :: y :: z :: l) 2=some z:=by
  have:=atI_nat (xs:=x :: y :: z :: l) (j:=2) (v:=z) rfl
  exact this
theorem yK:Str.empty.length=0:=by decide
end L2.Q

set_option Elab.async false
set_option linter.all false
set_option maxRecDepth 100000
set_option maxHeartbeats 4000000

namespace L2.Q.R
open PySem PySem.Spec PyProof.Rows L2.Q
section
variable {f:D→Prop} {k:Kt f}
theorem BR:onK .non k=f .non:=rfl
theorem Ej {b:Bool}:onK (.bl b) k=f (.bl b):=rfl
theorem BW {i:Int}:onK (.int i) k=f (.int i):=rfl
theorem Ca {x:Str}:onK (.str x) k=f (.str x):=rfl
theorem Ai {xs:List D}:onK (.list xs) k=f (.list xs):=rfl
theorem By {xs:List D}:onK (.tup xs) k=f (.tup xs):=rfl
theorem Dn {xs:List (Key × D)}:onK (.dK xs) k=f (.dK xs):=rfl
theorem DW {xs:List (List Key × D)}:onK (.dT xs) k=f (.dT xs):=rfl
end
theorem Aw {f:Bool→Prop} {k:Kt f}:onK true k=f true:=rfl
theorem zN {f:Bool→Prop} {k:Kt f}:onK false k=f false:=rfl
theorem CK {d:D} {f:Md × D→Prop} {k:Kt f}:onK (Md.sh,d) k=f (.sh,d):=rfl
theorem Ci {b:Bool} {d:D} {f:Md × D→Prop} {k:Kt f}:onK (Md.ow b,d) k=f (.ow b,d):=rfl
theorem Bk {d:D} {f:Md × D→Prop} {k:Kt f}:onK (Md.bo,d) k=f (.bo,d):=rfl
theorem Cw {d:D} {f:Option Sl→Prop} {k:Kt f}:onK (some (.sh d)) k=f (some (.sh d)):=rfl
theorem C_ {b:Bool} {d:D} {f:Option Sl→Prop} {k:Kt f}:onK (some (.ow b d)) k=f (some (.ow b d)):=rfl
theorem CN {p:Md × D} {f:Option (Md × D)→Prop} {k:Kt f}:onK (some p) k=f (some p):=rfl
theorem DN {p:Bool} {f:Option Bool→Prop} {k:Kt f}:onK (some p) k=f (some p):=rfl
theorem Cd {d:D} {f:Option (Option Sl)→Prop} {k:Kt f}:onK (some (some (.sh d))) k=f (some (some (.sh d))):=rfl
theorem BK {b:Bool} {d:D} {f:Option (Option Sl)→Prop} {k:Kt f}:onK (some (some (.ow b d))) k=f (some (some (.ow b d))):=rfl
section
variable {E:ou} {ρ:Env} {Q:Md→D→Prop} {B:Bool→Prop} {t u:WS} {te ta tb tc to':WE} {tt tu:WT} {tar:WA} {i j n:Nat} {m m':Md} {d d':D} {sp:SpD} {p:WP} {R:List (Md × D)→Prop}
theorem Cq:cH E ρ=E.nx ρ:=rfl
theorem Dr:wSeq t u E ρ=t { E with nx:=u E } ρ:=rfl
theorem Ek:wRet te E ρ=te ρ E.rt:=rfl
noncomputable def put (sl:Option Sl) (k:Sl→Prop):Prop:=match sl with
  | some s=>k s
  | none=>False
theorem B_ {k:Sl→Prop}:put (some (.sh d)) k=k (.sh d):=rfl
theorem Cj {b:Bool} {k:Sl→Prop}:put (some (.ow b d)) k=k (.ow b d):=rfl
theorem EY:wSet i te E ρ=te ρ fun m d=>onK (asg m d) (f:=fun o=>put o fun sl=>E.nx (ρ.set i (some sl))) ⟨⟩:=rfl
theorem Ed:wIfS tt t u E ρ=tt ρ fun b=>onK b (f:=fun b=>if b=true then t E ρ else u E ρ) ⟨⟩:=rfl
theorem Cz:p8 i E ρ=onK ρ[i]? (f:=fun o=>match o with
  | some (some (.sh d))=>E.rt .sh d
  | some (some (.ow fl d))=>E.rt (.ow fl) d
  | _=>False) ⟨⟩:=rfl
theorem Cv {pl:Plan}:vW pl E ρ=iY pl ρ fun ps=>ps.length≤sizeLine∧E.rt (qb ps) (.tup (ps.map (·.2))):=rfl
theorem za:iY [] ρ R=R []:=rfl
theorem Aj {r:Plan}:iY (.inl te :: r) ρ R=te ρ fun m x=>iY r ρ fun ps=>R ((m,x) :: ps):=rfl
noncomputable def mov (o:Option (Md × D)) (k:Md × D→Prop):Prop:=match o with
  | some p=>k p
  | none=>False
theorem zG {p:Md × D} {k:Md × D→Prop}:mov (some p) k=k p:=rfl
theorem Ak {r:Plan}:iY (.inr i :: r) ρ R=onK (movS ρ[i]?) (f:=fun o=>mov o fun p=>iY r ρ fun ps=>R (p :: ps)) ⟨⟩:=rfl
theorem DP:wFrz i t E ρ=t E (frzE i ρ):=rfl
-- tests
noncomputable def bol (d:D) (B:Bool→Prop):Prop:=match d with
  | .bl b=>B b
  | _=>False
theorem CW {b:Bool}:bol (.bl b) B=B b:=rfl
theorem wB_:wB te ρ B=te ρ fun _ x=>onK x (f:=fun x=>bol x B) ⟨⟩:=rfl
theorem DK:wNot tt ρ B=tt ρ fun c=>B (!c):=rfl
theorem Dz:wAnd tt tu ρ B=tt ρ fun c=>onK c (f:=fun c=>if c=true then tu ρ B else B false) ⟨⟩:=rfl
theorem wOr_:wOr tt tu ρ B=tt ρ fun c=>onK c (f:=fun c=>if c=true then B true else tu ρ B) ⟨⟩:=rfl
theorem DR:wYes ρ B=B true:=rfl
-- expressions
theorem Ep:wVar i ρ Q=onK ρ[i]? (f:=fun o=>useS o Q) ⟨⟩:=rfl
theorem Ae:useS (some (some (.sh d))) Q=Q .sh d:=rfl
theorem Bb {b:Bool}:useS (some (some (.ow b d))) Q=Q .bo d:=rfl
theorem wC_:wC d ρ Q=Q .sh d:=rfl
theorem wOp_ {f:W2}:wOp f ta tb ρ Q=ta ρ fun m x=>tb ρ fun n y=>f m x n y Q:=rfl
theorem wUn_ {f:W1}:wUn f ta ρ Q=ta ρ fun m x=>f m x Q:=rfl
theorem Aa {f g:W2}:gK f g ta tb tc ρ Q=ta ρ fun m x=>tb ρ fun n y=>f m x n y fun _ z=>onK z (f:=fun z=>bol z fun k=>onK k (f:=fun k=>if k=true then tc ρ fun l w=>g n y l w Q else Q .sh (.bl false)) ⟨⟩) ⟨⟩:=by
  unfold gK onK bol
  rfl
theorem BJ:lJ ta tb ρ Q=ta ρ fun _ x=>onK x (f:=fun x=>bol x fun c=>onK c (f:=fun c=>if c=true then tb ρ Q else Q .sh (.bl false)) ⟨⟩) ⟨⟩:=by unfold lJ onK bol; rfl
theorem Ey:wOrV ta tb ρ Q=ta ρ fun _ x=>onK x (f:=fun x=>bol x fun c=>onK c (f:=fun c=>if c=true then Q .sh (.bl true) else tb ρ Q) ⟨⟩) ⟨⟩:=by unfold wOrV onK bol; rfl
theorem Bm:uA ta ρ Q=ta ρ fun _ x=>onK x (f:=fun x=>bol x fun c=>Q .sh (.bl (!c))) ⟨⟩:=by unfold uA onK bol; rfl
theorem Cp:aj te tar ρ R=te ρ fun m x=>tar ρ fun ps=>R ((m,x) :: ps):=rfl
theorem Eg:wNil ρ R=R []:=rfl
theorem Dt:wTup tar ρ Q=tar ρ fun ps=>ps.length≤sizeLine∧Q (qb ps) (.tup (ps.map (·.2))):=rfl
theorem Du:wLst tar ρ Q=tar ρ fun ps=>ps.length≤sizeLine∧Q (xG ps) (.list (ps.map (·.2))):=rfl
theorem Bo:bY sp tar ρ Q=tar ρ fun ps=>sp (ps.map (·.2)) fun m d=>onK (m,d) (f:=fun p=>Q (retM p.1 p.2) p.2) ⟨⟩:=rfl
-- operators
section
variable {x y:Str} {a b:Int} {xs ys:List D} {kvs:List (Key × D)} {kts:List (List Key × D)}
theorem Am:fAdd m (.int a) m' (.int b) Q=Q .sh (.int (a+b)):=rfl
theorem Bg:fAdd m (.str x) m' (.str y) Q=(x.length+y.length≤sizeLine∧Q .sh (.str (x++y))):=rfl
theorem Aq:fAdd m (.list xs) m' (.list ys) Q=(xs.length+ys.length≤sizeLine∧((flats xs=true∧flats ys=true∧Q (.ow true) (.list (xs++ys)))∨(m=.sh∧m'=.sh∧Q (.ow false) (.list (xs++ys))))):=rfl
theorem Ab:fAdd m (.tup xs) m' (.tup ys) Q=(xs≠[]∧xs.length+ys.length≤sizeLine∧flats xs=true∧flats ys=true∧Q .sh (.tup (xs++ys))):=rfl
theorem Ah:fSub m (.int a) m' (.int b) Q=Q .sh (.int (a - b)):=rfl
theorem Av:fDiv m (.int a) m' (.int b) Q=((0<b∧b<1073741824)∧Q .sh (.int (a / b))):=rfl
theorem Bc:fMod m (.int a) m' (.int b) Q=(0<b∧Q .sh (.int (a % b))):=rfl
theorem zW:fPow m (.int a) m' (.int b) Q=(CPow a b∧Q .sh (.int (a ^ b.toNat))):=rfl
theorem Dc:fLt m (.int a) m' (.int b) Q=Q .sh (.bl (decide (a<b))):=rfl
theorem Bq:fLt m (.str x) m' (.str y) Q=Q .sh (.bl (ltS x y)):=rfl
theorem Bv:fLe m (.int a) m' (.int b) Q=Q .sh (.bl (decide (a≤b))):=rfl
theorem Bp:fLe m (.str x) m' (.str y) Q=Q .sh (.bl (!ltS y x)):=rfl
theorem CP:fGt m (.int a) m' (.int b) Q=Q .sh (.bl (decide (b<a))):=rfl
theorem Bw:fEq m (.int a) m' (.int b) Q=Q .sh (.bl (decide (a=b))):=rfl
theorem Cu:fEq m (.str x) m' (.str y) Q=Q .sh (.bl (decide (x=y))):=rfl
theorem BX {k l:Bool}:fEq m (.bl k) m' (.bl l) Q=Q .sh (.bl (decide (k=l))):=rfl
theorem Ds:fEq m (.list xs) m' d Q=(okD 12 (.list xs)=true∧okD 12 d=true∧Q .sh (.bl (eqD (.list xs) d))):=by cases d <;> rfl
theorem Dl:fEq m (.tup xs) m' d Q=(okD 12 (.tup xs)=true∧okD 12 d=true∧Q .sh (.bl (eqD (.tup xs) d))):=by cases d <;> rfl
theorem Et:fEq m .non m' d Q=(okD 12 .non=true∧okD 12 d=true∧Q .sh (.bl (eqD .non d))):=by cases d <;> rfl
theorem Cy:fNe m (.int a) m' (.int b) Q=Q .sh (.bl (!decide (a=b))):=rfl
theorem Cg:fNe m (.str x) m' (.str y) Q=Q .sh (.bl (!decide (x=y))):=rfl
theorem Dk:fNe m (.list xs) m' d Q=(okD 12 (.list xs)=true∧okD 12 d=true∧Q .sh (.bl (!eqD (.list xs) d))):=by cases d <;> rfl
theorem El:fNe m (.tup xs) m' d Q=(okD 12 (.tup xs)=true∧okD 12 d=true∧Q .sh (.bl (!eqD (.tup xs) d))):=by cases d <;> rfl
theorem Em:fNe m .non m' d Q=(okD 12 .non=true∧okD 12 d=true∧Q .sh (.bl (!eqD .non d))):=by cases d <;> rfl
theorem Dv {neg:Bool}:fIn neg m (.str x) m' (.str y) Q=Q .sh (.bl (if neg then !inS x y else inS x y)):=rfl
theorem Dh {neg:Bool}:fIn neg m d m' (.list ys) Q=(dM d=true∧ys.all dM=true∧Q .sh (.bl (if neg then !inD d ys else inD d ys))):=rfl
theorem DX {neg:Bool}:fIn neg m d m' (.tup ys) Q=(dM d=true∧ys.all dM=true∧Q .sh (.bl (if neg then !inD d ys else inD d ys))):=rfl
theorem En {neg:Bool}:fIn neg m d m' (.dK kvs) Q = ∃ k,d.key1=some k∧Q .sh (.bl (if neg then !(getG kvs k).isSome else (getG kvs k).isSome)):=rfl
theorem DQ {neg:Bool}:fIn neg m (.tup xs) m' (.dT kts) Q = ∃ ks,jD xs=some ks∧Q .sh (.bl (if neg then !(getG kts ks).isSome else (getG kts ks).isSome)):=rfl
theorem D_:fNeg m (.int a) Q=Q .sh (.int (-a)):=rfl
theorem DY:fIx m (.list xs) m' (.int a) Q = ∃ d,atI xs a=some d∧onK d (f:=fun d=>Q (itm m d) d) ⟨⟩:=rfl
theorem Ei:fIx m (.tup xs) m' (.int a) Q = ∃ d,atI xs a=some d∧onK d (f:=fun d=>Q (itm m d) d) ⟨⟩:=rfl
theorem Dw:fIx m (.str x) m' (.int a) Q = ∃ c,atI x.cps.toList a=some c∧Q .sh (.str ⟨#[c]⟩):=rfl
theorem Dy:fIx m (.dK kvs) m' d Q = ∃ k d',d.key1=some k∧getG kvs k=some d'∧onK d' (f:=fun d'=>Q (itm m d') d') ⟨⟩:=rfl
theorem Er:fIx m (.dT kts) m' (.tup ys) Q = ∃ ks d',jD ys=some ks∧getG kts ks=some d'∧onK d' (f:=fun d'=>Q (itm m d') d') ⟨⟩:=rfl
theorem Df:fLen m (.str x) Q=Q .sh (.int x.length):=rfl
theorem Bl:fLen m (.list xs) Q=Q .sh (.int xs.length):=rfl
theorem BP:fLen m (.tup xs) Q=Q .sh (.int xs.length):=rfl
theorem CV:fLen m (.dK kvs) Q=Q .sh (.int kvs.length):=rfl
theorem CQ:fLen m (.dT kts) Q=Q .sh (.int kts.length):=rfl
theorem Eb {T:String}:fIsi T m d Q=Q .sh (.bl (isiT d.ty T)):=rfl
theorem Az:oH m (.list xs) Q=((flats xs=true∧Q (.ow true) (.list xs))∨(m=.sh∧Q (.ow false) (.list xs))):=rfl
theorem Ay:oH m (.tup xs) Q=((flats xs=true∧Q (.ow true) (.list xs))∨(m=.sh∧Q (.ow false) (.list xs))):=rfl
theorem z9:oH m (.dT kts) Q=Q (.ow true) (.list (kts.map fun kv=>.tup (kv.1.map keyD))):=rfl
theorem wSl_ {tl th:WO}:wSl te tl th ρ Q=te ρ fun m x=>tl ρ fun lo=>th ρ fun hi=>fSl m x lo hi Q:=rfl
theorem zB {O:Option Int→Prop}:dY ρ O=O none:=rfl
noncomputable def int' (d:D) (k:Int→Prop):Prop:=match d with
  | .int i=>k i
  | _=>False
theorem Ck {k:Int→Prop}:int' (.int a) k=k a:=rfl
theorem Dd {O:Option Int→Prop}:jt te ρ O=te ρ fun _ x=>onK x (f:=fun x=>int' x fun i=>O (some i)) ⟨⟩:=by unfold jt onK int'; rfl
theorem Eh {lo hi:Option Int}:fSl m (.str x) lo hi Q=Q .sh (.str (cutS x lo hi)):=rfl
theorem Dq {lo hi:Option Int}:fSl m (.list xs) lo hi Q=((flats xs=true∧Q (.ow true) (.list (cutG xs lo hi)))∨(m=.sh∧Q (.ow false) (.list (cutG xs lo hi)))):=rfl
theorem Ex {lo hi:Option Int}:fSl m (.tup xs) lo hi Q=(flats xs=true∧¬ (HT.sIx xs.length 0 lo=0∧HT.sIx xs.length xs.length hi=xs.length)∧Q .sh (.tup (cutG xs lo hi))):=rfl
end
-- texts
noncomputable def str' (d:D) (k:Str→Prop):Prop:=match d with
  | .str x=>k x
  | _=>False
theorem Br {x:Str} {k:Str→Prop}:str' (.str x) k=k x:=rfl
noncomputable def list' (d:D) (k:List D→Prop):Prop:=match d with
  | .list x=>k x
  | _=>False
theorem zV {x:List D} {k:List D→Prop}:list' (.list x) k=k x:=rfl
-- places
theorem wpN_ {P:Bool→D→(Bool→D→Env)→Prop}:wpN i ρ P=onK ρ[i]? (f:=fun o=>match o with
  | some (some (.ow fl d))=>P fl d fun fl2 d2=>ρ.set i (some (.ow fl2 d2))
  | _=>False) ⟨⟩:=rfl
noncomputable def fl' (o:Option Bool) (k:Bool→Prop):Prop:=match o with
  | some b=>k b
  | none=>False
theorem zL {b:Bool} {k:Bool→Prop}:fl' (some b) k=k b:=rfl
theorem Ea:wApp p te E ρ=p ρ fun fl d up=>onK d (f:=fun d=>list' d fun xs=>te ρ fun m x=>xs.length<sizeLine∧onK (jO fl m x) (f:=fun o=>fl' o fun fl2=>E.nx (up fl2 (.list (xs++[x])))) ⟨⟩) ⟨⟩:=by unfold wApp onK list' fl'; rfl
noncomputable def dct (d y:D) (k1:List (Key × D)→Prop) (k2:List (List Key × D)→List D→Prop):Prop:=match d with
  | .dK kvs=>k1 kvs
  | .dT kvs=>match y with
    | .tup ys=>k2 kvs ys
    | _=>False
  | _=>False
theorem Eo {y:D} {kvs:List (Key × D)} {k1:List (Key × D)→Prop} {k2:List (List Key × D)→List D→Prop}:dct (.dK kvs) y k1 k2=k1 kvs:=rfl
theorem Ef {ys:List D} {kvs:List (List Key × D)} {k1:List (Key × D)→Prop} {k2:List (List Key × D)→List D→Prop}:dct (.dT kvs) (.tup ys) k1 k2=k2 kvs ys:=rfl
-- loops
variable {LQ:List D→Prop}
theorem Es {wi:WI} {g:WG} {b:WS}:wFor wi g b E ρ=wi ρ fun ds=>lE g b E ds ρ:=rfl
theorem Ad:jU te ρ LQ=te ρ fun m d=>lQ m∧onK d (f:=fun d=>list' d LQ) ⟨⟩:=by unfold jU onK list'; rfl
noncomputable def tup' (d:D) (k:List D→Prop):Prop:=match d with
  | .tup x=>k x
  | _=>False
theorem BV {x:List D} {k:List D→Prop}:tup' (.tup x) k=k x:=rfl
theorem Cr:u6 te ρ LQ=te ρ fun _ d=>onK d (f:=fun d=>str' d fun z=>LQ (sgnD z)) ⟨⟩:=by unfold u6 onK str'; rfl
theorem zF:lQ .sh=True:=rfl
theorem zH {b:Bool}:lQ (.ow b)=True:=rfl
theorem zA:lQ .bo=False:=rfl
theorem gN_ {N:Env→Prop}:gN i d ρ N=N (ρ.set i (some (.sh d))):=rfl
theorem De {wi:WI} {g:WG} {tn:Nat} {ix:List Nat}:qi wi g tt te tn ix ρ Q=wi ρ fun ds=>gm g tt te ds (vZ tn ix ρ) fun out=>Q (.ow true) (.list out):=rfl
end
theorem B {c:Bool} {f:Bool→Prop} {k:Kt f} (h1:c=true→f true) (h2:c=false→f false):onK c k:=by
  cases c with
  | true=>exact h1 rfl
  | false=>exact h2 rfl
theorem D {p:Prop} [Decidable p] {f:Bool→Prop} {k:Kt f} (h1:p→f true) (h2:¬ p→f false):onK (decide p) k :=
  B (fun h=>h1 (of_decide_eq_true h)) fun h=>h2 (of_decide_eq_false h)
theorem T {c:Bool} {f:Bool→Prop} {k:Kt f} (h:c=true) (h1:f true):onK c k:=by subst h; exact h1
theorem F {c:Bool} {f:Bool→Prop} {k:Kt f} (h:c=false) (h1:f false):onK c k:=by subst h; exact h1
end L2.Q.R

set_option Elab.async false
set_option linter.all false
set_option maxRecDepth 100000
set_option maxHeartbeats 4000000

namespace L2
open PySem PySem.Spec PyProof.Rows
section
variable {X:Cx}
end
end L2

namespace L2.Q
open PySem PySem.Spec PyProof.Rows
section
variable {X:Cx} {K:PySem.W.Frag} {e e2 tg:Expr} {te te2:WE} {pos p p2 pos2 cpos apos:Pos}
noncomputable def Cm:W1:=fun _ x Q=>match x with
  | .list xs=>∃ ks b,xs=ks.map keyD∧ks.length≤63∧(∀ k∈ks,isI k=b)∧∀ ms:List Key,ms.Perm ks→(ms.Pairwise fun a b=>lt1 b a=false)→Q (.ow true) (.list (ms.map keyD))
  | .dK kvs=>∃ b,kvs.length≤63∧(∀ p∈kvs,isI p.1=b)∧∀ ms:List Key,ms.Perm (kvs.map (·.1))→(ms.Pairwise fun a b=>lt1 b a=false)→Q (.ow true) (.list (ms.map keyD))
  | _=>False
section
variable {Hs H:Hp} {fl:Bool}
end
end
section
variable {K:PySem.W.Frag} {Hs H:Hp} {fl:Bool} {d:D} {a:Addr}
end
noncomputable abbrev WIL:=Env→(List D→Prop)→Prop
section
variable {X:Cx} {K:PySem.W.Frag} {e tg:Expr} {i:Nat} {pos p:Pos} {wi:WIL} {g:WG} {b:WS} {body:List Stmt}
end
section
variable {X:Cx} {K:PySem.W.Frag}
end
end L2.Q

set_option Elab.async false
set_option linter.all false
set_option maxRecDepth 100000
set_option maxHeartbeats 4000000

namespace L2.Q.R
open PySem PySem.Spec PyProof.Rows L2.Q
section
variable {E:ou} {ρ:Env} {Q:Md→L2.Q.D→Prop} {te te2 tk:WE} {i:Nat} {d:L2.Q.D} {p:WP} {a:Addr} {b:Bool} {LQ:List L2.Q.D→Prop}
theorem BL {f:Option Sl→Prop} {k:Kt f}:onK (some (.lk a b d)) k=f (some (.lk a b d)):=rfl
theorem CJ {f:Option (Option Sl)→Prop} {k:Kt f}:onK (some (some (.lk a b d))) k=f (some (some (.lk a b d))):=rfl
theorem Af:useS (some (some (.lk a b d))) Q=Q .bo d:=rfl
noncomputable def own' (o:Option (Option Sl)) (k:Bool→L2.Q.D→Prop):Prop:=match o with
  | some (some (.ow fl d))=>k fl d
  | _=>False
theorem zZ {k:Bool→L2.Q.D→Prop}:own' (some (some (.ow b d))) k=k b d:=rfl
theorem z6:lW te ρ LQ=te ρ fun _ d=>onK d (f:=fun d=>list' d LQ) ⟨⟩:=by unfold lW onK list'; rfl
section
variable {P:Bool→L2.Q.D→(Bool→L2.Q.D→Env)→Prop} {up:Bool→L2.Q.D→Env} {ds:List L2.Q.D} {j:Int}
end
end
end L2.Q.R

set_option Elab.async false
set_option linter.all false
set_option maxRecDepth 100000
set_option maxHeartbeats 4000000

namespace L2
open PySem PySem.Spec PyProof.Rows Builtin Builtin.Str Builtin.Int

section
variable {prog:Program} {w:World} {A:Around} {E:Value→Shared→Prop} {s:Shared} {x:Str} {n:Int} {t u:Tok}
end
noncomputable def repS (n:Int) (z:Str):Str:=⟨(List.replicate n.toNat z.cps.toList).flatten.toArray⟩
theorem jT (xs:Array Nat):∀ (k:Nat) (acc:Array Nat),(List.replicate k xs).foldl (· ++ ·) acc=acc++(List.replicate k xs.toList).flatten.toArray
  | 0,acc=>by simp
  | k+1,acc=>by
    rw [List.replicate_succ,List.foldl_cons,jT xs k,List.replicate_succ,List.flatten_cons]
    apply Array.ext'
    simp
theorem wG {n:Int} {z:Str} (h:1≤n):Txt.mul z n=repS n z:=by
  unfold Txt.mul repS
  rw [if_neg (by walk_at "l")]
  by_cases h1:n=1
  · subst h1
    simp
  · by_cases h0:z.length=0
    · have hz:z.cps = #[]:=Array.eq_empty_of_size_eq_zero h0
      rw [if_pos (by simp [h0])]
      obtain ⟨c⟩:=z
      cases hz
      simp
    · rw [if_neg (by simp [h1,h0]),jT]
      simp
noncomputable def xj:R2:=fun x y H Q=>match x,y with
  | .int n,.str z=>(1≤n∧n≤100∧z.length≤100)∧Q (.str (repS n z)) H
  | _,_=>False
section
variable {X:Cx}
end
section
variable {prog:Program} {w:World} {A:Around} {R:Result→Shared→Prop} {E:Value→Shared→Prop} {I:Addr} {fp wr:List Addr} {P:Nat→Value→Prop} {St:Nat→Heap→Prop}
end
end L2
namespace L2
open PySem PySem.Spec PyProof.Rows
section
variable {X:Cx} {K:PySem.W.Frag} {e e2:Expr} {te td:TE} {p pos kpos:Pos}
end
end L2

namespace L2.Q
open PySem PySem.Spec PyProof.Rows
section
variable {X:Cx} {K:PySem.W.Frag} {e e2 a b:Expr} {te ta tb td:WE} {p pos kpos:Pos} {x:Str} {id:String}
noncomputable def fAll:W1:=fun _ x Q=>match x with
  | .list xs=>∃ bs:List Bool,xs=bs.map D.bl∧Q .sh (.bl (bs.all (fun b=>b)))
  | _=>False
theorem yV {H:Hp} {bs:List Bool} {vs:List V} (r:Reps K H (bs.map D.bl) vs):vs=bs.map V.bl:=by
  induction bs generalizing vs with
  | nil=>exact r.n0
  | cons b bs ih =>
    obtain ⟨u,us,rfl,r1,rs⟩:=Reps.c (d:=D.bl b) r
    cases r1
    rw [ih rs]; rfl
theorem zf:BrC K (rAll K) fAll:=by
  intro Hs H m x v As Qd Qv w rx h f
  have r1:=rx.rep w
  cases r1 with
  | list z s q =>
    obtain ⟨bs,rfl,h⟩:=h
    cases yV q
    exact ⟨bs,s,f.sh w (.bl _) h⟩
  | _=>exact h.elim
noncomputable def tQ:W1:=fun _ x Q=>match x with
  | .list xs=>flats xs=true∧Q .sh (.tup xs)
  | _=>False
theorem uW:BrC K (fun xs H Q=>∃ p ys,xs=[.ref p]∧((SqL K H p ys∧∀ l,H l=none→Q (.ref l) (upd H l (.tup ys)))∨(SqT K H p ys∧Q (.ref p) H))) tQ:=by
  intro Hs H m x v As Qd Qv w rx h f
  have r1:=rx.rep w
  cases r1 with
  | list z s q =>
    have hl:=q.length
    exact ⟨_,_,rfl,.inl ⟨s,f.tup w (by walk_at "l") q h.1 h.2⟩⟩
  | _=>exact h.elim
theorem yz (hK:X.K=K:=by rfl):CallR X (.type "tuple") (fun xs H Q=>∃ p ys,xs=[.ref p]∧((SqL K H p ys∧∀ l,H l=none→Q (.ref l) (upd H l (.tup ys)))∨(SqT K H p ys∧Q (.ref p) H))):=by subst hK; exact call_tuple_of
theorem pJ (n:Int) (z:Str):(repS n z).length=n.toNat * z.length:=by
  unfold repS Str.length
  rw [List.size_toArray,len_rep,Array.length_toList]
noncomputable def yw:W2:=fun _ x _ y Q=>match x,y with
  | .int n,.str z=>(1≤n∧n≤100∧z.length≤100)∧Q .sh (.str (repS n z))
  | _,_=>False
theorem xu:Br2 K xj yw:=by
  intro Hs H m x v As n y u Bs Qd Qv w rx ry h f
  have r1:=rx.rep w
  have r2:=ry.rep w
  cases r1 with
  | int i=>cases r2 with
    | str hz =>
      refine ⟨h.1,tH f w ?_ h.2⟩
      obtain ⟨⟨h1,h2,h3⟩,_⟩:=h
      rw [pJ,sizeLine_eq]
      have:=Nat.mul_le_mul (show i.toNat≤100 by walk_at "l") h3
      walk_at "l"
    | _=>exact h.elim
  | _=>cases r2 <;> exact h.elim
end
end L2.Q
namespace L2.Q.R
open PySem PySem.Spec PyProof.Rows L2.Q
section
variable {Q:Md→L2.Q.D→Prop} {m m':Md} {xs:List L2.Q.D} {a b:Int} {x:Str}
theorem Di:fAll m (.list xs) Q = ∃ bs:List Bool,xs=bs.map L2.Q.D.bl∧Q .sh (.bl (bs.all (fun b=>b))):=rfl
theorem Ac:tQ m (.list xs) Q=(flats xs=true∧Q .sh (.tup xs)):=rfl
end
end L2.Q.R
namespace L2.Q
open PySem PySem.Spec PyProof.Rows
end L2.Q

set_option Elab.async false
set_option linter.all false
set_option maxRecDepth 100000
set_option maxHeartbeats 4000000

namespace TS
open PySem PySem.SetTable
noncomputable def fk:Nat→Nat→Nat
  | 0,s=>s
  | k+1,s=>5 * fk k s+1
theorem yc (a b s:Nat):fk (a+b) s=fk b (fk a s):=by
  induction b with
  | zero=>rfl
  | succ b ih=>show 5 * fk (a+b) s+1=5 * fk b (fk a s)+1; rw [ih]
theorem qQ (n s:Nat):4 * fk n s+1=5 ^ n * (4 * s+1):=by
  induction n with
  | zero=>simp [fk]
  | succ n ih =>
    show 4 * (5 * fk n s+1)+1=5 ^ (n+1) * (4 * s+1)
    rw [Nat.pow_succ,Nat.mul_comm (5 ^ n) 5,Nat.mul_assoc,← ih]; walk_at "l"
theorem uw (m:Nat):∃ q,5 ^ 2 ^ m=1+2 ^ (m+2) * q∧q % 2=1:=by
  induction m with
  | zero=>exact ⟨1,by decide,by decide⟩
  | succ m ih =>
    obtain ⟨q,e,o⟩:=ih
    refine ⟨q+2 ^ (m+1) * (q * q),?_,?_⟩
    · have hp:5 ^ 2 ^ (m+1)=(5 ^ 2 ^ m) ^ 2:=by rw [Nat.pow_succ 2 m,Nat.pow_mul]
      rw [hp,e]
      clear e hp
      have e1:2 ^ (m+1+2)=2 * 2 ^ (m+2):=by rw [show m+1+2=(m+2)+1 by walk_at "l",Nat.pow_succ]; walk_at "l"
      have e2:2 ^ (m+2)=2 * 2 ^ (m+1):=by rw [show m+2=(m+1)+1 by walk_at "l",Nat.pow_succ]; walk_at "l"
      rw [e1,e2]
      generalize 2 ^ (m+1)=y
      rw [Nat.pow_two]
      simp only [Nat.mul_add,Nat.add_mul,Nat.one_mul,Nat.mul_one]
      have a1:2 * y * q * (2 * y * q)=2 * (2 * y) * (y * (q * q)):=by
        simp only [Nat.mul_assoc,Nat.mul_left_comm,Nat.mul_comm]
      have a2:2 * (2 * y) * q=2 * y * q+2 * y * q:=by
        rw [Nat.mul_assoc 2 (2 * y) q]; walk_at "l"
      rw [a1,a2]; walk_at "l"
    · have:2 ^ (m+1) * (q * q) % 2=0:=by
        rw [Nat.pow_succ,Nat.mul_comm (2 ^ m) 2,Nat.mul_assoc,Nat.mul_mod_right]
      walk_at "l"
theorem xn (m x:Nat):∃ r,fk (2 ^ m) x=x+2 ^ m * r∧r % 2=1:=by
  obtain ⟨q,e,o⟩:=uw m
  have c:=qQ (2 ^ m) x
  rw [e] at c
  refine ⟨q * (4 * x+1),?_,?_⟩
  · have e2:2 ^ (m+2)=4 * 2 ^ m:=by rw [Nat.pow_add]; walk_at "l"
    rw [e2,Nat.add_mul,Nat.one_mul,Nat.mul_assoc,Nat.mul_assoc] at c
    walk_at "l"
  · rw [Nat.mul_mod,o,Nat.one_mul]; walk_at "l"
theorem yO (m s e:Nat):∃ k,k+1≤2 ^ m∧fk k s % 2 ^ m=e % 2 ^ m:=by
  induction m with
  | zero=>exact ⟨0,by decide,by simp [Nat.mod_one]⟩
  | succ m ih =>
    obtain ⟨k,hk,h⟩:=ih
    have hp:2 ^ (m+1)=2 ^ m * 2:=Nat.pow_succ ..
    have hpos:0<2 ^ m:=Nat.pow_pos (by decide)
    have key:∀ a:Nat,a % (2 ^ m * 2)=a % 2 ^ m+2 ^ m * (a / 2 ^ m % 2):=fun a=>Nat.mod_mul
    by_cases c:fk k s / 2 ^ m % 2=e / 2 ^ m % 2
    · exact ⟨k,by walk_at "l",by rw [hp,key,key,h,c]⟩
    · refine ⟨k+2 ^ m,by walk_at "l",?_⟩
      obtain ⟨r,er,ro⟩:=xn m (fk k s)
      rw [yc,er,hp,key,key,Nat.add_mul_mod_self_left,h,Nat.add_mul_div_left _ _ hpos]
      have:(fk k s / 2 ^ m+r) % 2=e / 2 ^ m % 2:=by walk_at "l"
      rw [this]
noncomputable def adv (M:Nat) (p:Probe):Probe :=
  if p.more>0 then { p with j:=p.j+1,more:=p.more - 1 } else
  { p with j:=(leap M p.i p.perturb).1,more:=runEnd M (leap M p.i p.perturb).1 - (leap M p.i p.perturb).1,i:=(leap M p.i p.perturb).1,perturb:=(leap M p.i p.perturb).2 }
noncomputable def ps (M:Nat) (h:Int):Nat→Probe
  | 0=>{ j:=bits h % (M+1),more:=runEnd M (bits h % (M+1)) - bits h % (M+1),i:=bits h % (M+1),perturb:=bits h,dummy:=none }
  | n+1=>adv M (ps M h n)
noncomputable def J (M:Nat) (h:Int) (n:Nat):Nat:=(ps M h n).j
theorem pD {M i:Nat} (h:i≤M):i≤runEnd M i∧runEnd M i≤M∧runEnd M i≤i+9:=by
  unfold runEnd; split <;> walk_at "l"
theorem wH (M:Nat) (h:Int):∀ n,(ps M h n).i≤M∧(ps M h n).j+(ps M h n).more≤M∧(ps M h n).dummy=none∧(ps M h n).more≤9
  | 0=>by
    have h0:bits h % (M+1)≤M:=Nat.le_of_lt_succ (Nat.mod_lt _ (Nat.succ_pos _))
    have:=pD h0
    exact ⟨h0,by show bits h % (M+1)+(runEnd M (bits h % (M+1)) - bits h % (M+1))≤M; walk_at "l",rfl,by show runEnd M (bits h % (M+1)) - bits h % (M+1)≤9; walk_at "l"⟩
  | n+1=>by
    obtain ⟨a,b,c,d⟩:=wH M h n
    show (adv M (ps M h n)).i≤M∧_∧(adv M (ps M h n)).dummy=none∧_
    unfold adv
    by_cases hm:(ps M h n).more>0
    · simp only [hm,if_true]
      show _∧(adv M (ps M h n)).j+(adv M (ps M h n)).more≤M∧_∧(adv M (ps M h n)).more≤9
      simp only [adv,hm,if_true]
      exact ⟨a,by walk_at "l",c,by walk_at "l"⟩
    · simp only [hm,if_false]
      show _∧(adv M (ps M h n)).j+(adv M (ps M h n)).more≤M∧_∧(adv M (ps M h n)).more≤9
      simp only [adv,hm,if_false]
      have h0:(leap M (ps M h n).i (ps M h n).perturb).1≤M:=Nat.le_of_lt_succ (Nat.mod_lt _ (Nat.succ_pos _))
      have:=pD h0
      exact ⟨h0,by walk_at "l",c,by walk_at "l"⟩
theorem J_le (M:Nat) (h:Int) (n:Nat):J M h n≤M:=by
  have:=wH M h n
  unfold J; walk_at "l"
theorem qM (M:Nat) (h:Int) (n:Nat):∀ r,r≤(ps M h n).more→ps M h (n+r)={ ps M h n with j:=(ps M h n).j+r,more:=(ps M h n).more - r }
  | 0,_=>rfl
  | r+1,hr=>by
    show adv M (ps M h (n+r))=_
    rw [qM M h n r (by exact Nat.le_of_lt ‹_›)]
    unfold adv
    rw [if_pos (show (ps M h n).more - r>0 by walk_at "l")]
    simp only [Probe.mk.injEq,true_and,and_true]
    walk_at "s1"
noncomputable def lp (M:Nat) (h:Int):Nat→Nat × Nat
  | 0=>(bits h % (M+1),bits h)
  | k+1=>leap M (lp M h k).1 (lp M h k).2
noncomputable def blk (M:Nat) (h:Int):Nat→Nat
  | 0=>0
  | k+1=>blk M h k+(runEnd M (lp M h k).1 - (lp M h k).1)+1
theorem vK (M:Nat) (h:Int):∀ k,(lp M h k).1≤M
  | 0=>Nat.le_of_lt_succ (Nat.mod_lt _ (Nat.succ_pos _))
  | k+1=>Nat.le_of_lt_succ (Nat.mod_lt _ (Nat.succ_pos _))
theorem sy (M:Nat) (h:Int):∀ k,blk M h k≤10 * k
  | 0=>Nat.le_refl _
  | k+1=>by
    have:=sy M h k
    have:=pD (vK M h k)
    show blk M h k+_+1≤_; walk_at "l"
theorem pN (M:Nat) (h:Int):∀ k,ps M h (blk M h k)={ j:=(lp M h k).1,more:=runEnd M (lp M h k).1 - (lp M h k).1,i:=(lp M h k).1,perturb:=(lp M h k).2,dummy:=none }
  | 0=>rfl
  | k+1=>by
    have ih:=pN M h k
    have e:=qM M h (blk M h k) (runEnd M (lp M h k).1 - (lp M h k).1) (by rw [ih]; exact Nat.le_refl _)
    show adv M (ps M h (blk M h k+(runEnd M (lp M h k).1 - (lp M h k).1)))=_
    rw [e,ih]
    unfold adv
    rw [if_neg (by simp)]
    rfl
theorem vq (M:Nat) (h:Int):∀ k,(lp M h k).2=bits h / 32 ^ k
  | 0=>by simp [lp]
  | k+1=>by
    show (lp M h k).2 / 32=_
    rw [vq M h k,Nat.div_div_eq_div_mul,Nat.pow_succ]
theorem xJ (h:Int):bits h<2 ^ 64:=by
  unfold bits
  have h1:=Int.emod_nonneg h (show (2 ^ 64:Int)≠0 by decide)
  have h2:=Int.emod_lt_of_pos h (show (0:Int)<2 ^ 64 by decide)
  walk_at "l"
theorem tX (M:Nat) (h:Int):∀ k,(lp M h (13+k)).1 % (M+1)=fk k (lp M h 13).1 % (M+1)
  | 0=>rfl
  | k+1=>by
    have e:(lp M h (13+k)).2=0:=by
      rw [vq]
      refine Nat.div_eq_of_lt (Nat.lt_of_lt_of_le (xJ h) ?_)
      exact Nat.le_trans (by decide:2 ^ 64≤32 ^ 13) (Nat.pow_le_pow_right (by decide) (by exact Nat.le_add_right _ _))
    show (leap M (lp M h (13+k)).1 (lp M h (13+k)).2).1 % (M+1)=_
    unfold leap
    rw [e]
    show ((lp M h (13+k)).1 * 5+1+0 / 32) % (M+1) % (M+1)=(5 * fk k (lp M h 13).1+1) % (M+1)
    rw [Nat.mod_mod,Nat.zero_div,Nat.add_zero,Nat.add_mod,Nat.mul_mod,tX M h k,← Nat.mul_mod,← Nat.add_mod,Nat.mul_comm]
theorem cover {M m:Nat} (hM:M+1=2 ^ m) (h:Int) {e:Nat} (he:e≤M):∃ k,k≤M+13∧(lp M h k).1=e:=by
  obtain ⟨k,hk,q⟩:=yO m (lp M h 13).1 e
  rw [← hM] at hk q
  refine ⟨13+k,by walk_at "l",?_⟩
  have:=tX M h k
  rw [q] at this
  rwa [Nat.mod_eq_of_lt (Nat.lt_succ_of_le (vK M h _)),Nat.mod_eq_of_lt (Nat.lt_succ_of_le he)] at this
theorem yp (M:Nat) (h:Int) (k:Nat):J M h (blk M h k)=(lp M h k).1:=by unfold J; rw [pN]
theorem jJ {M m:Nat} (hM:M+1=2 ^ m) (h:Int) (occ:Nat→Bool) {e:Nat} (he:e≤M) (hf:occ e=false):∃ n,n≤10 * (M+13)∧occ (J M h n)=false∧∀ k<n,occ (J M h k)=true:=by
  obtain ⟨k,hk,q⟩:=cover hM h he
  have hb:=sy M h k
  have hB:occ (J M h (blk M h k))=false:=by rw [yp,q]; exact hf
  generalize blk M h k=b at hb hB
  have go:∀ b,occ (J M h b)=false→∃ n,n≤b∧occ (J M h n)=false∧∀ k<n,occ (J M h k)=true:=by
    intro b
    induction b using Nat.strongRecOn with
    | ind b ih =>
      intro hB
      by_cases c:∃ k,k<b∧occ (J M h k)=false
      · obtain ⟨k,h1,h2⟩:=c
        obtain ⟨n,a1,a2,a3⟩:=ih k h1 h2
        exact ⟨n,by walk_at "l",a2,a3⟩
      · refine ⟨b,Nat.le_refl _,hB,fun k hk=>?_⟩
        cases z:occ (J M h k) with
        | true=>rfl
        | false=>exact absurd ⟨k,hk,z⟩ c
  obtain ⟨n,a1,a2,a3⟩:=go b hB
  exact ⟨n,by walk_at "l",a2,a3⟩
end TS

set_option Elab.async false
set_option linter.all false
set_option maxRecDepth 100000
set_option maxHeartbeats 4000000

namespace TS
open PySem PySem.SetTable
noncomputable def Up (xs:Array Nat):Prop:=∀ i j:Nat,i<j→j<xs.size→xs.getD i 0<xs.getD j 0
theorem pR {xs:Array Nat} {i d d':Nat} (h:i<xs.size):xs.getD i d=xs.getD i d':=by simp [Array.getD,h]
theorem lr {xs:Array Nat} (U:Up xs) (j:Nat):∀ (fuel lo hi:Nat),hi - lo≤fuel→lo≤hi→hi≤xs.size→(∀ i<lo,xs.getD i 0<j)→(∀ i,hi≤i→i<xs.size→j≤xs.getD i 0) →
    below.go xs j fuel lo hi≤xs.size∧(∀ i<below.go xs j fuel lo hi,xs.getD i 0<j)∧(∀ i,below.go xs j fuel lo hi≤i→i<xs.size→j≤xs.getD i 0)
  | 0,lo,hi,hf,h1,h2,h3,h4=>by
    obtain rfl:lo=hi:=by walk_at "l"
    exact ⟨h2,h3,h4⟩
  | fuel+1,lo,hi,hf,h1,h2,h3,h4=>by
    unfold below.go
    by_cases c:lo<hi
    · rw [if_pos c]
      dsimp only
      have hm:(lo+hi) / 2<xs.size:=by walk_at "l"
      by_cases d:xs.getD ((lo+hi) / 2) j<j
      · rw [if_pos d]
        rw [pR (d':=0) hm] at d
        refine lr U j fuel _ _ (by walk_at "l") (by walk_at "l") h2 (fun i hi'=>?_) h4
        by_cases e:i=(lo+hi) / 2
        · rw [e]; exact d
        · exact Nat.lt_trans (U i _ (by walk_at "l") hm) d
      · rw [if_neg d]
        rw [pR (d':=0) hm] at d
        refine lr U j fuel _ _ (by walk_at "l") (by walk_at "l") (by walk_at "l") h3 fun i hi' hs=>?_
        by_cases e:i=(lo+hi) / 2
        · rw [e]; walk_at "l"
        · have:=U ((lo+hi) / 2) i (by walk_at "l") hs; walk_at "l"
    · rw [if_neg c]
      obtain rfl:lo=hi:=by walk_at "l"
      exact ⟨h2,h3,h4⟩
theorem aR {xs:Array Nat} (U:Up xs) (j:Nat):below xs j≤xs.size∧(∀ i<below xs j,xs.getD i 0<j)∧(∀ i,below xs j≤i→i<xs.size→j≤xs.getD i 0) :=
  lr U j xs.size 0 xs.size (by exact Nat.sub_le _ _) (by exact Nat.zero_le _) (Nat.le_refl _) (fun i h=>absurd h (Nat.not_lt_zero i)) fun i h1 h2=>by walk_at "l"
theorem below_at {xs:Array Nat} (U:Up xs) {i:Nat} (h:i<xs.size):below xs (xs.getD i 0)=i:=by
  obtain ⟨a,b,c⟩:=aR U (xs.getD i 0)
  by_cases h1:below xs (xs.getD i 0)<i
  · have:=c _ (Nat.le_refl _) (by walk_at "l")
    have:=U _ i h1 h
    walk_at "l"
  · by_cases h2:i<below xs (xs.getD i 0)
    · have:=b i h2; walk_at "l"
    · walk_at "l"
theorem qG {xs:Array Nat} (U:Up xs) {i:Nat} (h:i<xs.size):below xs (xs.getD i 0+1)=i+1:=by
  obtain ⟨a,b,c⟩:=aR U (xs.getD i 0+1)
  by_cases h1:below xs (xs.getD i 0+1)<i+1
  · have:=c i (by walk_at "l") h; walk_at "l"
  · by_cases h2:i+1<below xs (xs.getD i 0+1)
    · have:=b (i+1) h2
      have:=U i (i+1) (by walk_at "l") (by walk_at "l"); walk_at "l"
    · walk_at "l"
noncomputable def taken (xs:Array Nat) (j:Nat):Bool:=xs[below xs j]? == some j
theorem tK {xs:Array Nat} {i j:Nat} (h:xs[i]? = some j):i<xs.size∧xs.getD i 0=j:=by
  obtain ⟨h1,h2⟩:=Array.getElem?_eq_some_iff.mp h
  exact ⟨h1,by simp [Array.getD,h1,h2]⟩
theorem uc {xs:Array Nat} {i:Nat} (h:i<xs.size):xs[i]? = some (xs.getD i 0):=by simp [Array.getD,h]
theorem c7 {xs:Array Nat} (U:Up xs) {j:Nat}:taken xs j=true↔∃ i,i<xs.size∧xs.getD i 0=j:=by
  unfold taken
  rw [beq_iff_eq]
  constructor
  · intro h; exact ⟨_,tK h⟩
  · rintro ⟨i,h,rfl⟩
    rw [below_at U h]
    exact uc h
theorem gG {xs:Array Nat} (U:Up xs) {j:Nat} (h:taken xs j=true):below xs j<xs.size∧xs.getD (below xs j) 0=j:=by
  unfold taken at h
  rw [beq_iff_eq] at h
  exact tK h
theorem bM {α:Type} (xs:Array α) {p:Nat} (x:α) (h:p≤xs.size):(insertAt xs p x).size=xs.size+1:=by
  unfold insertAt
  simp
  walk_at "l"
theorem ins_get {α:Type} (xs:Array α) {p:Nat} (x:α) (h:p≤xs.size) (i:Nat):(insertAt xs p x)[i]? = if i<p then xs[i]? else if i=p then some x else xs[i - 1]? := by
  unfold insertAt
  have hs:((xs.extract 0 p).push x).size=p+1:=by simp; walk_at "l"
  by_cases h1:i<p
  · rw [if_pos h1,Array.getElem?_append_left (by walk_at "l"),Array.getElem?_push,if_neg (by simp; walk_at "l"),Array.getElem?_extract]
    rw [if_pos (by walk_at "l")]; simp
  · rw [if_neg h1]
    by_cases h2:i=p
    · rw [if_pos h2,Array.getElem?_append_left (by walk_at "l"),Array.getElem?_push,if_pos (by simp; walk_at "l")]
    · rw [if_neg h2,Array.getElem?_append_right (by walk_at "l"),hs,Array.getElem?_extract]
      by_cases h3:i - (p+1)<min xs.size xs.size - p
      · rw [if_pos h3]
        congr 1; walk_at "l"
      · rw [if_neg h3,Array.getElem?_eq_none (by walk_at "l")]
theorem cD {xs:Array Nat} {p x:Nat} (h:p≤xs.size) (i:Nat):(insertAt xs p x).getD i 0=if i<p then xs.getD i 0 else if i=p then x else xs.getD (i - 1) 0:=by
  have e:∀ (ys:Array Nat) (k:Nat),ys.getD k 0=ys[k]?.getD 0:=fun ys k=>by
    simp [Array.getD_eq_getD_getElem?]
  rw [e,ins_get xs x h]
  split
  · rw [e]
  · split
    · rfl
    · rw [e]
theorem vH {xs:Array Nat} (U:Up xs) {j:Nat} (hj:taken xs j=false):Up (insertAt xs (below xs j) j):=by
  obtain ⟨a,b,c⟩:=aR U j
  have ne:∀ i,i<xs.size→xs.getD i 0≠j:=fun i hi e=>by
    have:=(c7 U (j:=j)).mpr ⟨i,hi,e⟩
    rw [hj] at this; cases this
  intro i k hik hk
  rw [bM xs j a] at hk
  rw [cD a,cD a]
  by_cases h1:k<below xs j
  · rw [if_pos (by walk_at "l"),if_pos h1]; exact U i k hik (by walk_at "l")
  · rw [if_neg h1]
    by_cases h2:k=below xs j
    · rw [if_pos h2,if_pos (by walk_at "l")]; exact b i (by walk_at "l")
    · rw [if_neg h2]
      by_cases h3:i<below xs j
      · rw [if_pos h3]; exact U i (k - 1) (by walk_at "l") (by walk_at "l")
      · rw [if_neg h3]
        by_cases h4:i=below xs j
        · rw [if_pos h4]
          have:=c (k - 1) (by walk_at "l") (by walk_at "l")
          have:=ne (k - 1) (by walk_at "l")
          walk_at "l"
        · rw [if_neg h4]; exact U (i - 1) (k - 1) (by walk_at "l") (by walk_at "l")
theorem qU {xs:Array Nat} (U:Up xs) {j k:Nat} (hj:taken xs j=false):taken (insertAt xs (below xs j) j) k=(decide (k=j) || taken xs k):=by
  have a:=(aR U j).1
  have U':=vH U hj
  apply Bool.eq_iff_iff.mpr
  rw [c7 U',Bool.or_eq_true,decide_eq_true_eq,c7 U]
  rw [bM xs j a]
  constructor
  · rintro ⟨i,hi,e⟩
    rw [cD a] at e
    by_cases h1:i<below xs j
    · rw [if_pos h1] at e; exact .inr ⟨i,by walk_at "l",e⟩
    · rw [if_neg h1] at e
      by_cases h2:i=below xs j
      · rw [if_pos h2] at e; exact .inl e.symm
      · rw [if_neg h2] at e; exact .inr ⟨i - 1,by walk_at "l",e⟩
  · rintro (rfl | ⟨i,hi,e⟩)
    · exact ⟨below xs k,by walk_at "l",by rw [cD a,if_neg (by walk_at "l"),if_pos rfl]⟩
    · by_cases h1:i<below xs j
      · exact ⟨i,by walk_at "l",by rw [cD a,if_pos h1]; exact e⟩
      · exact ⟨i+1,by walk_at "l",by rw [cD a,if_neg (by walk_at "l"),if_neg (by walk_at "l")]; exact e⟩
noncomputable def Reach (M:Nat) (place:Array Nat) (h:Int) (j:Nat):Prop:=∃ n,n≤10 * (M+13)∧J M h n=j∧∀ k<n,taken place (J M h k)=true
structure TI {α:Type} (t:SetTable) (es:Array (Int × α)):Prop where
  pw:∃ m,t.mask+1=2 ^ m∧3≤m
  sz:t.place.size=es.size
  up:Up t.place
  le:∀ i,i<t.place.size→t.place.getD i 0≤t.mask
  dm:t.dummies = #[]
  few:es.size * 5<t.mask * 3
  path:∀ i h x,es[i]? = some (h,x)→Reach t.mask t.place h (t.place.getD i 0)
section
variable {α:Type} {t:SetTable} {es:Array (Int × α)}
theorem TI.slot (T:TI t es) (j:Nat):t.slot j=if taken t.place j then .live (below t.place j) else .empty:=by
  unfold SetTable.slot taken
  dsimp only
  split
  · rfl
  · have:has t.dummies j=false:=by rw [T.dm]; rfl
    rw [this]; rfl
theorem TI.fits (T:TI t es):t.fits es.size=true:=by
  have:=T.few
  simp only [SetTable.fits,fill,T.dm,T.sz,Bool.and_eq_true,beq_iff_eq,decide_eq_true_eq,true_and]
  simp; walk_at "l"
theorem TI.odd (T:TI t es):t.gaveWay=false:=by
  obtain ⟨m,h,h3⟩:=T.pw
  unfold SetTable.gaveWay
  rw [beq_eq_false_iff_ne]
  have:2 ^ m=2 * 2 ^ (m - 1):=by
    rw [show m=(m - 1)+1 by walk_at "l",Nat.pow_succ]; simp; walk_at "l"
  walk_at "l"
theorem TI.free (T:TI t es):∃ e,e≤t.mask∧taken t.place e=false:=by
  have hf:=T.few
  have hs:=T.sz
  by_cases c:∃ e,e≤t.mask∧taken t.place e=false
  · exact c
  · exfalso
    have all:∀ e,e≤t.mask→taken t.place e=true:=fun e he=>by
      cases z:taken t.place e with
      | true=>rfl
      | false=>exact absurd ⟨e,he,z⟩ c
    -- slot e stands at place at most e
    have go:∀ e,e≤t.mask→e≤below t.place e:=by
      intro e
      induction e with
      | zero=>intro _; exact Nat.zero_le _
      | succ e ih =>
        intro he
        have h1:=gG T.up (all e (by walk_at "l"))
        have h2:=gG T.up (all (e+1) he)
        have:=ih (by walk_at "l")
        obtain ⟨_,b,c⟩:=aR T.up (e+1)
        by_cases z:below t.place e<below t.place (e+1)
        · walk_at "l"
        · have:=c (below t.place e) (by walk_at "l") h1.1
          walk_at "l"
    have:=go t.mask (Nat.le_refl _)
    have:=(gG T.up (all t.mask (Nat.le_refl _))).1
    walk_at "l"
theorem TI.put (T:TI t es) {h:Int} {x:α} {j:Nat} (hj:j≤t.mask) (hn:taken t.place j=false) (hr:Reach t.mask t.place h j) {t':SetTable} (ht:t'.mask=t.mask) (hp:t'.place=insertAt t.place (below t.place j) j) (hd:t'.dummies = #[])
    (hf:(es.size+1) * 5<t.mask * 3):TI t' (insertAt es (below t.place j) (h,x)):=by
  have a:=(aR T.up j).1
  have a':below t.place j≤es.size:=by rw [← T.sz]; exact a
  refine ⟨by rw [ht]; exact T.pw,by rw [hp,bM _ _ a,bM _ _ a',T.sz],by rw [hp]; exact vH T.up hn,fun i hi=>?_,hd,by rw [bM _ _ a',ht]; exact hf,fun i g y e=>?_⟩
  · rw [hp,bM _ _ a] at hi
    rw [hp,cD a,ht]
    split
    · exact T.le i (by walk_at "l")
    · split
      · exact hj
      · exact T.le (i - 1) (by walk_at "l")
  · have mono:∀ {g:Int} {k:Nat},Reach t.mask t.place g k→Reach t'.mask t'.place g k:=fun {g k} ⟨n,h1,h2,h3⟩=>⟨n,by rw [ht]; exact h1,by rw [ht]; exact h2,fun q hq=>by
      rw [hp,ht,qU T.up hn,h3 q hq,Bool.or_true]⟩
    rw [ins_get es _ a'] at e
    rw [hp,cD a,← hp]
    by_cases h1:i<below t.place j
    · rw [if_pos h1] at e ⊢
      exact mono (T.path i g y e)
    · rw [if_neg h1] at e ⊢
      by_cases h2:i=below t.place j
      · rw [if_pos h2] at e ⊢
        cases e
        exact mono hr
      · rw [if_neg h2] at e ⊢
        exact mono (T.path (i - 1) g y e)
end
end TS

set_option Elab.async false
set_option linter.all false
set_option maxRecDepth 100000
set_option maxHeartbeats 4000000

namespace TS
open PySem PySem.SetTable
theorem bZ {α:Type} [DecidableEq α]:∀ {l m:List α},l.Nodup→(∀ x∈l,x∈m)→l.length≤m.length
  | [],_,_,_=>Nat.zero_le _
  | x :: l,m,nd,h=>by
    rw [List.nodup_cons] at nd
    have hx:=h x List.mem_cons_self
    have:=bZ (l:=l) (m:=m.erase x) nd.2 fun y hy=>(List.mem_erase_of_ne (fun e=>nd.1 (by rw [← e]; exact hy))).mpr (h y (List.mem_cons_of_mem _ hy))
    rw [List.length_erase_of_mem hx] at this
    have:0<m.length:=List.length_pos_of_mem hx
    simp only [List.length_cons]; walk_at "l"
noncomputable def occ (owner:Array (Option Nat)) (j:Nat):Bool:=(owner.getD j (some 0)).isSome
theorem mq {M:Nat} (h:Int) (owner:Array (Option Nat)):∀ (fuel k:Nat),(∀ q<blk M h k,occ owner (J M h q)=true)→(∃ K,k≤K∧K<k+fuel∧K≤M+13∧occ owner (lp M h K).1=false) →
    ∃ j n,layClean.free M owner fuel (lp M h k).1 (lp M h k).2=some j∧J M h n=j∧n≤10 * (M+13)∧occ owner j=false∧∀ q<n,occ owner (J M h q)=true
  | 0,k,_,⟨K,h1,h2,_⟩=>by walk_at "l"
  | fuel+1,k,hq,⟨K,h1,h2,h3,h4⟩=>by
    have hrun:∀ r,r≤runEnd M (lp M h k).1 - (lp M h k).1→J M h (blk M h k+r)=(lp M h k).1+r:=fun r hr=>by
      unfold J
      rw [qM M h (blk M h k) r (by rw [pN]; exact hr),pN]
    have hle:=pD (vK M h k)
    have e:∀ r,(owner.getD ((lp M h k).1+r) (some 0)).isNone = !occ owner ((lp M h k).1+r):=fun r=>by
      unfold occ; cases owner.getD ((lp M h k).1+r) (some 0) <;> rfl
    unfold layClean.free
    cases hf:(List.range (runEnd M (lp M h k).1+1 - (lp M h k).1)).find? fun r=>(owner.getD ((lp M h k).1+r) (some 0)).isNone with
    | some r =>
      obtain ⟨a1,a2,a3⟩:=List.find?_range_eq_some.mp hf
      have a2:r<runEnd M (lp M h k).1+1 - (lp M h k).1:=by simpa using a2
      rw [e] at a1
      have a1:occ owner ((lp M h k).1+r)=false:=by simpa using a1
      have occs:∀ q<blk M h k+r,occ owner (J M h q)=true:=fun q hqq=>by
        by_cases z:q<blk M h k
        · exact hq q z
        · have:=a3 (q - blk M h k) (by walk_at "l")
          rw [e] at this
          have hj:=hrun (q - blk M h k) (by walk_at "l")
          rw [show blk M h k+(q - blk M h k)=q by walk_at "l"] at hj
          rw [hj]
          simpa using this
      refine ⟨_,blk M h k+r,rfl,hrun r (by walk_at "l"),?_,a1,occs⟩
      have hb:=sy M h K
      by_cases z:blk M h k+r≤blk M h K
      · walk_at "l"
      · have:=occs (blk M h K) (by walk_at "l")
        rw [yp,h4] at this; cases this
    | none =>
      have hn:=List.find?_eq_none.mp hf
      have occr:∀ r,r≤runEnd M (lp M h k).1 - (lp M h k).1→occ owner ((lp M h k).1+r)=true:=fun r hr=>by
        have:=hn r (by simp; walk_at "l")
        rw [e] at this
        simpa using this
      dsimp only
      have hK:K≠k:=fun z=>by
        subst z
        have:=occr 0 (Nat.zero_le _)
        rw [Nat.add_zero,h4] at this; cases this
      refine mq h owner fuel (k+1) (fun q hqq=>?_) ⟨K,by walk_at "l",by walk_at "l",h3,h4⟩
      by_cases z:q<blk M h k
      · exact hq q z
      · have hqq:q<blk M h k+(runEnd M (lp M h k).1 - (lp M h k).1)+1:=hqq
        have hj:=hrun (q - blk M h k) (by walk_at "l")
        rw [show blk M h k+(q - blk M h k)=q by walk_at "l"] at hj
        rw [hj]
        exact occr _ (by walk_at "l")
structure OI (M:Nat) (hs:List Int) (owner:Array (Option Nat)):Prop where
  sz:owner.size=M+1
  lt:∀ j v:Nat,owner[j]? = some (some v)→v<hs.length
  inj:∀ j j' v:Nat,owner[j]? = some (some v)→owner[j']? = some (some v)→j=j'
  all:∀ v:Nat,v<hs.length→∃ j:Nat,owner[j]? = some (some v)
  path:∀ j v:Nat,owner[j]? = some (some v)→∃ n,n≤10 * (M+13)∧J M (hs.getD v 0) n=j∧∀ q<n,occ owner (J M (hs.getD v 0) q)=true
theorem m_ {owner:Array (Option Nat)} {j:Nat} (h:j<owner.size):occ owner j=true↔∃ v,owner[j]? = some (some v):=by
  unfold occ
  rw [Array.getElem?_eq_getElem h]
  simp only [Array.getD,h,dite_true,Option.some.injEq]
  cases hh:owner[j] with
  | none =>
    have:owner.getInternal j h=none:=hh
    rw [this]; simp
  | some v =>
    have:owner.getInternal j h=some v:=hh
    rw [this]; simp
theorem OI.free {M:Nat} {hs:List Int} {owner:Array (Option Nat)} (O:OI M hs owner) (hl:hs.length≤M):∃ e,e≤M∧occ owner e=false:=by
  by_cases c:∃ e,e≤M∧occ owner e=false
  · exact c
  · exfalso
    have all:∀ e,e≤M→∃ v,owner[e]? = some (some v):=fun e he=>by
      refine (m_ (by rw [O.sz]; walk_at "l")).mp ?_
      cases z:occ owner e with
      | true=>rfl
      | false=>exact absurd ⟨e,he,z⟩ c
    have nd:((List.range (M+1)).map fun j=>(owner.getD j none).getD 0).Nodup:=by
      rw [List.nodup_iff_pairwise_ne,List.pairwise_map]
      refine List.Pairwise.imp_of_mem ?_ (List.nodup_iff_pairwise_ne.mp List.nodup_range)
      intro a b ha hb hne z
      obtain ⟨va,ea⟩:=all a (by have:=List.mem_range.mp ha; walk_at "l")
      obtain ⟨vb,eb⟩:=all b (by have:=List.mem_range.mp hb; walk_at "l")
      rw [Array.getD_eq_getD_getElem?,Array.getD_eq_getD_getElem?,ea,eb] at z
      have z:va=vb:=z
      subst z
      exact hne (O.inj _ _ _ ea eb)
    have:=bZ (m:=List.range hs.length) nd fun x hx=>by
      obtain ⟨j,hj,rfl⟩:=List.mem_map.mp hx
      obtain ⟨v,e⟩:=all j (by have:=List.mem_range.mp hj; walk_at "l")
      rw [Array.getD_eq_getD_getElem?,e]
      exact List.mem_range.mpr (O.lt _ _ e)
    simp at this
    walk_at "l"
theorem OI.lay {M m:Nat} {hs:List Int} {owner:Array (Option Nat)} (hM:M+1=2 ^ m) (O:OI M hs owner) (hl:hs.length≤M) (h:Int) :
    ∃ j,layClean.free M owner (turns M) (bits h % (M+1)) (bits h)=some j∧OI M (hs++[h]) (owner.setIfInBounds j (some hs.length)):=by
  obtain ⟨e,he,hf⟩:=O.free hl
  obtain ⟨K,hK,hKe⟩:=cover hM h he
  obtain ⟨j,n,e1,e2,e3,e4,e5⟩:=mq h owner (turns M) 0 (fun q hq=>absurd hq (Nat.not_lt_zero q)) ⟨K,Nat.zero_le _,by unfold turns; walk_at "l",hK,by rw [hKe]; exact hf⟩
  refine ⟨j,e1,?_⟩
  have hj:j<owner.size:=by rw [O.sz,← e2]; exact Nat.lt_succ_of_le (J_le M h n)
  have get:∀ i,(owner.setIfInBounds j (some hs.length))[i]? = if j=i then some (some hs.length) else owner[i]? := fun i=>by
    rw [Array.getElem?_setIfInBounds]
    by_cases z:j=i
    · subst z; simp [hj]
    · simp [z]
  have oc:∀ i,occ owner i=true→occ (owner.setIfInBounds j (some hs.length)) i=true:=fun i hi=>by
    unfold occ at hi ⊢
    rw [Array.getD_eq_getD_getElem?] at hi ⊢
    rw [get]
    split
    · rfl
    · exact hi
  have hne:∀ v,owner[j]?≠some (some v):=fun v z=>by
    have:=(m_ hj).mpr ⟨v,z⟩
    rw [e4] at this; cases this
  refine ⟨by rw [Array.size_setIfInBounds]; exact O.sz,fun i v z=>?_,fun i i' v z z'=>?_,fun v hv=>?_,fun i v z=>?_⟩
  · rw [get] at z
    split at z
    · cases z; simp
    · have:=O.lt i v z; simp; walk_at "l"
  · rw [get] at z z'
    split at z
    · cases z
      split at z'
      · walk_at "l"
      · exact absurd (O.lt _ _ z') (Nat.lt_irrefl _)
    · split at z'
      · cases z'
        exact absurd (O.lt _ _ z) (Nat.lt_irrefl _)
      · exact O.inj i i' v z z'
  · simp at hv
    by_cases c:v=hs.length
    · exact ⟨j,by rw [get,if_pos rfl,c]⟩
    · obtain ⟨i,hi⟩:=O.all v (by walk_at "l")
      refine ⟨i,?_⟩
      rw [get,if_neg (fun z=>hne v (by rw [z]; exact hi))]
      exact hi
  · rw [get] at z
    split at z
    · rename_i hji
      cases z
      refine ⟨n,e3,?_,fun q hq=>oc _ ?_⟩
      · rw [List.getD_eq_getElem?_getD,List.getElem?_append_right (Nat.le_refl _)]
        simp [e2,hji]
      · have:=e5 q hq
        rw [List.getD_eq_getElem?_getD,List.getElem?_append_right (Nat.le_refl _)]
        simpa using this
    · have hv:=O.lt i v z
      obtain ⟨n',a1,a2,a3⟩:=O.path i v z
      have eg:(hs++[h]).getD v 0=hs.getD v 0:=by
        rw [List.getD_eq_getElem?_getD,List.getD_eq_getElem?_getD,List.getElem?_append_left hv]
      rw [eg]
      exact ⟨n',a1,a2,fun q hq=>oc _ (a3 q hq)⟩
theorem OI.nil (M:Nat):OI M [] (Array.replicate (M+1) none):=by
  have no:∀ (j v:Nat),¬ (Array.replicate (M+1) (none:Option Nat))[j]? = some (some v):=fun j v z=>by
    rw [Array.getElem?_replicate] at z
    split at z <;> cases z
  exact ⟨by simp,fun j v z=>absurd z (no j v),fun j j' v z _=>absurd z (no j v),fun v hv=>absurd hv (Nat.not_lt_zero v),fun j v z=>absurd z (no j v)⟩
theorem v8 {M m:Nat} (hM:M+1=2 ^ m) (hs:Array Int) (hl:hs.size≤M):∃ owner,layClean M hs=some owner∧OI M hs.toList owner:=by
  have go:∀ (l pre:List Int) (owner:Array (Option Nat)),OI M pre owner→pre.length+l.length≤M→∃ owner',l.foldl (fun acc h=>do
      let (owner,k) ← acc
      let j ← layClean.free M owner (turns M) (bits h % (M+1)) (bits h)
      pure (owner.setIfInBounds j (some k),k+1)) (some (owner,pre.length))=some (owner',pre.length+l.length)∧OI M (pre++l) owner':=by
    intro l
    induction l with
    | nil=>intro pre owner O _; exact ⟨owner,rfl,by rw [List.append_nil]; exact O⟩
    | cons h l ih =>
      intro pre owner O hz
      rw [List.length_cons] at hz
      obtain ⟨j,e,O'⟩:=O.lay hM (by walk_at "l") h
      obtain ⟨o2,e2,O2⟩:=ih (pre++[h]) _ O' (by simp; walk_at "l")
      refine ⟨o2,?_,by rw [List.append_assoc] at O2; exact O2⟩
      rw [List.foldl_cons]
      have:(do
        let (owner,k) ← (some (owner,pre.length):Option (Array (Option Nat) × Nat))
        let j ← layClean.free M owner (turns M) (bits h % (M+1)) (bits h)
        pure (owner.setIfInBounds j (some k),k+1))=some (owner.setIfInBounds j (some pre.length),(pre++[h]).length):=by
        simp [e]
      rw [this,e2]
      simp; exact Nat.add_right_comm ..
  obtain ⟨o,e,O⟩:=go hs.toList [] _ (OI.nil M) (by simpa using hl)
  refine ⟨o,?_,by simpa using O⟩
  unfold layClean
  rw [← Array.foldl_toList]
  have e':=e
  simp only [List.length_nil] at e'
  rw [e']
  rfl
end TS

set_option Elab.async false
set_option linter.all false
set_option maxRecDepth 100000
set_option maxHeartbeats 4000000

namespace TS
open PySem PySem.SetTable
theorem gq {n:Nat}:∀ (fuel a:Nat),3≤a→n<2 ^ (a+fuel)→∃ b,3≤b∧sizeAbove.go n fuel (2 ^ a)=2 ^ b∧n<2 ^ b∧(2 ^ b≤2 * n∨b=a)
  | 0,a,ha,h=>⟨a,ha,rfl,by simpa using h,.inr rfl⟩
  | fuel+1,a,ha,h=>by
    unfold sizeAbove.go
    by_cases c:2 ^ a≤n
    · rw [if_pos c]
      obtain ⟨b,h1,h2,h3,h4⟩:=gq fuel (a+1) (by walk_at "l") (by rw [show a+1+fuel=a+(fuel+1) by walk_at "l"]; exact h)
      refine ⟨b,h1,by rw [Nat.pow_succ] at h2; exact h2,h3,?_⟩
      rcases h4 with h4 | h4
      · exact .inl h4
      · left
        rw [h4,Nat.pow_succ]; walk_at "l"
    · rw [if_neg c]
      exact ⟨a,ha,rfl,by walk_at "l",.inr rfl⟩
theorem jy {n:Nat} (h:n<2 ^ 60):∃ b,3≤b∧sizeAbove n=2 ^ b∧n<2 ^ b∧(2 ^ b≤2 * n∨b=3) :=
  gq 64 3 (Nat.le_refl _) (Nat.lt_trans h (by decide))
section
variable {α:Type}
noncomputable def bF (M:Nat) (owner:Array (Option Nat)):List (Nat × Nat):=(List.range (M+1)).filterMap fun j=>(owner.getD j none).map (j,·)
theorem cU {M:Nat} {owner:Array (Option Nat)} {p:Nat × Nat}:p∈bF M owner↔p.1<M+1∧owner[p.1]? = some (some p.2):=by
  unfold bF
  rw [List.mem_filterMap]
  constructor
  · rintro ⟨j,hj,e⟩
    rw [Array.getD_eq_getD_getElem?] at e
    cases h:owner[j]? with
    | none=>rw [h] at e; cases e
    | some o =>
      rw [h] at e
      cases o with
      | none=>cases e
      | some v =>
        cases e
        exact ⟨List.mem_range.mp hj,h⟩
  · rintro ⟨h1,h2⟩
    exact ⟨p.1,List.mem_range.mpr h1,by rw [Array.getD_eq_getD_getElem?,h2]; rfl⟩
theorem oO (M:Nat) (owner:Array (Option Nat)):((bF M owner).map (·.1)).Pairwise (· < ·):=by
  unfold bF
  rw [List.pairwise_map,List.pairwise_filterMap]
  refine List.Pairwise.imp ?_ List.pairwise_lt_range
  intro a b hab p hp q hq
  cases h1:owner.getD a none with
  | none=>rw [h1] at hp; cases hp
  | some x =>
    cases h2:owner.getD b none with
    | none=>rw [h2] at hq; cases hq
    | some y =>
      rw [h1] at hp; rw [h2] at hq
      cases hp; cases hq
      exact hab
theorem pL {l:List Nat} (h:l.Pairwise (· < ·)):Up l.toArray:=fun i j hij hj=>by
  have hj:j<l.length:=by simpa using hj
  have:=List.pairwise_iff_getElem.mp h i j (by walk_at "s1") hj hij
  have e:∀ k (hk:k<l.length),l.toArray.getD k 0=l[k]:=fun k hk=>by simp [Array.getD,hk]
  rw [e i (by walk_at "s1"),e j hj]
  exact this
theorem pO {β:Type} {f:α→Option β}:∀ {l:List α},(∀ x∈l,(f x).isSome=true)→(l.filterMap f).length=l.length∧∀ i:Nat,(l.filterMap f)[i]? = (l[i]?).bind f
  | [],_=>⟨rfl,fun i=>by simp⟩
  | x :: l,h=>by
    obtain ⟨a,b⟩:=pO (f:=f) (l:=l) fun y hy=>h y (List.mem_cons_of_mem _ hy)
    have hx:=h x List.mem_cons_self
    cases e:f x with
    | none=>rw [e] at hx; cases hx
    | some y =>
      rw [List.filterMap_cons,e]
      refine ⟨by simp [a],fun i=>?_⟩
      cases i with
      | zero=>simp [e]
      | succ i=>simpa using b i
theorem ph (es:Array (Int × α)):(List.range es.size).filterMap (fun i=>es[i]?)=es.toList:=by
  apply List.ext_getElem?
  intro i
  rw [(pO (l:=List.range es.size) fun x hx=>by
    have:=List.mem_range.mp hx
    simp [this]).2 i]
  by_cases h:i<es.size
  · rw [List.getElem?_range h,Array.getElem?_toList]; rfl
  · rw [List.getElem?_eq_none (by simpa using h),List.getElem?_eq_none (by simpa using h)]; rfl
theorem xM {M m finger moves:Nat} {led plain:Bool} (hM:M+1=2 ^ m) (hm:3≤m) {es:Array (Int × α)} (hf:es.size * 5<M * 3) :
    ∃ t order,laid M finger moves led plain (es.map (·.1))=some (t,order)∧t.plain=plain∧t.led=led∧t.mask=M∧TI t (order.filterMap fun i=>es[i]?)∧(order.filterMap fun i=>es[i]?).size=es.size∧(order.filterMap fun i=>es[i]?).toList.Perm es.toList∧order.toList.Perm (List.range es.size):=by
  obtain ⟨owner,e,O⟩:=v8 hM (es.map (·.1)) (by rw [Array.size_map]; walk_at "l")
  have hn:(es.map (·.1)).toList.length=es.size:=by simp
  refine ⟨{ mask:=M,place:=((bF M owner).map (·.1)).toArray,dummies:=#[],finger,led,moves,plain },((bF M owner).map (·.2)).toArray,?_,rfl,rfl,rfl,?_⟩
  · unfold laid
    rw [e]; rfl
  have vlt:∀ p∈bF M owner,p.2<es.size:=fun p hp=>by
    have:=O.lt _ _ (cU.mp hp).2
    walk_at "l"
  have nd:((bF M owner).map (·.2)).Nodup:=by
    rw [List.nodup_iff_pairwise_ne,List.pairwise_map]
    have:=oO M owner
    rw [List.pairwise_map] at this
    refine List.Pairwise.imp_of_mem ?_ this
    intro p q hp hq hlt z
    have:=O.inj _ _ _ (cU.mp hp).2 (by rw [z]; exact (cU.mp hq).2)
    walk_at "l"
  have pm:((bF M owner).map (·.2)).Perm (List.range es.size):=by
    refine (List.perm_ext_iff_of_nodup nd List.nodup_range).mpr fun v=>⟨fun hv=>?_,fun hv=>?_⟩
    · obtain ⟨p,hp,rfl⟩:=List.mem_map.mp hv
      exact List.mem_range.mpr (vlt p hp)
    · obtain ⟨j,hj⟩:=O.all v (by rw [hn]; exact List.mem_range.mp hv)
      have hjs:=(Array.getElem?_eq_some_iff.mp hj).1
      rw [O.sz] at hjs
      exact List.mem_map.mpr ⟨(j,v),cU.mpr ⟨hjs,hj⟩,rfl⟩
  have hlen:(bF M owner).length=es.size:=by
    have:=pm.length_eq
    simpa using this
  have hes:(((bF M owner).map (·.2)).toArray.filterMap fun i=>es[i]?).toList=(bF M owner).filterMap fun p=>es[p.2]? := by
    rw [Array.toList_filterMap,List.filterMap_map]; rfl
  obtain ⟨f1,f2⟩:=pO (l:=bF M owner) (f:=fun p=>es[p.2]?) fun p hp=>by simp [vlt p hp]
  have hget:∀ i:Nat,(((bF M owner).map (·.2)).toArray.filterMap fun i=>es[i]?)[i]? = ((bF M owner)[i]?).bind fun p=>es[p.2]? := fun i=>by
    rw [← Array.getElem?_toList,hes]; exact f2 i
  have hsz:(((bF M owner).map (·.2)).toArray.filterMap fun i=>es[i]?).size=es.size:=by
    rw [← Array.length_toList,hes,f1,hlen]
  have hpl:∀ i:Nat,∀ p,(bF M owner)[i]? = some p→((bF M owner).map (·.1)).toArray.getD i 0=p.1:=fun i p hp=>by
    rw [Array.getD_eq_getD_getElem?]
    simp [hp]
  have tk:∀ j,occ owner j=true→j≤M→taken ((bF M owner).map (·.1)).toArray j=true:=fun j hj hM'=>by
    obtain ⟨v,hv⟩:=(m_ (by rw [O.sz]; walk_at "l")).mp hj
    obtain ⟨i,hi⟩:=List.mem_iff_getElem?.mp (cU.mpr (show ((j,v):Nat × Nat).1<M+1∧owner[((j,v):Nat × Nat).1]? = some (some ((j,v):Nat × Nat).2) from ⟨by show j<M+1; walk_at "l",hv⟩))
    exact (c7 (pL (oO M owner))).mpr ⟨i,by
      have:=(List.getElem?_eq_some_iff.mp hi).1
      simpa using this,hpl i _ hi⟩
  refine ⟨?_,hsz,?_,by simpa using pm⟩
  · refine ⟨⟨m,hM,hm⟩,?_,pL (oO M owner),fun i hi=>?_,rfl,by rw [hsz]; exact hf,fun i h x hx=>?_⟩
    · rw [hsz]; simp [hlen]
    · have hi:i<(bF M owner).length:=by simpa using hi
      have e1:=List.getElem?_eq_getElem hi
      show ((bF M owner).map (·.1)).toArray.getD i 0≤M
      rw [hpl i _ e1]
      have:=(cU.mp (List.mem_of_getElem? e1)).1
      walk_at "l"
    · rw [hget] at hx
      cases hp:(bF M owner)[i]? with
      | none=>rw [hp] at hx; cases hx
      | some p =>
        rw [hp] at hx
        have hx:es[p.2]? = some (h,x):=hx
        have hm':=cU.mp (List.mem_of_getElem? hp)
        obtain ⟨n,a1,a2,a3⟩:=O.path _ _ hm'.2
        have hh:(es.map (·.1)).toList.getD p.2 0=h:=by
          rw [List.getD_eq_getElem?_getD,Array.getElem?_toList,Array.getElem?_map,hx]; rfl
        rw [hh] at a2 a3
        refine ⟨n,a1,?_,fun q hq=>tk _ (a3 q hq) (J_le M h q)⟩
        show J M h n=((bF M owner).map (·.1)).toArray.getD i 0
        rw [hpl i _ hp]; exact a2
  · rw [hes]
    have:=pm.filterMap fun i=>es[i]?
    rw [ph,List.filterMap_map] at this
    exact this
theorem lV {t:SetTable} {es:Array (Int × α)} (hn:es.size≤10000) :
    ∃ t' order,t.relaid (es.map (·.1)) (grown es.size)=some (t',order)∧t'.plain=t.plain∧t'.led=t.led∧sizeAbove (grown es.size)≤16777216∧(es.size≤1000→t'.mask≤8191)∧TI t' (order.filterMap fun i=>es[i]?)∧(order.filterMap fun i=>es[i]?).size=es.size∧(order.filterMap fun i=>es[i]?).toList.Perm es.toList∧order.toList.Perm (List.range es.size):=by
  have hg:grown es.size=es.size * 4:=by unfold grown; rw [if_neg (by walk_at "l")]
  obtain ⟨b,h3,e,hlt,hle⟩:=jy (n:=es.size * 4) (by walk_at "l")
  have h8:8≤2 ^ b:=Nat.pow_le_pow_right (n:=2) (by decide) h3
  unfold relaid
  rw [hg,e]
  obtain ⟨t',order,q1,q2,q3,qm,q4⟩:=xM (M:=2 ^ b - 1) (m:=b) (finger:=t.finger) (moves:=t.movedTo (2 ^ b - 1)) (led:=t.led) (plain:=t.plain) (by walk_at "l") h3 (es:=es) (by walk_at "l")
  refine ⟨t',order,q1,q2,q3,?_,fun hz=>?_,q4⟩
  · rcases hle with hle | rfl
    · walk_at "l"
    · decide
  · rw [qm]
    rcases hle with hle | rfl
    · walk_at "l"
    · decide
end
end TS

set_option Elab.async false
set_option linter.all false
set_option maxRecDepth 100000
set_option maxHeartbeats 4000000

namespace TS
open PySem PySem.SetTable
section
variable {α:Type} {t:SetTable} {es:Array (Int × α)}
theorem kh (T:TI t es) (hashAt:Nat→Int) (h:Int):∀ (fuel n:Nat),(∃ N,n≤N∧N<n+fuel∧taken t.place (J t.mask h N)=false) →
    ∃ n',n≤n'∧n'<n+fuel∧(∀ q,n≤q→q<n'→taken t.place (J t.mask h q)=true∧hashAt (below t.place (J t.mask h q))≠h) ∧
      ((taken t.place (J t.mask h n')=false∧probe.go t hashAt h fuel (ps t.mask h n)=some (.empty (J t.mask h n') none)) ∨
       (taken t.place (J t.mask h n')=true∧hashAt (below t.place (J t.mask h n'))=h∧probe.go t hashAt h fuel (ps t.mask h n)=some (.candidate (J t.mask h n') (below t.place (J t.mask h n')) (ps t.mask h (n'+1)))))
  | 0,n,⟨N,h1,h2,_⟩=>by walk_at "l"
  | fuel+1,n,⟨N,h1,h2,h3⟩=>by
    unfold probe.go
    have hs:=T.slot (J t.mask h n)
    have hd:=(wH t.mask h n).2.2.1
    by_cases c:taken t.place (J t.mask h n)=true
    · rw [if_pos c] at hs
      have hs:t.slot (ps t.mask h n).j=.live (below t.place (J t.mask h n)):=hs
      rw [hs]
      dsimp only
      by_cases e:hashAt (below t.place (J t.mask h n))=h
      · rw [if_pos (by simpa using e)]
        exact ⟨n,Nat.le_refl _,by (clear h1 h2 h3 hd c hs e; walk_at "l"),fun q a b=>by (clear h1 h2 h3 hd c hs e; walk_at "l"),.inr ⟨c,e,rfl⟩⟩
      · rw [if_neg (by simpa using e)]
        have hN:N≠n:=fun z=>by rw [z,c] at h3; cases h3
        obtain ⟨n',a1,a2,a3,a4⟩:=kh T hashAt h fuel (n+1) ⟨N,by (clear h2 h3 hd c hs e; walk_at "l"),by (clear h1 h3 hd c hs e hN; walk_at "l"),h3⟩
        refine ⟨n',by (clear h1 h2 h3 hd c hs e hN a2 a4; walk_at "l"),by (clear h1 h2 h3 hd c hs e hN a1 a4; walk_at "l"),fun q b1 b2=>?_,a4⟩
        by_cases z:q=n
        · subst z; exact ⟨c,e⟩
        · exact a3 q (by (clear h1 h2 h3 hd c hs e hN a1 a2 a4 b2; walk_at "l")) b2
    · have c:taken t.place (J t.mask h n)=false:=by simpa using c
      rw [if_neg (by rw [c]; exact Bool.false_ne_true)] at hs
      have hs:t.slot (ps t.mask h n).j=.empty:=hs
      rw [hs]
      dsimp only
      rw [hd]
      exact ⟨n,Nat.le_refl _,by (clear h1 h2 h3 hd c hs; walk_at "l"),fun q a b=>by (clear h1 h2 h3 hd c hs; walk_at "l"),.inl ⟨c,rfl⟩⟩
end
section
variable {prog:Program} {w:World} {K:Type} [DecidableEq K] {knd:KeyKind prog w K}
noncomputable abbrev aX (knd:KeyKind prog w K) (k:List K):Int:=tupleKeyHash knd k
noncomputable def uE (knd:KeyKind prog w K) (p:List K × Addr):Int × Value:=(aX knd p.1,.ref p.2)
structure SetT (knd:KeyKind prog w K) (h:Heap) (a:Addr) (ks:List (List K × Addr)):Prop where
  ob:∃ o es ep t,h.get? a=some o∧o.ExactSet∧o.data=.set es ep t∧TI t es∧t.mask≤8191∧t.led=(!w.params.followText "set-order")∧es.toList=ks.map (uE knd)
  nd:(ks.map (·.1)).Nodup
  is:∀ p∈ks,IsTupleKey knd h p.1 p.2
variable {A:Around} {E:Value→Shared→Prop} {s:Shared}
theorem jd {k:List K} {a:Addr} {Q:Bool→Shared→Prop} (hk:IsTupleKey knd s.heap k a) (h:Q false s):wpAny (model prog w) A (ofAClassStatement 8 (.ref a)) Q E s:=by
  have hT:=hk.typeIs
  obtain ⟨o,items,n,ho,_,hd,hi⟩:=hk
  unfold ofAClassStatement
  refine wpAny_bind (wpAny_typeOf hT ?_)
  dsimp only
  refine wpAny_bind ?_
  refine wpAny_pure ?_
  simp only [Bool.not_true,Bool.false_eq_true,if_false]
  refine wpAny_bind (wpAny_seqItems ho hd ?_)
  dsimp only
  refine wpAny_bind ?_
  rw [← Array.forIn_toList]
  refine wpAny_forIn_list _ (fun rest r s'=>r.1=none∧s'=s∧∀ v∈rest,carriedByValue v=true) _ ?_ ?_ _ _ ⟨rfl,rfl,hi.byValue⟩
  · rintro v rest r s' ⟨hr,rfl,hall⟩
    have hv:=hall v List.mem_cons_self
    have e:ofAClassStatement 7 v=pure false:=by
      cases v with
      | ref a=>cases hv
      | _=>rfl
    rw [e]
    refine wpAny_bind (wpAny_pure ?_)
    simp only [Bool.false_eq_true,if_false]
    exact wpAny_pure ⟨rfl,rfl,fun u hu'=>hall u (List.mem_cons_of_mem _ hu')⟩
  · rintro ⟨r1,r2⟩ s' ⟨hr,rfl,_⟩
    simp only at hr
    subst hr
    exact wpAny_pure h
theorem fH {k:List K} {a:Addr} {Q:Bool→Shared→Prop} (hk:IsTupleKey knd s.heap k a) (hsc:∀ k v,knd.is k v=true→v.scannable=true) (h:∀ b,Q b s):wpAny (model prog w) A (hashByValue 8 (.ref a)) Q E s:=by
  have hT:=hk.typeIs
  obtain ⟨o,items,n,ho,_,hd,hi⟩:=hk
  have hsc':∀ v∈items.toList,v.scannable=true:=by
    clear ho hd
    generalize items.toList=l at hi
    induction hi with
    | nil=>intro v hv; cases hv
    | cons h1 _ ih =>
      intro v hv
      rcases List.mem_cons.mp hv with rfl | hv
      · exact hsc _ _ h1
      · exact ih v hv
  unfold hashByValue
  refine wpAny_bind (wpAny_specialOf hT F.slot_tuple_hash.lookup ?_)
  dsimp only
  refine wpAny_bind (wpAny_seqItems ho hd ?_)
  dsimp only [Option.getD]
  refine wpAny_bind ?_
  rw [← Array.forIn_toList]
  refine wpAny_forIn_list _ (fun rest r s'=>s'=s∧∀ v∈rest,v.scannable=true) _ ?_ ?_ _ _ ⟨rfl,hsc'⟩
  · rintro v rest r s' ⟨rfl,hall⟩
    rw [hashByValue_scannable 7 (hall v List.mem_cons_self)]
    refine wpAny_bind (wpAny_pure ?_)
    split
    · exact wpAny_pure (wpAny_pure (h _))
    · exact wpAny_pure ⟨rfl,fun u hu'=>hall u (List.mem_cons_of_mem _ hu')⟩
  · rintro ⟨r1,r2⟩ s' ⟨rfl,_⟩
    cases r1 with
    | none=>exact wpAny_pure (h true)
    | some b=>exact wpAny_pure (h b)
end
end TS
namespace TS
open PySem PySem.SetTable
local macro_rules | `(tactic| walk_at $s:str) => do
  let x := s.getString
  if x.startsWith "PV" then `(tactic| exact $(Lean.mkIdent (.str (.str (.num (.str (.str (.str .anonymous "_private") "PySem") "SetOps") 0) "PySem") (x.drop 2).toString)))
  else Lean.Macro.throwUnsupported
noncomputable abbrev rE:Array (Int × Value)→Nat→Int:=by walk_at "PVstoredHashAt"
noncomputable abbrev wI:Array (Int × Value)→Option (SetTable × Array Nat)→Sem (Array (Int × Value) × SetTable):=by walk_at "PVreordered"
noncomputable abbrev lq:Array (Int × Value)→SetTable→Bool:=by walk_at "PVdrawn"
noncomputable abbrev Ba:Array (Int × Value)→SetTable→Sem Unit:=by walk_at "PVmustBeLedForItsPlaces"
noncomputable abbrev zr:Bool→Sem Unit:=by walk_at "PVgaveWayHere"
noncomputable def nP:Array (Int × Value)→Nat→Int:=rE
theorem m7 (es:Array (Int × Value)) (i:Nat):nP es i=(es[i]?.map (·.1)).getD 0:=rfl
section
variable {prog:Program} {w:World} {K:Type} [DecidableEq K] {knd:KeyKind prog w K} {A:Around} {E:Value→Shared→Prop} {s:Shared}
theorem p_ {k:List K} {a:Addr} {ys:List Value} {Q:Bool→Shared→Prop} (hk:IsTupleKey knd s.heap k a) (hy:∀ y∈ys,∃ k' b,y=.ref b∧IsTupleKey knd s.heap k' b) (h:Q false s):wpAny (model prog w) A (searchCouldBeSeen (.ref a) ys) Q E s:=by
  unfold searchCouldBeSeen
  refine wpAny_bind ?_
  refine wpAny_forIn_list _ (fun rest r s'=>r.1=none∧s'=s∧∀ y∈rest,∃ k' b,y=.ref b∧IsTupleKey knd s.heap k' b) _ ?_ ?_ _ _ ⟨rfl,rfl,hy⟩
  · rintro y rest r s' ⟨hr,rfl,hall⟩
    obtain ⟨k',b,rfl,hb⟩:=hall y List.mem_cons_self
    have go:∀ (P:Prop),P→P:=fun _ p=>p
    dsimp only
    split
    · exact wpAny_pure ⟨rfl,rfl,fun u hu'=>hall u (List.mem_cons_of_mem _ hu')⟩
    · refine wpAny_bind (wpAny_eqIsQuiet_tuple hk ?_)
      simp only [Bool.not_true,Bool.false_eq_true,if_false]
      refine wpAny_bind (wpAny_eqIsQuiet_tuple hb ?_)
      simp only [Bool.not_true,Bool.false_eq_true,if_false]
      refine wpAny_bind (jd hk ?_)
      simp only [Bool.false_eq_true,if_false]
      refine wpAny_bind (jd hb ?_)
      simp only [Bool.false_eq_true,if_false]
      exact wpAny_pure ⟨rfl,rfl,fun u hu'=>hall u (List.mem_cons_of_mem _ hu')⟩
  · rintro ⟨r1,r2⟩ s' ⟨hr,rfl,_⟩
    simp only at hr
    subst hr
    exact wpAny_pure h
theorem zU {K G:Prop} (pk:K) (h:K→G):G:=h pk
theorem mX {a x:Addr} {k:List K} {ks:List (List K × Addr)} {o:Obj} {es:Array (Int × Value)} {ep:Nat} {t:SetTable} (hu:A.units<cLine) (ho:s.heap.get? a=some o) (hd:o.data=.set es ep t) (T:TI t es) (he:es.toList=ks.map (uE knd))
    (his:∀ p∈ks,IsTupleKey knd s.heap p.1 p.2) (hx:IsTupleKey knd s.heap k x) {Q:SetFound→Shared→Prop} (hyes:k∈ks.map (·.1)→Q (.there none) s)
    (nf:Nat) (hnf:nf≤10 * (t.mask+13)) (hfr:taken t.place (J t.mask (aX knd k) nf)=false) (hbf:∀ q<nf,taken t.place (J t.mask (aX knd k) q)=true)
    (hno:k∉ks.map (·.1)→Q (.free (J t.mask (aX knd k) nf) false) s) :
    ∀ (fuel n:Nat) (stand:Option Probe),stand.getD (t.probeStart (aX knd k))=ps t.mask (aX knd k) n→n≤nf→nf<n+fuel →
      (∀ q<n,∀ p,ks[below t.place (J t.mask (aX knd k) q)]? = some p→p.1≠k)→wpAny (model prog w) A (setSearchFrom a (.ref x) (aX knd k) true fuel stand) Q E s
  | 0,n,stand,_,h1,h2,_=>by (clear hu ho hd he hyes hnf hfr hno; walk_at "l")
  | fuel+1,n,stand,hst,h1,h2,hq=>by
    have hel:∀ i:Nat,es[i]? = (ks[i]?).map (uE knd):=fun i=>by rw [← Array.getElem?_toList,he,List.getElem?_map]
    unfold setSearchFrom
    refine wpAny_bind (wpAny_setState_of ho hd T.fits ?_)
    dsimp only
    rw [if_neg (by rw [T.odd]; exact Bool.false_ne_true)]
    obtain ⟨n',a1,a2,a3,a4⟩:=kh T (nP es) (aX knd k) (10 * turns t.mask) n ⟨nf,h1,by unfold turns; (clear hu ho hd he hyes hfr hno hst h1 h2; walk_at "l"),hfr⟩
    have hn':n'≤nf:=by
      by_cases z:n'≤nf
      · exact z
      · have:=(a3 nf h1 (by (clear hu ho hd he hyes hnf hfr hno hst h1 h2 a1 a2 a4; walk_at "l"))).1
        rw [hfr] at this; cases this
    rcases a4 with ⟨c1,c2⟩ | ⟨c1,c2,c3⟩
    · have c2:t.probe (nP es) (aX knd k) (stand.getD (t.probeStart (aX knd k)))=some (.empty (J t.mask (aX knd k) n') none):=by rw [hst]; exact c2
      have e:n'=nf:=by
        by_cases z:n'<nf
        · have:=hbf n' z
          rw [c1] at this; cases this
        · (clear hu ho hd he hyes hnf hfr hno hst h1 h2 a1 a2 c1 c2; walk_at "l")
      have c2:t.probe (rE es) (aX knd k) (stand.getD (t.probeStart (aX knd k)))=some (.empty (J t.mask (aX knd k) n') none):=c2
      rw [c2]
      dsimp only
      rw [e]
      refine wpAny_pure (hno fun hm=>?_)
      obtain ⟨p,hp,rfl⟩:=List.mem_map.mp hm
      obtain ⟨i,hi⟩:=List.mem_iff_getElem?.mp hp
      have ei:es[i]? = some (aX knd p.1,.ref p.2):=by rw [hel,hi]; rfl
      have his':i<t.place.size:=by rw [T.sz]; exact (Array.getElem?_eq_some_iff.mp ei).1
      obtain ⟨ni,b1,b2,b3⟩:=T.path i _ _ ei
      have bt:below t.place (J t.mask (aX knd p.1) ni)=i:=by rw [b2]; exact below_at T.up his'
      have tk:taken t.place (J t.mask (aX knd p.1) ni)=true:=by rw [b2]; exact (c7 T.up).mpr ⟨i,his',rfl⟩
      have hlt:ni<nf:=by
        by_cases z:nf<ni
        · have:=b3 nf z
          rw [hfr] at this; cases this
        · have:ni≠nf:=fun z=>by rw [z,hfr] at tk; cases tk
          (clear hu ho hd he hnf h1 h2 a1 a2 hn' hyes hfr hno hst c1 c2 hi ei his' b1 b2 bt tk; walk_at "l")
      by_cases z:ni<n
      · exact hq ni z p (by rw [bt]; exact hi) rfl
      · refine (a3 ni (by (clear hu ho hd he hnf h1 h2 a1 a2 hn' e hyes hfr hno hst c1 c2 hi ei his' b1 b2 bt tk hlt; walk_at "l")) (by (clear hu ho hd he hnf h1 h2 a1 a2 hn' hyes hfr hno hst c1 c2 hi ei his' b1 b2 bt tk z; walk_at "l"))).2 ?_
        rw [bt,m7,ei]; rfl
    · have c3:t.probe (rE es) (aX knd k) (stand.getD (t.probeStart (aX knd k)))=some (.candidate (J t.mask (aX knd k) n') (below t.place (J t.mask (aX knd k) n')) (ps t.mask (aX knd k) (n'+1))):=by rw [hst]; exact c3
      rw [c3]
      dsimp only
      have tk:=gG T.up c1
      have hsl:t.slot (J t.mask (aX knd k) n')=.live (below t.place (J t.mask (aX knd k) n')):=by rw [T.slot,if_pos c1]
      generalize hi:below t.place (J t.mask (aX knd k) n')=i at tk c2 hsl ⊢
      have hil:i<es.size:=by rw [← T.sz]; exact tk.1
      obtain ⟨p,hp⟩:∃ p,ks[i]? = some p:=by
        have:i<ks.length:=by
          have:=congrArg List.length he
          simp at this; (clear hu ho hd he hyes hnf hfr hno hst h1 h2 a1 a2 hn' c1 c3 hi tk c2 hsl; walk_at "l")
        exact ⟨_,List.getElem?_eq_getElem this⟩
      have ei:es[i]? = some (aX knd p.1,.ref p.2):=by rw [hel,hp]; rfl
      have hpm:=List.mem_of_getElem? hp
      have hne:n'≠nf:=fun z=>by rw [z,hfr] at c1; cases c1
      have again:¬ p.1=k→wpAny (model prog w) A (setSearchFrom a (.ref x) (aX knd k) true fuel (some (ps t.mask (aX knd k) (n'+1)))) Q E s:=fun hpk =>
        mX hu ho hd T he his hx hyes nf hnf hfr hbf hno fuel (n'+1) (some (ps t.mask (aX knd k) (n'+1))) rfl (by (clear hu ho hd he hyes hnf hfr hno hst h1 h2 a1 a2 c1 c3 hi tk c2 hsl hil hp ei hpk; walk_at "l")) (by (clear hu ho hd he hyes hnf hfr hno hst h1 a2 hn' c1 c3 hi tk c2 hsl hil hp ei hne hpk; walk_at "l")) fun q hqq p' hp'=>by
          by_cases z:q<n
          · exact hq q z p' hp'
          · by_cases z2:q=n'
            · subst z2
              rw [hi,hp] at hp'
              cases hp'
              exact hpk
            · intro e'
              have:=(a3 q (by (clear hu ho hd he hyes hnf hfr hno hst h1 h2 a1 a2 hn' c1 c3 hi tk c2 hsl hil hp ei hne hpk hqq hp' z2 e'; walk_at "l")) (by (clear hu ho hd he hyes hnf hfr hno hst h1 h2 a1 a2 hn' c1 c3 hi tk c2 hsl hil hp ei hne hpk hp' z e'; walk_at "l"))).2
              refine this ?_
              rw [m7,hel,hp']
              show aX knd p'.1=_
              rw [e']
      have hin:p.1=k→k∈ks.map (·.1):=fun e=>e ▸ List.mem_map.mpr ⟨p,hpm,rfl⟩
      have seen:∀ y∈List.map (fun x=>x.snd) (Array.filter (fun x=>x.fst == aX knd k) es).toList,∃ k' b,y=.ref b∧IsTupleKey knd s.heap k' b:=fun y hy=>by
        obtain ⟨e',he',rfl⟩:=List.mem_map.mp hy
        rw [Array.toList_filter] at he'
        have:=(List.mem_filter.mp he').1
        rw [he] at this
        obtain ⟨p',hp',rfl⟩:=List.mem_map.mp this
        exact ⟨p'.1,p'.2,rfl,his p' hp'⟩
      refine zU ?pk (K:=?K) fun key=>?main
      case main =>
        split
        · refine wpAny_bind (p_ hx seen ?_)
          rw [if_neg Bool.false_ne_true]
          exact key
        · exact key
      rw [ei]
      dsimp only
      refine wpAny_bind (wpAny_holding (wpAny_eqBool_tuple hu (his p hpm) hx ?_))
      refine wpAny_bind (wpAny_setState_of ho hd T.fits ?_)
      dsimp only
      by_cases e:p.1=k
      · rw [if_pos (by simp [e])]
        exact wpAny_pure (hyes (hin e))
      · rw [if_neg (by simp [e])]
        have hsm:t.sameMemory t.moves t.mask=some true:=by unfold sameMemory; rw [if_pos (by simp)]
        rw [hsm]
        dsimp only
        rw [if_pos rfl,hsl]
        dsimp only
        rw [ei]
        dsimp only
        refine wpAny_bind (m:=isSame (.ref p.2) (.ref p.2)) ?_
        unfold isSame
        dsimp only
        rw [if_pos (by simp)]
        refine wpAny_pure (wpAny_bind (wpAny_pure ?_))
        rw [if_pos rfl]
        dsimp only
        rw [if_neg (by simp [e])]
        exact again e
end
end TS

set_option Elab.async false
set_option linter.all false
set_option maxRecDepth 100000
set_option maxHeartbeats 4000000

namespace TS
open PySem PySem.SetTable
theorem fX {α β:Type} {f:α→β}:∀ {l l2:List β},l.Perm l2→∀ {m:List α},l2=m.map f→∃ m':List α,l=m'.map f∧m'.Perm m:=by
  intro l l2 p
  induction p with
  | nil=>intro m e; exact ⟨m,by rw [← e],.refl _⟩
  | cons x _ ih =>
    intro m e
    cases m with
    | nil=>cases e
    | cons y m =>
      simp only [List.map_cons,List.cons.injEq] at e
      obtain ⟨m',e1,p1⟩:=ih e.2
      exact ⟨y :: m',by rw [List.map_cons,← e1,e.1],p1.cons _⟩
  | swap x y l =>
    intro m e
    match m,e with
    | a :: b :: m,e =>
      simp only [List.map_cons,List.cons.injEq] at e
      exact ⟨b :: a :: m,by simp [e.1,e.2.1,e.2.2],.swap ..⟩
  | trans _ _ ih1 ih2 =>
    intro m e
    obtain ⟨m',e1,p1⟩:=ih2 e
    obtain ⟨m2,e2,p2⟩:=ih1 e1
    exact ⟨m2,e2,p2.trans p1⟩
theorem jX {α:Type} (xs:Array α) (p:Nat) (x:α):(insertAt xs p x).toList=xs.toList.take p++x :: xs.toList.drop p:=by
  unfold insertAt
  simp
  rw [List.take_of_length_le (by simp)]
theorem lN {prog:Program} {w:World} {A:Around} {E:Value→Shared→Prop} {s:Shared} {es:Array (Int × Value)} {t:SetTable} {order:Array Nat} {Q:Array (Int × Value) × SetTable→Shared→Prop} (hz:(order.filterMap fun i=>es[i]?).size=es.size)
    (h:Q (order.filterMap fun i=>es[i]?,t) s):wpAny (model prog w) A (wI es (some (t,order))) Q E s:=by
  show wpAny _ _ (if ((order.filterMap fun i=>es[i]?).size != es.size)=true then (do unsupported "internal:set-table-lost-an-element"; pure (order.filterMap fun i=>es[i]?,t)) else pure (order.filterMap fun i=>es[i]?,t)) _ _ _
  rw [if_neg (by simp [hz])]
  exact wpAny_pure h
section
variable {prog:Program} {w:World} {K:Type} [DecidableEq K] {knd:KeyKind prog w K} {A:Around} {E:Value→Shared→Prop} {s:Shared}
theorem IsTupleKey.stay {h h':Heap} {k:List K} {a:Addr} (hk:IsTupleKey knd h k a) (e:∀ o,h.get? a=some o→h'.get? a=some o):IsTupleKey knd h' k a:=by
  obtain ⟨o,items,n,ho,r⟩:=hk
  exact ⟨o,items,n,e o ho,r⟩
theorem SetT.ne {h:Heap} {a x:Addr} {k:List K} {ks:List (List K × Addr)} (S:SetT knd h a ks) (hx:IsTupleKey knd h k x):x≠a:=by
  obtain ⟨⟨o,es,ep,t,ho,hex,_⟩,_,_⟩:=S
  obtain ⟨o',items,n,ho',hc,_⟩:=hx
  intro z
  subst z
  rw [ho] at ho'
  cases ho'
  rw [hex.1] at hc
  exact absurd hc (by decide)
theorem yH {a x:Addr} {k:List K} {ks:List (List K × Addr)} (S:SetT knd s.heap a ks) (hx:IsTupleKey knd s.heap k x) (hz:ks.length<1000) (hu:A.units<cLine) (hsc:∀ k v,knd.is k v=true→v.scannable=true) {Q:Bool→Shared→Prop}
    (h:∀ (b:Bool) (h':Heap) (ks':List (List K × Addr)),Heap.SameBut a s.heap h'→SetT knd h' a ks'→(k∈ks.map (·.1)∧ks'=ks∨k∉ks.map (·.1)∧ks'.Perm ((k,x) :: ks))→Q b { s with heap:=h' }) :
    wpAny (model prog w) A (setAddHashed a (.ref x) (aX knd k)) Q E s:=by
  obtain ⟨⟨o,es,ep,t,ho,hex,hd,T,hM,hL,he⟩,nd,is⟩:=id S
  have hlen:es.size=ks.length:=by
    have:=congrArg List.length he
    simpa using this
  obtain ⟨m,hm,_⟩:=T.pw
  obtain ⟨e0,he0,hf0⟩:=T.free
  obtain ⟨nf,n1,n2,n3⟩:=jJ hm (aX knd k) (taken t.place) he0 hf0
  unfold setAddHashed setAddHashedIn
  refine wpAny_holding (wpAny_bind (wpAny_setState_of ho hd T.fits ?_))
  dsimp only
  have hbs:byScan (.ref x) es=false:=by simp [byScan,Value.scannable]
  rw [hbs]
  simp only [Bool.false_eq_true,if_false]
  refine wpAny_bind ?_
  unfold setSearch
  refine mX hu ho hd T he is hx (fun hin=>?_) nf n1 n2 n3 (fun hout=>?_) 100000 0 none rfl (Nat.zero_le _) (by walk_at "l") fun q hq=>absurd hq (Nat.not_lt_zero q)
  · dsimp only
    refine wpAny_pure ?_
    have e:s={ s with heap:=s.heap }:=by cases s; rfl
    rw [e]
    exact h _ _ ks (Heap.SameBut.refl a s.heap) S (.inl ⟨hin,rfl⟩)
  · dsimp only
    generalize hj:J t.mask (aX knd k) nf=j at n2 ⊢
    have hjm:j≤t.mask:=by rw [← hj]; exact J_le ..
    have hre:Reach t.mask t.place (aX knd k) j:=⟨nf,n1,hj,n3⟩
    refine wpAny_bind (wpAny_setState_of ho hd T.fits ?_)
    dsimp only
    have hput:t.put j=({ t with place:=insertAt t.place (below t.place j) j,dummies:=#[] },below t.place j):=by
      unfold SetTable.put
      have:has t.dummies j=false:=by rw [T.dm]; rfl
      simp only [this,Bool.false_eq_true,if_false]
      rw [T.dm]
    rw [hput]
    dsimp only
    have hin:(insertAt es (below t.place j) (aX knd k,.ref x)).toList=(ks.take (below t.place j)++(k,x) :: ks.drop (below t.place j)).map (uE knd):=by
      rw [jX,he,List.map_append,List.map_cons,List.map_take,List.map_drop]; rfl
    have hperm:(ks.take (below t.place j)++(k,x) :: ks.drop (below t.place j)).Perm ((k,x) :: ks):=by
      refine List.perm_middle.trans ?_
      rw [List.take_append_drop]
    have hbl:below t.place j≤es.size:=by rw [← T.sz]; exact (aR T.up j).1
    have hsz':(insertAt es (below t.place j) (aX knd k,Value.ref x)).size=es.size+1:=bM _ _ hbl
    have hxa:=S.ne hx
    have isK:∀ h',Heap.SameBut a s.heap h'→∀ ks':List (List K × Addr),ks'.Perm ((k,x) :: ks)→∀ p∈ks',IsTupleKey knd h' p.1 p.2:=fun h' sb ks' pm p hp=>by
      have:IsTupleKey knd s.heap p.1 p.2:=by
        rcases List.mem_cons.mp (pm.mem_iff.mp hp) with rfl | hp
        · exact hx
        · exact is p hp
      exact IsTupleKey.stay this fun o' ho'=>sb.extBut _ _ (S.ne this) ho'
    have ndK:∀ ks':List (List K × Addr),ks'.Perm ((k,x) :: ks)→(ks'.map (·.1)).Nodup:=fun ks' pm=>by
      rw [(pm.map _).nodup_iff,List.map_cons,List.nodup_cons]
      exact ⟨hout,nd⟩
    -- behind the flag
    have main:∀ pl:Bool,wpAny (model prog w) A (do
        storeSet a (insertAt es (below t.place j) (aX knd k,.ref x)) { t with place:=insertAt t.place (below t.place j) j,dummies:=#[],plain:=pl }
        if (!false && ({ t with place:=insertAt t.place (below t.place j) j,dummies:=#[],plain:=pl }:SetTable).tooFull)=true then do
            setRelay a (grown (es.size+1))
            pure true
          else pure true) Q E s:=fun pl=>by
      generalize ht':({ t with place:=insertAt t.place (below t.place j) j,dummies:=#[],plain:=pl }:SetTable)=t'
      have tm:t'.mask=t.mask:=by rw [← ht']
      have tp:t'.place=insertAt t.place (below t.place j) j:=by rw [← ht']
      have td:t'.dummies = #[]:=by rw [← ht']
      have hfill:t'.fill=es.size+1:=by
        unfold SetTable.fill
        rw [tp,td,bM _ _ (aR T.up j).1,T.sz]; simp
      refine wpAny_bind (wpAny_storeSet_of ho hd ?_ (by rw [hsz',sizeLine_eq]; walk_at "l"))
      have ho1:(s.heap.update a (Obj.putSet (insertAt es (below t.place j) (aX knd k,.ref x)) t')).get? a=some { o with data:=.set (insertAt es (below t.place j) (aX knd k,.ref x)) (ep+1) t' }:=by
        have:=Heap.get?_update_self (Obj.putSet (insertAt es (below t.place j) (aX knd k,.ref x)) t') ho (by rw [putSet_of _ _ hd]; rfl)
        rw [putSet_of _ _ hd] at this; exact this
      have sb1:=Heap.SameBut.update s.heap a (Obj.putSet (insertAt es (below t.place j) (aX knd k,.ref x)) t')
      by_cases c:t'.tooFull=true
      · rw [if_pos (by rw [c]; rfl)]
        have hfit:t'.fits (insertAt es (below t.place j) (aX knd k,Value.ref x)).size=true:=by
          have:=T.few
          simp only [SetTable.fits,hfill,Bool.and_eq_true,beq_iff_eq,decide_eq_true_eq]
          rw [tp,bM _ _ (aR T.up j).1,hsz',T.sz,tm]
          exact ⟨rfl,by walk_at "l"⟩
        obtain ⟨t2,order,r1,r2,r3,r4,r5,r6,r7,r8,_⟩:=lV (t:=t') (es:=insertAt es (below t.place j) (aX knd k,Value.ref x)) (by walk_at "l")
        rw [hsz'] at r1 r4
        unfold setRelay
        refine wpAny_bind (wpAny_bind (wpAny_setState_of ho1 rfl hfit ?_))
        dsimp only
        rw [if_neg (by rw [sizeLine_eq]; walk_at "l")]
        refine wpAny_bind ?_
        rw [r1]
        obtain ⟨ks',ek,pk⟩:=fX r8 hin
        refine lN r7 ?_
        dsimp only
        refine wpAny_storeSet_of ho1 rfl ?_ (by rw [r7,hsz',sizeLine_eq]; walk_at "l")
        refine wpAny_pure ?_
        have sb2:=sb1.trans (Heap.SameBut.update _ a (Obj.putSet (order.filterMap fun i=>(insertAt es (below t.place j) (aX knd k,Value.ref x))[i]?) t2))
        have ho2:=Heap.get?_update_self (Obj.putSet (order.filterMap fun i=>(insertAt es (below t.place j) (aX knd k,Value.ref x))[i]?) t2) ho1 (by rw [putSet_of _ _ rfl]; rfl)
        rw [putSet_of _ _ rfl] at ho2
        exact h true _ ks' sb2 ⟨⟨_,_,_,_,ho2,hex,rfl,r6,r5 (by walk_at "l"),by rw [r3,← ht']; exact hL,ek⟩,ndK ks' (pk.trans hperm),isK _ sb2 ks' (pk.trans hperm)⟩ (.inr ⟨hout,pk.trans hperm⟩)
      · rw [if_neg (by simpa using c)]
        refine wpAny_pure ?_
        have hfew:(es.size+1) * 5<t.mask * 3:=by
          unfold SetTable.tooFull at c
          rw [hfill,tm] at c
          simpa using c
        exact h true _ _ sb1 ⟨⟨_,_,_,_,ho1,hex,rfl,T.put hjm n2 hre tm tp td hfew,by rw [tm]; exact hM,by rw [← ht']; exact hL,hin⟩,ndK _ hperm,isK _ sb1 _ hperm⟩ (.inr ⟨hout,hperm⟩)
    split
    · refine wpAny_bind (fH hx hsc fun b=>?_)
      cases b with
      | true=>exact main t.plain
      | false=>exact main false
    · exact wpAny_bind (wpAny_pure (main t.plain))
end
end TS

set_option Elab.async false
set_option linter.all false
set_option maxRecDepth 100000
set_option maxHeartbeats 4000000

namespace TS
open PySem PySem.SetTable PyProof.Rows
section
variable {prog:Program} {w:World} {A:Around} {R:Result→Shared→Prop} {I:Addr} {fp wr:List Addr} {n:Nat} {P:Nat→Value→Prop} {St:Nat→Heap→Prop}
theorem uK (W:Walks prog w A.in1 I fp wr n P St) (S:Addr) (hSf:S∉fp) (SI:Nat→Heap→Prop) (keep:∀ i h h',SI i h→(∀ b o,b∉wr→h.get? b=some o→h'.get? b=some o)→SI i h')
    (step:∀ (i:Nat) (v:Value) (s':Shared) (E':Value→Shared→Prop) (Q:Bool→Shared→Prop),P i v→SI i s'.heap→(∀ b h' tk,Heap.SameBut S s'.heap h'→SI (i+1) h'→Q b { s' with heap:=h',toks:=tk })→wpAny (model prog w) A.in1 (setAdd S v) Q E' s') :
    ∀ (k i:Nat) (s:Shared),n - i=k→i≤n→St i s.heap→SI i s.heap →
      (∀ h' tk,SI n h'→(∀ b o,b∉wr→b≠S→s.heap.get? b=some o→h'.get? b=some o)→R (.ok (.ret .none)) { s with heap:=h',toks:=tk }) →
      codeAny (model prog w) A (.builtin "set.update.loop" ⟨[.ref S,.ref I],[]⟩) R s:=by
  have hSw:S∉wr:=fun h=>hSf (W.sub _ h)
  intro k
  induction k with
  | zero =>
    intro i s hk hi hst hS hR
    have hin:i=n:=by walk_at "l"
    subst hin
    refine codeAny_builtin F.entry_set_update_loop ?_
    rw [Around.under_plainId F.plain_set_update_loop _]
    show wpAny _ A.in1 (pyNext (.ref I) >>= _) _ _ s
    refine wpAny_bind (W.done s _ _ hst fun h' tk hk'=>?_)
    show wpAny _ A.in1 (ret Value.none) _ _ _
    exact wpAny_pure (hR h' tk (keep _ _ _ hS hk') fun b o hb _ e=>hk' b o hb e)
  | succ k ih =>
    intro i s hk hi hst hS hR
    have hlt:i<n:=by walk_at "l"
    refine codeAny_builtin F.entry_set_update_loop ?_
    rw [Around.under_plainId F.plain_set_update_loop _]
    show wpAny _ A.in1 (pyNext (.ref I) >>= _) _ _ s
    refine wpAny_bind (W.item i s _ _ hlt hst fun v h' tk hP hst' hk'=>?_)
    show wpAny _ A.in1 (holding [v] (setAdd S v) >>= _) _ _ _
    refine wpAny_bind (wpAny_holding (step i v _ _ _ hP (keep _ _ _ hS hk') fun b h2 tk2 sb hS2=>?_))
    refine wpAny_pure ⟨plainId_quiet F.plain_set_update_loop _,ih (i+1) _ (by walk_at "l") hlt (W.frame _ _ _ hst' fun b hb o e=>?_) hS2 fun h3 tk3 hS3 hk3=>?_⟩
    · exact sb.extBut b o (fun z=>hSf (by rw [← z]; exact hb)) e
    · exact hR h3 tk3 hS3 fun b o hb hbS e=>hk3 b o hb hbS (sb.extBut b o hbS (hk' b o hb e))
end
section
variable {prog:Program} {w:World} {A:Around} {E:Value→Shared→Prop} {s:Shared}
theorem tD (a:Value) {Q₁:Value→Shared→Prop}
    (h:Q₁ (.ref s.heap.objs.size) { s with heap:=s.heap.push { cls:=.type "set",dict:=none,data:=.set #[] 0 (.fresh 0 0 (!w.params.followText "set-order")) } }) :
    codeAny (model prog w) A (.call (.builtin "set.__new__") ⟨[.type "set",a],[]⟩) (wants Q₁ E) s:=by
  refine codeAny_of_tree ?_
  show wpAny _ A.in1 (do checkBuiltinCall "set.__new__" ⟨[.type "set",a],[]⟩; again (.builtin "set.__new__" ⟨[.type "set",a],[]⟩)) _ _ s
  refine wpAny_bind (wpAny_of_eq (F.newCall_set_1 a) (wpAny_pure ⟨plainId_quiet F.plain_set_new _,codeAny_builtin F.entry_set_new ?_⟩))
  rw [Around.under_plainId F.plain_set_new _]
  unfold Builtin.«set.__new__» Builtin.Frozenset.newClass
  have hsub:=sub_set_self
  obtain ⟨hp,g,d,tk,os⟩:=s
  dsimp only
  wp_walk
  refine wpAny_askSetting (wpAny_pure ?_)
  dsimp only
  simp only [newObj]
  refine wpAny_bind (wpAny_alloc (wpAny_pure ?_))
  exact wpAny_pure h
theorem gb {l:Addr} {items:Array Value} {Q:Value→Shared→Prop} (hh:A.handled=none) (hl:s.heap.IsList l items) (SI:Nat→Heap→Prop)
    (h0:∀ h,h.get? s.heap.objs.size=some { cls:=.type "set",dict:=none,data:=.set #[] 0 (.fresh 0 0 (!w.params.followText "set-order")) }→(∀ b o,s.heap.get? b=some o→h.get? b=some o)→SI 0 h)
    (keep:∀ i h h',SI i h→(∀ b o,b≤s.heap.objs.size→h.get? b=some o→h'.get? b=some o)→SI i h')
    (step:∀ (i:Nat) (v:Value) (s':Shared) (E':Value→Shared→Prop) (Q:Bool→Shared→Prop),items[i]? = some v→SI i s'.heap→(∀ b h' tk,Heap.SameBut s.heap.objs.size s'.heap h'→SI (i+1) h'→Q b { s' with heap:=h',toks:=tk }) →
      wpAny (model prog w) A.in1.in1.in1 (setAdd s.heap.objs.size v) Q E' s')
    (h:∀ (h':Heap) (tk:Nat),SI items.size h'→(∀ b o,b<s.heap.objs.size→s.heap.get? b=some o→h'.get? b=some o)→Q (.ref s.heap.objs.size) { s with heap:=h',toks:=tk }) :
    wpAny (model prog w) A (call (.type "set") [.ref l]) Q E s:=by
  obtain ⟨c,tl,hmro⟩:=F.called_set.mro
  have hmade:=F.called_set.made
  have hsub:=F.called_set.sub
  refine wpAny_call (codeAny_of_tree ?_)
  show wpAny _ _ (callAny (.type "set") _) _ _ _
  refine wpAny_pure ⟨Code.quiet_builtin _ (by decide +kernel),codeAny_builtin F.entry_type_call ?_⟩
  rw [Around.under_plain (weight_type_call_type "set" [.ref l] []) rfl]
  have h1:=F.called_set.notType
  have h2:=F.called_set.canCreate
  have hct:=F.typeCall_set_1 (.ref l)
  repeat (any_goals (first | assumption | wp_step))
  refine codeAny_mono (tD (.ref l) (E:=E) (Q₁:=fun obj s₁=>obj=.ref s.heap.objs.size∧s₁={ s with heap:=s.heap.push { cls:=.type "set",dict:=none,data:=.set #[] 0 (.fresh 0 0 (!w.params.followText "set-order")) } }) ⟨rfl,rfl⟩) fun r s₁ hr=>?_
  cases r with
  | error e=>exact hr
  | ok fl =>
    cases fl with
    | ret obj =>
      obtain ⟨rfl,rfl⟩:=hr
      generalize hled:(!w.params.followText "set-order")=led at h0 ⊢
      have hS:(s.heap.push { cls:=.type "set",dict:=none,data:=.set #[] 0 (.fresh 0 0 led) }).get? s.heap.objs.size=some { cls:=.type "set",dict:=none,data:=.set #[] 0 (.fresh 0 0 led) }:=Heap.get?_push_size _ rfl
      have hT:Shared.TypeIs { s with heap:=s.heap.push { cls:=.type "set",dict:=none,data:=.set #[] 0 (.fresh 0 0 led) } } (.ref s.heap.objs.size) "set" := ⟨_,hS,rfl⟩
      have hli:=F.called_set.init.lookup
      have hbi:=F.called_set.init.bind (.ref s.heap.objs.size)
      repeat (any_goals (first | assumption | wp_step))
      refine codeAny_mono (codeAny_call_builtin (R:=wants (fun r s₂=>r=.none∧∃ h' tk,s₂={ s with heap:=h',toks:=tk }∧SI items.size h' ∧
          (∀ b o,b<s.heap.objs.size→s.heap.get? b=some o→h'.get? b=some o)) E) F.called_set.init.plain F.entry_set_init (check_set_init_1 hT ?_)) fun r₂ s₂ hr₂=>?_
      · obtain ⟨ol,hol,hcl,nl,hdl⟩:=hl
        obtain ⟨ocls,odict,odata,oslots⟩:=ol
        simp only at hcl hdl
        subst hcl; subst hdl
        have hol':(s.heap.push { cls:=.type "set",dict:=none,data:=.set #[] 0 (.fresh 0 0 led) }).get? l=some { cls:=.type "list",dict:=odict,data:=.seq items nl,slots:=oslots }:=Heap.get?_push_of_some _ hol
        have hsls:=F.sub_list_set
        have hslf:=F.sub_list_frozenset
        have hne:(Value.type "list" == Value.type "dict")=false:=by decide
        have hl1:(s.heap.push { cls:=.type "set",dict:=none,data:=.set #[] 0 (.fresh 0 0 led) }).IsList l items:=⟨_,hol',rfl,nl,rfl⟩
        unfold Builtin.«set.__init__» noKeywords Builtin.Frozenset.updateFrom
        generalize hPI:pyIter=PI
        wp_walk
        subst hPI
        refine wpAny_pyIter_list hl1 ?_
        refine wpAny_bind (wpAny_runValue ?_)
        have hlS:l<s.heap.objs.size:=Heap.lt_size hol
        have hh3:A.in1.in1.in1.handled=none:=by simp [hh]
        have hsz:(s.heap.push { cls:=.type "set",dict:=none,data:=.set #[] 0 (.fresh 0 0 led) }).objs.size=s.heap.objs.size+1:=Heap.size_push ..
        have hneI:l≠(s.heap.push { cls:=.type "set",dict:=none,data:=.set #[] 0 (.fresh 0 0 led) }).objs.size:=by
          rw [hsz]; exact Nat.ne_of_lt (Nat.lt_succ_of_lt hlS)
        have hSf:s.heap.objs.size∉[(s.heap.push { cls:=.type "set",dict:=none,data:=.set #[] 0 (.fresh 0 0 led) }).objs.size,l]:=by
          rw [hsz]; simp only [List.mem_cons,List.mem_singleton,List.not_mem_nil,or_false,not_or]
          exact ⟨Nat.ne_of_lt (Nat.lt_succ_self _),Nat.ne_of_gt hlS⟩
        refine uK (Walks.list hh3 _ l hneI items) s.heap.objs.size hSf SI (fun i h h' hi hk=>keep i h h' hi fun b o hb e=>hk b o ?_ e) (fun i v s' E' Q' hP hi hq=>step i v s' E' Q' hP hi hq) (items.size - 0) 0 _ (by walk_at "l") (Nat.zero_le _)
          ⟨⟨_,Heap.get?_push_size _ rfl,rfl,rfl⟩,(hl1.push _)⟩ ?hS0 ?hR
        · rw [hsz]
          simp only [List.mem_cons,List.not_mem_nil,or_false]
          exact Nat.ne_of_lt (Nat.lt_succ_of_le hb)
        case hS0 =>
          exact h0 _ (Heap.get?_push_of_some _ hS) fun b o e=>Heap.get?_push_of_some _ (Heap.get?_push_of_some _ e)
        case hR =>
          intro h' tk' hS' hk'
          show wpAny _ _ _ _ _ _
          refine wpAny_pure ?_
          show wpAny _ _ (ret Value.none) _ _ _
          refine wpAny_pure ⟨rfl,h',tk',rfl,hS',fun b o hb e=>?_⟩
          refine hk' b o ?_ (Nat.ne_of_lt hb) (Heap.get?_push_of_some _ (Heap.get?_push_of_some _ e))
          rw [hsz]
          simp only [List.mem_cons,List.not_mem_nil,or_false]
          exact Nat.ne_of_lt (Nat.lt_succ_of_lt hb)
      · cases r₂ with
        | error e=>exact hr₂
        | ok fl₂ =>
          cases fl₂ with
          | ret r =>
            obtain ⟨rfl,h',tk,rfl,hS',hk'⟩:=hr₂
            repeat (any_goals (first | assumption | wp_step))
            exact h _ _ hS' hk'
          | _=>exact hr₂.elim
    | _=>exact hr.elim
end
end TS

set_option Elab.async false
set_option linter.all false
set_option maxRecDepth 100000
set_option maxHeartbeats 4000000

namespace TS
open PySem PySem.SetTable PyProof.Rows
theorem mC:Manifest.owners.lookup (String.ofList ['r','o','t','a','r','e','t','i','_','t','e','s'].reverse)=some Manifest.sig_set_iterator:=by kernel_rfl
theorem bL:Slot "set_iterator" "__next__" "set_iterator.__next__" :=
  .of (owner := "set_iterator") (n := "__next__") (by rw [typeLookup_type,builtinLookup_eq_fast]; kernel_rfl) (by decide +kernel) (by decide +kernel) (by decide +kernel)
    (by first | exact .inl (by decide +kernel) | exact .inr (by decide +kernel)) (by rw [isSubtype_type]; kernel_rfl)
theorem jk:entryFor table "set_iterator.__next__" = some Builtin.«set_iterator.__next__» := entryFor_of_tree (by kernel_rfl)
theorem lz (a:Value):argsOk "set_iterator.__next__" ⟨[a],[]⟩:=by
  unfold argsOk; rw [signature?_of (id := "set_iterator.__next__") (n:=['_','_','t','x','e','n','_','_']) (o:=['r','o','t','a','r','e','t','i','_','t','e','s']) (by kernel_rfl) mC]; kernel_rfl
theorem d8:Slot "set_iterator" "__iter__" "set_iterator.__iter__" :=
  .of (owner := "set_iterator") (n := "__iter__") (by rw [typeLookup_type,builtinLookup_eq_fast]; kernel_rfl) (by decide +kernel) (by decide +kernel) (by decide +kernel)
    (by first | exact .inl (by decide +kernel) | exact .inr (by decide +kernel)) (by rw [isSubtype_type]; kernel_rfl)
theorem jA:entryFor table "set.__iter__" = some Builtin.«frozenset.__iter__» :=
  entryFor_alias (id' := "frozenset.__iter__") (by kernel_rfl) rfl (by decide +kernel) (by kernel_rfl)
theorem fW {α:Type}:∀ (l:List α) (i:Nat) (h:i<l.length),(l[i] :: l.eraseIdx i).Perm l
  | x :: l,0,_=>.refl _
  | x :: l,i+1,h=>by
    have ih:=fW l i (by simpa using h)
    exact (List.Perm.swap _ _ _).trans (ih.cons x)
theorem ue {α:Type} (next:Nat→Nat):∀ (fuel k:Nat) (left:List α) (out:Array α),left.length=fuel→(pickOrder.go next fuel k left out).toList.Perm (out.toList++left)
  | 0,k,left,out,h=>by
    have:left=[]:=List.length_eq_zero_iff.mp h
    subst this
    unfold pickOrder.go
    rw [List.append_nil]
  | fuel+1,k,left,out,h=>by
    unfold pickOrder.go
    have hlt:next k % left.length<left.length:=Nat.mod_lt _ (by walk_at "l")
    rw [List.getElem?_eq_getElem hlt]
    dsimp only
    refine (ue next fuel (k+1) _ _ (by rw [List.length_eraseIdx]; split <;> walk_at "l")).trans ?_
    rw [Array.toList_push,List.append_assoc]
    refine List.Perm.append_left _ ?_
    exact fW _ _ hlt
theorem g8 {α:Type} (next:Nat→Nat) (xs:Array α):(pickOrder next xs).toList.Perm xs.toList:=by
  unfold pickOrder
  have:=ue next xs.size 0 xs.toList #[] (by simp)
  simpa using this
section
variable {prog:Program} {w:World} {A:Around} {E:Value→Shared→Prop} {s:Shared}
theorem lX {M:Model} {src:Source} {n:Nat} {Q:Nat→Shared→Prop} (hn:n≠0) (h:∀ i d,i<n→Q i { s with drawn:=d }):wpAny M A (choose src n) Q E s:=fun Γ p _=>⟨hn,h _ _ (Nat.mod_lt _ (Nat.pos_of_ne_zero hn))⟩
theorem wW {α:Type} (n:Nat):∀ (xs:List α) (s:Shared) (Q:List α→Shared→Prop),xs.length=n→(∀ ys d,ys.Perm xs→Q ys { s with drawn:=d })→wpAny (model prog w) A (drawOrder n xs) Q E s:=by
  induction n with
  | zero =>
    intro xs s Q h q
    have:xs=[]:=List.length_eq_zero_iff.mp h
    subst this
    unfold drawOrder
    exact wpAny_pure (q [] s.drawn (.refl _))
  | succ n ih =>
    intro xs s Q h q
    cases xs with
    | nil=>cases h
    | cons x xs =>
      unfold drawOrder
      refine wpAny_bind (lX (by simp) fun i d hi=>?_)
      rw [List.getElem?_eq_getElem hi]
      dsimp only
      refine wpAny_bind (ih _ _ _ (by rw [List.length_eraseIdx,if_pos hi]; simp at h ⊢; walk_at "l") fun ys d' py=>?_)
      refine wpAny_pure ?_
      exact q _ d' ((py.cons _).trans (fW _ _ hi))
noncomputable def SIt (h:Heap) (I:Addr) (first:Value) (i:Nat) (a:Addr) (n ep:Nat):Prop :=
  h.get? I=some { cls:=.type "set_iterator",dict:=none,data:=.fields #[first,.int i 0,.ref a,.int n 0,.int ep 0],slots:=#[] }
noncomputable def SOb (h:Heap) (a:Addr) (es:Array (Int × Value)) (ep:Nat) (t:SetTable):Prop:=∃ o,h.get? a=some o∧o.data=.set es ep t
variable {a I:Addr} {es:Array (Int × Value)} {ep:Nat} {t:SetTable} {first:Value} {i n:Nat}
theorem SIt.typeIs (h:SIt s.heap I first i a n ep):s.TypeIs (.ref I) "set_iterator" := ⟨_,h,rfl⟩
theorem uf {Q:Option Value→Shared→Prop} (hit:SIt s.heap I first i a n ep)
    (h:wpAny (model prog w) A.in1 (Builtin.«set_iterator.__next__» ⟨[.ref I],[]⟩) (fun fin s'=>∃ v,fin=.done (.ret v)∧Q (some v) s') (fun e s'=>wpAny (model prog w) A (isInstance e (.type "StopIteration")) (fun b s''=>b=true∧Q none s'') E s') s) :
    wpAny (model prog w) A (pyNext (.ref I)) Q E s:=by
  unfold pyNext
  refine wpAny_bind (wpAny_attempt (wpAny_callSpecial?_slot (name:=Str.ofString "__next__") hit.typeIs bL
    (wpAny_call_entry bL hit.typeIs jk ?_ (lz _))))
  refine wpAny_mono h (fun fin s' ⟨v,e,q⟩=>⟨v,e,wpAny_pure q⟩) fun e s' q=>?_
  refine wpAny_bind (wpAny_mono q (fun b s'' hx9=>?_) fun _ _ x=>x)
  obtain ⟨e,q⟩:=hx9
  subst e
  rw [if_pos rfl]
  exact wpAny_pure q
theorem rO {P:Fin→Shared→Prop} {Q:Option Value→Shared→Prop} (hh:A.handled=none) (hQ:∀ h',(∀ b o,s.heap.get? b=some o→h'.get? b=some o)→Q none { s with heap:=h' }) :
    wpAny (model prog w) A.in1 (newExc (.type "StopIteration") [] >>= fun e=>raiseNew e) P (fun e s'=>wpAny (model prog w) A (isInstance e (.type "StopIteration")) (fun b s''=>b=true∧Q none s'') E s') s:=by
  refine wpAny_bind ?_
  simp only [newExc,newTuple]
  refine wpAny_bind (wpAny_newObj_type ?_ (by size_fits))
  refine wpAny_bind (m:=firstArgMember _ _) (wpAny_of_eq (a:=Value.none) (by first | rfl | (simp only [firstArgMember]; rfl)) ?_)
  refine wpAny_newObj_type ?_ (by size_fits)
  simp only [raiseNew]
  refine wpAny_bind (wpAny_handled ?_)
  rw [show A.in1.handled=none from hh]
  refine wpAny_bind (wpAny_pure (wpAny_throw ?_))
  refine wpAny_isInstance (T := "StopIteration") (b:=true) ⟨_,Heap.get?_push_size _ rfl,rfl⟩ isSubtype_stop ⟨rfl,?_⟩
  exact hQ _ fun b o e=>Heap.get?_push_of_some _ (Heap.get?_push_of_some _ e)
theorem eV {Q:Option Value→Shared→Prop} {slot:Nat} {r:Option (Value × Nat)} (hh:A.handled=none) (hne:a≠I) (hit:SIt s.heap I (.int slot 0) i a es.size ep) (hob:SOb s.heap a es ep t) (hf:t.fits es.size=true)
    (hr:∀ (A':Around) (E':Value→Shared→Prop) (Q':Option (Value × Nat)→Shared→Prop),Q' r s→wpAny (model prog w) A' (setNext a slot i ep) Q' E' s)
    (h1:∀ x nx h',r=some (x,nx)→SIt h' I (.int nx 0) (i+1) a es.size ep→Heap.SameBut I s.heap h'→Q (some x) { s with heap:=h' })
    (h2:∀ h',r=none→(∀ b o,b≠I→s.heap.get? b=some o→h'.get? b=some o)→Q none { s with heap:=h' }) :
    wpAny (model prog w) A (pyNext (.ref I)) Q E s:=by
  obtain ⟨o,ho,hd⟩:=hob
  refine uf hit ?_
  unfold Builtin.«set_iterator.__next__»
  refine wpAny_bind (m:=slotArgs "__next__" 0 ⟨[.ref I],[]⟩) (wpAny_of_eq (a:=(.ref I,[])) rfl ?_)
  dsimp only
  refine wpAny_bind (wpAny_fieldsOf hit rfl ?_)
  dsimp only
  refine wpAny_bind (wpAny_setEntries_of ho hd hf ?_)
  rw [if_neg (by simp)]
  simp only [Int.toNat_natCast]
  refine wpAny_bind (hr _ _ _ ?_)
  cases r with
  | some p =>
    obtain ⟨x,nx⟩:=p
    dsimp only
    refine wpAny_bind (wpAny_setField_rec hit (by simp) fun g1 e1 sb1=>?_)
    refine wpAny_bind (wpAny_setField_rec (s:={ s with heap:=g1 }) e1 (by simp) fun g2 e2 sb2=>?_)
    exact wpAny_pure ⟨x,rfl,h1 x nx g2 rfl (by unfold SIt; simpa [rawInt] using e2) (sb1.trans sb2)⟩
  | none =>
    dsimp only
    refine wpAny_bind (wpAny_setField_rec hit (by simp) fun g1 e1 sb1=>?_)
    exact rO (s:={ s with heap:=g1 }) hh fun h' k=>h2 h' rfl fun b o hb e=>k b o (sb1.extBut b o hb e)
theorem j0 {Q:Option Value→Shared→Prop} {T:Addr} {ix:List Nat} {oT:Obj} {kT:Nat} (hh:A.handled=none) (hit:SIt s.heap I (.ref T) i a es.size ep) (hob:SOb s.heap a es ep t) (hf:t.fits es.size=true)
    (hT:s.heap.get? T=some oT) (hTd:oT.data=.seq (ix.map fun (k:Nat)=>Value.int k 0).toArray kT)
    (h1:∀ k e h',ix[i]? = some k→es[k]? = some e→SIt h' I (.ref T) (i+1) a es.size ep→Heap.SameBut I s.heap h'→Q (some e.2) { s with heap:=h' }) (hix:∀ k∈ix,k<es.size)
    (h2:∀ h',ix[i]? = none→(∀ b o,b≠I→s.heap.get? b=some o→h'.get? b=some o)→Q none { s with heap:=h' }) :
    wpAny (model prog w) A (pyNext (.ref I)) Q E s:=by
  obtain ⟨o,ho,hd⟩:=hob
  refine uf hit ?_
  unfold Builtin.«set_iterator.__next__»
  refine wpAny_bind (m:=slotArgs "__next__" 0 ⟨[.ref I],[]⟩) (wpAny_of_eq (a:=(.ref I,[])) rfl ?_)
  dsimp only
  refine wpAny_bind (wpAny_fieldsOf hit rfl ?_)
  dsimp only
  refine wpAny_bind (wpAny_setEntries_of ho hd hf ?_)
  rw [if_neg (by simp)]
  refine wpAny_bind (wpAny_seqItems hT hTd ?_)
  dsimp only
  simp only [Int.toNat_natCast,List.getElem?_toArray,List.getElem?_map]
  cases hk:ix[i]? with
  | some k =>
    dsimp only [Option.map]
    have hkl:=hix k (List.mem_of_getElem? hk)
    refine wpAny_bind ?_
    unfold setNextDrawn
    refine wpAny_bind (wpAny_setState_of ho hd hf ?_)
    dsimp only
    simp only [Int.toNat_natCast]
    rw [if_neg (by simp),Array.getElem?_eq_getElem hkl]
    refine wpAny_pure ?_
    refine wpAny_bind (wpAny_setField_rec hit (by simp) fun g1 e1 sb1=>?_)
    exact wpAny_pure ⟨_,rfl,h1 k es[k] g1 hk (Array.getElem?_eq_getElem hkl) (by unfold SIt; simpa [rawInt] using e1) sb1⟩
  | none =>
    dsimp only [Option.map]
    refine wpAny_bind (wpAny_setField_rec hit (by simp) fun g1 e1 sb1=>?_)
    refine wpAny_bind (wpAny_setField_rec (s:={ s with heap:=g1 }) e1 (by simp) fun g2 e2 sb2=>?_)
    exact rO (s:={ s with heap:=g2 }) hh fun h' k=>h2 h' hk fun b o hb e=>k b o ((sb1.trans sb2).extBut b o hb e)
theorem kY (a:Value):argsOk "set_iterator.__iter__" ⟨[a],[]⟩:=by
  unfold argsOk; rw [signature?_of (id := "set_iterator.__iter__") (n:=['_','_','r','e','t','i','_','_']) (o:=['r','o','t','a','r','e','t','i','_','t','e','s']) (by kernel_rfl) mC]; kernel_rfl
theorem jB:entryFor table "set_iterator.__iter__" = some Builtin.«dict_keyiterator.__iter__» :=
  entryFor_alias (id' := "dict_keyiterator.__iter__") (by kernel_rfl) rfl (by decide +kernel) (by kernel_rfl)
theorem gO {Q:Value→Shared→Prop} (hit:SIt s.heap I first i a n ep) (h:Q (.ref I) s):wpAny (model prog w) A (pyIter (.ref I)) Q E s:=by
  refine wpAny_pyIter_slot hit.typeIs d8 (wpAny_call_entry d8 hit.typeIs jB ?_ (kY _))
  show wpAny _ _ (ret (.ref I)) _ _ s
  exact wpAny_pure ⟨_,rfl, "set_iterator",_,hit.typeIs,bL.lookup,h⟩
theorem mR {slot:Nat} {Q:Option (Value × Nat)→Shared→Prop} (hb:w.params.followText "set-order" = true) (hob:SOb s.heap a es ep t) (hf:t.fits es.size=true)
    (h:Q (((pickOrder (w.params.setOrder a ep) es)[i]?).map fun e=>(e.2,slot)) s):wpAny (model prog w) A (setNext a slot i ep) Q E s:=by
  obtain ⟨o,ho,hd⟩:=hob
  unfold setNext
  refine wpAny_bind (wpAny_setState_of ho hd hf ?_)
  dsimp only
  unfold setsByText
  refine wpAny_bind (wpAny_bind (wpAny_askSetting (wpAny_pure ?_)))
  dsimp only
  rw [if_pos (by exact hb),if_neg (by simp)]
  refine wpAny_bind ?_
  unfold setWalk
  refine wpAny_bind (wpAny_setState_of ho hd hf ?_)
  dsimp only
  unfold setsByText
  refine wpAny_bind (wpAny_bind (wpAny_askSetting (wpAny_pure ?_)))
  dsimp only
  rw [if_pos (by exact hb)]
  refine wpAny_bind (wpAny_askSetting (wpAny_pure ?_))
  exact wpAny_pure h
theorem jM {slot:Nat} {Q:Option (Value × Nat)→Shared→Prop} (hb:w.params.followText "set-order" = false) (hl:t.led=true) (hdr:(!t.plain && decide (es.size>1))=false) (hob:SOb s.heap a es ep t) (hf:t.fits es.size=true)
    (h:Q (match es[below t.place slot]?,t.place[below t.place slot]? with
    | some (_,x),some j=>some (x,j+1)
    | _,_=>none) s):wpAny (model prog w) A (setNext a slot i ep) Q E s:=by
  obtain ⟨o,ho,hd⟩:=hob
  unfold setNext
  refine wpAny_bind (wpAny_setState_of ho hd hf ?_)
  dsimp only
  unfold setsByText
  refine wpAny_bind (wpAny_bind (wpAny_askSetting (wpAny_pure ?_)))
  dsimp only
  rw [if_neg (by rw [show (model prog w).w.params.followText "set-order" = false from hb]; exact Bool.false_ne_true)]
  have e0:lq es t=(!t.plain && decide (es.size>1)):=rfl
  unfold lq at e0
  rw [e0,hdr,if_neg Bool.false_ne_true]
  refine wpAny_bind (m:=Ba es t) ?_
  show wpAny _ _ (if (!t.led && !es.isEmpty)=true then unsupported "set:maker-not-led" else pure ()) _ _ s
  rw [if_neg (by rw [hl]; simp)]
  exact wpAny_pure (wpAny_pure h)
noncomputable def PV (ys:List (Int × Value)) (i:Nat) (v:Value):Prop:=∃ e,ys[i]? = some e∧v=e.2
theorem SIt.keep {h h':Heap} (x:SIt h I first i a n ep) (e:∀ o,h.get? I=some o→h'.get? I=some o):SIt h' I first i a n ep:=e _ x
theorem SOb.keep {h h':Heap} (x:SOb h a es ep t) (e:∀ o,h.get? a=some o→h'.get? a=some o):SOb h' a es ep t:=let ⟨o,ho,r⟩:=x; ⟨o,e _ ho,r⟩
theorem uh (hh:A.handled=none) (hne:a≠I) (hb:w.params.followText "set-order" = true) (hf:t.fits es.size=true) :
    Walks prog w A I [I,a] [I] es.size (PV (pickOrder (w.params.setOrder a ep) es).toList) (fun i h=>(∃ slot:Nat,SIt h I (.int slot 0) i a es.size ep)∧SOb h a es ep t) where
  sub:=fun b hb=>by simp at hb; simp [hb]
  frame:=fun _ _ _ ⟨⟨sl,x⟩,y⟩ hk=>⟨⟨sl,x.keep fun o e=>hk I (by simp) o e⟩,y.keep fun o e=>hk a (by simp) o e⟩
  item:=fun i s Q E hi ⟨⟨sl,x⟩,y⟩ hQ=>by
    have hlen:(pickOrder (w.params.setOrder a ep) es).size=es.size:=by
      have:=(g8 (w.params.setOrder a ep) es).length_eq
      simpa using this
    refine eV hh hne x y hf (r:=((pickOrder (w.params.setOrder a ep) es)[i]?).map fun e=>(e.2,sl)) (fun A' E' Q' q=>mR hb y hf q) (fun v nx h' e x' sb=>?_) fun h' e k=>?_
    · rw [Array.getElem?_eq_getElem (by walk_at "l")] at e
      cases e
      exact hQ _ h' s.toks ⟨_,by rw [Array.getElem?_toList]; exact Array.getElem?_eq_getElem (by walk_at "l"),rfl⟩ ⟨⟨_,x'⟩,y.keep fun o e=>sb.extBut _ _ hne e⟩ fun b o hb e=>sb.extBut b o (fun h=>hb (by simp [h])) e
    · rw [Array.getElem?_eq_getElem (by walk_at "l")] at e
      cases e
  done:=fun s Q E ⟨⟨sl,x⟩,y⟩ hQ=>by
    have hlen:(pickOrder (w.params.setOrder a ep) es).size=es.size:=by
      have:=(g8 (w.params.setOrder a ep) es).length_eq
      simpa using this
    refine eV hh hne x y hf (r:=((pickOrder (w.params.setOrder a ep) es)[es.size]?).map fun e=>(e.2,sl)) (fun A' E' Q' q=>mR hb y hf q) (fun v nx h' e x' sb=>?_) fun h' e k=>?_
    · rw [Array.getElem?_eq_none (by walk_at "l")] at e
      cases e
    · exact hQ h' s.toks fun b o hb e=>k b o (fun h=>hb (by simp [h])) e
  self:=fun _ _ _ _ ⟨⟨sl,x⟩,y⟩ hQ=>gO x hQ
noncomputable def slotAt (t:SetTable):Nat→Nat
  | 0=>0
  | i+1=>t.place.getD i 0+1
theorem gh (U:Up t.place) {i:Nat} (h:i≤t.place.size):below t.place (slotAt t i)=i:=by
  cases i with
  | zero =>
    obtain ⟨_,b,_⟩:=aR U 0
    by_cases z:below t.place 0=0
    · exact z
    · exact absurd (b 0 (Nat.pos_of_ne_zero z)) (Nat.not_lt_zero _)
  | succ i=>exact qG U (by walk_at "l")
theorem pZ (hh:A.handled=none) (hne:a≠I) (hb:w.params.followText "set-order" = false) (hl:t.led=true) (hdr:(!t.plain && decide (es.size>1))=false) (U:Up t.place) (hz:t.place.size=es.size) (hf:t.fits es.size=true) :
    Walks prog w A I [I,a] [I] es.size (PV es.toList) (fun i h=>SIt h I (.int (slotAt t i:Nat) 0) i a es.size ep∧SOb h a es ep t) where
  sub:=fun b hb=>by simp at hb; simp [hb]
  frame:=fun _ _ _ ⟨x,y⟩ hk=>⟨x.keep fun o e=>hk I (by simp) o e,y.keep fun o e=>hk a (by simp) o e⟩
  item:=fun i s Q E hi ⟨x,y⟩ hQ=>by
    have hbl:=gh (t:=t) U (i:=i) (by walk_at "l")
    have e1:es[below t.place (slotAt t i)]? = some es[i]:=by rw [hbl]; exact Array.getElem?_eq_getElem hi
    have e2:t.place[below t.place (slotAt t i)]? = some (t.place.getD i 0):=by rw [hbl]; exact uc (by walk_at "l")
    refine eV hh hne x y hf (r:=some (es[i].2,t.place.getD i 0+1)) (fun A' E' Q' q=>jM hb hl hdr y hf (by rw [e1,e2]; exact q)) (fun v nx h' e x' sb=>?_) fun h' e k=>nomatch e
    cases e
    exact hQ _ h' s.toks ⟨_,by rw [Array.getElem?_toList]; exact Array.getElem?_eq_getElem hi,rfl⟩ ⟨x',y.keep fun o e=>sb.extBut _ _ hne e⟩ fun b o hb e=>sb.extBut b o (fun h=>hb (by simp [h])) e
  done:=fun s Q E ⟨x,y⟩ hQ=>by
    have hbl:=gh (t:=t) U (i:=es.size) (by walk_at "l")
    have e1:es[below t.place (slotAt t es.size)]? = none:=by rw [hbl]; exact Array.getElem?_eq_none (Nat.le_refl _)
    refine eV hh hne x y hf (r:=none) (fun A' E' Q' q=>jM hb hl hdr y hf (by rw [e1]; exact q)) (fun v nx h' e x' sb=>nomatch e) fun h' e k=>?_
    exact hQ h' s.toks fun b o hb e=>k b o (fun h=>hb (by simp [h])) e
  self:=fun _ _ _ _ ⟨x,y⟩ hQ=>gO x hQ
theorem qC {T:Addr} {ix:List Nat} {kT:Nat} (hh:A.handled=none) (hne:a≠I) (hTI:T≠I) (hf:t.fits es.size=true) (hp:ix.Perm (List.range es.size)) :
    Walks prog w A I [I,a,T] [I] es.size (PV (ix.filterMap fun k=>es[k]?)) (fun i h=>SIt h I (.ref T) i a es.size ep∧SOb h a es ep t∧∃ o,h.get? T=some o∧o.data=.seq (ix.map fun (k:Nat)=>Value.int k 0).toArray kT):=by
  have hlen:ix.length=es.size:=by simpa using hp.length_eq
  have hix:∀ k∈ix,k<es.size:=fun k hk=>List.mem_range.mp (hp.mem_iff.mp hk)
  obtain ⟨f1,f2⟩:=pO (l:=ix) (f:=fun k=>es[k]?) fun k hk=>by simp [hix k hk]
  exact {
    sub:=fun b hb=>by simp at hb; simp [hb]
    frame:=fun _ _ _ ⟨x,y,o,z,zd⟩ hk=>⟨x.keep fun o e=>hk I (by simp) o e,y.keep fun o e=>hk a (by simp) o e,o,hk T (by simp) o z,zd⟩
    item:=fun i s Q E hi ⟨x,y,o,z,zd⟩ hQ=>by
      refine j0 hh x y hf z zd (fun k e h' e1 e2 x' sb=>?_) hix fun h' e k=>?_
      · refine hQ _ h' s.toks ⟨e,by rw [f2,e1]; exact e2,rfl⟩ ⟨x',y.keep fun o e=>sb.extBut _ _ hne e,o,sb.extBut _ _ hTI z,zd⟩ fun b o hb e=>sb.extBut b o (fun h=>hb (by simp [h])) e
      · rw [List.getElem?_eq_getElem (by walk_at "l")] at e; cases e
    done:=fun s Q E ⟨x,y,o,z,zd⟩ hQ=>by
      refine j0 hh x y hf z zd (fun k e h' e1 e2 x' sb=>?_) hix fun h' e k=>?_
      · rw [List.getElem?_eq_none (by walk_at "l")] at e1; cases e1
      · exact hQ h' s.toks fun b o hb e=>k b o (fun h=>hb (by simp [h])) e
    self:=fun _ _ _ _ ⟨x,_⟩ hQ=>gO x hQ }
end
end TS

set_option Elab.async false
set_option linter.all false
set_option maxRecDepth 100000
set_option maxHeartbeats 4000000

namespace TS
open PySem PySem.SetTable PyProof.Rows
section
variable {prog:Program} {w:World} {A:Around} {E:Value→Shared→Prop} {s:Shared} {a:Addr} {o:Obj} {es:Array (Int × Value)} {ep:Nat} {t:SetTable}
theorem uO {Q:Value→Shared→Prop} (hh:A.handled=none) (ho:s.heap.get? a=some o) (hex:o.ExactSet) (hd:o.data=.set es ep t) (hf:t.fits es.size=true) (U:Up t.place) (hz:t.place.size=es.size) (hl:t.led=(!w.params.followText "set-order")) (hn:es.size≤sizeLine)
    (h:∀ (I:Addr) (h2:Heap) d (fp:List Addr) (St:Nat→Heap→Prop) (ys:List (Int × Value)),(∀ b o,s.heap.get? b=some o→h2.get? b=some o)→s.heap.objs.size≤I→(∀ b∈fp,b=a∨s.heap.objs.size≤b)→ys.Perm es.toList →
      Walks prog w A I fp [I] es.size (PV ys) St→St 0 h2→Q (.ref I) { s with heap:=h2,drawn:=d }):wpAny (model prog w) A (pyIter (.ref a)) Q E s:=by
  have hT:s.TypeIs (.ref a) "set" := ⟨o,ho,hex.1⟩
  have hlt:a<s.heap.objs.size:=Heap.lt_size ho
  refine wpAny_pyIter_slot hT F.slot_set_iter (wpAny_call_entry F.slot_set_iter hT jA ?_ (F.args_set_iter_1 _))
  unfold Builtin.«frozenset.__iter__»
  refine wpAny_bind (m:=Builtin.Frozenset.slot0 "__iter__" ⟨[.ref a],[]⟩) (wpAny_of_eq (a:=a) rfl ?_)
  refine wpAny_bind ?_
  unfold Builtin.Frozenset.sizeOf
  refine wpAny_bind (wpAny_setEntries_of ho hd hf (wpAny_pure ?_))
  refine wpAny_bind ?_
  unfold setDrawn
  refine wpAny_bind (wpAny_setState_of ho hd hf ?_)
  dsimp only
  unfold setsByText
  refine wpAny_bind (wpAny_bind (wpAny_askSetting (wpAny_pure ?_)))
  refine wpAny_pure ?_
  have e0:lq es t=(!t.plain && decide (es.size>1)):=rfl
  unfold lq at e0
  rw [e0]
  show wpAny _ _ (if (!w.params.followText "set-order" && (!t.plain && decide (es.size>1)))=true then _ else _) _ _ s
  cases hb:w.params.followText "set-order" with
  | true =>
    rw [if_neg (by simp)]
    refine wpAny_bind (wpAny_pure ?_)
    refine wpAny_bind (wpAny_setEpoch_of ho hd hf ?_)
    refine wpAny_bind (wpAny_newObj_type ?_)
    refine wpAny_pure ⟨_,rfl, "set_iterator",_,⟨_,Heap.get?_push_size _ rfl,rfl⟩,bL.lookup,?_⟩
    have ho':(s.heap.push { cls:=.type "set_iterator",data:=.fields #[rawInt 0,rawInt 0,.ref a,rawInt es.size,rawInt ep] }).get? a=some o:=Heap.get?_push_of_some _ ho
    exact h s.heap.objs.size _ s.drawn _ _ _ (fun b o e=>Heap.get?_push_of_some _ e) (Nat.le_refl _) (fun b hb=>by
      rcases List.mem_cons.mp hb with rfl | hb
      · exact .inr (Nat.le_refl _)
      · exact .inl (List.mem_singleton.mp hb)) (g8 _ _) (uh (ep:=ep) hh (Nat.ne_of_lt hlt) hb hf) ⟨⟨0,Heap.get?_push_size _ rfl⟩,o,ho',hd⟩
  | false =>
    cases hdr:(!t.plain && decide (es.size>1)) with
    | false =>
      rw [if_neg (by simp)]
      refine wpAny_bind (wpAny_pure ?_)
      refine wpAny_bind (wpAny_setEpoch_of ho hd hf ?_)
      refine wpAny_bind (wpAny_newObj_type ?_)
      refine wpAny_pure ⟨_,rfl, "set_iterator",_,⟨_,Heap.get?_push_size _ rfl,rfl⟩,bL.lookup,?_⟩
      have ho':(s.heap.push { cls:=.type "set_iterator",data:=.fields #[rawInt 0,rawInt 0,.ref a,rawInt es.size,rawInt ep] }).get? a=some o:=Heap.get?_push_of_some _ ho
      exact h s.heap.objs.size _ s.drawn _ _ _ (fun b o e=>Heap.get?_push_of_some _ e) (Nat.le_refl _) (fun b hb=>by
        rcases List.mem_cons.mp hb with rfl | hb
        · exact .inr (Nat.le_refl _)
        · exact .inl (List.mem_singleton.mp hb)) (.refl _) (pZ (ep:=ep) hh (Nat.ne_of_lt hlt) hb (by rw [hl,hb]; rfl) hdr U hz hf) ⟨Heap.get?_push_size _ rfl,o,ho',hd⟩
    | true =>
      rw [if_pos (by simp)]
      refine wpAny_bind (wW es.size (List.range es.size) s _ (by simp) fun ix d hp=>?_)
      refine wpAny_bind (wpAny_newObj_type ?_ ?hzz)
      case hzz =>
        have:=hp.length_eq
        rw [List.length_range] at this
        show (ix.map fun (i:Nat)=>rawInt i).toArray.size≤sizeLine
        rw [List.size_toArray,List.length_map,this]; exact hn
      have ho1:(s.heap.push { cls:=.type "tuple",data:=.seq (ix.map fun (i:Nat)=>rawInt i).toArray }).get? a=some o:=Heap.get?_push_of_some _ ho
      refine wpAny_bind (wpAny_setEpoch_of ho1 hd hf ?_)
      refine wpAny_bind (wpAny_newObj_type ?_)
      refine wpAny_pure ⟨_,rfl, "set_iterator",_,⟨_,Heap.get?_push_size _ rfl,rfl⟩,bL.lookup,?_⟩
      have hs1:(s.heap.push { cls:=.type "tuple",data:=.seq (ix.map fun (i:Nat)=>rawInt i).toArray }).objs.size=s.heap.objs.size+1:=Heap.size_push ..
      refine h (s.heap.push { cls:=.type "tuple",data:=.seq (ix.map fun (i:Nat)=>rawInt i).toArray }).objs.size _ d [(s.heap.push { cls:=.type "tuple",data:=.seq (ix.map fun (i:Nat)=>rawInt i).toArray }).objs.size,a,s.heap.objs.size] _ (ix.filterMap fun k=>es[k]?) (fun b o e=>Heap.get?_push_of_some _ (Heap.get?_push_of_some _ e)) (by rw [hs1]; exact Nat.le_succ _) (fun b hb=>?_) ?_
        (qC (ep:=ep) (kT:=0) (T:=s.heap.objs.size) (ix:=ix) (t:=t) hh (by rw [hs1]; exact Nat.ne_of_lt (Nat.lt_succ_of_lt hlt)) (by rw [hs1]; exact Nat.ne_of_lt (Nat.lt_succ_self _)) hf hp) ⟨Heap.get?_push_size _ rfl,⟨o,Heap.get?_push_of_some _ ho1,hd⟩,_,Heap.get?_push_of_some _ (Heap.get?_push_size _ rfl),rfl⟩
      · rcases List.mem_cons.mp hb with rfl | hb
        · exact .inr (by rw [hs1]; exact Nat.le_succ _)
        · rcases List.mem_cons.mp hb with rfl | hb
          · exact .inl rfl
          · rw [List.mem_singleton.mp hb]; exact .inr (Nat.le_refl _)
      · have:=hp.filterMap fun k=>es[k]?
        rw [ph] at this
        exact this
theorem uT {Q:Bool→Shared→Prop} (hT:s.TypeIs (.ref a) "set") (h:Q false s):wpAny (model prog w) A (Builtin.List.listLengthHint (.ref a)) Q E s:=by
  unfold Builtin.List.listLengthHint
  refine wpAny_bind (wpAny_specialOf hT PySem.F.slot_set_len.lookup ?_)
  generalize hid:("set.__len__" : String)=id0
  wp_delta
  rw [show splitId id0=some ("set", "__len__") from by subst hid; decide +kernel]
  subst hid
  refine wpAny_bind (wpAny_isInstance (T := "set") (b:=true) hT (by rw [isSubtype_type]; kernel_rfl) ?_)
  refine wpAny_ite_split (fun hab=>absurd hab (by decide)) (fun _=>?_)
  refine wpAny_ite_split (fun _=>?_) (fun hab=>absurd (by decide +kernel) hab)
  refine wpAny_bind (wpAny_typeOf hT ?_)
  exact wpAny_pure h
theorem wy {R:Result→Shared→Prop} (hh:A.handled=none) (ho:s.heap.get? a=some o) (hex:o.ExactSet) (hd:o.data=.set es ep t) (hf:t.fits es.size=true) (U:Up t.place) (hz:t.place.size=es.size) (hl:t.led=(!w.params.followText "set-order")) (hn:es.size≤sizeLine)
    (S:Addr) (hSa:S≠a) (res:Value) (c₀:Nat) (hS:s.heap.get? S=some { cls:=.type "list",data:=.seq #[] c₀ })
    (hR:∀ h' tk d acc' c' ys,(∀ b o,b≠S→s.heap.get? b=some o→h'.get? b=some o)→h'.get? S=some { cls:=.type "list",dict:=none,data:=.seq acc' c',slots:=#[] }→ys.Perm es.toList→ItemsOf (PV ys) acc' es.size→R (.ok (.ret res)) { s with heap:=h',toks:=tk,drawn:=d }) :
    wpAny (model prog w) A.in1 (Builtin.List.listExtendWith (.ref S) (.ref a) res)
      (fun fin s'=>match fin with | .done f=>R (.ok f) s' | .again c'=>c'.quiet=true∧codeAny (model prog w) A c' R s') (fun e s'=>R (.error e) s') s:=by
  have hT:s.TypeIs (.ref a) "set" := ⟨o,ho,hex.1⟩
  have hSl:=Heap.lt_size hS
  unfold Builtin.List.listExtendWith
  refine wpAny_bind (wpAny_typeOf hT ?_)
  have h1:Builtin.List.listSameRef (.ref S) (.ref a)=false:=by simp [Builtin.List.listSameRef,hSa]
  simp only [h1,show (Value.type "set" == Value.type "list")=false by decide,show (Value.type "set" == Value.type "tuple")=false by decide,Bool.or_false,Bool.false_eq_true,if_false]
  refine wpAny_bind (uO (A:=A.in1) hh ho hex hd hf U hz hl hn fun I h2 d fp St ys kp hI hfp hp W st=>?_)
  have hSf:S∉fp:=fun hm=>by
    rcases hfp S hm with z | z
    · exact hSa z
    · exact absurd hSl (Nat.not_lt.mpr z)
  have key:∀ (h:Heap) (c₁ tk:Nat),St 0 h→(∀ b o,b≠S→s.heap.get? b=some o→h.get? b=some o) →
      h.get? S=some { cls:=.type "list",data:=.seq #[] c₁ }→codeAny (model prog w) A (.builtin "list.extend.loop" ⟨[.ref S,.ref I,res],[]⟩) R { s with heap:=h,toks:=tk,drawn:=d }:=by
    intro h c₁ tk hst hk hS₁
    refine codeAny_extend_loopS W.toS hn S hSf res es.size 0 _ #[] c₁ rfl (Nat.zero_le _) hst hS₁ (ItemsOf.nil _) fun s' acc' c' hm hS' hacc=>?_
    rw [Moved.eq_with hm]
    refine hR s'.heap s'.toks d acc' c' ys (fun b o hb e=>hm.heap b o (fun hmem=>?_) (hk b o hb e)) hS' hp hacc
    rcases List.mem_cons.mp hmem with e' | hmem
    · exact hb e'
    · exact absurd (Heap.lt_size e) (by rw [List.mem_singleton.mp hmem]; exact Nat.not_lt.mpr hI)
  have hS₁:h2.get? S=some { cls:=.type "list",data:=.seq #[] c₀ }:=kp _ _ hS
  refine wpAny_bind (wpAny_holding (uT (s:={ s with heap:=h2,drawn:=d }) ⟨o,kp _ _ ho,hex.1⟩ ?_))
  refine wpAny_ite_split (fun _=>?_) (fun _=>wpAny_pure ⟨plainId_quiet PySem.F.plain_extend_loop _,key _ c₀ _ st (fun b o _ e=>kp b o e) hS₁⟩)
  refine wpAny_bind (wpAny_rule ?_)
  refine wpAny_bind ?_
  show wpAny _ _ (updateSeq S (·.push .none) >>= fun _=>updateSeq S (·.pop)) _ _ _
  refine wpAny_bind (wpAny_updateSeq hS₁ rfl ?_)
  have hS₂:=Heap.get?_update_self (Obj.mapSeq (·.push Value.none)) hS₁ rfl
  refine wpAny_updateSeq (hz:=by seq_fits) hS₂ rfl ?_
  have hS₃:=Heap.get?_update_self (Obj.mapSeq (·.pop)) hS₂ rfl
  refine wpAny_pure ⟨plainId_quiet PySem.F.plain_extend_loop _,key _ _ _ ?_ (fun b o hb e=>?_) hS₃⟩
  · refine W.frame 0 _ _ st fun b hb o e=>?_
    have hbS:b≠S:=fun h=>hSf (h ▸ hb)
    exact (Heap.get?_update_other _ _ (Ne.symm hbS)).trans ((Heap.get?_update_other _ _ (Ne.symm hbS)).trans e)
  · exact (Heap.get?_update_other _ _ (Ne.symm hb)).trans ((Heap.get?_update_other _ _ (Ne.symm hb)).trans (kp _ _ e))
theorem pY {ys:List (Int × Value)} {acc:Array Value} {n:Nat} (h:ItemsOf (PV ys) acc n) (hn:ys.length=n):acc.toList=ys.map (·.2):=by
  apply List.ext_getElem?
  intro i
  rw [List.getElem?_map]
  by_cases hi:i<n
  · have hi':i<acc.size:=by rw [h.1]; exact hi
    have e1:acc[i]? = some acc[i]:=Array.getElem?_eq_getElem hi'
    obtain ⟨e,he,hv⟩:=h.2 i acc[i] e1
    rw [Array.getElem?_toList,e1,he,hv]; rfl
  · rw [List.getElem?_eq_none (by rw [Array.length_toList,h.1]; walk_at "l"),List.getElem?_eq_none (by walk_at "l")]; rfl
theorem gC {R:Result→Shared→Prop} (hh:A.handled=none) (ho:s.heap.get? a=some o) (hex:o.ExactSet) (hd:o.data=.set es ep t) (hf:t.fits es.size=true) (U:Up t.place) (hz:t.place.size=es.size) (hl:t.led=(!w.params.followText "set-order")) (hn:es.size≤sizeLine)
    (hR:∀ h' tk d acc' c' ys,(∀ b o,s.heap.get? b=some o→h'.get? b=some o)→h'.get? s.heap.objs.size=some { cls:=.type "list",dict:=none,data:=.seq acc' c',slots:=#[] }→ys.Perm es.toList→ItemsOf (PV ys) acc' es.size→R (.ok (.ret (.ref s.heap.objs.size))) { s with heap:=h',toks:=tk,drawn:=d }) :
    codeAny (model prog w) A (.builtin "proto.collect" ⟨[.ref a],[]⟩) R s:=by
  have hlt:a<s.heap.objs.size:=Heap.lt_size ho
  have hS:(s.heap.push { cls:=.type "list",data:=.seq ([]:List Value).toArray }).get? s.heap.objs.size=some { cls:=.type "list",data:=.seq ([]:List Value).toArray }:=Heap.get?_push_size _ rfl
  refine codeAny_builtin F.entry_proto_collect ?_
  rw [Around.under_plainId F.plain_proto_collect _]
  show wpAny _ A.in1 (newList [] >>= fun l=>again (.builtin "list.__iadd__" ⟨[l,.ref a],[]⟩)) _ _ s
  refine wpAny_bind (wpAny_newObj_type ?_)
  refine wpAny_pure ⟨plainId_quiet F.plain_list_iadd _,codeAny_builtin F.entry_list_iadd ?_⟩
  rw [Around.under_plainId F.plain_list_iadd _]
  show wpAny _ A.in1 (Builtin.List.listExtendWith (.ref s.heap.objs.size) (.ref a) (.ref s.heap.objs.size)) _ _ _
  exact wy (R:=R) (s:={ s with heap:=s.heap.push { cls:=.type "list",data:=.seq ([]:List Value).toArray } }) hh (Heap.get?_push_of_some _ ho) hex hd hf U hz hl hn s.heap.objs.size (Nat.ne_of_gt hlt) _ 0 hS fun h' tk d acc' c' ys kp eo hp ia =>
    hR h' tk d acc' c' ys (fun b o e=>kp b o (Nat.ne_of_lt (Heap.lt_size e)) (Heap.get?_push_of_some _ e)) eo hp ia
theorem jc {Q:List Value→Shared→Prop} (hh:A.handled=none) (ho:s.heap.get? a=some o) (hex:o.ExactSet) (hd:o.data=.set es ep t) (hf:t.fits es.size=true) (U:Up t.place) (hz:t.place.size=es.size) (hl:t.led=(!w.params.followText "set-order")) (hn:es.size≤sizeLine)
    (hQ:∀ h' tk d vs,(∀ b o,s.heap.get? b=some o→h'.get? b=some o)→s.heap.objs.size≤h'.objs.size→vs.Perm (es.toList.map (·.2))→Q vs { s with heap:=h',toks:=tk,drawn:=d }):wpAny (model prog w) A (collect (.ref a)) Q E s:=by
  unfold collect
  refine wpAny_bind (wpAny_runValue (gC hh ho hex hd hf U hz hl hn fun h' tk d acc c ys kp eo hp ia=>?_))
  show wpAny _ A (load s.heap.objs.size >>= _) _ _ { s with heap:=h',toks:=tk,drawn:=d }
  refine wpAny_bind (wpAny_load eo ?_)
  refine wpAny_pure (hQ h' tk d _ kp (Nat.le_of_lt (Heap.lt_size eo)) ?_)
  rw [pY ia (by rw [hp.length_eq]; simp)]
  exact hp.map _
end
end TS
namespace Tim
open PySem PyProof.Rows
section
variable {prog:Program} {w:World} {A:Around} {E:Value→Shared→Prop} {s:Shared} {κ:SortKind} {r:Value→Int} {P:Value→Prop}
theorem gM {v:Value} {R:List Value→Prop} {Q:Value→Shared→Prop}
    (hcol:∀ (A':Around) (E':Value→Shared→Prop) (Q':List Value→Shared→Prop),A'.handled=A.handled→(∀ vs h1 tk d,R vs→(∀ b o,s.heap.get? b=some o→h1.get? b=some o)→s.heap.objs.size≤h1.objs.size→Q' vs { s with heap:=h1,toks:=tk,drawn:=d })→wpAny (model prog w) A' (collect v) Q' E' s)
    (hsz:∀ vs,R vs→vs.length≤63) (hP:∀ vs,R vs→∀ v∈vs,P v)
    (hk:∀ vs,R vs→2≤vs.length→∀ (A':Around) (E':Value→Shared→Prop) (s':Shared),(∀ b o,s.heap.get? b=some o→s'.heap.get? b=some o)→∀ (Q:SortKind→Shared→Prop),Q κ s'→wpAny (model prog w) A' (keyKind' vs.toArray) Q E' s')
    (C:∀ (s':Shared),(∀ b o,s.heap.get? b=some o→s'.heap.get? b=some o)→Cmp prog w A.in1.in1 s' κ r P)
    (h:∀ (vs:List Value) (h':Heap) (a:Addr) (out:List Value) (n tk:Nat) d,R vs→out.Perm vs→(out.Pairwise fun x y=>r x≤r y)→(∀ b o,s.heap.get? b=some o→h'.get? b=some o)→s.heap.objs.size≤a→h'.get? a=some (seqObj "list" out.toArray n)→Q (.ref a) { s with heap:=h',toks:=tk,drawn:=d }) :
    wpAny (model prog w) A (call (.builtin "sorted") [v]) Q E s:=by
  refine Calls.call_function_entry kind_sorted plain_sorted entry_sorted (args_sorted1 _) ?_
  unfold Builtin.«sorted»
  refine wpAny_bind (m:=checkCount "sorted" 1 1 _) (wpAny_pure ?_)
  refine wpAny_bind (hcol _ _ _ rfl fun vs h1 tk d hR kp hz=>?_)
  have h63:=hsz vs hR
  have hsz':vs.length≤sizeLine:=Nat.le_trans h63 (by rw [sizeLine_eq]; decide)
  refine wpAny_bind (wpAny_newList ?_ (by simpa using hsz'))
  have hoL:(h1.push (seqObj "list" vs.toArray 0)).get? h1.objs.size=some (seqObj "list" vs.toArray 0):=Heap.get?_push_size _ rfl
  have old:∀ b o,s.heap.get? b=some o→(cN (h1.push (seqObj "list" vs.toArray 0)) h1.objs.size vs).get? b=some o:=fun b o e=>by
    have hlt:b<h1.objs.size:=Heap.lt_size (kp b o e)
    rw [ig (Nat.ne_of_lt hlt) (by rw [size_push']; exact Nat.lt_succ_of_lt hlt)]
    exact Heap.get?_push_of_some _ (kp b o e)
  show wpAny _ _ _ _ _ { s with heap:=h1.push (seqObj "list" vs.toArray 0),toks:=tk,drawn:=d }
  refine wpAny_bind (wpAny_holding (wpAny_call_entry slot_list_sort ⟨_,hoL,rfl⟩ entry_list_sort (gj (r:=r) (s:={ s with heap:=h1.push (seqObj "list" vs.toArray 0),toks:=tk,drawn:=d }) hoL h63 (hP vs hR)
    (fun h2=>hk vs hR h2 _ _ _ old) (fun h2=>C _ old) fun out a1 a2=>⟨_,rfl,?_⟩) (args_list_sort _)))
  obtain ⟨n,e⟩:=sortedHeap_at (out:=out) hoL
  refine wpAny_pure ⟨_,rfl,h vs _ h1.objs.size out.toList n tk d hR a1 a2 (fun b o e=>?_) hz (by rw [Array.toArray_toList]; exact e)⟩
  have hlt:b<h1.objs.size:=Heap.lt_size (kp b o e)
  rw [sortedHeap_old (Nat.ne_of_lt hlt) (by rw [size_push']; exact Nat.lt_succ_of_lt hlt)]
  exact Heap.get?_push_of_some _ (kp b o e)
end
end Tim

set_option Elab.async false
set_option linter.all false
set_option maxRecDepth 100000
set_option maxHeartbeats 4000000

namespace TS
open PySem PySem.SetTable PyProof.Rows
section
variable {prog:Program} {w:World} {K:Type} [DecidableEq K] {knd:KeyKind prog w K} {A:Around} {E:Value→Shared→Prop} {s:Shared}
theorem o_ {α:Type} (led:Bool):TI (α:=α) (SetTable.fresh 0 0 led) #[] :=
  ⟨⟨3,rfl,Nat.le_refl _⟩,rfl,fun i j h hj=>absurd hj (Nat.not_lt_zero _),fun i hi=>absurd hi (Nat.not_lt_zero _),rfl,(by show 0 * 5<7 * 3; decide),fun i h x e=>by simp at e⟩
theorem lH {l:Addr} {items:Array Value} {xs:List (List K × Addr)} {Q:Value→Shared→Prop} (hh:A.handled=none) (hu:A.units+8<cLine) (hl:s.heap.IsList l items) (hi:items.toList=xs.map fun p=>Value.ref p.2)
    (his:∀ p∈xs,IsTupleKey knd s.heap p.1 p.2) (hz:xs.length≤63) (hsc:∀ k v,knd.is k v=true→v.scannable=true)
    (h:∀ h' tk ks,SetT knd h' s.heap.objs.size ks→(∀ k,k∈ks.map (·.1)↔k∈xs.map (·.1))→(∀ p∈ks,p∈xs)→(∀ b o,s.heap.get? b=some o→h'.get? b=some o)→Q (.ref s.heap.objs.size) { s with heap:=h',toks:=tk }) :
    wpAny (model prog w) A (call (.type "set") [.ref l]) Q E s:=by
  have lt:∀ p∈xs,p.2<s.heap.objs.size:=fun p hp=>by
    obtain ⟨o,_,_,ho,_⟩:=his p hp
    exact Heap.lt_size ho
  refine gb hh hl (fun i h=>∃ ks,SetT knd h s.heap.objs.size ks∧(∀ k,k∈ks.map (·.1)↔k∈(xs.take i).map (·.1))∧(∀ p∈ks,p∈xs)∧ks.length≤i∧∀ p∈xs,IsTupleKey knd h p.1 p.2) (fun h e k=>?_) (fun i h h' ⟨ks,S,m1,m2,m3,m4⟩ k=>?_) (fun i v s' E' Q' hv ⟨ks,S,m1,m2,m3,m4⟩ q=>?_) fun h' tk ⟨ks,S,m1,m2,m3,m4⟩ k=>?_
  · exact ⟨[],⟨⟨_,#[],0,_,e,⟨rfl,rfl,rfl⟩,rfl,o_ _,(by show 7≤8191; decide),rfl,rfl⟩,List.nodup_nil,fun p hp=>nomatch hp⟩,fun k=>by simp,(fun p hp=>nomatch hp),Nat.le_refl _,fun p hp=>IsTupleKey.stay (his p hp) fun o ho=>k _ _ ho⟩
  · obtain ⟨⟨o,es,ep,t,ho,r⟩,nd,is⟩:=S
    exact ⟨ks,⟨⟨o,es,ep,t,k _ _ (Nat.le_refl _) ho,r⟩,nd,fun p hp=>IsTupleKey.stay (is p hp) fun o ho=>k _ _ (Nat.le_of_lt (lt p (m2 p hp))) ho⟩,m1,m2,m3,fun p hp=>IsTupleKey.stay (m4 p hp) fun o ho=>k _ _ (Nat.le_of_lt (lt p hp)) ho⟩
  · have hv':items.toList[i]? = some v:=by rw [Array.getElem?_toList]; exact hv
    rw [hi,List.getElem?_map] at hv'
    cases ex:xs[i]? with
    | none=>rw [ex] at hv'; cases hv'
    | some p =>
      rw [ex] at hv'
      cases hv'
      have hp:=List.mem_of_getElem? ex
      have hil:i<xs.length:=(List.getElem?_eq_some_iff.mp ex).1
      have tk1:(xs.take (i+1)).map (·.1)=(xs.take i).map (·.1)++[p.1]:=by
        rw [List.take_add_one,ex,List.map_append]; rfl
      unfold setAdd
      refine wpAny_holding (wpAny_bind (wpAny_pyHash_tuple (by show A.units+3<cLine; walk_at "l") (m4 p hp) ?_))
      refine yH (s:={ s' with toks:=s'.toks+(p.1.length+1) }) S (m4 p hp) (by walk_at "l") (by show A.units+3<cLine; walk_at "l") hsc fun b h' ks' sb S' c=>?_
      refine q b h' _ sb ⟨ks',S',fun k=>?_,fun p' hp'=>?_,?_,fun p' hp'=>IsTupleKey.stay (m4 p' hp') fun o ho=>sb.extBut _ _ (Nat.ne_of_lt (lt p' hp')) ho⟩
      · rw [tk1,List.mem_append,List.mem_singleton,← m1]
        rcases c with ⟨c1,rfl⟩ | ⟨c1,c2⟩
        · exact ⟨.inl,fun z=>z.elim id fun e=>e ▸ c1⟩
        · rw [(c2.map _).mem_iff,List.map_cons,List.mem_cons]
          exact ⟨fun z=>z.symm,fun z=>z.symm⟩
      · rcases c with ⟨c1,rfl⟩ | ⟨c1,c2⟩
        · exact m2 p' hp'
        · rcases List.mem_cons.mp (c2.mem_iff.mp hp') with rfl | z
          · exact hp
          · exact m2 p' z
      · rcases c with ⟨c1,rfl⟩ | ⟨c1,c2⟩
        · walk_at "l"
        · rw [c2.length_eq]; simp; walk_at "l"
  · have e:items.size=xs.length:=by
      have:=congrArg List.length hi
      simpa using this
    rw [e,List.take_length] at m1
    exact h h' tk ks S m1 m2 fun b o ho=>k b o (Heap.lt_size ho) ho
end
end TS

namespace L2
open PySem PySem.Spec PyProof.Rows
section
variable {X:Cx} {pins:List (Addr × Obj)} {σ:St} {H:Hp} {s:Shared}
theorem Inv.drawn {d} (I:Inv X pins σ H s):Inv X pins σ H { s with drawn:=d }:=⟨I.ok,I.os,I.bare,I.base,I.loc,I.cell,I.free,I.freeC,I.pin,I.hok,I.len⟩
theorem o4 {prog:Program} {w:World}:∀ (k:Key) (v:Value),(mixKind prog w).is k v=true→v.scannable=true:=fun k v h=>by
  rcases keyIs_shape h with ⟨i,t,rfl,rfl⟩ | ⟨x,t,rfl,rfl⟩ <;> rfl
noncomputable def eF (K:PySem.W.Frag):V→Hp→VK→Prop:=fun x H Q=>match x with
  | .ref p=>∃ ys ks sh,SqL K H p ys∧ys.length≤63∧b8 H ys ks∧(∀ k∈ks,shOf k=true :: sh) ∧
      ∀ zs ms l,b8 H zs ms→ms.Nodup→(∀ k,k∈ms↔k∈ks)→(ms.Pairwise fun a b=>ltK b a=false)→H l=none→Q (.ref l) (upd H l (.lst zs))
  | _=>False
theorem b8.pairs {H:Hp} {ys:List V} {ks:List (List Key)} {vs:List Value} (h:b8 H ys ks) (hv:Vals ys vs):∃ xs:List (List Key × Addr),vs=xs.map (fun p=>Value.ref p.2)∧xs.map (·.1)=ks∧∀ p∈xs,H p.2=some (.tup (p.1.map kV)):=by
  induction ys generalizing ks vs with
  | nil=>exact ⟨[],Paired.n0 hv,(show ks=[] from Paired.n0 h).symm,fun p hp=>nomatch hp⟩
  | cons y ys ih =>
    obtain ⟨k,ks,rfl,⟨b,rfl,g⟩,t⟩:=Paired.c h
    obtain ⟨v,vs,rfl,rfl,rs⟩:=Paired.c hv
    obtain ⟨xs,e1,e2,e3⟩:=ih t rs
    refine ⟨(k,b) :: xs,by rw [e1]; rfl,by rw [← e2]; rfl,fun p hp=>?_⟩
    rcases List.mem_cons.mp hp with rfl | hp
    · exact g
    · exact e3 p hp
end
section
variable {X:Cx} {e:Expr} {te:TE} {p p2 pos pos2:Pos}
theorem nM (hc:X.calm=true) (hu:X.A.units+64<cLine) (hg:Gl X "sorted") (hm:X.mg "sorted" = none) (hg2:Gl X "set") (hm2:X.mg "set" = none) (he:PE X e te)
    (hv:bootBuiltins "sorted" = some (.builtin "sorted")) (hv2:bootBuiltins "set" = some (.type "set"))
    (hs2:starEach [e] X.env=(false,eval e X.env) :: starEach [] X.env:=by rfl)
    (hs:starEach [.Call (.Name "set" p2) [e] [] pos2] X.env=(false,eval (.Call (.Name "set" p2) [e] [] pos2) X.env) :: starEach [] X.env:=by rfl) :
    PE X (.Call (.Name "sorted" p) [.Call (.Name "set" p2) [e] [] pos2] [] pos) (tUn (eF X.K) te):=by
  intro pins s σ H Q I h
  refine wpAny_Call_Name_kw (ld_blt I hg hm hv ?_ (by decide) (by decide))
  refine PyProof.Rows.callWith_builtin1 ?_ hs rfl
  rw [hs]
  refine Calls.spliced_cons ?_
  refine wpAny_Call_Name_kw (ld_blt I hg2 hm2 hv2 ?_ (by decide) (by decide))
  refine PyProof.Rows.callWith_type1 ?_ hs2 rfl
  rw [hs2]
  refine Calls.spliced_cons (thn (he pins s σ H _ I h) fun u s1 hx5=>L2.ex2 hx5 fun x H1 I1 r1 q1=>Calls.spliced_nil ?_)
  have q1:eF X.K x H1 Q:=q1
  obtain ⟨a,rfl⟩:∃ a,x=.ref a:=by
    unfold eF at q1
    split at q1
    · exact ⟨_,rfl⟩
    · exact q1.elim
  obtain ⟨ys,ks,sh,hl,hz1,ht,hsh,q⟩:=q1
  cases r1
  obtain ⟨vs,rv,pl,hz⟩:=I1.list hl
  obtain ⟨xs,ex,ek,hx⟩:=ht.pairs rv
  have hhd:X.A.handled=none:=I1.ok.hd hc
  have hlen:xs.length=ys.length:=by rw [rv.length,ex,List.length_map]
  have his:∀ p∈xs,IsTupleKey (mixKind X.prog X.w) s1.heap p.1 p.2:=fun p hp=>by
    obtain ⟨us,ru,o,e1,c1,n1,d1⟩:=I1.tup (hx p hp)
    exact ⟨o,us.toArray,n1,e1,c1,d1,by simpa using items_are ru⟩
  refine TS.lH (knd:=mixKind X.prog X.w) hhd (by walk_at "l") pl.isList (by simpa using ex) his (by walk_at "l") o4 fun h2 tk ks' S m1 m2 kp=>?_
  refine Calls.spliced_nil ?_
  obtain ⟨⟨o,es,ep,t,ho,hex,hd,T,hM,hL,hes⟩,nd,is⟩:=S
  have hent:es.toList.map (·.2)=ks'.map fun p=>Value.ref p.2:=by rw [hes,List.map_map]; rfl
  have hksl:ks'.length≤63:=by
    have:=TS.bZ nd (m:=ks) fun k hk=>by rw [← ek]; exact (m1 k).mp hk
    rw [List.length_map] at this
    have:ks.length=xs.length:=by rw [← ek,List.length_map]
    walk_at "l"
  have hesz:es.size=ks'.length:=by
    have:=congrArg List.length hes
    simpa using this
  have memk:∀ p∈ks',p.1∈ks:=fun p hp=>by rw [← ek]; exact List.mem_map.mpr ⟨p,m2 p hp,rfl⟩
  have mem:∀ vs':List Value,vs'.Perm (ks'.map fun p=>Value.ref p.2)→∀ v∈vs',∃ b k,v=.ref b∧H1 b=some (.tup (k.map kV))∧k∈ks:=fun vs' pv v hv=>by
    obtain ⟨p,hp,rfl⟩:=List.mem_map.mp (pv.mem_iff.mp hv)
    exact ⟨p.2,p.1,rfl,hx p (m2 p hp),memk p hp⟩
  have h12:s1.heap.objs.size≤h2.objs.size:=Nat.le_of_lt (Heap.lt_size ho)
  refine Tim.gM (s:={ s1 with heap:=h2,toks:=tk }) (κ:=tuples' true) (R:=fun vs'=>vs'.Perm (ks'.map fun p=>Value.ref p.2)) (r:=fun v=>rkK ks (ji H1 v)) (P:=fun v=>∃ b k,v=.ref b∧H1 b=some (.tup (k.map kV))∧shOf k=true :: sh∧k∈ks)
    (fun A' E' Q' hA hQ=>TS.jc (s:={ s1 with heap:=h2,toks:=tk }) (hA.trans hhd) ho hex hd T.fits T.up T.sz hL (by rw [hesz,sizeLine_eq]; walk_at "l") fun h' tk' d vs' kp' hz' pv=>hQ vs' h' tk' d (by rw [← hent]; exact pv) kp' hz')
    (fun vs' pv=>by rw [pv.length_eq,List.length_map]; walk_at "l") (fun vs' pv v hv=>?_) (fun vs' pv h2' A' E' s' kp' Q' q'=>?_) (fun s' kp'=>oY I1 fun b o e=>kp' b o (kp b o e)) fun vs' h' a' out n tk' d pv pm pw kp' ha eo=>?_
  · obtain ⟨b,k,e1,e2,e3⟩:=mem vs' pv v hv
    exact ⟨b,k,e1,e2,hsh k e3,e3⟩
  · obtain ⟨zs,z1,z2⟩:=b8.of (H:=H1) (ks:=ks) vs' (mem vs' pv)
    obtain ⟨fs,f1,f2,f3⟩:=kat_tups I1 (s':=s') (fun b o e=>kp' b o (kp b o e)) z1 z2 fun k hk=>by
      obtain ⟨v,hv,rfl⟩:=List.mem_map.mp hk
      obtain ⟨b,k,rfl,e2,e3⟩:=mem vs' pv v hv
      rw [cu e2]; exact hsh k e3
    refine PySem.W.kat_kind (T:=.type "int") f1 (by walk_at "l") (fun f hf=>?_) (by decide) q'
    obtain ⟨i,t,rfl⟩:=f3 f hf
    exact .now
  · have pm2:=pm.trans pv
    obtain ⟨zs,z1,z2⟩:=b8.of (H:=H1) (ks:=ks) out fun v hv=>mem _ pm2 v hv
    have zl:=z2.length
    have ol:=pm2.length_eq
    rw [List.length_map] at ol
    have ekk:(ks'.map fun p=>Value.ref p.2).map (ji H1)=ks'.map (·.1):=by
      rw [List.map_map]
      exact List.map_congr_left fun p hp=>cu (hx p (m2 p hp))
    have pms:(out.map (ji H1)).Perm (ks'.map (·.1)):=by rw [← ekk]; exact pm2.map _
    refine ⟨.ref a',_,(I1.laid (a:=a') (t':=tk') (fun b o e=>kp' b o (kp b o e)) (Nat.le_trans h12 ha) (show ObjOk X.prog X.w _ h' _ (.lst zs) from ⟨by rw [sizeLine_eq]; walk_at "l",out,n,z2,eo⟩)).drawn,rfl,
      q zs _ _ z1 (pms.nodup_iff.mpr nd) (fun k=>by rw [pms.mem_iff,m1,ek]) ?_ (I1.hok.fresh (Nat.le_trans h12 ha))⟩
    rw [List.pairwise_map]
    refine pw.imp_of_mem fun {x y} mx my hle=>?_
    obtain ⟨b,k,rfl,hb,kk⟩:=mem _ pm2 x mx
    obtain ⟨c,m,rfl,hc',km⟩:=mem _ pm2 y my
    rw [cu hb,cu hc'] at *
    have:=mL (L:=ks) ((hsh m km).trans (hsh k kk).symm) km
    rw [← this]
    exact decide_eq_false (by walk_at "l")
end
end L2

set_option Elab.async false
set_option linter.all false
set_option maxRecDepth 100000
set_option maxHeartbeats 4000000

namespace TS
open PySem PySem.SetTable PyProof.Rows
section
variable {t:SetTable} {es:Array (Int × Value)}
theorem qT (T:TI t es) (h:Int) (x:Value):∃ j,j≤t.mask∧taken t.place j=false∧Reach t.mask t.place h j ∧
    layNew t es h x=(insertAt es (below t.place j) (h,x),{ t with place:=insertAt t.place (below t.place j) j,dummies:=#[] },false,false):=by
  obtain ⟨m,hm,_⟩:=T.pw
  obtain ⟨e0,he0,hf0⟩:=T.free
  obtain ⟨nf,n1,n2,n3⟩:=jJ hm h (taken t.place) he0 hf0
  obtain ⟨n',a1,a2,a3,a4⟩:=kh T (fun _=>h+1) h (10 * turns t.mask) 0 ⟨nf,Nat.zero_le _,by unfold turns; walk_at "l",n2⟩
  rcases a4 with ⟨c1,c2⟩ | ⟨_,c2,_⟩
  · have hn':n'≤nf:=by
      by_cases z:n'≤nf
      · exact z
      · have:=(a3 nf (Nat.zero_le _) (by walk_at "l")).1
        rw [n2] at this; cases this
    refine ⟨J t.mask h n',J_le ..,c1,⟨n',by walk_at "l",rfl,fun q hq=>(a3 q (Nat.zero_le _) hq).1⟩,?_⟩
    have hfs:t.freeSlot h=some (J t.mask h n',false):=by
      unfold SetTable.freeSlot
      have:t.probe (fun _=>h+1) h (t.probeStart h)=some (.empty (J t.mask h n') none):=c2
      rw [this]; rfl
    have hput:t.put (J t.mask h n')=({ t with place:=insertAt t.place (below t.place (J t.mask h n')) (J t.mask h n'),dummies:=#[] },below t.place (J t.mask h n')):=by
      unfold SetTable.put
      have:has t.dummies (J t.mask h n')=false:=by rw [T.dm]; rfl
      simp only [this,Bool.false_eq_true,if_false]
      rw [T.dm]
    have hb:=(aR T.up (J t.mask h n')).1
    have hfit:({ t with place:=insertAt t.place (below t.place (J t.mask h n')) (J t.mask h n'),dummies:=#[] }:SetTable).fits (insertAt es (below t.place (J t.mask h n')) (h,x)).size=true:=by
      have:=T.few
      have hsz:(insertAt es (below t.place (J t.mask h n')) (h,x)).size=es.size+1:=bM _ _ (by rw [← T.sz]; exact hb)
      simp only [SetTable.fits,SetTable.fill,hsz,bM _ _ hb,T.sz,Bool.and_eq_true,beq_iff_eq,decide_eq_true_eq,true_and]
      simp; walk_at "l"
    unfold layNew
    rw [hfs]
    dsimp only
    rw [hput]
    dsimp only
    unfold SetTable.orStandIn
    rw [hfit]
    rfl
  · exact absurd c2 (by walk_at "l")
end
section
variable {prog:Program} {w:World} {K:Type} [DecidableEq K] {knd:KeyKind prog w K}
noncomputable def entK (knd:KeyKind prog w K) (p:K × Value):Int × Value:=(knd.hash p.1,p.2)
structure SetK (knd:KeyKind prog w K) (h:Heap) (a:Addr) (ks:List (K × Value)):Prop where
  ob:∃ o es ep t,h.get? a=some o∧o.ExactSet∧o.data=.set es ep t∧TI t es∧t.mask≤8191∧t.led=(!w.params.followText "set-order")∧es.toList=ks.map (entK knd)
  nd:(ks.map (·.1)).Nodup
  is:∀ p∈ks,knd.is p.1 p.2=true
variable {A:Around} {E:Value→Shared→Prop} {s:Shared}
theorem wZ {a:Addr} {x:Value} {k:K} {ks:List (K × Value)} (S:SetK knd s.heap a ks) (hx:knd.is k x=true) (hz:ks.length<1000) (hsc:∀ k v,knd.is k v=true→v.scannable=true) {Q:Bool→Shared→Prop}
    (h:∀ (b:Bool) (h':Heap) (ks':List (K × Value)),Heap.SameBut a s.heap h'→SetK knd h' a ks'→(k∈ks.map (·.1)∧ks'=ks∨k∉ks.map (·.1)∧ks'.Perm ((k,x) :: ks))→Q b { s with heap:=h' }) :
    wpAny (model prog w) A (setAddHashed a x (knd.hash k)) Q E s:=by
  obtain ⟨⟨o,es,ep,t,ho,hex,hd,T,hM,hL,he⟩,nd,is⟩:=id S
  have hlen:es.size=ks.length:=by
    have:=congrArg List.length he
    simpa using this
  have hel:ElemsOf knd es.toList:=fun e hm=>by
    rw [he] at hm
    obtain ⟨p,hp,rfl⟩:=List.mem_map.mp hm
    exact ⟨⟨p.1,is p hp,rfl⟩,hsc _ _ (is p hp)⟩
  have hsb:scanBound=4096:=rfl
  unfold setAddHashed setAddHashedIn
  refine wpAny_holding (wpAny_bind (wpAny_setState_of ho hd T.fits ?_))
  dsimp only
  rw [byScan_of (hsc _ _ hx) (by walk_at "l") hel]
  simp only [↓reduceIte]
  unfold setAddByScan
  refine wpAny_bind ?_
  refine wpAny_bind (wpAny_rule ?_)
  refine wpAny_bind (wpAny_setScan_of hx ho hd T.fits hel ?_)
  cases hr:List.findIdx? (fun e=>knd.is k e.2) es.toList with
  | some j =>
    dsimp only
    refine wpAny_pure (wpAny_pure ?_)
    obtain ⟨hj,hpj,_⟩:=List.findIdx?_eq_some_iff_getElem.mp hr
    have hm:es.toList[j]∈ks.map (entK knd):=by rw [← he]; exact List.getElem_mem hj
    obtain ⟨p,hp,ep'⟩:=List.mem_map.mp hm
    rw [← ep'] at hpj
    have hk:k=p.1:=knd.inj p.2 k p.1 hpj (is p hp)
    have e:s={ s with heap:=s.heap }:=by cases s; rfl
    rw [e]
    exact h _ _ ks (Heap.SameBut.refl a s.heap) S (.inl ⟨List.mem_map.mpr ⟨p,hp,hk.symm⟩,rfl⟩)
  | none =>
    dsimp only
    have hout:k∉ks.map (·.1):=fun hm=>by
      obtain ⟨p,hp,rfl⟩:=List.mem_map.mp hm
      have:=List.findIdx?_eq_none_iff.mp hr (entK knd p) (by rw [he]; exact List.mem_map.mpr ⟨p,hp,rfl⟩)
      rw [show knd.is p.1 (entK knd p).2=true from is p hp] at this
      cases this
    obtain ⟨j,hjm,n2,hre,hlay⟩:=qT T (knd.hash k) x
    rw [hlay]
    dsimp only
    refine wpAny_bind (wpAny_pure ?_)
    have hin:(insertAt es (below t.place j) (knd.hash k,x)).toList=(ks.take (below t.place j)++(k,x) :: ks.drop (below t.place j)).map (entK knd):=by
      rw [jX,he,List.map_append,List.map_cons,List.map_take,List.map_drop]; rfl
    have hperm:(ks.take (below t.place j)++(k,x) :: ks.drop (below t.place j)).Perm ((k,x) :: ks):=by
      refine List.perm_middle.trans ?_
      rw [List.take_append_drop]
    have hbl:below t.place j≤es.size:=by rw [← T.sz]; exact (aR T.up j).1
    have hsz':(insertAt es (below t.place j) (knd.hash k,x)).size=es.size+1:=bM _ _ hbl
    have isK:∀ ks':List (K × Value),ks'.Perm ((k,x) :: ks)→∀ p∈ks',knd.is p.1 p.2=true:=fun ks' pm p hp=>by
      rcases List.mem_cons.mp (pm.mem_iff.mp hp) with rfl | hp
      · exact hx
      · exact is p hp
    have ndK:∀ ks':List (K × Value),ks'.Perm ((k,x) :: ks)→(ks'.map (·.1)).Nodup:=fun ks' pm=>by
      rw [(pm.map _).nodup_iff,List.map_cons,List.nodup_cons]
      exact ⟨hout,nd⟩
    have main:∀ t':SetTable,t'.mask=t.mask→t'.place=insertAt t.place (below t.place j) j→t'.dummies = #[]→t'.led=t.led→wpAny (model prog w) A (do
        storeSet a (insertAt es (below t.place j) (knd.hash k,x)) t'
        if (!false && t'.tooFull)=true then do
            zr (relayAll t' (insertAt es (below t.place j) (knd.hash k,x)) (grown (insertAt es (below t.place j) (knd.hash k,x)).size)).2.2
            storeSet a (relayAll t' (insertAt es (below t.place j) (knd.hash k,x)) (grown (insertAt es (below t.place j) (knd.hash k,x)).size)).1 (relayAll t' (insertAt es (below t.place j) (knd.hash k,x)) (grown (insertAt es (below t.place j) (knd.hash k,x)).size)).2.1
            pure (some true)
          else pure (some true)) (fun r s'=>wpAny (model prog w) A (match r with | some added=>pure added | none=>setAddHashedIn a x (knd.hash k) 99999) Q E s') E s:=fun t' tm tp td tl=>by
      have hfill:t'.fill=es.size+1:=by
        unfold SetTable.fill
        rw [tp,td,bM _ _ (aR T.up j).1,T.sz]; simp
      refine wpAny_bind (wpAny_storeSet_of ho hd ?_ (by rw [hsz',sizeLine_eq]; walk_at "l"))
      have ho1:(s.heap.update a (Obj.putSet (insertAt es (below t.place j) (knd.hash k,x)) t')).get? a=some { o with data:=.set (insertAt es (below t.place j) (knd.hash k,x)) (ep+1) t' }:=by
        have:=Heap.get?_update_self (Obj.putSet (insertAt es (below t.place j) (knd.hash k,x)) t') ho (by rw [putSet_of _ _ hd]; rfl)
        rw [putSet_of _ _ hd] at this; exact this
      have sb1:=Heap.SameBut.update s.heap a (Obj.putSet (insertAt es (below t.place j) (knd.hash k,x)) t')
      by_cases c:t'.tooFull=true
      · rw [if_pos (by rw [c]; rfl)]
        obtain ⟨t2,order,r1,r2,r3,r4,r5,r6,r7,r8,r9⟩:=lV (t:=t') (es:=insertAt es (below t.place j) (knd.hash k,x)) (by walk_at "l")
        have hrel:relayAll t' (insertAt es (below t.place j) (knd.hash k,x)) (grown (insertAt es (below t.place j) (knd.hash k,x)).size)=(order.filterMap fun i=>(insertAt es (below t.place j) (knd.hash k,x))[i]?,t2,false):=by
          unfold relayAll
          rw [r1]
          dsimp only
          rw [if_pos]
          rw [Bool.and_eq_true]
          refine ⟨?_,r6.fits⟩
          unfold coversAll
          rw [List.isPerm_iff]; exact r9
        rw [hrel]
        dsimp only
        refine wpAny_bind (wpAny_pure ?_)
        obtain ⟨ks',ek,pk⟩:=fX r8 hin
        refine wpAny_bind (wpAny_storeSet_of ho1 rfl ?_ (by rw [r7,hsz',sizeLine_eq]; walk_at "l"))
        refine wpAny_pure (wpAny_pure ?_)
        have sb2:=sb1.trans (Heap.SameBut.update _ a (Obj.putSet (order.filterMap fun i=>(insertAt es (below t.place j) (knd.hash k,x))[i]?) t2))
        have ho2:=Heap.get?_update_self (Obj.putSet (order.filterMap fun i=>(insertAt es (below t.place j) (knd.hash k,x))[i]?) t2) ho1 (by rw [putSet_of _ _ rfl]; rfl)
        rw [putSet_of _ _ rfl] at ho2
        exact h true _ ks' sb2 ⟨⟨_,_,_,_,ho2,hex,rfl,r6,r5 (by walk_at "l"),by rw [r3,tl]; exact hL,ek⟩,ndK ks' (pk.trans hperm),isK ks' (pk.trans hperm)⟩ (.inr ⟨hout,pk.trans hperm⟩)
      · rw [if_neg (by simpa using c)]
        refine wpAny_pure (wpAny_pure ?_)
        have hfew:(es.size+1) * 5<t.mask * 3:=by
          unfold SetTable.tooFull at c
          rw [hfill,tm] at c
          simpa using c
        exact h true _ _ sb1 ⟨⟨_,_,_,_,ho1,hex,rfl,T.put hjm n2 hre tm tp td hfew,by rw [tm]; exact hM,by rw [tl]; exact hL,hin⟩,ndK _ hperm,isK _ hperm⟩ (.inr ⟨hout,hperm⟩)
    split
    · refine wpAny_bind ?_
      rw [hashByValue_scannable 8 (hsc _ _ hx)]
      refine wpAny_pure ?_
      split
      · exact main _ rfl rfl rfl rfl
      · exact main _ rfl rfl rfl rfl
    · refine wpAny_bind (wpAny_pure ?_)
      rw [if_pos rfl]
      exact main _ rfl rfl rfl rfl
end
end TS

set_option Elab.async false
set_option linter.all false
set_option maxRecDepth 100000
set_option maxHeartbeats 4000000

namespace TS
open PySem PySem.SetTable PyProof.Rows
section
variable {prog:Program} {w:World} {K:Type} [DecidableEq K] {knd:KeyKind prog w K} {A:Around} {E:Value→Shared→Prop} {s:Shared}
theorem k_ {l:Addr} {items:Array Value} {xs:List (K × Value)} {Q:Value→Shared→Prop} (hh:A.handled=none) (hl:s.heap.IsList l items) (hi:items.toList=xs.map (·.2))
    (his:∀ p∈xs,knd.is p.1 p.2=true) (hz:xs.length≤63) (hsc:∀ k v,knd.is k v=true→v.scannable=true)
    (h:∀ h' tk ks,SetK knd h' s.heap.objs.size ks→(∀ k,k∈ks.map (·.1)↔k∈xs.map (·.1))→(∀ p∈ks,p∈xs)→(∀ b o,s.heap.get? b=some o→h'.get? b=some o)→Q (.ref s.heap.objs.size) { s with heap:=h',toks:=tk }) :
    wpAny (model prog w) A (call (.type "set") [.ref l]) Q E s:=by
  refine gb hh hl (fun i h=>∃ ks,SetK knd h s.heap.objs.size ks∧(∀ k,k∈ks.map (·.1)↔k∈(xs.take i).map (·.1))∧(∀ p∈ks,p∈xs)∧ks.length≤i) (fun h e k=>?_) (fun i h h' ⟨ks,S,m1,m2,m3⟩ k=>?_) (fun i v s' E' Q' hv ⟨ks,S,m1,m2,m3⟩ q=>?_) fun h' tk ⟨ks,S,m1,m2,m3⟩ k=>?_
  · exact ⟨[],⟨⟨_,#[],0,_,e,⟨rfl,rfl,rfl⟩,rfl,o_ _,(by show 7≤8191; decide),rfl,rfl⟩,List.nodup_nil,fun p hp=>nomatch hp⟩,fun k=>by simp,(fun p hp=>nomatch hp),Nat.le_refl _⟩
  · obtain ⟨⟨o,es,ep,t,ho,r⟩,nd,is⟩:=S
    exact ⟨ks,⟨⟨o,es,ep,t,k _ _ (Nat.le_refl _) ho,r⟩,nd,is⟩,m1,m2,m3⟩
  · have hv':items.toList[i]? = some v:=by rw [Array.getElem?_toList]; exact hv
    rw [hi,List.getElem?_map] at hv'
    cases ex:xs[i]? with
    | none=>rw [ex] at hv'; cases hv'
    | some p =>
      rw [ex] at hv'
      cases hv'
      have hp:=List.mem_of_getElem? ex
      have hil:i<xs.length:=(List.getElem?_eq_some_iff.mp ex).1
      have tk1:(xs.take (i+1)).map (·.1)=(xs.take i).map (·.1)++[p.1]:=by
        rw [List.take_add_one,ex,List.map_append]; rfl
      unfold setAdd
      refine wpAny_holding (wpAny_bind (knd.pyHash (k:=p.1) (his p hp) ?_))
      refine wZ (s:={ s' with toks:=s'.toks+1 }) S (his p hp) (by walk_at "l") hsc fun b h' ks' sb S' c=>?_
      refine q b h' _ sb ⟨ks',S',fun k=>?_,fun p' hp'=>?_,?_⟩
      · rw [tk1,List.mem_append,List.mem_singleton,← m1]
        rcases c with ⟨c1,rfl⟩ | ⟨c1,c2⟩
        · exact ⟨.inl,fun z=>z.elim id fun e=>e ▸ c1⟩
        · rw [(c2.map _).mem_iff,List.map_cons,List.mem_cons]
          exact ⟨fun z=>z.symm,fun z=>z.symm⟩
      · rcases c with ⟨c1,rfl⟩ | ⟨c1,c2⟩
        · exact m2 p' hp'
        · rcases List.mem_cons.mp (c2.mem_iff.mp hp') with rfl | z
          · exact hp
          · exact m2 p' z
      · rcases c with ⟨c1,rfl⟩ | ⟨c1,c2⟩
        · walk_at "l"
        · rw [c2.length_eq]; simp; walk_at "l"
  · have e:items.size=xs.length:=by
      have:=congrArg List.length hi
      simpa using this
    rw [e,List.take_length] at m1
    exact h h' tk ks S m1 m2 fun b o ho=>k b o (Heap.lt_size ho) ho
end
end TS
namespace L2
open PySem PySem.Spec PyProof.Rows
noncomputable def eE (K:PySem.W.Frag):V→Hp→VK→Prop:=fun x H Q=>match x with
  | .ref p=>∃ (ks:List Key) (b:Bool),SqL K H p (ks.map kV)∧ks.length≤63∧(∀ k∈ks,isI k=b) ∧
      ∀ (ms:List Key) (l:Addr),ms.Nodup→(∀ k,k∈ms↔k∈ks)→(ms.Pairwise fun a b=>lt1 b a=false)→H l=none→Q (.ref l) (upd H l (.lst (ms.map kV)))
  | _=>False
theorem pX {ks:List Key} {vs:List Value} (h:Vals (ks.map kV) vs):∃ xs:List (Key × Value),vs=xs.map (·.2)∧xs.map (·.1)=ks∧∀ p∈xs,RelV (kV p.1) p.2:=by
  induction ks generalizing vs with
  | nil=>exact ⟨[],Paired.n0 h,rfl,fun p hp=>nomatch hp⟩
  | cons k ks ih =>
    obtain ⟨v,vs,rfl,r,rs⟩:=Paired.c h
    obtain ⟨xs,e1,e2,e3⟩:=ih rs
    refine ⟨(k,v) :: xs,by rw [e1]; rfl,by rw [← e2]; rfl,fun p hp=>?_⟩
    rcases List.mem_cons.mp hp with rfl | hp
    · exact r
    · exact e3 p hp
section
variable {X:Cx} {e:Expr} {te:TE} {p p2 pos pos2:Pos}
theorem nT (hc:X.calm=true) (hg:Gl X "sorted") (hm:X.mg "sorted" = none) (hg2:Gl X "set") (hm2:X.mg "set" = none) (he:PE X e te)
    (hv:bootBuiltins "sorted" = some (.builtin "sorted")) (hv2:bootBuiltins "set" = some (.type "set"))
    (hs2:starEach [e] X.env=(false,eval e X.env) :: starEach [] X.env:=by rfl)
    (hs:starEach [.Call (.Name "set" p2) [e] [] pos2] X.env=(false,eval (.Call (.Name "set" p2) [e] [] pos2) X.env) :: starEach [] X.env:=by rfl) :
    PE X (.Call (.Name "sorted" p) [.Call (.Name "set" p2) [e] [] pos2] [] pos) (tUn (eE X.K) te):=by
  intro pins s σ H Q I h
  refine wpAny_Call_Name_kw (ld_blt I hg hm hv ?_ (by decide) (by decide))
  refine PyProof.Rows.callWith_builtin1 ?_ hs rfl
  rw [hs]
  refine Calls.spliced_cons ?_
  refine wpAny_Call_Name_kw (ld_blt I hg2 hm2 hv2 ?_ (by decide) (by decide))
  refine PyProof.Rows.callWith_type1 ?_ hs2 rfl
  rw [hs2]
  refine Calls.spliced_cons (thn (he pins s σ H _ I h) fun u s1 hx5=>L2.ex2 hx5 fun x H1 I1 r1 q1=>Calls.spliced_nil ?_)
  have q1:eE X.K x H1 Q:=q1
  obtain ⟨a,rfl⟩:∃ a,x=.ref a:=by
    unfold eE at q1
    split at q1
    · exact ⟨_,rfl⟩
    · exact q1.elim
  obtain ⟨ks,b,hl,hz1,hb,q⟩:=q1
  cases r1
  obtain ⟨vs,rv,pl,hz⟩:=I1.list hl
  obtain ⟨xs,ex,ek,hx⟩:=pX rv
  have hhd:X.A.handled=none:=I1.ok.hd hc
  have hlen:xs.length=ks.length:=by rw [← ek,List.length_map]
  have his:∀ p∈xs,(mixKind X.prog X.w).is p.1 p.2=true:=fun p hp=>by
    obtain ⟨k,v⟩:=p
    have r:=hx _ hp
    rw [mixKind_is]
    cases k with
    | inl i=>obtain ⟨t,e⟩:=r; rw [show v=_ from e]; exact keyIs_int ..
    | inr x=>obtain ⟨t,e⟩:=r; rw [show v=_ from e]; exact keyIs_str ..
  refine TS.k_ (knd:=mixKind X.prog X.w) hhd pl.isList (by simpa using ex) his (by walk_at "l") o4 fun h2 tk ks' S m1 m2 kp=>?_
  refine Calls.spliced_nil ?_
  obtain ⟨⟨o,es,ep,t,ho,hex,hd,T,hM,hL,hes⟩,nd,is⟩:=S
  have hent:es.toList.map (·.2)=ks'.map (·.2):=by rw [hes,List.map_map]; rfl
  have hksl:ks'.length≤63:=by
    have:=TS.bZ nd (m:=ks) fun k hk=>by rw [← ek]; exact (m1 k).mp hk
    rw [List.length_map] at this
    walk_at "l"
  have hesz:es.size=ks'.length:=by
    have:=congrArg List.length hes
    simpa using this
  have memk:∀ p∈ks',p.1∈ks:=fun p hp=>by rw [← ek]; exact List.mem_map.mpr ⟨p,m2 p hp,rfl⟩
  have mem:∀ vs':List Value,vs'.Perm (ks'.map (·.2))→∀ v∈vs',∃ k,RelV (kV k) v∧k∈ks:=fun vs' pv v hv=>by
    obtain ⟨p,hp,rfl⟩:=List.mem_map.mp (pv.mem_iff.mp hv)
    exact ⟨p.1,hx p (m2 p hp),memk p hp⟩
  have h12:s1.heap.objs.size≤h2.objs.size:=Nat.le_of_lt (Heap.lt_size ho)
  refine Tim.gM (s:={ s1 with heap:=h2,toks:=tk }) (κ:=oneType') (R:=fun vs'=>vs'.Perm (ks'.map (·.2))) (r:=fun v=>rkK (ks.map fun k=>[k]) (f9 v)) (P:=fun v=>∃ k,RelV (kV k) v∧isI k=b∧k∈ks)
    (fun A' E' Q' hA hQ=>TS.jc (s:={ s1 with heap:=h2,toks:=tk }) (hA.trans hhd) ho hex hd T.fits T.up T.sz hL (by rw [hesz,sizeLine_eq]; walk_at "l") fun h' tk' d vs' kp' hz' pv=>hQ vs' h' tk' d (by rw [← hent]; exact pv) kp' hz')
    (fun vs' pv=>by rw [pv.length_eq,List.length_map]; walk_at "l") (fun vs' pv v hv=>?_) (fun vs' pv h2' A' E' s' kp' Q' q'=>?_) (fun s' kp'=>ur) fun vs' h' a' out n tk' d pv pm pw kp' ha eo=>?_
  · obtain ⟨k,rk,mk⟩:=mem vs' pv v hv
    exact ⟨k,rk,hb k mk,mk⟩
  · obtain ⟨ms,rm⟩:=mF (ks:=ks) vs' (mem vs' pv)
    refine qO (b:=b) rm (fun k hk=>?_) h2' q'
    have:(vs'.map f9)=ms.map fun k=>[k]:=keys_map rm
    have hk2:[k]∈vs'.map f9:=by rw [this]; exact List.mem_map.mpr ⟨k,hk,rfl⟩
    obtain ⟨v,hv,e⟩:=List.mem_map.mp hk2
    obtain ⟨k',rk,mk⟩:=mem vs' pv v hv
    rw [iz rk] at e
    cases e
    exact hb _ mk
  · have pm2:=pm.trans pv
    obtain ⟨ms,rm⟩:=mF (ks:=ks) out (mem _ pm2)
    have ekk:(ks'.map (·.2)).map f9=(ks'.map (·.1)).map fun k=>[k]:=by
      rw [List.map_map,List.map_map]
      exact List.map_congr_left fun p hp=>iz (hx p (m2 p hp))
    have pk:ms.Perm (ks'.map (·.1)):=rM (by rw [← keys_map rm,← ekk]; exact pm2.map _)
    have hml:ms.length=ks'.length:=by simpa using pk.length_eq
    have mems:∀ k∈ms,k∈ks:=fun k hk=>by rw [← ek]; exact (m1 k).mp (pk.mem_iff.mp hk)
    refine ⟨.ref a',_,(I1.laid (a:=a') (t':=tk') (fun b o e=>kp' b o (kp b o e)) (Nat.le_trans h12 ha) (show ObjOk X.prog X.w _ h' _ (.lst (ms.map kV)) from ⟨by rw [List.length_map,sizeLine_eq]; walk_at "l",out,n,rm,eo⟩)).drawn,rfl,
      q ms _ (pk.nodup_iff.mpr nd) (fun k=>by rw [pk.mem_iff,m1,ek]) ?_ (I1.hok.fresh (Nat.le_trans h12 ha))⟩
    have pw2:(out.map f9).Pairwise fun x y=>rkK (ks.map fun k=>[k]) x≤rkK (ks.map fun k=>[k]) y:=List.pairwise_map.mpr pw
    rw [keys_map rm,List.pairwise_map] at pw2
    refine pw2.imp_of_mem fun {x y} mx my hle=>?_
    have mx:=mems x mx
    have my:=mems y my
    rw [← tE,← mL (L:=ks.map fun k=>[k]) (by simp [shOf,hb x mx,hb y my]) (List.mem_map.mpr ⟨y,my,rfl⟩)]
    exact decide_eq_false (by walk_at "l")
end
end L2
namespace L2.Q
open PySem PySem.Spec PyProof.Rows
section
variable {X:Cx} {K:PySem.W.Frag} {e:Expr} {te:WE} {p p2 pos pos2:Pos}
theorem vy:bootBuiltins "set" = some (.type "set"):=by decide +kernel
noncomputable def eY:W1:=fun _ x Q=>match x with
  | .list xs=>∃ (ks:List (List Key)) (sh:List Bool),xs=ks.map keyT∧ks.length≤63∧(∀ k∈ks,shOf k=true :: sh)∧∀ ms:List (List Key),ms.Nodup→(∀ k,k∈ms↔k∈ks)→(ms.Pairwise fun a b=>ltK b a=false)→Q (.ow true) (.list (ms.map keyT))
  | _=>False
noncomputable def d_:W1:=fun _ x Q=>match x with
  | .list xs=>∃ (ks:List Key) (b:Bool),xs=ks.map keyD∧ks.length≤63∧(∀ k∈ks,isI k=b)∧∀ ms:List Key,ms.Nodup→(∀ k,k∈ms↔k∈ks)→(ms.Pairwise fun a b=>lt1 b a=false)→Q (.ow true) (.list (ms.map keyD))
  | _=>False
theorem oF:Br1 K (eF K) eY:=by
  intro Hs H m x v As Qd Qv w rx h f
  have r1:=rx.rep w
  cases r1 with
  | list z s q =>
    obtain ⟨ks,sh,rfl,hz,hs,h⟩:=h
    obtain ⟨ta,ok⟩:=sV q
    have hl:=q.length
    rw [List.length_map] at hl
    refine ⟨_,ks,sh,s,by walk_at "l",ta,hs,fun zs ms l tz nd mm pw hl'=>?_⟩
    have rr:=lg (K:=K) tz fun k hk=>ok k ((mm k).mp hk)
    have:ms.length≤ks.length:=TS.bZ nd fun k hk=>(mm k).mp hk
    exact f.lst w (by rw [List.length_map,sizeLine_eq]; walk_at "l") rr (eX ms) (h ms nd mm pw) l hl'
  | _=>exact h.elim
theorem n8:Br1 K (eE K) d_:=by
  intro Hs H m x v As Qd Qv w rx h f
  have r1:=rx.rep w
  cases r1 with
  | list z s q =>
    obtain ⟨ks,b,rfl,hz,hb,h⟩:=h
    obtain ⟨e,ok⟩:=t_ q
    subst e
    refine ⟨ks,b,s,hz,hb,fun ms l nd mm pw hl=>?_⟩
    have:ms.length≤ks.length:=TS.bZ nd fun k hk=>(mm k).mp hk
    exact f.lst w (by rw [List.length_map,sizeLine_eq]; walk_at "l") (kj fun k hk=>ok k ((mm k).mp hk)) (iC ms) (h ms nd mm pw) l hl
  | _=>exact h.elim
theorem qH (hu:X.A.units+64<cLine) (hg:Gl X "sorted") (hm:X.mg "sorted" = none) (hg2:Gl X "set") (hm2:X.mg "set" = none) (he:QE X K e te) (hc:X.calm=true:=by rfl) (hK:X.K=K:=by rfl)
    (hs2:starEach [e] X.env=(false,eval e X.env) :: starEach [] X.env:=by rfl)
    (hs:starEach [.Call (.Name "set" p2) [e] [] pos2] X.env=(false,eval (.Call (.Name "set" p2) [e] [] pos2) X.env) :: starEach [] X.env:=by rfl) :
    QE X K (.Call (.Name "sorted" p) [.Call (.Name "set" p2) [e] [] pos2] [] pos) (wUn eY te):=by
  subst hK
  refine PE.imp (nM hc hu hg hm hg2 hm2 he iu vy hs2 hs) fun σ H Qv hx9=>?_
  obtain ⟨Hs,ρ,tot,Q,sr,h,fin⟩:=hx9
  exact ⟨Hs,ρ,tot,_,sr,h,fun v H1 Hs1 m x As g1 r1 f1 q1=>oF Hs1 H1 m x v As Q Qv g1.wf r1 q1 (Fin.after fin g1)⟩
theorem qj (hg:Gl X "sorted") (hm:X.mg "sorted" = none) (hg2:Gl X "set") (hm2:X.mg "set" = none) (he:QE X K e te) (hc:X.calm=true:=by rfl) (hK:X.K=K:=by rfl)
    (hs2:starEach [e] X.env=(false,eval e X.env) :: starEach [] X.env:=by rfl)
    (hs:starEach [.Call (.Name "set" p2) [e] [] pos2] X.env=(false,eval (.Call (.Name "set" p2) [e] [] pos2) X.env) :: starEach [] X.env:=by rfl) :
    QE X K (.Call (.Name "sorted" p) [.Call (.Name "set" p2) [e] [] pos2] [] pos) (wUn d_ te):=by
  subst hK
  refine PE.imp (nT hc hg hm hg2 hm2 he iu vy hs2 hs) fun σ H Qv hx9=>?_
  obtain ⟨Hs,ρ,tot,Q,sr,h,fin⟩:=hx9
  exact ⟨Hs,ρ,tot,_,sr,h,fun v H1 Hs1 m x As g1 r1 f1 q1=>n8 Hs1 H1 m x v As Q Qv g1.wf r1 q1 (Fin.after fin g1)⟩
end
end L2.Q
namespace L2.Q.R
open PySem PySem.Spec PyProof.Rows L2.Q
section
variable {Q:Md→L2.Q.D→Prop} {m:Md} {xs:List L2.Q.D}
theorem xX:eY m (.list xs) Q = ∃ (ks:List (List Key)) (sh:List Bool),xs=ks.map keyT∧ks.length≤63∧(∀ k∈ks,shOf k=true :: sh)∧∀ ms:List (List Key),ms.Nodup→(∀ k,k∈ms↔k∈ks)→(ms.Pairwise fun a b=>ltK b a=false)→Q (.ow true) (.list (ms.map keyT)):=rfl
theorem xY:d_ m (.list xs) Q = ∃ (ks:List Key) (b:Bool),xs=ks.map keyD∧ks.length≤63∧(∀ k∈ks,isI k=b)∧∀ ms:List Key,ms.Nodup→(∀ k,k∈ms↔k∈ks)→(ms.Pairwise fun a b=>lt1 b a=false)→Q (.ow true) (.list (ms.map keyD)):=rfl
end
end L2.Q.R

set_option Elab.async false
set_option linter.all false
set_option maxRecDepth 100000
set_option maxHeartbeats 4000000

namespace L2
open PySem PySem.Spec PyProof.Rows
section
variable {prog:Program} {w:World} {A:Around} {E:Value→Shared→Prop} {s:Shared} {I l:Addr} {items:Array Value}
end
section
variable {X:Cx} {e:Expr} {te:TE} {p p2 pos pos2:Pos}
end
end L2
namespace L2
open PySem PySem.Spec PyProof.Rows
section
variable {prog:Program} {w:World} {A:Around} {E:Value→Shared→Prop} {s:Shared}
end
section
variable {X:Cx}
end
end L2
namespace L2.Q
open PySem PySem.Spec PyProof.Rows
section
variable {X:Cx} {K:PySem.W.Frag} {e a b:Expr} {te ta tb:WE} {p p2 pos pos2:Pos}
end
end L2.Q
namespace L2.Q.R
open PySem PySem.Spec PyProof.Rows L2.Q
section
variable {Q:Md→L2.Q.D→Prop} {m m':Md} {xs ys:List L2.Q.D}
end
end L2.Q.R

set_option Elab.async false
set_option linter.all false
set_option maxRecDepth 100000
set_option maxHeartbeats 4000000

namespace L2.Q
open PySem PySem.Spec PyProof.Rows PySem.W

noncomputable abbrev bmVE:List Value:=[.type "ValueError",.type "Exception",.type "BaseException",.type "object"]
structure XcK (K:PySem.W.Frag) (C:Addr):Prop where
  ex:excIn K C bmVE "ValueError.__new__" = true
  gx:findIn K (.ref C) "__getattr__" = some none
  ga:findIn K (.ref C) "__getattribute__" = some (some (.builtin "BaseException.__getattribute__"))
  cl:findIn K (.ref C) "__class__" = some (some (.builtin "object.__class__"))
  ob:mroIn K C (.type "object")=some true
theorem XcK.obj {K:PySem.W.Frag} {C:Addr} {h:Heap} (x:XcK K C) (X:K.In h):∃ bm N nm q bs hdct sn sub ab col dd k0 k1 k2 k3 k5 mN,
    h.get? C=some (excClassObj nm q C N bs bm hdct sn sub ab col dd k0 k1 k2 k3 k5 "ValueError.__new__")∧h.Ns N mN∧mN "__init__" = none∧OwnTail h bmVE bm:=by
  have q:=x.ex
  unfold excIn at q
  split at q
  · rename_i dd cd sl ho
    split at q
    · rename_i C' bm k0 k1 k2 k3 n k5 hm hs
      simp only [Bool.and_eq_true,beq_iff_eq,Bool.not_eq_true'] at q
      obtain ⟨⟨⟨⟨⟨e1,e2⟩,hdel⟩,ht⟩,hok⟩,hni⟩:=q
      cases e1; cases e2
      cases cd
      dsimp only at hm hdel hok hni
      cases hm; cases hdel
      have hsl:sl = #[k0,k1,k2,k3,some (.builtin "ValueError.__new__"),k5]:=by
        cases sl
        dsimp only at hs
        rw [hs]
      cases hsl
      exact ⟨bm,_,_,_,_,_,_,_,_,_,dd,k0,k1,k2,k3,k5,_,X _ _ ho,.of_isNs (isNs_of_in X hok),nsMap_none_of_in X hok hni,tail_of_in X ht⟩
    · cases q
  · cases q

section
variable {prog:Program} {w:World} {A:Around} {E:Value→Shared→Prop} {h:Heap} {g:Array GenState} {d:Drawn} {t:Nat} {os:OsState} {a C:Addr} {o:Obj} {K:PySem.W.Frag}
theorem uX {R:Result→Shared→Prop} (x:XcK K C) (X:K.In h) (hx:h.get? a=some o) (hc:o.cls=.ref C) (hq:R (.ok (.ret (.ref C))) ⟨h,g,d,t,os⟩) :
    codeAny (model prog w) A (.call (.builtin "getset_descriptor.__get__") ⟨[.builtin "object.__class__",.ref a,.ref C],[]⟩) R ⟨h,g,d,t,os⟩:=by
  obtain ⟨bm,N,nm,q,bs,hdct,sn,sub,ab,col,dd,k0,k1,k2,k3,k5,mN,hC,hN,hni,T⟩:=x.obj X
  have hT5:(⟨h,g,d,t,os⟩:Shared).TypeIs (.builtin "object.__class__") "getset_descriptor" := F.typeOf_object_class
  have hcB:(Value.ref C :: bm).contains (.type (".".intercalate ("object.__class__".cutAt '.').dropLast))=true:=by
    rw [F.owner_object_class,List.contains_cons,T.hasType (X := "object") (b:=true) rfl]; rfl
  refine codeAny_call_builtin F.slot_gs_get.plain F.entry_gs_get (F.slot_gs_get.check _ _ _ _ _ _ _ _ hT5 (F.args_gs_get _ _ _) ?_)
  repeat (any_goals (first | assumption | (with_reducible refine wpAny_loadPart_at hx ?_; rw [hc]) | (with_reducible refine wpAny_isSubtype_exc hC ?_; rw [hcB]) | wp_step))
  refine ⟨Code.quiet_builtin _ (by decide +kernel),codeAny_builtin F.entry_object_class ?_⟩
  repeat (any_goals (first | assumption | (with_reducible refine wpAny_loadPart_at hx ?_; rw [hc]) | wp_step))
theorem p7 {tk:Tok} {Q:PySem.Fin→Shared→Prop} (x:XcK K C) (X:K.In h) (hx:h.get? a=some o) (hc:o.cls=.ref C) (hq:Q (.done (.ret (.ref C))) ⟨h,g,d,t,os⟩) :
    wpAny (model prog w) A (Builtin.«object.__getattribute__» ⟨[.ref a,.str "__class__" tk],[]⟩) Q E ⟨h,g,d,t,os⟩:=by
  have hT5:(⟨h,g,d,t,os⟩:Shared).TypeIs (.builtin "object.__class__") "getset_descriptor" := F.typeOf_object_class
  have f5:=F.typeOf_object_class
  have f6:=F.slot_gs_get.lookup
  have f7:=F.slot_gs_set.lookup
  have Lk:=looks_findIn (M:=model prog w) X x.cl
  repeat (any_goals (first | assumption | (with_reducible refine wpAny_loadPart_at hx ?_; rw [hc]) | with_reducible refine Lk.at ?_ | wp_step))
  refine uX x X hx hc ?_
  repeat (any_goals (first | assumption | wp_step))
theorem wL {tk:Tok} {Q:Value→Shared→Prop} (x:XcK K C) (X:K.In h) (hx:h.get? a=some o) (hc:o.cls=.ref C) (hq:Q (.ref C) ⟨h,g,d,t,os⟩) :
    wpAny (model prog w) A (getAttrBy (.ref a) (.str "__class__" tk) false) Q E ⟨h,g,d,t,os⟩:=by
  have f3:=F.attr_ValueError.ga.bind (.ref a)
  have hx2:(Value.builtin "BaseException.__getattribute__" == Value.builtin "object.__getattribute__")=false:=by decide +kernel
  have hx1:(onTheHeap (Value.ref C) && Value.builtin "BaseException.__getattribute__" == Value.builtin "object.__getattribute__")=false:=by rw [hx2]; rfl
  have Lk:=looks_findIn (M:=model prog w) X x.ga
  have Lg:=looks_findIn (M:=model prog w) X x.gx
  repeat (any_goals (first | assumption | (with_reducible refine wpAny_loadPart_at hx ?_; rw [hc]) | with_reducible refine Lk.at ?_ | with_reducible refine Lg.at ?_ | wp_step))
  obtain ⟨bm,N,nm,q,bs,hdct,sn,sub,ab,col,dd,k0,k1,k2,k3,k5,mN,hC,hN,hni,T⟩:=x.obj X
  have hk:builtinKind "BaseException.__getattribute__" = some .slot:=by decide +kernel
  have hsplit:splitId "BaseException.__getattribute__" = some ("BaseException", "__getattribute__"):=by decide +kernel
  have hcB:(Value.ref C :: bm).contains (.type "BaseException")=true:=by rw [List.contains_cons,T.hasType (X := "BaseException") (b:=true) rfl]; rfl
  have chk:∀ {Q':Unit→Shared→Prop} {E':Value→Shared→Prop} {A':Around},Q' () ⟨h,g,d,t,os⟩→wpAny (model prog w) A' (checkBuiltinCall "BaseException.__getattribute__" ⟨[.ref a,.str "__class__" tk],[]⟩) Q' E' ⟨h,g,d,t,os⟩:=fun {Q' E' A'} hq'=>by
    have ha:=F.args_bexc_ga (.ref a) (.str "__class__" tk)
    simp only [checkBuiltinCall,hk,hsplit]
    refine wpAny_bind ?_
    unfold isInstance
    repeat (first | (with_reducible refine wpAny_loadPart_at hx ?_; rw [hc]) | (with_reducible refine wpAny_isSubtype_exc hC ?_; rw [hcB]) | wp_step)
    exact hq'
  refine codeAny_call_builtin F.attr_ValueError.ga.plain F.entry_bexc_ga (chk (p7 x X hx hc ?_))
  repeat (any_goals (first | assumption | wp_step))
theorem qK {Q:Option Value→Shared→Prop} (x:XcK K C) (X:K.In h) (hx:h.get? a=some o) (hc:o.cls=.ref C) (hq:Q (some (.ref C)) ⟨h,g,d,t+1,os⟩):wpAny (model prog w) A (getAttr? (.ref a) "__class__") Q E ⟨h,g,d,t,os⟩:=by
  unfold getAttr? getAttrBy?
  repeat (any_goals (first | assumption | with_reducible apply wL x X hx hc | wp_step))
end
end L2.Q

set_option Elab.async false
set_option linter.all false
set_option maxRecDepth 100000
set_option maxHeartbeats 4000000

namespace L2.Q
open PySem PySem.Spec PyProof.Rows PySem.W

noncomputable def XAt (a C:Addr) (h:Heap):Prop:=∃ o,h.get? a=some o∧o.cls=.ref C
theorem XcK.looks {K:PySem.W.Frag} {C:Addr} {h:Heap} {M:Model} (x:XcK K C) (X:K.In h):Looks M h (isType (.ref C)) true:=by
  obtain ⟨bm,N,nm,q,bs,hdct,sn,sub,ab,col,dd,k0,k1,k2,k3,k5,mN,hC,hN,hni,T⟩:=x.obj X
  intro A' Q' E' s' k q
  unfold isType loadHead
  exact wpAny_bind (wpAny_loadPart (k _ _ hC) (wpAny_pure q))
theorem uy {K:PySem.W.Frag} {a C:Addr} (x:XcK K C):KitX K (.ref a) (.ref C) (XAt a C) where
  ty:=fun M h X p=>by
    obtain ⟨o,h1,h2⟩:=p
    exact h2 ▸ (Looks.ld h1).andThen .now
  it:=fun M h X p=>x.looks X
  ne:=fun h tp dd its n sl X htp=>by
    obtain ⟨bm,N,nm,q,bs,hdct,sn,sub,ab,col,dd,k0,k1,k2,k3,k5,mN,hC,hN,hni,T⟩:=x.obj X
    refine Bool.eq_false_iff.mpr fun q=>?_
    have e:C=tp:=Value.ref.inj (beq_iff_eq.mp q)
    subst e
    have z:=congrArg (fun o=>o.map (·.data)) (hC.symm.trans htp)
    cases z
  ca:=fun {prog w A E Q s} X p k=>by
    obtain ⟨h,g,d,t,os⟩:=s
    obtain ⟨o,h1,h2⟩:=p
    exact qK x X h1 h2 k
theorem nF {M:Model} {A:Around} {E:Value→Shared→Prop} {K:PySem.W.Frag} {a C R:Addr} {h:Heap} {g:Array GenState} {d:Drawn} {t:Nat} {os:OsState} {Q:Bool→Shared→Prop} (x:XcK K C) (r:XcK K R) (sub:mroIn K C (.ref R)=some true) (X:K.In h) (p:XAt a C h)
    (hq:Q true ⟨h,g,d,t,os⟩):wpAny M A (excMatches (.ref a) (.ref R)) Q E ⟨h,g,d,t,os⟩:=by
  obtain ⟨bm,N,nm,q,bs,hdct,sn,sub',ab,col,dd,k0,k1,k2,k3,k5,mN,hC,hN,hni,T⟩:=r.obj X
  obtain ⟨oe,he,hcls⟩:=p
  have hcB:(Value.ref R :: bm).contains (.type "BaseException")=true:=by rw [List.contains_cons,T.hasType (X := "BaseException") (b:=true) rfl]; rfl
  have f:=tc_notTuple
  have Lk:=looks_mroIn (M:=M) X sub
  unfold excMatches
  repeat (first | (with_reducible refine wpAny_loadPart_at he ?_; rw [hcls]) | with_reducible refine wpAny_loadPart_at hC ?_ | (with_reducible refine wpAny_isSubtype_exc hC ?_; rw [hcB]) | with_reducible refine Lk.at ?_ | wp_step)
  exact hq

theorem FunFrames.rebase {h base B:Heap}:∀ {l:List PySem.Env},h.FunFrames base l→(∀ b∈frs l,B.get? b=none)→h.FunFrames B l
  | [],_,_=>trivial
  | env :: rest,⟨hk,⟨L,o,hf,hn,ho,hd⟩,hr⟩,hB=>⟨hk,⟨L,o,hf,hB L (by unfold frs; rw [List.filterMap_cons,hf]; exact List.mem_cons_self),ho,hd⟩,
      FunFrames.rebase hr fun b hb=>hB b (by unfold frs; rw [List.filterMap_cons,hf]; exact List.mem_cons_of_mem _ hb)⟩
theorem ObjOk.there {P:Program} {w:World} {H:Hp} {h:Heap} {a:Addr} {o:HO} (x:ObjOk P w H h a o):∃ u,h.get? a=some u:=by
  cases o with
  | lst xs=>obtain ⟨_,_,_,_,e⟩:=x; exact ⟨_,e⟩
  | tup xs=>obtain ⟨_,_,_,_,e,_⟩:=x; exact ⟨_,e⟩
  | dK kvs=>obtain ⟨_,_,_,_,o,_,_,e,_⟩:=x; exact ⟨_,e⟩
  | dT kvs=>obtain ⟨_,_,_,_,o,_,_,e,_⟩:=x; exact ⟨_,e⟩
  | set S n=>obtain ⟨o,_,_,_,e,_⟩:=x; exact ⟨_,e⟩
  | ins C dx fs=>obtain ⟨_,_,_,e,_⟩:=x; exact ⟨_,e⟩
  | own y=>exact x
  | xd fs=>obtain ⟨_,⟨_,_,_,e,_⟩,_⟩:=x; exact ⟨_,e⟩
  | rng lo hi=>obtain ⟨_,_,_,e⟩:=x; exact ⟨_,e⟩
  | frz ob u=>obtain ⟨e,_⟩:=x; exact ⟨_,e⟩
  | tbl ps=>exact ⟨_,(show h.get? a=some _ from x)⟩
  | met f y=>exact ⟨_,(show h.get? a=some _ from x)⟩
  | ext φ=>obtain ⟨_,e,_⟩:=x; exact e
noncomputable def Cov (B:Heap) (fs:List Addr) (H':Hp) (h₀ h:Heap):Prop:=∀ b o,h.get? b=some o→(H' b≠none∨h₀.get? b≠none)→b∉fs→B.get? b=some o
noncomputable def CXx (P:Program) (w:World) (mg:Str→Option Value) (rn:List Str):CXT:=fun outer H s E e s' =>
  ∃ a n C a0 H' B,e=.ref a∧(n∈rn∧mg n=some (.ref C))∧s'.os=s.os∧AllBare s'.gens∧Un (frs outer) [] H H' s.heap s'.heap∧HOk P w H' s'.heap ∧
    Heap.FlyingW B outer a (.ref C) a0 s'.heap∧Cov B (frs outer) H' s.heap s'.heap∧(∀ b∈frs outer,H' b=none)∧E (.ref C) none H'
structure cP (fs:List Addr) (H':Hp) (h₀ h h':Heap):Prop where
  keep:∀ b o,h.get? b=some o→(H' b≠none∨h₀.get? b≠none)→b∉fs→h'.get? b=some o
  slot:∀ b o,h.get? b=some o→b∈fs→∃ sl,h'.get? b=some { o with slots:=sl }
theorem cP.of {B:Heap} {l:List PySem.Env} {base:Heap} {H':Hp} {h₀ h h':Heap} (c:Cov B (frs l) H' h₀ h) (st:B.StaysIn h') (up:h.UpToSlots h') (ff:h.FunFrames base l):cP (frs l) H' h₀ h h' :=
  ⟨fun b o e k n=>st b o (c b o e k n),fun b o e m=>by
    obtain ⟨_,o',e',d⟩:=ff.mem m
    rw [e] at e'; cases e'
    exact up b o e d⟩
theorem cP.trans {fs:List Addr} {H':Hp} {h₀ h h1 h2:Heap} (a:cP fs H' h₀ h h1) (b:cP fs H' h₀ h1 h2):cP fs H' h₀ h h2 :=
  ⟨fun x o e k n=>b.keep x o (a.keep x o e k n) k n,fun x o e m=>by
    obtain ⟨_,e1⟩:=a.slot x o e m
    obtain ⟨sl,e2⟩:=b.slot x _ e1 m
    exact ⟨sl,e2⟩⟩
theorem cP.un {fs:List Addr} {H H':Hp} {h₀ h h':Heap} (m:cP fs H' h₀ h h') (u:Un fs [] H H' h₀ h):Un fs [] H H' h₀ h' where
  keep:=fun b o e n nb nx=>m.keep b o (u.keep b o e n nb nx) (.inr (by rw [e]; exact fun z=>nomatch z)) nb
  slot:=fun b o e n hb nx=>by
    obtain ⟨_,e1⟩:=u.slot b o e n hb nx
    obtain ⟨sl,e2⟩:=m.slot b _ e1 hb
    exact ⟨sl,e2⟩
  free:=u.free
  there:=fun b o e nx=>by
    obtain ⟨o',e1⟩:=u.there b o e nx
    by_cases hb:b∈fs
    · obtain ⟨sl,e2⟩:=m.slot b o' e1 hb
      exact ⟨_,e2⟩
    · exact ⟨o',m.keep b o' e1 (.inr (by rw [e]; exact fun z=>nomatch z)) hb⟩
  tups:=u.tups
  frzs:=u.frzs
  tbls:=u.tbls
theorem cP.hok {P:Program} {w:World} {fs:List Addr} {H':Hp} {h₀ h h':Heap} (m:cP fs H' h₀ h h') (f:∀ b∈fs,H' b=none) (x:HOk P w H' h):HOk P w H' h':=fun a o e =>
  (x a o e).stay (fun b u hb q=>by
    have hH:H' b≠none:=by
      rcases hb with z | z
      · rw [z,e]; exact fun z=>nomatch z
      · rw [z]; exact fun z=>nomatch z
    exact m.keep b u q (.inl hH) fun z=>hH (f b z)) (fun _ q=>q) fun _ _ q=>q
end L2.Q

set_option Elab.async false
set_option linter.all false
set_option maxRecDepth 100000
set_option maxHeartbeats 4000000

namespace L2.Q
open PySem PySem.Spec PyProof.Rows PySem.W

section
variable {X:Cx} {pins:List (Addr × Obj)} {σ:St} {H H':Hp} {s s':Shared} {rn:List Str} {E E':XK} {e:Value}
theorem Cov.up {B h h':Heap} (hst:X.stack=X.env :: X.outer) (hf:X.env.frame=some X.env.locals) (hex:X.ex=[]) (I:Inv X pins σ H s) (un:Un (frs X.stack) [] H H' s.heap h) (c:Cov B (frs X.stack) H' s.heap h) (m:cP (frs X.stack) H' s.heap h h') (fr:∀ b∈frs X.stack,H' b=none) (hok:HOk X.prog X.w H' h) :
    Un X.fs [] X.H₀ H' X.s₀.heap h'∧Cov B X.fs H' X.s₀.heap h':=by
  have hs:∀ b,b∈frs X.stack↔b=X.env.locals∨b∈X.fs:=fun b=>by
    rw [hst]; unfold frs; rw [List.filterMap_cons,hf]; exact List.mem_cons
  have neL:∀ b o,X.s₀.heap.get? b=some o→b≠X.env.locals:=fun b o e=>Nat.ne_of_lt (Nat.lt_of_lt_of_le (Heap.lt_size e) I.ok.above)
  have nex:∀ b:Addr,b∉X.ex:=fun b z=>by rw [hex] at z; exact nomatch z
  have m':=m.un un
  have th:∀ b o,X.s₀.heap.get? b=some o→∃ o',s.heap.get? b=some o':=fun b o e=>I.base.there b o e (nex b)
  refine ⟨⟨fun b o e n nb nx=>?_,fun b o e n hb nx=>?_,fun b o e n nx=>?_,fun b o e nx=>?_,fun b xs e=>un.tups b xs (I.base.tups b xs e),fun b ob u e=>un.frzs b ob u (I.base.frzs b ob u e),fun b ps e=>?_⟩,fun b o e k nb=>?_⟩
  · exact m'.keep b o (I.base.keep b o e n nb (nex b)) (I.base.free b o e n (nex b)) (fun z=>((hs b).mp z).elim (neL b o e) nb) (by simp)
  · obtain ⟨_,e1⟩:=I.base.slot b o e n hb (nex b)
    obtain ⟨sl,e2⟩:=m'.slot b _ e1 (I.base.free b o e n (nex b)) ((hs b).mpr (.inr hb)) (by simp)
    exact ⟨sl,e2⟩
  · obtain ⟨o',e1⟩:=th b o e
    exact un.free b o' e1 (I.base.free b o e n (nex b)) (by simp)
  · obtain ⟨o',e1⟩:=th b o e
    exact m'.there b o' e1 (by simp)
  · obtain ⟨m1,e1⟩:=I.base.tbls b ps e
    obtain ⟨m2,e2⟩:=un.tbls b _ e1
    exact ⟨m1++m2,by rw [e2,Array.append_assoc]⟩
  · have key:∀ o',h.get? b=some o'→(H' b≠none∨s.heap.get? b≠none)→b∉frs X.stack→B.get? b=some o:=fun o' e' k' n'=>by
      have:=m.keep b o' e' k' n'
      rw [e] at this; cases this
      exact c b o e' k' n'
    rcases k with k | k
    · have nf:b∉frs X.stack:=fun z=>k (fr b z)
      cases q:H' b with
      | none=>exact absurd q k
      | some u =>
        obtain ⟨o',e'⟩:=ObjOk.there (hok b u q)
        exact key o' e' (.inl k) nf
    · cases q:X.s₀.heap.get? b with
      | none=>exact absurd q k
      | some o0 =>
        obtain ⟨o1,e1⟩:=th b o0 q
        obtain ⟨o2,e2⟩:=un.there b o1 e1 (by simp)
        exact key o2 e2 (.inr (by rw [e1]; exact fun z=>nomatch z)) fun z=>((hs b).mp z).elim (neL b o0 q) nb
end

section
variable {P:Program} {w:World} {K:PySem.W.Frag} {mg:Str→Option Value} {base:Heap} {N:List Str} {qual:Str} {scope:Scope} {f:Addr} {cd:Value} {A:Around} {outer:List PySem.Env} {s₀:Shared} {H₀:Hp} {E:XK} {rn:List Str}
theorem sE {env:PySem.Env} {L b:Addr} {l:List PySem.Env} (hf:env.frame=some L) (h:b∈frs l):b∈frs (env :: l):=by
  unfold frs; rw [List.filterMap_cons,hf]; exact List.mem_cons_of_mem _ h
theorem ye:Passes (CXx P w mg rn) (cxOf (CXx P w mg rn) P w K mg base N qual scope f cd A outer s₀ H₀ E) E:=by
  intro pins σ H s e s' I hx
  obtain ⟨a,n,C,a0,H',B,he,hn,os,bare,un,hok,fly,cov,fr,hE⟩:=hx
  subst he
  refine wpAny_leaves_onW I.ok.frames rfl fly fun h' fly' up=>?_
  have mv:=cP.of cov fly'.1 up fly.2.2.1
  obtain ⟨u1,c1⟩:=Cov.up (X:=cxOf (CXx P w mg rn) P w K mg base N qual scope f cd A outer s₀ H₀ E) rfl rfl rfl I un cov mv fr hok
  exact ⟨a,n,C,a0,H',B,rfl,hn,os.trans I.os,bare,u1,mv.hok fr hok,fly',c1,fun b hb=>fr b (sE rfl hb),hE⟩
noncomputable def nY (X:Cx) (rn:List Str) (E:XK):Prop:=∀ (pins:List (Addr × Obj)) (σ:St) (H:Hp) (s:Shared) (h':Heap) (e:Addr) (n:Str) (C:Addr) (vs:List Value),Inv X pins σ H s→Heap.MadeExcOf s.heap h' e (.ref C) vs →
  n∈rn→X.mg n=some (.ref C)→E (.ref C) none H→X.xe (.ref e) { s with heap:=h' }
theorem jN:nY (cxOf (CXx P w mg rn) P w K mg base N qual scope f cd A outer s₀ H₀ E) rn E:=by
  intro pins σ H s h' e n C vs I hx hn hm hE
  have st:=I.stack
  have ff:s.heap.FunFrames (hideAll s.heap (frs (envOfC qual scope s₀.heap.objs.size f cd :: outer))) (envOfC qual scope s₀.heap.objs.size f cd :: outer):=FunFrames.rebase st fun b hb=>hideAll_none _ hb
  refine wpAny_leaves_madeW (h:=s.heap) I.ok.frames rfl (fun b o q=>of_hideAll _ q) ff hx fun h'' t fly tup hnt up=>?_
  have ff':h'.FunFrames (hideAll s.heap (frs (envOfC qual scope s₀.heap.objs.size f cd :: outer))) (envOfC qual scope s₀.heap.objs.size f cd :: outer):=ff.of_keeps fun b o q _=>⟨o,hx.keeps b o q,rfl⟩
  have hok:HOk P w H h':=I.hok.kept hx.keeps
  have fr:∀ b∈frs (envOfC qual scope s₀.heap.objs.size f cd :: outer),H b=none:=I.stkFree
  have cov:Cov (hideAll s.heap (frs (envOfC qual scope s₀.heap.objs.size f cd :: outer))) (frs (envOfC qual scope s₀.heap.objs.size f cd :: outer)) H s.heap h':=fun b o q k nb=>by
    have ho:∃ o1,s.heap.get? b=some o1:=by
      rcases k with k | k
      · cases z:H b with
        | none=>exact absurd z k
        | some u=>exact ObjOk.there (I.hok b u z)
      · exact Option.ne_none_iff_exists'.mp k
    obtain ⟨o1,e1⟩:=ho
    have e2:=hx.keeps b o1 e1
    rw [q] at e2; cases e2
    exact hideAll_get _ e1 nb
  have mv:cP (frs (envOfC qual scope s₀.heap.objs.size f cd :: outer)) H s.heap h' h'':=cP.of cov fly.1 up ff'
  obtain ⟨u1,c1⟩:=Cov.up (X:=cxOf (CXx P w mg rn) P w K mg base N qual scope f cd A outer s₀ H₀ E) rfl rfl rfl I (Un.kept hx.keeps) cov mv fr hok
  exact ⟨e,n,C,_,H,_,rfl,⟨hn,hm⟩,I.os,I.bare,u1,mv.hok fr hok,fly,c1,fun b hb=>fr b (sE rfl hb),hE⟩
noncomputable def LX (rn:List Str) (mg:Str→Option Value) (E:XK):Str→Hp→Prop:=fun n H'=>n∈rn→∀ C,mg n=some (.ref C)→E (.ref C) none H'
noncomputable def cT (K:PySem.W.Frag) (rn:List Str) (mg:Str→Option Value) (sp:SpD):Sp:=fun vs H Qv E=>∃ ds Qd,Reps K H ds vs∧sp ds Qd ∧
  (∀ v H' Hs' m d As,Same H Hs'→Wf Hs' H'→RM K Hs' H' m d v As→As.Nodup→(∀ a∈As,Hs' a=none)→Qd m d→Qv v H') ∧
  ∀ n H',Same H H'→Qd (.ow false) (.str n)→LX rn mg E n H'
theorem ql {sp:SpD} {t:WS} {vs:List V} {H:Hp} {Qv:VK} (h:cT K rn mg sp vs H Qv E) (hp:∀ ds Q,sp ds Q→t { nx:=fun _=>Q .sh .non,rt:=Q } (bj N.length ds)) :
    tpS K (LX rn mg E) t { nx:=fun _ H'=>Qv .non H',rt:=Qv } (start N vs) H:=by
  obtain ⟨ds,Qd,rs,hs,fin,fx⟩:=h
  have hl:=rs.length
  refine ⟨H,bj N.length ds,[],{ nx:=fun _=>Qd .sh .non,rt:=Qd },⟨?_,⟨Same.refl _,fun _ _ e=>e⟩,List.nodup_nil,fun a h=>nomatch h⟩,hp ds Qd hs,?_,?_,?_,?_,fx⟩
  · unfold bj start
    rw [hl]
    exact SR.start rs
  · exact fun σ' H' Hs' ρ' tot' s sr q=>fin .non H' Hs' .sh .non [] s sr.wf ⟨rfl,.non⟩ List.nodup_nil (fun a h=>nomatch h) q
  · exact fun σ' H' Hs' ρ' tot' s sr q=>q.elim
  · exact fun σ' H' Hs' ρ' tot' s sr q=>q.elim
  · exact fun v H' Hs' m d As s w r nd own q=>fin v H' Hs' m d As s w r nd own q
theorem FunX.ok {x:Str} {st:Stmt} {fd:FuncData} {ps:List Str} {k:Nat} {sp:SpD} {t:WS} (F:Fun K x qual st f fd) (S:FnScope N ps (defScope st)) (len:∀ ds Q,sp ds Q→ds.length=ps.length)
    (hbody:∀ (cdv:Value) (A:Around) (outer:List PySem.Env) (s:Shared) (H:Hp) (E:XK),Room k (A.deeper (envOfC qual (defScope st) s.heap.objs.size f cdv))→QSs (cxOf (CXx P w mg rn) P w K mg base N qual (defScope st) f cdv A outer s H E) K (LX rn mg E) (defBody st) t)
    (hp:∀ ds Q,sp ds Q→t { nx:=fun _=>Q .sh .non,rt:=Q } (bj N.length ds)):FnOk P w K mg base (CXx P w mg rn) (k+1) f fd ps (cT K rn mg sp):=by
  obtain ⟨oc,od,kV,doc,pm,an,cdv,ct,osl,rfl,lk,hcd⟩:=F.ex
  exact fn_of lk hcd S (fun vs H Q E ⟨ds,Qd,rs,hs,_⟩=>by rw [← rs.length]; exact len ds Qd hs) fun A outer s H vs Q E hr hsp=>⟨_,hbody cdv A outer s H E hr,ql hsp hp⟩
structure CalX (P:Program) (w:World) (K:PySem.W.Frag) (mg:Str→Option Value) (base:Heap) (rn:List Str) (k:Nat) (x:Str) (ps:List Str) (sp:SpD):Prop where
  ex:∃ (g:Addr) (fd:FuncData),mg x=some (.ref g)∧PySem.W.keepIn K (.ref g)=true∧Binds K fd ps []∧FnOk P w K mg base (CXx P w mg rn) k g fd ps (cT K rn mg sp)
theorem Fun.calX {k:Nat} {x qual:Str} {st:Stmt} {f:Addr} {fd:FuncData} {ps:List Str} {sp:SpD} (F:Fun K x qual st f fd) (hm:mg x=some (.ref f)) (ok:FnOk P w K mg base (CXx P w mg rn) k f fd ps (cT K rn mg sp))
    (h:∀ (kV doc pm:Value) (an:Option Addr) (cdv ct:Value) (us:List Value),us.length=ps.length→bindArgs (PySem.W.fnOf x qual (defArgs st) (defBody st) (defScope st) .none kV doc pm an cdv ct) ⟨us,[]⟩=pure (ps.zip us)):CalX P w K mg base rn k x ps sp:=⟨f,fd,hm,F.kp,F.binds h,ok⟩
end
end L2.Q

set_option Elab.async false
set_option linter.all false
set_option maxRecDepth 100000
set_option maxHeartbeats 4000000

namespace L2.Q
open PySem PySem.Spec PyProof.Rows PySem.W

noncomputable def XCl (K:PySem.W.Frag) (mg:Str→Option Value) (n:Str):Prop:=∃ C,mg n=some (.ref C)∧XcK K C
noncomputable def xch (m:Md) (d:D) (Y:Str→Prop) (N:Prop):Prop:=match m,d with
  | .ow false,.str n=>Y n
  | _,_=>N
theorem rH {K:PySem.W.Frag} {Hs H:Hp} {m:Md} {d:D} {v:V} {As:List Addr} {Y:Str→Prop} {N:Prop} (r:RM K Hs H m d v As) (h:xch m d Y N):N:=by
  unfold xch at h
  split at h
  · obtain ⟨r,ne⟩:=r
    cases r
    exact absurd rfl ne
  · exact h
section
variable {X:Cx} {K:PySem.W.Frag} {rn:List Str} {E:XK} {e:Expr} {es:List Expr} {te:WE} {t:WA} {pos:Pos} {L:Str→Hp→Prop}
noncomputable def gk (n:Str) (te:WE):WS:=fun E ρ=>te ρ fun _ _=>E.rt (.ow false) (.str n)
theorem uV {x:Str} {C:Addr} {ta:TA} {np cpos:Pos} (hc:X.calm=true) (ok:nY X rn E) (hn:x∈rn) (hm:X.mg x=some (.ref C)) (xc:XcK X.K C) (ha:PA X [e] ta) (hg:Gl X x) (hdb:(x == ("__debug__" : Str))=false)
    (he:starEach [e] X.env=[(false,eval e X.env)]):PS X (.Raise (some (.Call (.Name x np) [e] [] cpos)) none pos) (fun D σ H=>ta σ H fun vs H1=>vs.length≤sizeLine∧E (.ref C) none H1):=by
  intro pins s σ H D I h
  obtain ⟨bm,N,nm,q,bs,hdct,sn,sub,ab,col,dd,k0,k1,k2,k3,k5,mN,hC,hN,hni,T⟩:=xc.obj I.mod.kin
  refine wpAny_Raise_call_subT (C:=C) (nm:=nm) (q:=q) (N:=N) (bs:=bs) (bm:=bm) (hdct:=hdct) (sn:=sn) (sub:=sub) (ab:=ab) (col:=col) (dd:=dd) (k0:=k0) (k1:=k1) (k2:=k2) (k3:=k3) (k5:=k5)
    F.excBase_ValueError (mN:=mN) (T.hasType F.excBase_ValueError.hasBase) (I.ok.hd hc) (by rw [he]; rfl) hni (ld_glob I hg hm ⟨rfl,?_⟩ hdb)
  have h2:=ha cpos pins s σ H _ I h
  rw [he] at h2 ⊢
  exact Calls.evalArgs_plain (thn h2 fun vs s1 ⟨xs,H1,I1,r,hl,q⟩=>⟨rfl,by rw [← r.length]; exact hl,I1.bk _ _ hC,hN.keeps I1.bk,T.keeps I1.bk,fun h' e' hx=>ok pins σ H1 s1 h' e' x C vs I1 hx hn hm q⟩)
theorem dI {x:Str} {np cpos:Pos} (hc:X.calm=true) (ok:nY X rn E) (xc:XCl K X.mg x) (hn:x∈rn) (he:QE X K e te) (hg:Gl X x:=by rfl) (hdb:(x == ("__debug__" : Str))=false:=by decide) (hK:X.K=K:=by rfl)
    (hs:starEach [e] X.env=[(false,eval e X.env)]:=by rfl):QS X K (LX rn X.mg E) (.Raise (some (.Call (.Name x np) [e] [] cpos)) none pos) (gk x te):=by
  subst hK
  obtain ⟨C,hm,xc⟩:=xc
  refine PS.imp (uV hc ok hn hm xc (pa_cons he pa_nil hs) hg hdb hs) fun D σ H hx=>fO hx fun Hs ρ tot E' sr h k1 k2 k3 k4 kx=>?_
  exact ⟨Hs,ρ,tot,_,sr,h,fun v H1 Hs1 m d As g1 r1 f1 q1=>⟨(by decide:1≤sizeLine),kx x H1 (g1.sh.trans g1.wf.sub) q1 hn C hm⟩⟩

section
variable {k:Nat} {x:Str} {ps:List Str} {sp:SpD} {p cpos:Pos}
theorem qL (C:CalX X.prog X.w X.K X.mg X.base rn k x ps sp) (hr:Room k X.A) (hx:Passes (CXx X.prog X.w X.mg rn) X E) {ta:TA} (ha:PA X (e :: es) ta) (hg:Gl X x) (hdb:(x == ("__debug__" : Str))=false) (he:starEach (e :: es) X.env=(false,eval e X.env) :: starEach es X.env)
    (hpl:(backTo pos (starEach es X.env)).any (·.1)=false):PE X (.Call (.Name x p) (e :: es) [] pos) (tCall (cT X.K rn X.mg sp) [] E ta):=by
  obtain ⟨g,fd,hm,hk,hb,F⟩:=C.ex
  exact pe_call F hr hg hm hk hb .nil hx ha hdb he hpl
theorem jY {σ:St} {H:Hp} {Qv:VK} {Hs:Hp} {ρ:Env} {tot:List Addr} {Y:Str→Prop} {Q:Md→D→Prop} (sr:SRel K Hs ρ σ H tot) (h:t ρ fun ps=>sp (ps.map (·.2)) fun m d=>xch m d Y (onK (m,d) (f:=fun p=>Q (retM p.1 p.2) p.2) ⟨⟩))
    (f:∀ v H' Hs' m d As,Grow Hs H Hs' H'→RM K Hs' H' m d v As→cA Hs' H As→Q m d→Qv v H') (fx:∀ n H',Same Hs H'→Y n→LX rn X.mg E n H'):tCall (cT K rn X.mg sp) [] E (tpA K t) σ H Qv:=by
  refine ⟨Hs,ρ,tot,_,sr,h,fun vs H1 Hs1 ps As g1 r1 f1 q1=>?_⟩
  refine ⟨_,_,by rw [List.append_nil]; exact r1.reps g1.wf,q1,fun v H' Hs' m d As s w r nd own q=>?_,fun n H' s q=>fx n H' (g1.sh.trans (g1.wf.sub.trans s)) q⟩
  obtain ⟨As',r',fr⟩:=oR g1.wf s w r nd own
  exact Fin.after f g1 v H' _ (retM m d) d As' (eN g1.wf s w) r' fr (rH r q)
noncomputable def o5 (sp:SpD) (t:WA):WS:=fun E ρ=>t ρ fun ps=>sp (ps.map (·.2)) fun m d=>xch m d (fun n=>E.rt (.ow false) (.str n)) (onK (m,d) (f:=fun _=>E.nx ρ) ⟨⟩)
noncomputable def wF (i:Nat) (sp:SpD) (t:WA):WS:=fun E ρ=>t ρ fun ps=>sp (ps.map (·.2)) fun m d=>xch m d (fun n=>E.rt (.ow false) (.str n)) (onK (m,d) (f:=fun p=>match asg (retM p.1 p.2) p.2 with
  | some sl=>E.nx (ρ.set i (some sl))
  | none=>False) ⟨⟩)
variable (C:CalX X.prog X.w X.K X.mg X.base rn k x ps sp) (hr:Room k X.A)
include C hr
variable (hx:Passes (CXx X.prog X.w X.mg rn) X E)
include hx
theorem pQ (ha:QA X K (e :: es) t) (hs:swapsWith (.Call (.Name x p) (e :: es) [] cpos) none pos.line X.env=pure false:=by rfl) (hK:X.K=K:=by rfl) (hg:Gl X x:=by rfl) (hdb:(x == ("__debug__" : Str))=false:=by decide) (he:starEach (e :: es) X.env=(false,eval e X.env) :: starEach es X.env:=by rfl)
    (hpl:(backTo cpos (starEach es X.env)).any (·.1)=false:=by rfl):QS X K (LX rn X.mg E) (.Expr (.Call (.Name x p) (e :: es) [] cpos) pos) (o5 sp t):=by
  subst hK
  exact PS.imp (ps_expr (qL C hr hx ha hg hdb he hpl) hs) fun D σ H hx=>fO hx fun Hs ρ tot E' sr h k1 k2 k3 k4 kx=>jY (Q:=fun _ _=>E'.nx ρ) sr h (fun v H1 Hs1 m d As g1 r1 f1 q1=>k1 σ H1 Hs1 ρ tot g1.sh (sr.grow g1) q1) kx
theorem wY {i:Nat} {y:Str} {pos':Pos} (hN:X.N.Nodup) (hi:X.N[i]? = some y) (hy:Loc X.env.scope y) (ha:QA X K (e :: es) t) (hs:swapsWith (.Call (.Name x p) (e :: es) [] cpos) (some (.Name y pos')) pos.line X.env=pure false:=by rfl)
    (hf:X.fn y=true∨X.env.scope.names.lookup y=some .local:=by first | exact .inl rfl | exact .inr rfl | assumption) (hK:X.K=K:=by rfl) (hg:Gl X x:=by rfl) (hdb:(x == ("__debug__" : Str))=false:=by decide) (he:starEach (e :: es) X.env=(false,eval e X.env) :: starEach es X.env:=by rfl)
    (hpl:(backTo cpos (starEach es X.env)).any (·.1)=false:=by rfl):QS X K (LX rn X.mg E) (.Assign [.Name y pos'] (.Call (.Name x p) (e :: es) [] cpos) pos) (wF i sp t):=by
  subst hK
  refine PS.imp (ps_set hN hi hy (qL C hr hx ha hg hdb he hpl) hs hf) fun D σ H hx=>fO hx fun Hs ρ tot E' sr h k1 k2 k3 k4 kx=>jY (Q:=fun m d=>match asg m d with
    | some sl=>E'.nx (ρ.set i (some sl))
    | none=>False) sr h (fun v H1 Hs1 m d As g1 r1 f1 q1=>?_) kx
  cases e:asg m d with
  | none=>rw [e] at q1; exact q1.elim
  | some sl =>
    rw [e] at q1
    obtain ⟨tot',s'⟩:=(sr.grow g1).set i r1 f1.1 (fun a ha=>⟨(f1.2 a ha).1,fun m=>(sr.sr.own a m).ne (f1.2 a ha).2⟩) e
    exact k1 _ H1 Hs1 _ tot' g1.sh s' q1
end

noncomputable def wIsx (j:Nat) (a:Addr) (b:Bool):WE:=fun ρ Q=>ρ[j]? = some (some (.xc a))∧Q .sh (.bl b)
theorem jx {j:Nat} {a C:Addr} {oe:Obj} {c:Value} {vc:V} {b:Bool} {e2:Expr} {p:Pos} (hm:X.mg "isinstance" = none) (hp:(a,oe)∈X.pn) (hcl:oe.cls=.ref C) (xc:XcK X.K C) (hk:kitOne X.K (.ref C) c=some b) (he:PE X e (tVar j)) (ht:PE X e2 (tC vc)) (hvc:∀ u,RelV vc u→u=c)
    (hg:Gl X "isinstance" := by rfl) (hs:starEach (e :: [e2]) X.env=(false,eval e X.env) :: starEach [e2] X.env:=by rfl) (hs2:starEach (e2 :: []) X.env=(false,eval e2 X.env) :: starEach [] X.env:=by rfl) (hpl:(backTo pos (starEach [e2] X.env)).any (·.1)=false:=by rfl) :
    QE X K (.Call (.Name "isinstance" p) [e,e2] [] pos) (wIsx j a b):=by
  have hc:CallR X (.builtin "isinstance") (fun xs H Q=>xs=[.ref a,vc]∧Q (.bl b) H):=by
    intro pins s σ H xs us Q I r h
    obtain ⟨rfl,q⟩:=h
    obtain ⟨u,v,rfl,ru,rv⟩:=Vals.two r
    obtain rfl:u=Value.ref a:=ru
    obtain rfl:=hvc v rv
    obtain ⟨ho,_⟩:=I.pin (a,oe) (List.mem_append_left _ hp)
    exact kia_one (uy xc) I.kIn ⟨oe,ho,hcl⟩ hk (fun z=>nomatch z) fun tk=>⟨.bl b,H,I.tok tk,rfl,q⟩
  refine PE.imp (pe_callB hc hg hm e_ (pa_cons he (pa_cons ht pa_nil hs2) hs) (by decide) (by decide) hs hpl) fun σ H Qv hx=>ex4 hx fun Hs ρ tot Q sr h f=>?_
  obtain ⟨ea,q⟩:=h
  obtain ⟨v,e1,r⟩:=sr.sr.get ea
  have r:v=V.ref a:=r
  subst r
  exact ⟨_,e1,rfl,Fin.sh f sr.wf (.bl _) q⟩
end
end L2.Q

set_option Elab.async false
set_option linter.all false
set_option maxRecDepth 100000
set_option maxHeartbeats 4000000

namespace L2.Q
open PySem PySem.Spec PyProof.Rows PySem.W

noncomputable abbrev fL (X:Cx) (pn:List (Addr × Obj)) (xe:Value→Shared→Prop):Cx:={ X with pn:=pn,xe:=xe }
noncomputable abbrev inHand (X:Cx) (pn:List (Addr × Obj)) (a:Addr):Cx:={ X with A:=X.A.mark (some (.ref a)),calm:=false,pn:=pn,xe:=fun _ _=>False }
noncomputable abbrev w6 (X:Cx) (H:Hp) (s:Shared) (p:Addr × Obj):Prop:=s.heap.get? p.1=some p.2∧H p.1=none∧p.1≠X.env.locals∧p.1∉X.fs∧∀ v,p.2.data≠.cell v
section
variable {X:Cx} {pins pins' pn:List (Addr × Obj)} {σ:St} {H:Hp} {s:Shared} {xe:Value→Shared→Prop} {a:Addr}
theorem Inv.fL (I:Inv X pins σ H s) (h:∀ p∈pn++pins',w6 X H s p):Inv (fL X pn xe) pins' σ H s :=
  ⟨⟨I.ok.mod,I.ok.kind,I.ok.glob,I.ok.blt,I.ok.above,I.ok.inj,I.ok.has,I.ok.cab,I.ok.hd,I.ok.frames,I.ok.stk,I.ok.exf,I.ok.bs,I.ok.bsz,I.ok.noex,I.ok.exfs,I.ok.funs,I.ok.frf⟩,I.os,I.bare,I.base,I.loc,I.cell,I.free,I.freeC,h,I.hok,I.len⟩
theorem Inv.jV (I:Inv (L2.Q.fL X pn xe) pins' σ H s) (h:∀ p∈X.pn++pins,p∈pn++pins'):Inv X pins σ H s :=
  ⟨⟨I.ok.mod,I.ok.kind,I.ok.glob,I.ok.blt,I.ok.above,I.ok.inj,I.ok.has,I.ok.cab,I.ok.hd,I.ok.frames,I.ok.stk,I.ok.exf,I.ok.bs,I.ok.bsz,I.ok.noex,I.ok.exfs,I.ok.funs,I.ok.frf⟩,I.os,I.bare,I.base,I.loc,I.cell,I.free,I.freeC,fun p hp=>I.pin p (h p hp),I.hok,I.len⟩
theorem Inv.inHand {pn2 pins2:List (Addr × Obj)} (I:Inv (L2.Q.fL X pn xe) pins' σ H s) (h:∀ p∈pn2++pins2,w6 X H s p):Inv (L2.Q.inHand X pn2 a) pins2 σ H s :=
  ⟨⟨I.ok.mod,I.ok.kind,I.ok.glob,I.ok.blt,I.ok.above,I.ok.inj,I.ok.has,I.ok.cab,(fun z=>nomatch z),I.ok.frames,I.ok.stk,I.ok.exf,I.ok.bs,I.ok.bsz,I.ok.noex,I.ok.exfs,I.ok.funs,I.ok.frf⟩,I.os,I.bare,I.base,I.loc,I.cell,I.free,I.freeC,h,I.hok,I.len⟩
theorem Inv.zX {xe2:Value→Shared→Prop} (I:Inv (L2.Q.fL X pn xe) pins σ H s):Inv (L2.Q.fL X pn xe2) pins σ H s :=
  ⟨⟨I.ok.mod,I.ok.kind,I.ok.glob,I.ok.blt,I.ok.above,I.ok.inj,I.ok.has,I.ok.cab,I.ok.hd,I.ok.frames,I.ok.stk,I.ok.exf,I.ok.bs,I.ok.bsz,I.ok.noex,I.ok.exfs,I.ok.funs,I.ok.frf⟩,I.os,I.bare,I.base,I.loc,I.cell,I.free,I.freeC,I.pin,I.hok,I.len⟩
theorem Inv.wj (I:Inv (L2.Q.inHand X pn a) pins' σ H s) (hd:X.calm=true→X.A.handled=none) (h:∀ p∈X.pn++pins,p∈pn++pins'):Inv X pins σ H s :=
  ⟨⟨I.ok.mod,I.ok.kind,I.ok.glob,I.ok.blt,I.ok.above,I.ok.inj,I.ok.has,I.ok.cab,hd,I.ok.frames,I.ok.stk,I.ok.exf,I.ok.bs,I.ok.bsz,I.ok.noex,I.ok.exfs,I.ok.funs,I.ok.frf⟩,I.os,I.bare,I.base,I.loc,I.cell,I.free,I.freeC,fun p hp=>I.pin p (h p hp),I.hok,I.len⟩
theorem SP.jV {D:Ends} {f:Flow} (h:SP (L2.Q.fL X pn xe) pins' D f s) (hp:∀ p∈X.pn++pins,p∈pn++pins'):SP X pins D f s:=by
  cases f with
  | next=>obtain ⟨σ',H',I,q⟩:=h; exact ⟨σ',H',Inv.jV I hp,q⟩
  | brk=>obtain ⟨σ',H',I,q⟩:=h; exact ⟨σ',H',Inv.jV I hp,q⟩
  | cont=>obtain ⟨σ',H',I,q⟩:=h; exact ⟨σ',H',Inv.jV I hp,q⟩
  | ret u=>obtain ⟨v,σ',H',I,r,q⟩:=h; exact ⟨v,σ',H',Inv.jV I hp,r,q⟩
theorem Inv.forget {h':Heap} {m:Str→Option Value} {t:Nat} (I:Inv X pins σ H s) (hn:h'.Ns X.env.locals m) (hs:Heap.SameBut X.env.locals s.heap h'):Inv X pins (List.replicate X.N.length none) H { s with heap:=h',toks:=t }:=by
  have ne:∀ b o,X.s₀.heap.get? b=some o→b≠X.env.locals:=fun b o e=>Nat.ne_of_lt (Nat.lt_of_lt_of_le (Heap.lt_size e) I.ok.above)
  refine ⟨I.ok,I.os,I.bare,⟨fun b o e n hb hx=>(hs.2 b (ne b o e)).trans (I.base.keep b o e n hb hx),fun b o e n hb hx=>?_,I.base.free,fun b o e hx=>?_,I.base.tups,I.base.frzs,I.base.tbls⟩,⟨m,hn,fun i x v e1 e2=>?_⟩,fun x c e=>?_,I.free,I.freeC,fun p hp=>?_,fun b o e=>?_,List.length_replicate⟩
  · obtain ⟨sl,e1⟩:=I.base.slot b o e n hb hx
    exact ⟨sl,(hs.2 b (ne b o e)).trans e1⟩
  · obtain ⟨o',e1⟩:=I.base.there b o e hx
    exact ⟨o',(hs.2 b (ne b o e)).trans e1⟩
  · rw [List.getElem?_replicate] at e2
    split at e2 <;> cases e2
  · obtain ⟨v,z⟩:=I.cell x c e
    exact ⟨v,z.sameBut hs (I.cne x c e)⟩
  · obtain ⟨e,n,nl,nf,d⟩:=I.pin p hp
    exact ⟨(hs.2 p.1 nl).trans e,n,nl,nf,d⟩
  · refine (I.hok b o e).stay (fun c u hc q=>(hs.2 c ?_).trans q) (fun _ q=>q) fun _ _ q=>q
    intro z
    rcases hc with w | w
    · rw [← w,z,I.free] at e; cases e
    · rw [z,I.free] at w; cases w
end
theorem SR.nones {K:PySem.W.Frag} {Hs H:Hp}:∀ σ:St,SR K Hs H (List.replicate σ.length none) σ []
  | []=>.nil
  | _ :: σ=>.non (SR.nones σ)
theorem SR.exc {K:PySem.W.Frag} {Hs H:Hp} {a:Addr}:∀ (σ:St) (j:Nat),SR K Hs H ((List.replicate σ.length none).set j (some (.xc a))) (σ.set j (some (.ref a))) []
  | [],_=>.nil
  | _ :: σ,0=>.xc (SR.nones σ)
  | _ :: σ,j+1=>.non (SR.exc σ j)
theorem Cov.next {P:Program} {w:World} {B:Heap} {fs:List Addr} {H':Hp} {h₀ h h':Heap} (c:Cov B fs H' h₀ h) (m:cP fs H' h₀ h h') (hok:HOk P w H' h) (th:∀ b o,h₀.get? b=some o→∃ o',h.get? b=some o'):Cov B fs H' h₀ h':=fun b o e k nb=>by
  have ho:∃ o',h.get? b=some o':=by
    rcases k with k | k
    · cases z:H' b with
      | none=>exact absurd z k
      | some u=>exact ObjOk.there (hok b u z)
    · obtain ⟨o0,e0⟩:=Option.ne_none_iff_exists'.mp k
      exact th b o0 e0
  obtain ⟨o',e'⟩:=ho
  have e2:=m.keep b o' e' k nb
  rw [e] at e2; cases e2
  exact c b o e' k nb
noncomputable def wTry (body:WS) (ρh:Addr→Env) (hd:Addr→Str→WS):WS:=fun E ρ =>
  body { E with rt:=fun m d=>xch m d (fun n=>∀ a,hd a n { nx:=fun _=>False,rt:=E.rt } (ρh a)) (E.rt m d) } ρ
structure yj (K:PySem.W.Frag) (mg:Str→Option Value) (rn:List Str) (R:Str):Prop where
  ex:∃ r,mg R=some (.ref r)∧XcK K r∧∀ n C,n∈rn→mg n=some (.ref C)→XcK K C∧mroIn K C (.ref r)=some true
theorem yU {X:Cx} {K:PySem.W.Frag} {L:Str→Hp→Prop} {rn:List Str} {R:Str} {body suite:List Stmt} {b₀:Stmt} {np hpos pos:Pos} {j:Nat} {en:Str} {wb:WS} {ρh:Addr→Env} {hd:Addr→Str→WS}
    (xr:yj X.K X.mg rn R) (hN:X.N.Nodup) (hj:X.N[j]? = some en) (hl:X.env.scope.names.lookup en=some .local) (hst:X.stack=X.env :: X.outer) (hf:X.env.frame=some X.env.locals)
    (hρ:∀ a,ρh a=(List.replicate X.N.length none).set j (some (.xc a)))
    (hb:∀ pn xe E1,Passes (CXx X.prog X.w X.mg rn) (fL X pn xe) E1→QSs (fL X pn xe) K (LX rn X.mg E1) body wb)
    (hh:∀ pn a oe n C,n∈rn→X.mg n=some (.ref C)→XcK X.K C→(a,oe)∈pn→oe.cls=.ref C→QSs (inHand X pn a) K L (b₀ :: suite) (hd a n)) (hg:Gl X R:=by rfl) (hdb:(R == ("__debug__" : Str))=false:=by decide) :
    QS X K L (.Try body [.ExceptHandler (some (.Name R np)) (some en) (b₀ :: suite) hpos] [] [] pos) (wTry wb ρh hd):=by
  intro pins s σ H D I hx
  obtain ⟨Hs,ρ,tot,E,sr,h,k1,k2,k3,k4,kx⟩:=hx
  obtain ⟨r,hm,xr,sub⟩:=xr.ex
  have sp0:∀ p∈X.pn++pins,p∈(X.pn++pins)++[]:=fun p hp=>by rw [List.append_nil]; exact hp
  have hbody:=hb (X.pn++pins) (fun e s'=>∃ pins' σ' H1 s1,Inv (fL X (X.pn++pins) X.xe) pins' σ' H1 s1∧CXx X.prog X.w X.mg rn X.stack H1 s1 (fun c _ H'=>∃ n C,c=.ref C∧n∈rn∧X.mg n=some (.ref C)∧Same Hs H'∧∀ a,hd a n { nx:=fun _=>False,rt:=E.rt } (ρh a)) e s') _
    (fun pins' σ' H1 s1 e s' I1 c=>⟨pins',σ',H1,s1,Inv.zX I1,c⟩)
    [] s σ H D (Inv.fL I fun p hp=>I.pin p (by rw [List.append_nil] at hp; exact hp)) ⟨Hs,ρ,tot,_,sr,h,k1,k2,k3,fun v H' Hs' m d As s2 w2 r2 nd own q=>k4 v H' Hs' m d As s2 w2 r2 nd own (rH r2 q),fun n H' s2 q hn C hC=>⟨n,C,rfl,hn,hC,s2,q⟩⟩
  refine wpAny_Try_except (wpAny_mono hbody (fun f s1 hs=>?_) fun e s' hx=>?_)
  · have hs:=SP.jV hs sp0
    cases f with
    | next =>
      obtain ⟨σ',H',I',q⟩:=hs
      exact pss_nil pins s1 σ' H' D I' q
    | brk=>exact hs
    | cont=>exact hs
    | ret u=>exact hs
  · obtain ⟨pins',σ',H1,s1,I1,a,n',C,a0,H',B,rfl,hn',os,bare,un,hok,fly,cov,fr,n,C2,eC,hn,hm2,sm,hq⟩:=hx
    cases eC
    obtain ⟨xc,hsub⟩:=sub n C hn hm2
    obtain ⟨hh',g',d',t',os'⟩:=s'
    obtain rfl:os'=s1.os:=os
    have fly1:Heap.FlyingW B (X.env :: X.outer) a (.ref C) a0 hh':=hst ▸ fly
    have th:∀ b o,s1.heap.get? b=some o→∃ o',hh'.get? b=some o':=fun b o e=>un.there b o e (by simp)
    refine wpAny_looks_onW (hst ▸ I.ok.frames) hf fly1 fun h4 held up4=>wpAny_landsW held fun h5 fly5 up5=>?_
    have mv5:cP (frs X.stack) H' s1.heap hh' h5:=cP.of cov fly5.1 (up4.trans up5) fly.2.2.1
    have cov5:=cov.next mv5 hok th
    have un5:=mv5.un un
    have hok5:=mv5.hok fr hok
    have I5:Inv (fL X (X.pn++pins) X.xe) pins' σ' H' ⟨h5,g',d',t',s1.os⟩:=I1.call (h':=h5) (g':=g') (d':=d') (t':=t') (ch:=[]) un5 hok5 bare (fun b z=>absurd z (by simp))
    refine wpAny_handleBy_cons (codeAny_handlers_test ?_) (by intro q; cases q)
    refine ld_glob (X:=inHand X (X.pn++pins) a) (pins:=pins') (Inv.inHand I5 fun p hp=>I5.pin p hp) hg hm ?_ hdb
    refine nF xc xr hsub I5.kIn fly5.there (codeAny_handlers_suite_as ?_)
    refine lands_againW fly5 fun h6 fly6 up6=>?_
    have ff5:h5.FunFrames B X.stack:=hst ▸ fly5.2.2.1
    have mv6:cP (frs X.stack) H' s1.heap h5 h6:=cP.of cov5 fly6.1 up6 ff5
    have un6:=mv6.un un5
    have hok6:=mv6.hok fr hok5
    have I6:Inv (fL X (X.pn++pins) X.xe) pins' σ' H' ⟨h6,g',d',t',s1.os⟩:=I1.call (h':=h6) (g':=g') (d':=d') (t':=t') (ch:=[]) un6 hok6 bare (fun b z=>absurd z (by simp))
    obtain ⟨oe,vs,he,hcl,hdt,_⟩:=fly6.first
    have nf:a∉frs X.stack:=fun z=>by
      have ff6:h6.FunFrames B X.stack:=hst ▸ fly6.2.2.1
      obtain ⟨_,o,e1,d1⟩:=ff6.mem z
      rw [he] at e1; cases e1
      exact d1 vs hdt
    have na:H' a=none:=by
      cases z:H' a with
      | none=>rfl
      | some u =>
        have:=(cov5.next mv6 hok5 fun b o e=>un5.there b o e (by simp)) a oe he (.inl (by rw [z]; exact fun z=>nomatch z)) nf
        rw [fly6.2.1] at this; cases this
    have frm:∀ b,b∈frs X.stack↔b=X.env.locals∨b∈X.fs:=fun b=>by
      rw [hst]; unfold frs; rw [List.filterMap_cons,hf]; exact List.mem_cons
    have pa:w6 X H' ⟨h6,g',d',t',s1.os⟩ (a,oe):=⟨he,na,fun z=>nf ((frm a).mpr (.inl z)),fun z=>nf ((frm a).mpr (.inr z)),fun v z=>by rw [hdt] at z; cases z⟩
    have I6h:Inv (inHand X ((a,oe) :: (X.pn++pins)) a) [] σ' H' ⟨h6,g',d',t',s1.os⟩:=Inv.inHand I6 fun p hp=>by
      rw [List.append_nil] at hp
      rcases List.mem_cons.mp hp with z | z
      · rw [z]; exact pa
      · exact I6.pin p (List.mem_append_left _ z)
    refine store_ok2 (X:=inHand X ((a,oe) :: (X.pn++pins)) a) (v:=.ref a) I6h hN hj (.inl hl) rfl (fun s7 I7 _=>?_) (.inr hl)
    refine wpAny_mono (hh ((a,oe) :: (X.pn++pins)) a oe n C hn hm2 xc List.mem_cons_self hcl [] s7 (σ'.set j (some (.ref a))) H' { nx:=fun _ _=>False,rt:=D.rt } I7
      ⟨H',ρh a,[],_,⟨by rw [hρ a,← (show σ'.length=X.N.length from I1.len)]; exact SR.exc σ' j,⟨Same.refl _,fun _ _ e=>e⟩,List.nodup_nil,fun a h=>nomatch h⟩,hq a,fun _ _ _ _ _ _ _ z=>z,fun _ _ _ _ _ _ _ z=>z,fun _ _ _ _ _ _ _ z=>z,
        fun v H2 Hs2 m d As s2=>k4 v H2 Hs2 m d As (sm.trans s2),fun n H2 s2=>kx n H2 (sm.trans s2)⟩) (fun f s8 hs=>?_) fun _ _ z=>z.elim
    cases f with
    | next=>obtain ⟨_,_,_,z⟩:=hs; exact z.elim
    | brk=>obtain ⟨_,_,_,z⟩:=hs; exact z.elim
    | cont=>obtain ⟨_,_,_,z⟩:=hs; exact z.elim
    | ret u =>
      obtain ⟨v,σ8,H8,I8,rv,q⟩:=hs
      have I9:Inv X pins σ8 H8 s8:=Inv.wj I8 I.ok.hd fun p hp=>by rw [List.append_nil]; exact List.mem_cons_of_mem _ hp
      obtain ⟨m,hn8,_⟩:=id I9.loc
      exact wpAny_nameGoes hl hn8 (by rw [I9.ok.kind]; rfl) fun h9 m9 hn9 sb=>⟨v,_,H8,Inv.forget I9 hn9 sb,rv,q⟩
end L2.Q

set_option Elab.async false
set_option linter.all false
set_option maxRecDepth 100000
set_option maxHeartbeats 4000000

namespace L2.Q
open PySem PySem.Spec PyProof.Rows
theorem j9:bootBuiltins "ValueError" = some (.type "ValueError"):=by decide +kernel
end L2.Q
namespace L2.Q.R
open PySem PySem.Spec PyProof.Rows L2.Q
section
variable {E:ou} {ρ:Env} {Q:Md→L2.Q.D→Prop} {te:WE} {tar:WA} {i j:Nat} {a:Addr} {b:Bool} {sp:SpD} {n:Str} {d:L2.Q.D} {Y:Str→Prop} {N:Prop} {t:WS} {ρh:Addr→Env} {hd:Addr→Str→WS}
theorem Bd:gk n te E ρ=te ρ fun _ _=>E.rt (.ow false) (.str n):=rfl
theorem zT:o5 sp tar E ρ=tar ρ fun ps=>sp (ps.map (·.2)) fun m d=>xch m d (fun n=>E.rt (.ow false) (.str n)) (onK (m,d) (f:=fun _=>E.nx ρ) ⟨⟩):=rfl
theorem BZ:wF i sp tar E ρ=tar ρ fun ps=>sp (ps.map (·.2)) fun m d=>xch m d (fun n=>E.rt (.ow false) (.str n)) (onK (m,d) (f:=fun p=>onK (asg (retM p.1 p.2) p.2) (f:=fun o=>put o fun sl=>E.nx (ρ.set i (some sl))) ⟨⟩) ⟨⟩):=rfl
theorem Ew:wTry t ρh hd E ρ=t { E with rt:=fun m d=>xch m d (fun n=>∀ a,hd a n { nx:=fun _=>False,rt:=E.rt } (ρh a)) (E.rt m d) } ρ:=rfl
theorem Dm:wIsx j a b ρ Q=(ρ[j]? = some (some (.xc a))∧Q .sh (.bl b)):=rfl
theorem Eu:xch (.ow false) (.str n) Y N=Y n:=rfl
theorem CZ:xch .sh d Y N=N:=rfl
theorem Ce:xch .bo d Y N=N:=rfl
theorem CG:xch (.ow true) d Y N=N:=rfl
theorem Dj {xs:List L2.Q.D}:xch (.ow b) (.list xs) Y N=N:=by cases b <;> rfl
theorem Ez {xs:List L2.Q.D}:xch (.ow b) (.tup xs) Y N=N:=by cases b <;> rfl
theorem DG {xs:List (Key × L2.Q.D)}:xch (.ow b) (.dK xs) Y N=N:=by cases b <;> rfl
theorem E_ {xs:List (List Key × L2.Q.D)}:xch (.ow b) (.dT xs) Y N=N:=by cases b <;> rfl
end
end L2.Q.R

set_option Elab.async false
set_option linter.all false
set_option maxRecDepth 100000
set_option maxHeartbeats 4000000

namespace L2
open PySem PySem.Spec PyProof.Rows Builtin Builtin.Str Builtin.Int
section
variable {prog:Program} {w:World} {A:Around} {E:Value→Shared→Prop} {s:Shared} {x:Str} {n:Int} {t u:Tok}
theorem nR {Q:Value→Shared→Prop} (hok:MulOk x n) (h:∀ t' k,Q (.str (Txt.mul x n) t') { s with toks:=k }):wpAny (model prog w) A (binaryOp .Mult (.str x t) (.int n u)) Q E s:=by
  refine P.mul_str hok.1 hok.2.1 hok.2.2 ?_
  unfold Txt.mul at h
  by_cases h1:n<1
  · rw [if_pos h1]; have h':=h s.toks (s.toks+1); rw [if_pos h1] at h'; exact ⟨by decide,h'⟩
  · rw [if_neg h1]; refine post_val_or_made (fun hc=>fits_reps (hok.2.2 h1 (by simpa using hc))) fun t' k=>?_
    have h':=h t' k; rw [if_neg h1] at h'; exact h'
end
noncomputable def xF:R2:=fun x y H Q=>xj y x H Q
theorem wR {X:Cx}:OpR X (binaryOp .Mult) xF:=by
  intro pins s σ H y x u v Q I ry rx h
  unfold xF xj at h
  split at h
  · rename_i n z
    obtain ⟨⟨h1,h2,h3⟩,q⟩:=h
    obtain ⟨t,rfl⟩:=rx
    obtain ⟨t',rfl⟩:=ry
    refine nR ⟨?_,fun _ _=>?_,fun _ _=>?_⟩ fun t' k=>⟨.str (repS n z),H,I.tok _,⟨_,by rw [wG h1]⟩,q⟩
    · have a1:¬ n < -(2 ^ 63:Int):=by walk_at "l"
      have a2:¬ n ≥ 2 ^ 63:=by walk_at "l"
      rw [decide_eq_false a1,decide_eq_false a2]; rfl
    · have:(2 ^ 63 - 1:Int) / 100≤(2 ^ 63 - 1) / n:=by
        apply Int.le_ediv_of_mul_le (by walk_at "l")
        have:(2 ^ 63 - 1:Int) / 100 * n≤(2 ^ 63 - 1:Int) / 100 * 100:=Int.mul_le_mul_of_nonneg_left h2 (by decide)
        walk_at "l"
      have e:(2 ^ 63 - 1:Int) / 100=92233720368547758:=by decide
      walk_at "l"
    · have:z.length * n.toNat≤100 * 100:=Nat.mul_le_mul h3 (by walk_at "l")
      have hs:=sizeLine_eq
      simp only [tooLong,decide_eq_false_iff_not]
      generalize z.length * n.toNat=m at this ⊢
      walk_at "l"
  · exact h.elim
end L2
namespace L2.Q
open PySem PySem.Spec PyProof.Rows
section
variable {X:Cx} {K:PySem.W.Frag} {a b:Expr} {ta tb:WE} {pos:Pos}
noncomputable def wFz (t:WE):WE:=fun ρ Q=>t ρ fun m d=>lQ m∧Q .sh d
theorem q_fz (h:QE X K a ta):QE X K a (wFz ta):=by
  refine PE.imp h fun σ H Qv hx=>ex4 hx fun Hs ρ tot Q sr h fin=>?_
  refine ⟨Hs,ρ,tot,_,sr,h,fun v H1 Hs1 m d As g1 r1 f1 q1=>?_⟩
  obtain ⟨nb,q⟩:=q1
  cases m with
  | sh=>exact fin v H1 Hs1 .sh d As g1 r1 f1 q
  | bo=>exact nb.elim
  | ow fl =>
    obtain ⟨r,ne⟩:=r1
    have hn:∀ a∈As,Hs1 a=none:=fun a h=>(f1.2 a h).1
    have s:=fc (H:=H1) hn
    refine fin v H1 (frzH Hs1 H1 As) .sh d [] ⟨g1.all,g1.sh.trans s,ug g1.wf r.own,fun c hc=>?_⟩ ⟨rfl,r.rep s fun c hc=>by unfold frzH; rw [if_pos hc]⟩ ⟨List.nodup_nil,fun _ h=>mem0 h⟩ q
    unfold frzH at hc
    split at hc
    · rename_i m
      exact .inr (f1.2 c m).2
    · exact g1.new c hc
noncomputable def vf:W2:=fun m x n y Q=>yw n y m x Q
theorem wO:Br2 K xF vf:=fun Hs H m x v As n y u Bs Qd Qv w rx ry h f=>xu Hs H n y u Bs m x v As Qd Qv w ry rx h f
theorem zb (ha:QE X K a ta) (hb:QE X K b tb):QE X K (.BinOp a .Mult b pos) (wOp vf ta tb):=q_op wR wO ha hb
noncomputable def anyD (ys:List D) (x:D):Bool:=ys.any fun z=>eqD z x
noncomputable def fInR (neg:Bool):W2:=fun _ x _ y Q=>∃ ys,(y=.list ys∨y=.tup ys)∧okD 12 x=true∧okD 12 y=true∧Q .sh (.bl (if neg then !anyD ys x else anyD ys x))
noncomputable def rInR (K:PySem.W.Frag) (neg:Bool):R2:=fun x y H Q=>∃ d e xs,L2.Rep K H d x∧L2.Rep K H e y∧(e=.list xs∨e=.tuple xs)∧d.canLay0=true∧PyData.canLayAll0 xs=true∧d.depth≤60∧Q (.bl (if neg then !(xs.any fun z=>PyData.eqv z d) else xs.any fun z=>PyData.eqv z d)) H
theorem qX (hu:X.A.units+64<cLine):OpR X (compareOp .NotIn) (rInR X.K true):=by
  intro pins s σ H x y v u Q I rx ry h
  obtain ⟨d,e,xs,h1,h2,h3,h4,h5,h6,q⟩:=h
  obtain ⟨as,r1⟩:=h1.reads I rx
  obtain ⟨bs,r2⟩:=h2.reads I ry
  rcases h3 with rfl | rfl
  · exact PySem.SeqAt.notIn_list_reads r2 r1 h5 h4 (by walk_at "l") ⟨.bl _,H,I,rfl,q⟩
  · exact PySem.SeqAt.notIn_tuple_reads r2 r1 h5 h4 (by walk_at "l") ⟨.bl _,H,I,rfl,q⟩
theorem wg (hu:X.A.units+64<cLine) (hK:X.K=K:=by rfl):OpR X (compareOp .NotIn) (rInR K true):=by subst hK; exact qX hu
theorem vX (ys:List D) (x:D):((pys ys).any fun z=>PyData.eqv z x.py)=anyD ys x:=by
  induction ys with
  | nil=>rfl
  | cons y ys ih =>
    rw [pys,List.any_cons,ih]
    rfl
theorem yG {neg:Bool}:Br2 K (rInR K neg) (fInR neg):=by
  intro Hs H m x v As n y u Bs Qd Qv w rx ry h f
  obtain ⟨ys,hy,o1,o2,q⟩:=h
  have l1:=il 12 x o1
  have l2:=il 12 y o2
  refine ⟨x.py,y.py,pys ys,(rx.rep w).l2 o1,(ry.rep w).l2 o2,?_,l1.1,?_,by walk_at "l",?_⟩
  · rcases hy with rfl | rfl
    · exact .inl rfl
    · exact .inr rfl
  · rcases hy with rfl | rfl
    · exact l2.1
    · exact l2.1
  · rw [vX]
    exact f.sh w (.bl _) q
noncomputable def owl (o:Option (Option Sl)) (k:List D→Prop):Prop:=match o with
  | some (some (.ow true (.list xs)))=>k xs
  | _=>False
noncomputable def intD (y:D) (k:Int→Prop):Prop:=match y with
  | .int i=>k i
  | _=>False
noncomputable def outM (d:D):Md:=bif d.flat then .sh else .ow true
noncomputable def mH (i:Nat) (tb:WE):WS:=fun E ρ=>owl ρ[i]? fun xs=>tb ρ fun _ y=>intD y fun k=>∃ d,L2.atI xs k=some d∧E.rt (outM d) d
theorem pq {L:Str→Hp→Prop} {i:Nat} {pos':Pos} (he:PE X a (tVar i)) (hb:QE X K b tb) (hs:PlainIx b:=by exact fun _ _=>rfl) (hK:X.K=K:=by rfl):QS X K L (.Return (some (.Subscript a b pos)) pos') (mH i tb) :=
  PS.imp (ps_ret (pe_ix (kIx hK) he hb hs)) fun D σ H hx=>iZ hx fun Hs ρ tot E sr h k1 k2 k3 k4=>by
  unfold mH owl at h
  split at h
  · rename_i xs e1
    obtain ⟨v,As,e2,ne,r,sb⟩:=sr.sr.at e1
    cases r with
    | sh _ _=>exact absurd rfl ne
    | @list a vs _ As z e rs =>
      refine ⟨_,e2,Hs,ρ,tot,_,sr,h,fun u H1 Hs1 m y Bs g1 r1 f1 q1=>?_⟩
      have ry:=r1.rep g1.wf
      cases ry with
      | int k =>
        obtain ⟨d,e3,q⟩:=q1
        obtain ⟨j,ej,ed⟩:=yh e3
        have nd:As.Nodup:=(List.nodup_cons.mp (sb.nodup sr.nod)).2
        obtain ⟨w,B,ew,rw',sB,_⟩:=rs.at ed nd
        have sub:∀ c∈B,c∈tot:=fun c hc=>sb.subset (List.mem_cons_of_mem _ (sB.subset hc))
        have r2:=rw'.grow g1.sh g1.all
        refine .inl ⟨vs,w,.inl (.inl (g1.all _ _ e)),zY (by rw [← rs.length]; exact ej) ew,?_⟩
        have sr1:=sr.grow g1
        cases hf:d.flat with
        | true =>
          rw [outM,hf] at q
          exact k4 w H1 Hs1 .sh d [] g1.sh g1.wf ⟨rfl,(r2.rep g1.wf.sub fun _ _=>rfl).gn g1.wf.tups hf⟩ List.nodup_nil (fun c hc=>mem0 hc) q
        | false =>
          rw [outM,hf] at q
          exact k4 w H1 Hs1 (.ow true) d B g1.sh g1.wf ⟨r2,r2.ne hf⟩ (sB.nodup nd) (fun c hc=>sr1.own c (sub c hc)) q
      | _=>exact q1.elim
  · exact h.elim
end
end L2.Q
namespace L2.Q.R
open PySem PySem.Spec PyProof.Rows L2.Q
section
variable {ρ:Env} {te:WE} {m m':Md} {x:L2.Q.D} {ys:List L2.Q.D} {Q:Md→L2.Q.D→Prop}
theorem Bj {a:Int} {x:Str}:vf m (.str x) m' (.int a) Q=((1≤a∧a≤100∧x.length≤100)∧Q .sh (.str (repS a x))):=rfl
theorem zQ {E:ou} {i:Nat}:mH i te E ρ=onK ρ[i]? (f:=fun o=>owl o fun xs=>te ρ fun _ y=>onK y (f:=fun y=>intD y fun k=>∃ d,atI xs k=some d∧onK d (f:=fun d=>E.rt (outM d) d) ⟨⟩) ⟨⟩) ⟨⟩:=rfl
theorem Dg {k:List L2.Q.D→Prop}:owl (some (some (.ow true (.list ys)))) k=k ys:=rfl
theorem Bu {i:Int} {k:Int→Prop}:intD (.int i) k=k i:=rfl
theorem wFz_:wFz te ρ Q=te ρ fun m d=>lQ m∧Q .sh d:=rfl
theorem CT {neg:Bool}:fInR neg m x m' (.list ys) Q=(okD 12 x=true∧okD 12 (.list ys)=true∧Q .sh (.bl (if neg then !anyD ys x else anyD ys x))):=by
  apply propext
  exact ⟨fun ⟨zs,h,a,b,c⟩=>by rcases h with h | h <;> cases h; exact ⟨a,b,c⟩,fun ⟨a,b,c⟩=>⟨ys,.inl rfl,a,b,c⟩⟩
theorem Bx {neg:Bool}:fInR neg m x m' (.tup ys) Q=(okD 12 x=true∧okD 12 (.tup ys)=true∧Q .sh (.bl (if neg then !anyD ys x else anyD ys x))):=by
  apply propext
  exact ⟨fun ⟨zs,h,a,b,c⟩=>by rcases h with h | h <;> cases h; exact ⟨a,b,c⟩,fun ⟨a,b,c⟩=>⟨ys,.inr rfl,a,b,c⟩⟩
end
end L2.Q.R

local macro_rules | `(tactic| walk_at "q") => do
  let nm (s : String) : Lean.Ident := Lean.mkIdent ((s.splitOn ".").foldl Lean.Name.mkStr .anonymous)
  let ds ← ("BR Ej BW Ca Ai By Dn DW Aw zN CK Ci Bk Cw C_ CN DN Cd BK Cq Dr Ek B_ Cj EY Ed Cz Cv za Aj zG Ak DP CW wB_ DK Dz wOr_ DR Ep Ae Bb wC_ wOp_ wUn_ Aa BJ Ey Bm Cp Eg Dt Du Bo Am Bg Aq Ab Ah Av Bc zW Dc Bq Bv Bp CP Bw Cu BX Ds Dl Et Cy Cg Dk El Em Di Ac xX xY Dv Dh DX En DQ D_ DY Ei Dw Dy Er Df Bl BP CV CQ Eb Az Ay z9 wSl_ zB Ck Dd Eh Dq Ex Br zV wpN_ zL Ea Eo Ef Es Ad BV Cr zF zH zA gN_ De BL CJ Af zZ z6 Bd zT BZ Ew Dm Eu CZ Ce CG Dj Ez DG E_ Bj zQ Dg Bu wFz_ CT Bx".splitOn " ").toArray.mapM fun s => `(Lean.Parser.Tactic.simpLemma| ↓$(nm ("L2.Q.R." ++ s)):ident)
  let us ← ("L2.Q.movS L2.Q.outM L2.Q.qb L2.Q.xG L2.Q.okSh L2.Q.okOw L2.Q.okFl L2.Q.retM L2.Q.Ax L2.Q.frzE L2.Q.shS L2.Q.shC L2.Q.jO L2.Q.vZ L2.Q.asg L2.Q.itm L2.Q.bj L2.Q.D.flat L2.Q.flats L2.Q.D.ty L2.Q.truD L2.Q.D.key1 L2.Q.jD L2.Q.vz L2.Q.Cm List.length_map List.map_cons List.map_nil List.length_cons List.length_nil List.replicate_succ List.replicate_zero List.cons_append List.nil_append List.append_nil List.getElem?_cons_zero List.getElem?_cons_succ List.getElem?_nil List.set_cons_zero List.set_cons_succ List.all_cons List.all_nil Option.some.injEq Option.join_some Option.map_some Option.map_none Nat.reduceAdd Nat.reduceSub true_and and_true Bool.and_true Bool.true_and Bool.and_false Bool.false_and Bool.not_true Bool.not_false Bool.false_eq_true if_true if_false decide_true decide_false reduceIte cond_true cond_false PySem.sizeLine_eq L2.Q.atI0 L2.Q.atI1 L2.Q.atI2 L2.Q.nj L2.Q.yK L2.Q.empty_app Nat.zero_add exists_eq_left' Int.reduceLT Int.reduceLE Int.reducePow Int.reduceNeg Int.reduceToNat Int.reduceAdd Int.reduceMul Int.reduceSub Nat.reduceLeDiff Nat.reduceLT false_or or_false and_self L2.Ec".splitOn " ").toArray.mapM fun s => `(Lean.Parser.Tactic.simpLemma| $(nm s):ident)
  let as : Lean.TSyntaxArray [`Lean.Parser.Tactic.simpStar, `Lean.Parser.Tactic.simpErase, `Lean.Parser.Tactic.simpLemma] := (ds ++ us).map fun x => ⟨x.raw⟩
  `(tactic| simp -dsimp only [$as,*])

namespace L2.Q.Law
open PySem PySem.Spec PyProof.Rows
theorem small {n:Nat} (h:n≤10000):n≤sizeLine:=Nat.le_trans h (by decide)
theorem Bt {n:Nat} (h:n≤10000):n<sizeLine:=Nat.lt_of_le_of_lt h (by decide)
noncomputable def isLet (c:Nat):Bool:=decide (97≤c∧c≤122)
noncomputable abbrev abc:Str := "abcdefghijklmnopqrstuvwxyz"
theorem oW:sg abc=(List.range 26).map (97 + ·):=by decide +kernel
theorem yL {i:Int} (h0:0≤i) (h1:i<26):∃ c,atI (sg abc) i=some c∧isLet c=true:=by
  refine ⟨97+i.toNat,?_,?_⟩
  · have:atI (sg abc) ((i.toNat:Nat):Int)=some (97+i.toNat):=atI_nat (by
      rw [oW]
      have:i.toNat<26:=by walk_at "l"
      simp [this])
    rwa [Int.toNat_of_nonneg h0] at this
  · simp [isLet]; walk_at "l"
theorem wA (x:Int):∃ c,atI (sg abc) (x % 26)=some c∧isLet c=true:=yL (Int.emod_nonneg _ (by decide)) (Int.emod_lt_of_pos _ (by decide))
noncomputable def lets (x:Str):Prop:=∀ c∈sg x,isLet c=true
noncomputable def Open (x:Str):Prop:=1≤x.length∧x.length≤6∧lets x
noncomputable def Deed (x:Str):Prop:=x = "*"∨Open x
theorem zE {x y:Str} (hx:lets x) (hy:lets y):lets (x++y):=fun c hc=>by
  rw [vh] at hc
  exact (List.mem_append.mp hc).elim (hx c) (hy c)
theorem zP {c:Nat} (h:isLet c=true):lets ⟨#[c]⟩:=fun d hd=>by
  have:d=c:=by simpa [sg] using hd
  rw [this]; exact h
theorem zJ {x:Str} (h:lets x) (lo hi:Option Int):lets (cutS x lo hi):=fun c hc=>by
  unfold cutS sg at hc
  rw [List.toList_toArray] at hc
  exact h c (List.mem_of_mem_drop (List.mem_of_mem_take hc))
theorem jL (c:Nat):(⟨#[c]⟩:Str).length=1:=rfl
theorem Deed.len {x:Str} (h:Deed x):x.length≤6:=by
  rcases h with rfl | h
  · decide
  · exact h.2.1
theorem Deed.ok {x:Str} (h:Deed x):PyData.strOk x=true:=by
  rw [sJ]
  rcases h with rfl | h
  · have:sg "*" = [42]:=by decide +kernel
    intro c hc
    rw [this] at hc
    have:c=42:=by simpa using hc
    walk_at "l"
  · intro c hc
    have:=h.2.2 c hc
    simp [isLet] at this
    walk_at "l"
theorem rC:∀ (l:List Str),flats (l.map D.str)=true
  | []=>rfl
  | x :: l=>by simp [flats,rC l,D.flat]
theorem lO:∀ (l:List Int),flats (l.map D.int)=true
  | []=>rfl
  | x :: l=>by simp [flats,lO l,D.flat]
theorem uq:∀ (l:List Bool),flats (l.map D.bl)=true
  | []=>rfl
  | x :: l=>by simp [flats,uq l,D.flat]
theorem zM (l:List Str) (x:Str):l.map D.str++[D.str x]=(l++[x]).map D.str:=by simp
theorem ints_app (l:List Int) (x:Int):l.map D.int++[D.int x]=(l++[x]).map D.int:=by simp
theorem wK {n i:Nat} {lo:Int} {x:D} (h:(qP lo n)[i]? = some x):i<n∧x=.int (lo+(i:Nat)):=by
  unfold qP at h
  rw [List.getElem?_map] at h
  by_cases hi:i<n
  · rw [List.getElem?_range hi] at h
    exact ⟨hi,(Option.some.inj h).symm⟩
  · rw [List.getElem?_eq_none (by simpa using hi)] at h
    cases h
theorem zO (lo:Int) (n:Nat):(qP lo n).length=n:=by simp [qP]
theorem zz {lo:Int} {n:Nat} {x:D} (h:x∈qP lo n):∃ i:Nat,i<n∧x=.int (lo+i):=by
  obtain ⟨i,hi⟩:=List.mem_iff_getElem?.mp h
  exact ⟨i,wK hi⟩

noncomputable abbrev Stp:=Int × Str × Int
noncomputable def stpK (s:Stp):List Key:=[.inl s.1,.inr s.2.1,.inl s.2.2]
noncomputable def stpD (s:Stp):D:=.tup [.int s.1,.str s.2.1,.int s.2.2]
theorem zK (s:Stp):keyT (stpK s)=stpD s:=rfl
noncomputable def mD (many:Int) (steps:List Stp):D:=.tup [.int many,.list (steps.map stpD)]
theorem bz:∀ (l:List Stp),flats (l.map stpD)=true
  | []=>rfl
  | x :: l=>by simp [flats,bz l,stpD,D.flat]
noncomputable def StOk (many:Int) (s:Stp):Prop:=0≤s.1∧s.1<many∧Deed s.2.1∧0≤s.2.2∧s.2.2<many
theorem pP {many:Int} {s:Stp} (n:Nat) (h:StOk many s):okD (n+1) (stpD s)=true:=by
  have:=h.2.2.1.ok
  simp [okD,stpD,this]
theorem n6 {many:Int} {l:List Stp} (n:Nat) (h:∀ s∈l,StOk many s):okD (n+2) (.list (l.map stpD))=true:=by
  simp only [okD,List.all_map,List.all_eq_true]
  intro s hs
  exact pP n (h s hs)
theorem m_ok {many:Int} {l:List Stp} (n:Nat) (h:∀ s∈l,StOk many s):okD (n+3) (mD many l)=true:=by
  have h2:=n6 n h
  show (okD (n+2) (.int many) && (okD (n+2) (.list (l.map stpD)) && true))=true
  rw [h2]
  rfl
theorem sS:∀ (l:List Stp),nbs (l.map stpD)=true
  | []=>rfl
  | x :: l=>by simp [nbs,sS l,stpD,D.nb]
theorem nb_m (many:Int) (l:List Stp):(mD many l).nb=true:=by simp [mD,D.nb,nbs,sS]
theorem eq_self {x:D} (h:x.nb=true):eqD x x=true:=(iW x x h h).mpr rfl
theorem pB {s t:Stp} (h:stpD s=stpD t):s=t:=by
  obtain ⟨a,b,c⟩:=s
  obtain ⟨a',b',c'⟩:=t
  simp [stpD] at h
  obtain ⟨rfl,rfl,rfl⟩:=h
  rfl
theorem uv:∀ {l m:List Stp},l.map stpD=m.map stpD→l=m
  | [],[],_=>rfl
  | [],_ :: _,h=>by simp at h
  | _ :: _,[],h=>by simp at h
  | x :: l,y :: m,h=>by
    simp only [List.map_cons,List.cons.injEq] at h
    rw [pB h.1,uv h.2]
theorem gJ {s t:Stp} (h:stpK s=stpK t):s=t:=by
  obtain ⟨a,b,c⟩:=s
  obtain ⟨a',b',c'⟩:=t
  simp [stpK] at h
  obtain ⟨rfl,rfl,rfl⟩:=h
  rfl
noncomputable def ltP (s t:Stp):Bool:=ltK (stpK s) (stpK t)
theorem nq {P:Stp→Prop}:∀ {ks:List (List Key)},(∀ k∈ks,∃ s,k=stpK s∧P s)→∃ l:List Stp,ks=l.map stpK∧∀ s∈l,P s
  | [],_=>⟨[],rfl,fun s h=>nomatch h⟩
  | k :: ks,h=>by
    obtain ⟨s,rfl,p⟩:=h k List.mem_cons_self
    obtain ⟨l,rfl,q⟩:=nq fun k hk=>h k (List.mem_cons_of_mem _ hk)
    refine ⟨s :: l,rfl,fun t ht=>?_⟩
    rcases List.mem_cons.mp ht with rfl | ht
    · exact p
    · exact q t ht
noncomputable abbrev Kn:=List (List Key × D)
noncomputable def StD (P:Stp→Prop) (kvs:Kn):Prop:=(∀ p∈kvs,∃ s,p.1=stpK s∧P s)∧(kvs.map (·.1)).Nodup
theorem sH {κ β:Type} [DecidableEq κ] (kvs:List (κ × β)) (k:κ) (v:β):(putG kvs k v).map (·.1)=if k∈kvs.map (·.1) then kvs.map (·.1) else kvs.map (·.1)++[k]:=by
  unfold putG
  by_cases h:k∈kvs.map (·.1)
  · have:(kvs.any fun kv=>decide (kv.1=k))=true:=by
      obtain ⟨p,hp,e⟩:=List.mem_map.mp h
      exact List.any_eq_true.mpr ⟨p,hp,decide_eq_true e⟩
    rw [if_pos this,if_pos h,List.map_map]
    apply List.map_congr_left
    intro p _
    show (if p.1=k then (p.1,v) else p).1=p.1
    split <;> rfl
  · have:¬ (kvs.any fun kv=>decide (kv.1=k))=true:=by
      intro z
      obtain ⟨p,hp,e⟩:=List.any_eq_true.mp z
      exact h (List.mem_map.mpr ⟨p,hp,of_decide_eq_true e⟩)
    rw [if_neg this,if_neg h,List.map_append]
    rfl
theorem StD.put {P:Stp→Prop} {kvs:Kn} {s:Stp} {d:D} (h:StD P kvs) (hs:P s):StD P (putG kvs (stpK s) d):=by
  refine ⟨fun p hp=>?_,?_⟩
  · rcases u5 hp with e | e
    · exact ⟨s,e,hs⟩
    · obtain ⟨q,hq,e⟩:=List.mem_map.mp e
      rw [← e]
      exact h.1 q hq
  · rw [sH]
    split
    · exact h.2
    · rename_i hn
      exact List.nodup_append.mpr ⟨h.2,by simp,fun a ha b hb e=>by
        have:b=stpK s:=by simpa using hb
        subst this; subst e; exact hn ha⟩
theorem StD.nil {P:Stp→Prop}:StD P []:=⟨(fun p hp=>nomatch hp),List.nodup_nil⟩

theorem wD {K G:Prop} (pk:K) (h:K→G):G:=h pk
theorem sW {α:Type} (l:List α):l.filter (fun _=>true)=l:=List.filter_eq_self.mpr fun _ _=>rfl
theorem qW {n:Nat} {x:D} (h:okD n x=true):eqD x x=true:=SeqAt.eqv_refl _ (il n x h).1
theorem onD {d:D} {f:D→Prop} {k:Kt f}:onK d k=f d:=rfl
theorem xQ {c:Nat}:inS ⟨#[c]⟩ abc=isLet c:=by
  rw [xH]
  have:abc.cps.toList=(List.range 26).map (97 + ·):=oW
  rw [this]
  apply Bool.eq_iff_iff.mpr
  simp only [decide_eq_true_eq,isLet,List.mem_map,List.mem_range]
  constructor
  · rintro ⟨i,hi,rfl⟩; walk_at "l"
  · intro h; exact ⟨c - 97,by walk_at "l",by walk_at "l"⟩
noncomputable def pC:D→Bool
  | .str x=>decide (1≤x.length∧x.length≤6) && (sg x).all isLet
  | _=>false
noncomputable def i_ (x:Str):Bool:=(decide (1≤x.length∧x.length≤6) && (sg x).all isLet) || decide (x = "*")
noncomputable def fD:D→Bool
  | .str x=>i_ x
  | _=>false
noncomputable def m5 (many:Int):D→Bool
  | .int i=>decide (0≤i∧i<many)
  | _=>false
noncomputable def bV (many:Int):D→Bool
  | .tup [a,b,c]=>m5 many a && (fD b && m5 many c)
  | _=>false
noncomputable def dC:D→D→Bool
  | .int many,.list xs=>decide (1≤many) && xs.all (bV many)
  | _,_=>false
theorem lG {many:Int} (h:many<1) (dl:D):dC (.int many) dl=false:=by
  cases dl with
  | list xs =>
    show (decide (1≤many) && _)=false
    rw [decide_eq_false (by walk_at "l")]; rfl
  | _=>rfl
theorem pI {dm:D} (h:decide (dm.ty = "int")=false) (dl:D):dC dm dl=false:=by
  cases dm with
  | int i=>exact absurd (show decide ((D.int i).ty = "int")=true from rfl) (by rw [h]; exact Bool.noConfusion)
  | _=>cases dl <;> rfl
theorem fJ {x:Str}:i_ x=true↔Deed x:=by
  unfold i_ Deed Open lets
  simp only [Bool.or_eq_true,Bool.and_eq_true,decide_eq_true_eq,List.all_eq_true]
  constructor
  · rintro (⟨⟨h1,h2⟩,h3⟩ | h)
    · exact .inr ⟨h1,h2,h3⟩
    · exact .inl h
  · rintro (h | ⟨h1,h2,h3⟩)
    · exact .inr h
    · exact .inl ⟨⟨h1,h2⟩,h3⟩
theorem rB {many:Int} {s:Stp} (h:StOk many s):bV many (stpD s)=true:=by
  obtain ⟨a1,a2,a3,a4,a5⟩:=h
  show (decide (0≤s.1∧s.1<many) && (i_ s.2.1 && decide (0≤s.2.2∧s.2.2<many)))=true
  rw [decide_eq_true ⟨a1,a2⟩,fJ.mpr a3,decide_eq_true ⟨a4,a5⟩]
  rfl
noncomputable def Mde (steps out:List Stp):Prop:=out.Nodup∧(∀ s,s∈out↔s∈steps)∧(out.Pairwise fun a b=>ltP b a=false)
theorem dh {α β:Type} {f:α→β} {l:List α} (h:(l.map f).Nodup):l.Nodup:=by
  rw [List.Nodup,List.pairwise_map] at h
  exact h.imp fun hab e=>hab (by rw [e])
noncomputable def dsOf (steps:List Stp):List Str:=steps.map (·.2.1)
noncomputable def ju (steps:List Stp) (k:Nat):Prop:=∃ l:List Str,l.Nodup∧(∀ n,n∈l↔n∈dsOf steps∧n ≠ "*")∧l.length=k
noncomputable def pW (steps:List Stp) (c:Nat):Prop:=∃ l:List Stp,l.Nodup∧(∀ s,s∈l↔s∈steps)∧l.length=c
theorem oZ {α:Type} [DecidableEq α] {l m:List α} (h1:l.Nodup) (h2:m.Nodup) (h:∀ x,x∈l↔x∈m):l.length=m.length :=
  Nat.le_antisymm (TS.bZ h1 fun x hx=>(h x).mp hx) (TS.bZ h2 fun x hx=>(h x).mpr hx)
theorem ju.uniq {steps:List Stp} {j k:Nat} (a:ju steps j) (b:ju steps k):j=k:=by
  obtain ⟨l,n1,m1,rfl⟩:=a
  obtain ⟨m,n2,m2,rfl⟩:=b
  exact oZ n1 n2 fun x=>(m1 x).trans (m2 x).symm
theorem pW.uniq {steps:List Stp} {j k:Nat} (a:pW steps j) (b:pW steps k):j=k:=by
  obtain ⟨l,n1,m1,rfl⟩:=a
  obtain ⟨m,n2,m2,rfl⟩:=b
  exact oZ n1 n2 fun x=>(m1 x).trans (m2 x).symm
theorem ju.same {steps out:List Stp} {k:Nat} (h:∀ s,s∈out↔s∈steps) (a:ju steps k):ju out k:=by
  obtain ⟨l,n1,m1,e⟩:=a
  refine ⟨l,n1,fun n=>(m1 n).trans ?_,e⟩
  have:n∈dsOf steps↔n∈dsOf out:=by
    unfold dsOf
    simp only [List.mem_map]
    exact ⟨fun ⟨s,hs,e⟩=>⟨s,(h s).mpr hs,e⟩,fun ⟨s,hs,e⟩=>⟨s,(h s).mp hs,e⟩⟩
  rw [this]
noncomputable def Sml (many:Int) (c k:Nat):Prop:=many≤20∧c≤80∧k≤6
noncomputable def ir:WS :=
  (wSeq (wIfS (wOr (wNot (wB (wUn (fIsi "str") (wVar 0)))) (wNot (wB (gK fLe fLe (wC (.int 1)) (wUn fLen (wVar 0)) (wC (.int 6))))))
  (wRet (wC (.bl false)))
  cH)
  (wRet (wUn fAll (qi (u6 (wVar 0)) (gN 0) wYes (wOp (fIn false) (wVar 0) (wC (.str "abcdefghijklmnopqrstuvwxyz"))) 1 []))))
noncomputable def bC:SpD:=fun ds Q=>∃ d:D,ds=[d]∧Q .sh (.bl (pC d))
theorem nG (ds Q) (h:bC ds Q):ds.length=["thing"].length:=by obtain ⟨_,rfl,_⟩:=h; rfl
theorem rT:∀ ds Q,bC ds Q→ir { nx:=fun _=>Q .sh .non,rt:=Q } (bj 1 ds):=by
  rintro ds Q ⟨d,rfl,h⟩
  unfold ir
  cases d with
  | str x =>
    have h:Q .sh (.bl (decide (1≤x.length∧x.length≤6) && (sg x).all isLet)):=h
    walk_at "q"
    refine R.F rfl ?_
    walk_at "q"
    refine R.D (fun h1=>?_) fun h1=>?_
    · walk_at "q"
      refine R.B (fun h2=>?_) fun h2=>?_
      rotate_left
      · have h2:x.length≤6:=by simp at h2; walk_at "l"
        walk_at "q"
        refine eZ (fun _=>true) (fun d=>match d with
          | .str z=>.bl (inS z abc)
          | d=>d) (fun ρ=>∃ o,ρ=[o]) _ _ _ ⟨_,rfl⟩ ?_ ?_
        · rintro y hy ρ ⟨o,rfl⟩ N1 N2 _ h2
          obtain ⟨c,hc,rfl⟩:=List.mem_map.mp hy
          walk_at "q"
          exact ⟨.inl rfl,h2 _ ⟨_,rfl⟩ rfl⟩
        · rw [sW]
          refine ⟨(sg x).map isLet,?_,?_⟩
          · unfold sgnD
            rw [List.map_map,List.map_map]
            refine List.map_congr_left fun c _=>?_
            show D.bl (inS ⟨#[c]⟩ abc)=_
            rw [xQ]; rfl
          · rw [decide_eq_true (by walk_at "l"),Bool.true_and] at h
            rw [List.all_map]
            exact h
      · have h2:¬ x.length≤6:=by simp at h2; walk_at "l"
        walk_at "q"
        rw [decide_eq_false (by walk_at "l"),Bool.false_and] at h
        exact h
    · walk_at "q"
      rw [decide_eq_false (by walk_at "l"),Bool.false_and] at h
      exact h
  | _ =>
    have h:Q .sh (.bl false):=h
    walk_at "q"
    refine R.T rfl ?_
    walk_at "q"
    exact h
noncomputable def fK:WS :=
  (wRet (lJ (wUn (fIsi "int") (wVar 0)) (uA (wUn (fIsi "bool") (wVar 0)))))
noncomputable def a_:SpD:=fun ds Q=>∃ d:D,ds=[d]∧Q .sh (.bl (decide (d.ty = "int")))
theorem mZ (ds Q) (h:a_ ds Q):ds.length=["thing"].length:=by obtain ⟨_,rfl,_⟩:=h; rfl
theorem qe:∀ ds Q,a_ ds Q→fK { nx:=fun _=>Q .sh .non,rt:=Q } (bj 1 ds):=by
  rintro ds Q ⟨d,rfl,h⟩
  unfold fK
  walk_at "q"
  cases d <;> first
    | (refine R.F rfl ?_; walk_at "q"; exact h)
    | (refine R.T rfl ?_; walk_at "q"; first | exact h | (refine R.T rfl ?_; walk_at "q"; exact h) | (refine R.F rfl ?_; walk_at "q"; exact h))
noncomputable def fM:WS :=
  (wRet (wUn d_ (qi (lW (wOp fIx (wVar 0) (wC (.int 1)))) (gN 0) wYes (wOp fIx (wVar 0) (wC (.int 1))) 1 [])))
noncomputable def bW:SpD:=fun ds Q=>∃ (many:Int) (steps:List Stp),ds=[mD many steps]∧steps.length≤63∧∀ names:List Str,names.Nodup→(∀ n,n∈names↔n∈dsOf steps)→Q (.ow true) (.list (names.map .str))
theorem lY (ds Q) (h:bW ds Q):ds.length=["m"].length:=by obtain ⟨_,_,rfl,_⟩:=h; rfl
theorem qw:∀ ds Q,bW ds Q→fM { nx:=fun _=>Q .sh .non,rt:=Q } (bj 1 ds):=by
  rintro ds Q ⟨many,steps,rfl,hz,h⟩
  unfold fM mD
  walk_at "q"
  refine eZ (fun _=>true) (fun d=>match d with
    | .tup [.int p,.str d,.int r]=>.str d
    | d=>d) (fun ρ=>∃ o,ρ=[o]) _ _ _ ⟨_,rfl⟩ ?_ ?_
  · rintro x hx ρ ⟨o,rfl⟩ N1 N2 _ h2
    obtain ⟨⟨p,d,r⟩,hs',rfl⟩:=List.mem_map.mp hx
    unfold stpD
    walk_at "q"
    exact ⟨.inl rfl,h2 _ ⟨_,rfl⟩ rfl⟩
  · rw [sW]
    refine ⟨(dsOf steps).map Sum.inr,false,?_,by simp [dsOf]; exact hz,?_,?_⟩
    · unfold dsOf
      rw [List.map_map,List.map_map,List.map_map]; rfl
    · intro k hk
      obtain ⟨x,_,rfl⟩:=List.mem_map.mp hk
      rfl
    · intro ms nd mm pw
      have hall:∀ k∈ms,∃ x,k=Sum.inr x∧x∈dsOf steps:=fun k hk=>by
        obtain ⟨x,hx,rfl⟩:=List.mem_map.mp ((mm k).mp hk)
        exact ⟨x,rfl,hx⟩
      obtain ⟨names,rfl⟩:∃ names:List Str,ms=names.map Sum.inr:=by
        clear nd mm pw
        induction ms with
        | nil=>exact ⟨[],rfl⟩
        | cons k ms ih =>
          obtain ⟨x,rfl,_⟩:=hall k List.mem_cons_self
          obtain ⟨l,rfl⟩:=ih fun k hk=>hall k (List.mem_cons_of_mem _ hk)
          exact ⟨x :: l,rfl⟩
      have e:(names.map (Sum.inr:Str→Key)).map keyD=names.map D.str:=by rw [List.map_map]; rfl
      rw [e]
      refine h names (dh nd) fun n=>?_
      have:=mm (Sum.inr n)
      simpa using this

noncomputable def cI:WS :=
  (wSeq (wIfS (wB (wOp fLt (wVar 1) (wUn fLen (wVar 0))))
  (wRet (wOp fIx (wVar 0) (wVar 1)))
  cH)
  (wRet (wC (.int 0))))
noncomputable def az:SpD:=fun ds Q=>∃ (ns:List Int) (k:Int),ds=[.list (ns.map .int),.int k]∧0≤k∧Q .sh (.int (ns.getD k.toNat 0))
theorem gD (ds Q) (h:az ds Q):ds.length=["_law_script", "_law_k"].length:=by obtain ⟨_,_,rfl,_⟩:=h; rfl
theorem jF:∀ ds Q,az ds Q→cI { nx:=fun _=>Q .sh .non,rt:=Q } (bj 2 ds):=by
  rintro ds Q ⟨ns,k,rfl,hk,h⟩
  unfold cI
  walk_at "q"
  refine R.D (fun hl=>?_) fun hl=>?_
  · walk_at "q"
    have hn:k.toNat<ns.length:=by walk_at "l"
    refine ⟨.int ns[k.toNat],?_,?_⟩
    · have:=atI_nat (xs:=ns.map D.int) (j:=k.toNat) (v:=.int ns[k.toNat]) (by simp [hn])
      rwa [Int.toNat_of_nonneg hk] at this
    · show Q .sh _; simpa [List.getD,hn] using h
  · walk_at "q"
    have:ns.getD k.toNat 0=0:=by
      have:ns.length≤k.toNat:=by walk_at "l"
      simp [List.getD,List.getElem?_eq_none this]
    rwa [this] at h

noncomputable def dU:WS :=
  (wSeq (wSet 1 (wLst (aj (wC (.str "*")) (aj (wC (.str "a")) (aj (wC (.str "ab")) (aj (wC (.str "abc")) (aj (wC (.str "b")) (aj (wC (.str "zzzzzz")) (aj (wC (.str "za")) (aj (wC (.str "zb")) (aj (wC (.str "zc")) (aj (wC (.str "q")) wNil))))))))))))
  (wRet (wOp fIx (wVar 1) (wOp fMod (wVar 0) (wC (.int 10))))))
noncomputable def bH:SpD:=fun ds Q=>∃ c:Int,ds=[.int c]∧∀ n:Str,Deed n→Q .sh (.str n)
theorem kO (ds Q) (h:bH ds Q):ds.length=["_law_cell"].length:=by obtain ⟨_,rfl,_⟩:=h; rfl
theorem pF {x:Str} (h:i_ x=true):Deed x:=fJ.mp h
theorem nZ:∀ ds Q,bH ds Q→dU { nx:=fun _=>Q .sh .non,rt:=Q } (bj 2 ds):=by
  rintro ds Q ⟨c,rfl,h⟩
  unfold dU
  walk_at "q"
  have b1:=Int.emod_nonneg c (show (10:Int)≠0 by decide)
  have b2:=Int.emod_lt_of_pos c (show (0:Int)<10 by decide)
  obtain e | e | e | e | e | e | e | e | e | e:c % 10=0∨c % 10=1∨c % 10=2∨c % 10=3∨c % 10=4∨c % 10=5∨c % 10=6∨c % 10=7∨c % 10=8∨c % 10=9:=by walk_at "l"
  all_goals
    rw [e]
    exact ⟨_,rfl,h _ (pF (by decide +kernel))⟩
noncomputable def cB:WS :=
  (wSeq (wSet 2 (wOp fMod (wOp fDiv (wVar 0) (wC (.int 8))) (wOp fPow (wC (.int 10)) (wC (.int 59)))))
  (wFrz 1 (wRet (wOp fIx (wLst (aj (wUn fNeg (wC (.int 1))) (aj (wOp fSub (wUn fNeg (wC (.int 1))) (wVar 2)) (aj (wVar 1) (aj (wOp fAdd (wVar 1) (wVar 2)) (aj (wC (.bl true)) (aj (wC .non) (aj (wC (.str "0")) (aj (wC (.bl false)) wNil))))))))) (wOp fMod (wVar 0) (wC (.int 8)))))))
noncomputable def aL:SpD:=fun ds Q=>∃ c many:Int,ds=[.int c,.int many]∧1≤many∧∀ d:D,m5 many d=false→d.flat=true→okD 10 d=true→Q .sh d
theorem fu (ds Q) (h:aL ds Q):ds.length=["_law_cell", "_law_many"].length:=by obtain ⟨_,_,rfl,_⟩:=h; rfl
theorem g_:∀ ds Q,aL ds Q→cB { nx:=fun _=>Q .sh .non,rt:=Q } (bj 3 ds):=by
  rintro ds Q ⟨c,many,rfl,hm,h⟩
  unfold cB
  walk_at "q"
  have cp:CPow 10 59:=by unfold CPow; decide
  have g0:=Int.emod_nonneg (c / 8) (show (100000000000000000000000000000000000000000000000000000000000:Int)≠0 by decide)
  refine ⟨cp,?_⟩
  generalize c / 8 % 100000000000000000000000000000000000000000000000000000000000=big at *
  have b1:=Int.emod_nonneg c (show (8:Int)≠0 by decide)
  have b2:=Int.emod_lt_of_pos c (show (0:Int)<8 by decide)
  obtain e | e | e | e | e | e | e | e:c % 8=0∨c % 8=1∨c % 8=2∨c % 8=3∨c % 8=4∨c % 8=5∨c % 8=6∨c % 8=7:=by walk_at "l"
  all_goals
    rw [e]
    refine ⟨_,rfl,?_⟩
    walk_at "q"
  · exact h _ rfl rfl rfl
  · exact h _ (decide_eq_false (by walk_at "l")) rfl rfl
  · exact h _ (decide_eq_false (by walk_at "l")) rfl rfl
  · exact h _ (decide_eq_false (by walk_at "l")) rfl rfl
  · exact h _ rfl rfl rfl
  · exact h _ rfl rfl rfl
  · exact h _ rfl rfl (by decide +kernel)
  · exact h _ rfl rfl rfl
noncomputable def cL:WS :=
  (wSeq (wSet 1 (wC (.str "abcdefghijklmnopqrstuvwxyz")))
  (wSeq (wSet 2 (wOp vf (wOp fIx (wVar 1) (wOp fMod (wOp fDiv (wVar 0) (wC (.int 13))) (wC (.int 26)))) (wOp fAdd (wC (.int 7)) (wOp fMod (wOp fDiv (wVar 0) (wC (.int 338))) (wC (.int 5))))))
  (wSeq (wFrz 2 (wSet 3 (wLst (aj (wC (.str "")) (aj (wC (.str "A")) (aj (wVar 2) (aj (wC (.str "**")) (aj (wC (.str "a ")) (aj (wC (.str " a")) (aj (wC (.str "a1")) (aj (wC (.int 5)) (aj (wC .non) (aj (wC (.bl true)) (aj (wTup (aj (wC (.str "a")) wNil)) (aj (wC (.str "a*")) (aj (wLst (aj (wC (.str "a")) wNil)) wNil))))))))))))))))
  (mH 3 (wOp fMod (wVar 0) (wC (.int 13)))))))
noncomputable def aU:SpD:=fun ds Q=>∃ c:Int,ds=[.int c]∧∀ d:D,fD d=false→okD 10 d=true→Q (outM d) d
theorem gF (ds Q) (h:aU ds Q):ds.length=["_law_cell"].length:=by obtain ⟨_,rfl,_⟩:=h; rfl
theorem jE:∀ ds Q,aU ds Q→cL { nx:=fun _=>Q .sh .non,rt:=Q } (bj 4 ds):=by
  rintro ds Q ⟨c,rfl,h⟩
  unfold cL
  walk_at "q"
  obtain ⟨ch,hc,hlet⟩:=wA (c / 13)
  have a1:=Int.emod_nonneg (c / 338) (show (5:Int)≠0 by decide)
  have a2:=Int.emod_lt_of_pos (c / 338) (show (0:Int)<5 by decide)
  refine ⟨ch,hc,?_⟩
  rw [jL]
  refine ⟨⟨by walk_at "l",by walk_at "l",by decide⟩,?_⟩
  have wl:(repS (7+c / 338 % 5) ⟨#[ch]⟩).length=(7+c / 338 % 5).toNat:=by rw [pJ,jL,Nat.mul_one]
  have w1:fD (.str (repS (7+c / 338 % 5) ⟨#[ch]⟩))=false:=by
    show i_ _=false
    cases z:i_ (repS (7+c / 338 % 5) ⟨#[ch]⟩) with
    | false=>rfl
    | true =>
      have:=(fJ.mp z).len
      walk_at "l"
  have w2:okD 10 (.str (repS (7+c / 338 % 5) ⟨#[ch]⟩))=true:=by
    show PyData.strOk _=true
    rw [sJ]
    intro x hx
    have hx:x∈(List.replicate (7+c / 338 % 5).toNat [ch]).flatten:=by simpa [repS,sg] using hx
    obtain ⟨l,hl,hm⟩:=List.mem_flatten.mp hx
    obtain ⟨_,rfl⟩:=List.mem_replicate.mp hl
    obtain rfl:x=ch:=by simpa using hm
    simp [isLet] at hlet
    walk_at "l"
  generalize repS (7+c / 338 % 5) ⟨#[ch]⟩=word at *
  have b1:=Int.emod_nonneg c (show (13:Int)≠0 by decide)
  have b2:=Int.emod_lt_of_pos c (show (0:Int)<13 by decide)
  obtain e | e | e | e | e | e | e | e | e | e | e | e | e:c % 13=0∨c % 13=1∨c % 13=2∨c % 13=3∨c % 13=4∨c % 13=5∨c % 13=6∨c % 13=7∨c % 13=8∨c % 13=9∨c % 13=10∨c % 13=11∨c % 13=12:=by walk_at "l"
  all_goals
    rw [e]
    refine ⟨_,rfl,?_⟩
    walk_at "q"
  · exact h (.str "") (by decide +kernel) (by decide +kernel)
  · exact h (.str "A") (by decide +kernel) (by decide +kernel)
  · exact h (.str word) w1 w2
  · exact h (.str "**") (by decide +kernel) (by decide +kernel)
  · exact h (.str "a ") (by decide +kernel) (by decide +kernel)
  · exact h (.str " a") (by decide +kernel) (by decide +kernel)
  · exact h (.str "a1") (by decide +kernel) (by decide +kernel)
  · exact h (.int 5) rfl rfl
  · exact h .non rfl rfl
  · exact h (.bl true) rfl rfl
  · exact h (.tup [.str "a"]) rfl (by decide +kernel)
  · exact h (.str "a*") (by decide +kernel) (by decide +kernel)
  · exact h (.list [.str "a"]) rfl (by decide +kernel)
noncomputable def cJ:WS :=
  (wRet (wOp fIx (wLst (aj (wC (.int 0)) (aj (wUn fNeg (wC (.int 1))) (aj (wOp fSub (wUn fNeg (wC (.int 1))) (wOp fMod (wOp fDiv (wVar 0) (wC (.int 8))) (wOp fPow (wC (.int 10)) (wC (.int 59))))) (aj (wC (.bl true)) (aj (wC (.bl false)) (aj (wC .non) (aj (wC (.str "3")) (aj (wTup (aj (wC (.int 1)) wNil)) wNil))))))))) (wOp fMod (wVar 0) (wC (.int 8)))))
noncomputable def aW:SpD:=fun ds Q=>∃ c:Int,ds=[.int c]∧∀ d:D,(∀ dl,dC d dl=false)→Q .sh d
theorem gr (ds Q) (h:aW ds Q):ds.length=["_law_cell"].length:=by obtain ⟨_,rfl,_⟩:=h; rfl
theorem jq:∀ ds Q,aW ds Q→cJ { nx:=fun _=>Q .sh .non,rt:=Q } (bj 1 ds):=by
  rintro ds Q ⟨c,rfl,h⟩
  unfold cJ
  walk_at "q"
  have cp:CPow 10 59:=by unfold CPow; decide
  have g0:=Int.emod_nonneg (c / 8) (show (100000000000000000000000000000000000000000000000000000000000:Int)≠0 by decide)
  refine ⟨cp,?_⟩
  generalize c / 8 % 100000000000000000000000000000000000000000000000000000000000=big at *
  have b1:=Int.emod_nonneg c (show (8:Int)≠0 by decide)
  have b2:=Int.emod_lt_of_pos c (show (0:Int)<8 by decide)
  obtain e | e | e | e | e | e | e | e:c % 8=0∨c % 8=1∨c % 8=2∨c % 8=3∨c % 8=4∨c % 8=5∨c % 8=6∨c % 8=7:=by walk_at "l"
  all_goals
    rw [e]
    refine ⟨_,rfl,?_⟩
    walk_at "q"
    first
      | exact h _ (pI rfl)
      | exact h _ (lG (by walk_at "l"))
noncomputable def cY:WS :=
  (wSeq (wSet 2 (wLst wNil))
  (wSeq (wFrz 1 (wFor (jU (wVar 1)) (gN 3)
  (wIfS (wAnd (wB (wOp (fInR true) (wVar 3) (wVar 2))) (wAnd (wB (wOp (fIn false) (wOp fIx (wVar 3) (wC (.int 1))) (wTup (aj (wC (.str "*")) (aj (wC (.str "a")) (aj (wC (.str "ab")) (aj (wC (.str "zzzzzz")) wNil))))))) (wB (wOp fLt (wUn fLen (wVar 2)) (wC (.int 80))))))
  (wFrz 3 (wApp (wpN 2) (wVar 3)))
  cH)))
  (wSeq (wIfS (wB (wOp fGt (wVar 0) (wC (.int 20))))
  (wRet (wLst wNil))
  cH)
  (p8 2))))
theorem vd {n:Str} {ys:List Str} (h:inD (.str n) (ys.map D.str)=true):n∈ys:=by
  unfold inD at h
  obtain ⟨y,hy,e⟩:=List.any_eq_true.mp h
  obtain ⟨z,hz,rfl⟩:=List.mem_map.mp hy
  have:=(iW (.str z) (.str n) rfl rfl).mp e
  cases this
  exact hz
noncomputable def bw:SpD:=fun ds Q=>∃ (many:Int) (steps:List Stp),ds=[.int many,.list (steps.map stpD)]∧(∀ s∈steps,StOk many s)∧steps.length≤200 ∧
  ∀ kept:List Stp,kept.Nodup→(∀ s∈kept,StOk many s∧s.2.1∈([("*" : Str), "a", "ab", "zzzzzz"]:List Str))→kept.length≤80→kept.length≤steps.length→Q (.ow true) (.list (kept.map stpD))
theorem jf (ds Q) (h:bw ds Q):ds.length=["_law_many", "_law_steps_here"].length:=by obtain ⟨_,_,rfl,_⟩:=h; rfl
theorem m8:∀ ds Q,bw ds Q→cY { nx:=fun _=>Q .sh .non,rt:=Q } (bj 4 ds):=by
  rintro ds Q ⟨many,steps,rfl,hs,hz,h⟩
  unfold cY
  walk_at "q"
  refine oN _ (fun i ρ=>∃ (kept:List Stp) (o:Option Sl),kept.Nodup∧(∀ s∈kept,StOk many s∧s.2.1∈([("*" : Str), "a", "ab", "zzzzzz"]:List Str))∧(kept.length≤80∧kept.length≤i)∧ρ=[some (.sh (.int many)),some (.sh (.list (steps.map stpD))),some (.ow true (.list (kept.map stpD))),o]) ⟨[],_,List.nodup_nil,(fun _ h=>nomatch h),⟨by simp,Nat.le_refl _⟩,rfl⟩ ?_ ?_
  · rintro i x ρ hx ⟨kept,o,hn,hk,hl,rfl⟩ N hN
    obtain ⟨s,hs',rfl⟩:=List.mem_map.mp (List.mem_of_getElem? hx)
    have hso:=hs s hs'
    obtain ⟨p,n,q⟩:=s
    rw [show stpD (p,n,q)=D.tup [.int p,.str n,.int q] from rfl]
    walk_at "q"
    have ok1:∀ s:Stp,StOk many s→okD 11 (stpD s)=true:=fun s h=>pP 10 h
    have has:anyD (kept.map stpD) (.tup [.int p,.str n,.int q])=decide ((p,n,q)∈kept):=by
      unfold anyD
      rw [List.any_map]
      apply Bool.eq_iff_iff.mpr
      rw [List.any_eq_true,decide_eq_true_eq]
      constructor
      · rintro ⟨s,hs,e⟩
        have:=(iW (stpD s) (stpD (p,n,q)) rfl rfl).mp e
        rw [← pB this]; exact hs
      · exact fun hm=>⟨_,hm,(iW _ _ rfl rfl).mpr rfl⟩
    rw [has]
    refine ⟨pP 11 hso,?_,?_⟩
    · exact n6 10 fun s h=>(hk s h).1
    by_cases hin:(p,n,q)∈kept
    · refine R.F (by simp [hin]) ?_
      walk_at "q"
      exact hN _ ⟨kept,_,hn,hk,⟨hl.1,Nat.le_succ_of_le hl.2⟩,rfl⟩
    refine R.T (by simp [hin]) ?_
    walk_at "q"
    refine ⟨rfl,rfl,?_⟩
    refine R.B (fun e=>?_) fun e=>?_
    · walk_at "q"
      refine R.D (fun z=>?_) fun z=>?_
      · walk_at "q"
        have hin4:n∈([("*" : Str), "a", "ab", "zzzzzz"]:List Str):=vd (ys:=["*", "a", "ab", "zzzzzz"]) e
        refine ⟨by walk_at "l",hN _ ⟨kept++[(p,n,q)],_,List.nodup_append.mpr ⟨hn,by simp,fun a ha b hb z=>?_⟩,fun s hs=>?_,⟨by simp; walk_at "l",by simp; walk_at "l"⟩,by rw [List.map_append]; rfl⟩⟩
        · have:b=(p,n,q):=by simpa using hb
          subst this; subst z; exact hin ha
        · rcases List.mem_append.mp hs with hs | hs
          · exact hk s hs
          · obtain rfl:s=_:=by simpa using hs
            exact ⟨hso,hin4⟩
      · walk_at "q"
        exact hN _ ⟨kept,_,hn,hk,⟨hl.1,Nat.le_succ_of_le hl.2⟩,rfl⟩
    · walk_at "q"
      exact hN _ ⟨kept,_,hn,hk,⟨hl.1,Nat.le_succ_of_le hl.2⟩,rfl⟩
  · rintro ρ ⟨kept,o,hn,hk,hl,rfl⟩
    walk_at "q"
    refine R.D (fun z=>?_) fun z=>?_
    · walk_at "q"
      exact h [] List.nodup_nil (fun _ h=>nomatch h) (by simp) (Nat.zero_le _)
    · walk_at "q"
      exact h kept hn hk hl.1 (by have:=hl.2; rwa [List.length_map] at this)
noncomputable def iG:WS :=
  (wRet (wOrV (bY bC (aj (wVar 0) wNil)) (lJ (wUn (fIsi "str") (wVar 0)) (wOp fEq (wVar 0) (wC (.str "*"))))))
noncomputable def cg:SpD:=fun ds Q=>∃ d:D,ds=[d]∧Q .sh (.bl (fD d))
theorem nH (ds Q) (h:cg ds Q):ds.length=["thing"].length:=by obtain ⟨_,rfl,_⟩:=h; rfl
theorem qN:∀ ds Q,cg ds Q→iG { nx:=fun _=>Q .sh .non,rt:=Q } (bj 1 ds):=by
  rintro ds Q ⟨d,rfl,h⟩
  unfold iG
  walk_at "q"
  refine ⟨_,rfl,?_⟩
  cases d with
  | str x =>
    have h:Q .sh (.bl ((decide (1≤x.length∧x.length≤6) && (sg x).all isLet) || decide (x = "*"))):=h
    rw [show pC (.str x)=(decide (1≤x.length∧x.length≤6) && (sg x).all isLet) from rfl]
    walk_at "q"
    refine R.B (fun e=>?_) fun e=>?_
    · walk_at "q"
      rw [e] at h
      exact h
    · walk_at "q"
      refine R.T rfl ?_
      walk_at "q"
      rw [e] at h
      exact h
  | _ =>
    have h:Q .sh (.bl false):=h
    simp only [pC]
    walk_at "q"
    refine R.F rfl ?_
    walk_at "q"
    exact h
noncomputable def fQ:WS :=
  (wRet (lJ (bY a_ (aj (wVar 1) wNil)) (gK fLe fLt (wC (.int 0)) (wVar 1) (wVar 0))))
noncomputable def bK:SpD:=fun ds Q=>∃ (many:Int) (d:D),ds=[.int many,d]∧Q .sh (.bl (m5 many d))
theorem mW (ds Q) (h:bK ds Q):ds.length=["many", "thing"].length:=by obtain ⟨_,_,rfl,_⟩:=h; rfl
theorem qp:∀ ds Q,bK ds Q→fQ { nx:=fun _=>Q .sh .non,rt:=Q } (bj 2 ds):=by
  rintro ds Q ⟨k,d,rfl,h⟩
  unfold fQ
  walk_at "q"
  refine ⟨_,rfl,?_⟩
  cases d with
  | int j =>
    have h:Q .sh (.bl (decide (0≤j∧j<k))):=h
    rw [show decide ((D.int j).ty = "int")=true from rfl]
    walk_at "q"
    refine R.D (fun h1=>?_) fun h1=>?_
    · walk_at "q"
      rwa [show decide (0≤j∧j<k)=decide (j<k) by simp [h1]] at h
    · walk_at "q"
      rwa [decide_eq_false (by walk_at "l")] at h
  | _ =>
    have h:Q .sh (.bl false):=h
    walk_at "q"
    exact h
noncomputable def cM:WS :=
  (wSeq (wIfS (wB (wOp fGt (wOp fIx (wVar 0) (wC (.int 0))) (wC (.int 20))))
  (gk "TooBig" (wC (.str "too many states")))
  cH)
  (wSeq (wIfS (wB (wOp fGt (wUn fLen (wOp fIx (wVar 0) (wC (.int 1)))) (wC (.int 80))))
  (gk "TooBig" (wC (.str "too many different steps")))
  cH)
  (wIfS (wB (wOp fGt (wUn fLen (qi (lW (bY bW (aj (wVar 0) wNil))) (gN 0) (wB (bY bC (aj (wVar 0) wNil))) (wVar 0) 1 [])) (wC (.int 6))))
  (gk "TooBig" (wC (.str "too many different open deeds")))
  cH)))
noncomputable def aV:SpD:=fun ds Q=>∃ (many:Int) (steps:List Stp) (k:Nat),ds=[mD many steps]∧steps.length≤63∧(∀ s∈steps,Deed s.2.1)∧ju steps k∧(Sml many steps.length k→Q .sh .non)∧(¬ Sml many steps.length k→Q (.ow false) (.str "TooBig"))
theorem gw (ds Q) (h:aV ds Q):ds.length=["m"].length:=by obtain ⟨_,_,_,rfl,_⟩:=h; rfl
theorem pU {n:Str} (h:Deed n):(decide (1≤n.length∧n.length≤6) && (sg n).all isLet)=true↔n ≠ "*" := by
  rcases h with rfl | h
  · exact ⟨fun z=>absurd z (by decide +kernel),fun z=>absurd rfl z⟩
  · refine ⟨fun _ e=>?_,fun _=>?_⟩
    · subst e
      have:=h.2.2 42 (by decide +kernel)
      exact absurd this (by decide)
    · simp only [Bool.and_eq_true,decide_eq_true_eq,List.all_eq_true]
      exact ⟨⟨h.1,h.2.1⟩,h.2.2⟩
theorem jz:∀ ds Q,aV ds Q→cM { nx:=fun _=>Q .sh .non,rt:=Q } (bj 1 ds):=by
  rintro ds Q ⟨many,steps,k,rfl,hz,hd,hk,h1,h2⟩
  unfold cM mD
  walk_at "q"
  refine R.D (fun a=>?_) fun a=>?_
  · walk_at "q"
    exact h2 fun z=>by have:=z.1; walk_at "l"
  walk_at "q"
  refine R.D (fun b=>?_) fun b=>?_
  · walk_at "q"
    exact h2 fun z=>by have:=z.2.1; walk_at "l"
  walk_at "q"
  refine ⟨many,steps,rfl,hz,fun names nd mm=>?_⟩
  walk_at "q"
  refine eZ (fun d=>match d with
    | .str x=>decide (1≤x.length∧x.length≤6) && (sg x).all isLet
    | _=>false) (fun d=>d) (fun ρ=>∃ o,ρ=[o]) _ _ _ ⟨_,rfl⟩ ?_ ?_
  · rintro x hx ρ ⟨o,rfl⟩ N1 N2 n1 n2
    obtain ⟨n,hn,rfl⟩:=List.mem_map.mp hx
    walk_at "q"
    refine ⟨_,rfl,?_⟩
    walk_at "q"
    try rw [show pC (.str n)=(decide (1≤n.length∧n.length≤6) && (sg n).all isLet) from rfl]
    cases e:(decide (1≤n.length∧n.length≤6) && (sg n).all isLet) with
    | true =>
      rw [if_pos rfl]
      exact ⟨.inl rfl,n2 _ ⟨_,rfl⟩ e⟩
    | false =>
      rw [if_neg Bool.false_ne_true]
      exact n1 _ ⟨_,rfl⟩ e
  · have e1:(names.map D.str).filter (fun d=>match d with
        | .str x=>decide (1≤x.length∧x.length≤6) && (sg x).all isLet
        | _=>false)=(names.filter fun x=>decide (1≤x.length∧x.length≤6) && (sg x).all isLet).map D.str:=by
      rw [List.filter_map]; rfl
    rw [e1,List.length_map,List.length_map]
    have hdd:∀ x∈names,Deed x:=fun x hx=>by
      obtain ⟨s,hs',e⟩:=List.mem_map.mp ((mm x).mp hx)
      rw [← e]; exact hd s hs'
    have hl:=hk.uniq ⟨names.filter fun x=>decide (1≤x.length∧x.length≤6) && (sg x).all isLet,nd.filter _,fun n=>by
      rw [List.mem_filter,← mm n]
      exact ⟨fun z=>⟨z.1,(pU (hdd n z.1)).mp z.2⟩,fun z=>⟨z.1,(pU (hdd n z.1)).mpr z.2⟩⟩,rfl⟩
    rw [← hl]
    refine R.D (fun c=>?_) fun c=>?_
    · walk_at "q"
      exact h2 fun z=>by have:=z.2.2; walk_at "l"
    · walk_at "q"
      exact h1 ⟨by walk_at "l",by walk_at "l",by walk_at "l"⟩

noncomputable def cG:WS :=
  (wSeq (wSet 3 (wOp fMod (wVar 0) (wC (.int 12))))
  (wSeq (wSet 4 (wOp fDiv (wVar 0) (wC (.int 12))))
  (wSeq (wIfS (wB (wOp fLt (wVar 3) (wC (.int 3))))
  (wRet (wTup (aj (bY aL (aj (wVar 4) (aj (wVar 2) wNil))) (aj (wOp fIx (wVar 1) (wC (.int 1))) (aj (wOp fIx (wVar 1) (wC (.int 2))) wNil)))))
  cH)
  (wSeq (wIfS (wB (wOp fLt (wVar 3) (wC (.int 6))))
  (wRet (wTup (aj (wOp fIx (wVar 1) (wC (.int 0))) (aj (wOp fIx (wVar 1) (wC (.int 1))) (aj (bY aL (aj (wVar 4) (aj (wVar 2) wNil))) wNil)))))
  cH)
  (wSeq (wIfS (wB (wOp fLt (wVar 3) (wC (.int 9))))
  (wRet (wTup (aj (wOp fIx (wVar 1) (wC (.int 0))) (aj (bY aU (aj (wVar 4) wNil)) (aj (wOp fIx (wVar 1) (wC (.int 2))) wNil)))))
  cH)
  (wSeq (wSet 5 (wLst (aj (wLst (aj (wOp fIx (wVar 1) (wC (.int 0))) (aj (wOp fIx (wVar 1) (wC (.int 1))) (aj (wOp fIx (wVar 1) (wC (.int 2))) wNil)))) (aj (wSl (wVar 1) dY (jt (wC (.int 2)))) (aj (wOp fAdd (wVar 1) (wTup (aj (wC (.int 0)) wNil))) (aj (wC .non) (aj (wC (.str "0 a 0")) (aj (wC (.int 7)) (aj (wTup wNil) wNil)))))))))
  (mH 5 (wOp fMod (wVar 4) (wC (.int 7))))))))))
noncomputable def aY:SpD:=fun ds Q=>∃ (c:Int) (s:Stp) (many:Int),ds=[.int c,stpD s,.int many]∧StOk many s∧∀ d:D,bV many d=false→okD 11 d=true→Q (outM d) d
theorem gB (ds Q) (h:aY ds Q):ds.length=["_law_cell", "_law_step", "_law_many"].length:=by obtain ⟨_,_,_,rfl,_⟩:=h; rfl
theorem jr:∀ ds Q,aY ds Q→cG { nx:=fun _=>Q .sh .non,rt:=Q } (bj 6 ds):=by
  rintro ds Q ⟨c,⟨p,n,q⟩,many,rfl,hs,h⟩
  unfold cG stpD
  walk_at "q"
  obtain ⟨p0,p1,hn,q0,q1⟩:=hs
  have hno:PyData.strOk n=true:=hn.ok
  have t3:∀ x y z:D,okD 10 x=true→okD 10 y=true→okD 10 z=true→okD 11 (.tup [x,y,z])=true:=fun x y z a b c=>by
    show (okD 10 x && (okD 10 y && (okD 10 z && true)))=true
    rw [a,b,c]; rfl
  have out:∀ d:D,d.flat=true→bV many d=false→okD 11 d=true→Q .sh d:=fun d hf a b=>by
    have:=h d a b
    rwa [outM,hf] at this
  refine R.D (fun k1=>?_) fun k1=>?_
  · walk_at "q"
    refine ⟨_,_,rfl,by walk_at "l",fun d hd hf ho=>?_⟩
    walk_at "q"
    simp only [hf,cond_true]
    refine out (.tup [d,.str n,.int q]) (by simp [D.flat,flats,hf]) ?_ (t3 d (.str n) (.int q) ho hno rfl)
    show (m5 many d && _)=false
    rw [hd]; rfl
  walk_at "q"
  refine R.D (fun k2=>?_) fun k2=>?_
  · walk_at "q"
    refine ⟨_,_,rfl,by walk_at "l",fun d hd hf ho=>?_⟩
    walk_at "q"
    simp only [hf,cond_true]
    refine out (.tup [.int p,.str n,d]) (by simp [D.flat,flats,hf]) ?_ (t3 (.int p) (.str n) d rfl hno ho)
    show (_ && (_ && m5 many d))=false
    rw [hd]; simp
  walk_at "q"
  refine R.D (fun k3=>?_) fun k3=>?_
  · walk_at "q"
    refine ⟨_,rfl,fun d hd ho=>?_⟩
    have no:bV many (.tup [.int p,d,.int q])=false:=by
      show (_ && (fD d && _))=false
      rw [hd]; simp
    have:=h (.tup [.int p,d,.int q]) no (t3 (.int p) d (.int q) rfl ho rfl)
    have fl:(D.tup [.int p,d,.int q]).flat=d.flat:=by simp [D.flat,flats]
    rw [outM,fl] at this
    rw [outM]
    cases hf:d.flat with
    | true =>
      rw [hf] at this
      simp only [cond_true] at this ⊢
      walk_at "q"
      simp only [hf,cond_true]
      exact this
    | false =>
      rw [hf] at this
      simp only [cond_false] at this ⊢
      walk_at "q"
      simp only [hf,cond_false]
      exact this
  walk_at "q"
  refine ⟨by decide,by simp,?_⟩
  have b1:=Int.emod_nonneg (c / 12) (show (7:Int)≠0 by decide)
  have b2:=Int.emod_lt_of_pos (c / 12) (show (0:Int)<7 by decide)
  obtain e | e | e | e | e | e | e:c / 12 % 7=0∨c / 12 % 7=1∨c / 12 % 7=2∨c / 12 % 7=3∨c / 12 % 7=4∨c / 12 % 7=5∨c / 12 % 7=6:=by walk_at "l"
  all_goals
    rw [e]
    refine ⟨_,rfl,?_⟩
    walk_at "q"
  · refine h (.list [.int p,.str n,.int q]) rfl ?_
    show (okD 10 (.int p) && (okD 10 (.str n) && (okD 10 (.int q) && true)))=true
    rw [show okD 10 (.str n)=true from hno]; rfl
  · rw [show cutG [D.int p,.str n,.int q] none (some 2)=[.int p,.str n] from rfl]
    refine out (.tup [.int p,.str n]) rfl rfl ?_
    show (okD 10 (.int p) && (okD 10 (.str n) && true))=true
    rw [show okD 10 (.str n)=true from hno]; rfl
  · refine out (.tup [.int p,.str n,.int q,.int 0]) rfl rfl ?_
    show (okD 10 (.int p) && (okD 10 (.str n) && (okD 10 (.int q) && (okD 10 (.int 0) && true))))=true
    rw [show okD 10 (.str n)=true from hno]; rfl
  · exact out .non rfl rfl rfl
  · exact out (.str "0 a 0") rfl rfl (by decide +kernel)
  · exact out (.int 7) rfl rfl rfl
  · exact out (.tup []) rfl rfl rfl
noncomputable def dF:WS :=
  (wSeq (wSet 2 (wLst wNil))
  (wSeq (wFrz 0 (wFor (jU (wSl (wVar 0) (jt (wC (.int 4))) (jt (wC (.int 94))))) (gN 3)
  (wApp (wpN 2) (wTup (aj (wOp fMod (wVar 3) (wVar 1)) (aj (bY bH (aj (wOp fDiv (wOp fDiv (wVar 3) (wVar 1)) (wVar 1)) wNil)) (aj (wOp fMod (wOp fDiv (wVar 3) (wVar 1)) (wVar 1)) wNil)))))))
  (p8 2)))
noncomputable def bx:SpD:=fun ds Q=>∃ (ns:List Int) (many:Int),ds=[.list (ns.map .int),.int many]∧ns.length≤63∧1≤many∧many≤30∧∀ steps:List Stp,(∀ s∈steps,StOk many s)→steps.length≤59→Q (.ow true) (.list (steps.map stpD))
theorem jg (ds Q) (h:bx ds Q):ds.length=["_law_script", "_law_many"].length:=by obtain ⟨_,_,rfl,_⟩:=h; rfl
theorem oE {l:List Int} {i:Nat} {x:D} (h:(l.map D.int)[i]? = some x):∃ c,l[i]? = some c∧x=.int c:=by
  rw [List.getElem?_map] at h
  cases e:l[i]? with
  | none=>rw [e] at h; cases h
  | some c=>rw [e] at h; exact ⟨c,rfl,(Option.some.inj h).symm⟩
theorem uL (l:List Int) (lo hi:Option Int):cutG (l.map D.int) lo hi=(cutG l lo hi).map D.int:=by
  unfold cutG
  rw [List.length_map,List.map_take,List.map_drop]
theorem lZ:∀ ds Q,bx ds Q→dF { nx:=fun _=>Q .sh .non,rt:=Q } (bj 4 ds):=by
  rintro ds Q ⟨ns,many,rfl,hns,m1,m2,h⟩
  unfold dF
  walk_at "q"
  refine .inl ⟨lO ns,?_⟩
  rw [uL]
  have hc:(cutG ns (some 4) (some 94)).length≤59:=by
    unfold cutG
    simp [HT.sIx]
    walk_at "l"
  generalize cutG ns (some 4) (some 94)=cells at *
  have em:∀ x:Int,0≤x % many∧x % many<many:=fun x=>⟨Int.emod_nonneg _ (by walk_at "l"),Int.emod_lt_of_pos x (by walk_at "l")⟩
  refine oN _ (fun i ρ=>∃ (steps:List Stp) (o:Option Sl),(∀ s∈steps,StOk many s)∧steps.length=i∧ρ=[some (.sh (.list (ns.map .int))),some (.sh (.int many)),some (.ow true (.list (steps.map stpD))),o]) ⟨[],_,(fun _ h=>nomatch h),rfl,rfl⟩ ?_ ?_
  · rintro i x ρ hx ⟨steps,o,hs,hl,rfl⟩ N hN
    have hi:=(List.getElem?_eq_some_iff.mp hx).1
    rw [List.length_map] at hi
    obtain ⟨c,_,rfl⟩:=oE hx
    walk_at "q"
    refine ⟨by walk_at "l",⟨by walk_at "l",by walk_at "l"⟩,⟨by walk_at "l",by walk_at "l"⟩,_,rfl,fun n hn=>?_⟩
    walk_at "q"
    refine ⟨by walk_at "l",by walk_at "l",by walk_at "l",hN _ ⟨steps++[(c % many,n,c / many % many)],_,fun s hs'=>?_,by simp [hl],by rw [List.map_append]; rfl⟩⟩
    rcases List.mem_append.mp hs' with hs' | hs'
    · exact hs s hs'
    · obtain rfl:s=_:=by simpa using hs'
      exact ⟨(em _).1,(em _).2,hn,(em _).1,(em _).2⟩
  · rintro ρ ⟨steps,o,hs,hl,rfl⟩
    rw [List.length_map] at hl
    walk_at "q"
    exact h steps hs (by walk_at "l")
noncomputable def iK:WS :=
  (wSeq (wIfS (wOr (wNot (wB (wUn (fIsi "tuple") (wVar 1)))) (wB (wOp fNe (wUn fLen (wVar 1)) (wC (.int 3)))))
  (wRet (wC (.bl false)))
  cH)
  (wRet (lJ (bY bK (aj (wVar 0) (aj (wOp fIx (wVar 1) (wC (.int 0))) wNil))) (lJ (bY cg (aj (wOp fIx (wVar 1) (wC (.int 1))) wNil)) (bY bK (aj (wVar 0) (aj (wOp fIx (wVar 1) (wC (.int 2))) wNil)))))))
noncomputable def cj:SpD:=fun ds Q=>∃ (many:Int) (d:D),ds=[.int many,d]∧Q .sh (.bl (bV many d))
theorem nU (ds Q) (h:cj ds Q):ds.length=["many", "thing"].length:=by obtain ⟨_,_,rfl,_⟩:=h; rfl
theorem rG:∀ ds Q,cj ds Q→iK { nx:=fun _=>Q .sh .non,rt:=Q } (bj 2 ds):=by
  rintro ds Q ⟨many,d,rfl,h⟩
  unfold iK
  walk_at "q"
  cases d with
  | tup xs =>
    refine R.F rfl ?_
    by_cases hl:xs.length=3
    · obtain ⟨a,b,c,rfl⟩:∃ a b c,xs=[a,b,c]:=by
        match xs,hl with
        | [a,b,c],_=>exact ⟨a,b,c,rfl⟩
      have h:Q .sh (.bl (m5 many a && (fD b && m5 many c))):=h
      walk_at "q"
      refine R.F rfl ?_
      walk_at "q"
      rw [onD]
      refine ⟨_,_,rfl,?_⟩
      walk_at "q"
      refine R.B (fun e=>?_) fun e=>?_
      · walk_at "q"
        rw [onD]
        refine ⟨_,rfl,?_⟩
        walk_at "q"
        refine R.B (fun e2=>?_) fun e2=>?_
        · walk_at "q"
          rw [onD]
          refine ⟨_,_,rfl,?_⟩
          walk_at "q"
          rw [e,e2] at h
          exact h
        · walk_at "q"
          rw [e,e2] at h
          exact h
      · walk_at "q"
        rw [e] at h
        exact h
    · walk_at "q"
      refine R.T (by simp; walk_at "l") ?_
      walk_at "q"
      have:bV many (.tup xs)=false:=by
        unfold bV
        split
        · rename_i e
          cases e
          exact absurd rfl hl
        · rfl
      rwa [this] at h
  | _ =>
    have h:Q .sh (.bl false):=h
    refine R.T rfl ?_
    walk_at "q"
    exact h
noncomputable def cO:WS :=
  (wSeq (wIfS (wOr (wNot (wB (bY a_ (aj (wVar 0) wNil)))) (wB (wOp fLt (wVar 0) (wC (.int 1)))))
  (gk "NoMachine" (wC (.str "many is no whole number from 1 on")))
  cH)
  (wSeq (wIfS (wNot (wB (wUn (fIsi "list") (wVar 1))))
  (gk "NoMachine" (wC (.str "the steps are no list")))
  cH)
  (wFrz 1 (wFor (jU (wVar 1)) (gN 2)
  (wIfS (wNot (wB (bY cj (aj (wVar 0) (aj (wVar 2) wNil)))))
  (gk "NoMachine" (wC (.str "a step is no tuple of a state, a deed and a state")))
  cH)))))
noncomputable def bc:SpD:=fun ds Q=>∃ dm dl:D,ds=[dm,dl]∧(dC dm dl=true→Q .sh .non)∧(dC dm dl=false→Q (.ow false) (.str "NoMachine"))
theorem iJ (ds Q) (h:bc ds Q):ds.length=["many", "steps"].length:=by obtain ⟨_,_,rfl,_⟩:=h; rfl
theorem j8:∀ ds Q,bc ds Q→cO { nx:=fun _=>Q .sh .non,rt:=Q } (bj 3 ds):=by
  rintro ds Q ⟨dm,dl,rfl,h,g⟩
  unfold cO
  walk_at "q"
  refine ⟨_,rfl,?_⟩
  cases dm with
  | int many =>
    rw [show decide ((D.int many).ty = "int")=true from rfl]
    walk_at "q"
    refine R.D (fun h1=>?_) fun h1=>?_
    · walk_at "q"
      exact g (lG h1 _)
    walk_at "q"
    cases dl with
    | list xs =>
      have hp:dC (.int many) (.list xs)=xs.all (bV many):=by
        show (decide (1≤many) && _)=_
        rw [decide_eq_true (by walk_at "l")]; rfl
      rw [hp] at h g
      refine R.F rfl ?_
      walk_at "q"
      refine oN _ (fun i ρ=>(∀ j,j<i→∀ y,xs[j]? = some y→bV many y=true)∧∃ o,ρ=[some (.sh (.int many)),some (.sh (.list xs)),o]) ⟨fun j hj=>absurd hj (Nat.not_lt_zero _),_,rfl⟩ ?_ ?_
      · rintro i x ρ hx ⟨hi,o,rfl⟩ N hN
        walk_at "q"
        refine ⟨_,_,rfl,?_⟩
        walk_at "q"
        refine R.B (fun e=>?_) fun e=>?_
        · have e:bV many x=false:=by simpa using e
          walk_at "q"
          refine g ?_
          cases ha:xs.all (bV many) with
          | false=>rfl
          | true =>
            have:=List.all_eq_true.mp ha x (List.mem_of_getElem? hx)
            rw [e] at this
            cases this
        · have e:bV many x=true:=by simpa using e
          walk_at "q"
          refine hN _ ⟨fun j hj y hy=>?_,_,rfl⟩
          rcases Nat.lt_or_ge j i with z | z
          · exact hi j z y hy
          · obtain rfl:j=i:=by walk_at "l"
            rw [hx] at hy
            cases hy
            exact e
      · rintro ρ ⟨hi,o,rfl⟩
        walk_at "q"
        refine h (List.all_eq_true.mpr fun y hy=>?_)
        obtain ⟨j,hj⟩:=List.mem_iff_getElem?.mp hy
        exact hi j (List.getElem?_eq_some_iff.mp hj).1 y hj
    | _ =>
      refine R.T rfl ?_
      walk_at "q"
      exact g rfl
  | _ =>
    walk_at "q"
    exact g (pI rfl _)
noncomputable def pG:WS :=
  (wSeq (o5 bc (aj (wVar 0) (aj (wVar 1) wNil)))
  (wSeq (wFrz 0 (wSet 2 (wTup (aj (wVar 0) (aj (wUn eY (wVar 1)) wNil)))))
  (wSeq (o5 aV (aj (wVar 2) wNil))
  (p8 2))))
noncomputable def dZ:SpD:=fun ds Q=>(∃ (many:Int) (steps:List Stp) (c k:Nat),ds=[.int many,.list (steps.map stpD)]∧1≤many∧(∀ s∈steps,StOk many s)∧steps.length≤63∧pW steps c∧ju steps k ∧
  Sml many c k∧∀ out,Mde steps out→Q (.ow true) (mD many out))∨∃ dm dl:D,ds=[dm,dl]∧dC dm dl=false∧Q (.ow false) (.str "NoMachine")
theorem uo (ds Q) (h:dZ ds Q):ds.length=["many", "steps"].length:=by
  rcases h with ⟨_,_,_,_,rfl,_⟩ | ⟨_,_,rfl,_⟩
  · rfl
  · rfl
theorem yN:∀ ds Q,dZ ds Q→pG { nx:=fun _=>Q .sh .non,rt:=Q } (bj 3 ds):=by
  rintro ds Q (⟨many,steps,c,k,rfl,h1,hs,hz,hc,hk,sm,g1⟩ | ⟨dm,dl,rfl,hp,g⟩)
  · have hp:dC (.int many) (.list (steps.map stpD))=true:=by
      show (decide (1≤many) && _)=true
      rw [decide_eq_true h1,Bool.true_and,List.all_eq_true]
      intro x hx
      obtain ⟨s,hs',rfl⟩:=List.mem_map.mp hx
      exact rB (hs s hs')
    unfold pG
    walk_at "q"
    refine ⟨_,_,rfl,fun _=>?_,fun z=>absurd (hp.symm.trans z) Bool.noConfusion⟩
    walk_at "q"
    refine ⟨steps.map stpK,[false,true],by rw [List.map_map]; rfl,by simpa using hz,?_,fun ms nd mm pw=>?_⟩
    · intro k hk
      obtain ⟨s,_,rfl⟩:=List.mem_map.mp hk
      rfl
    · obtain ⟨out,rfl,ho⟩:=nq (P:=fun s=>s∈steps) (ks:=ms) fun k hk=>by
        obtain ⟨s,hs,rfl⟩:=List.mem_map.mp ((mm k).mp hk)
        exact ⟨s,rfl,hs⟩
      have M:Mde steps out:=⟨dh nd,fun s=>⟨fun hm=>ho s hm,fun hm=>by
        have:=(mm (stpK s)).mpr (List.mem_map.mpr ⟨s,hm,rfl⟩)
        obtain ⟨s',hs',e⟩:=List.mem_map.mp this
        rw [← gJ e]; exact hs'⟩,List.pairwise_map.mp pw⟩
      have e:(out.map stpK).map keyT=out.map stpD:=by rw [List.map_map]; rfl
      rw [e]
      have hc':=hc.uniq ⟨out,M.1,M.2.1,rfl⟩
      subst hc'
      have hol:out.length≤63:=Nat.le_trans (TS.bZ M.1 fun s hs=>(M.2.1 s).mp hs) hz
      refine ⟨many,out,k,rfl,hol,fun s hs'=>(hs s (ho s hs')).2.2.1,hk.same M.2.1,fun _=>?_,fun z=>absurd sm z⟩
      walk_at "q"
      exact g1 out M
  · unfold pG
    walk_at "q"
    refine ⟨_,_,rfl,fun z=>absurd (hp.symm.trans z) Bool.noConfusion,fun _=>?_⟩
    walk_at "q"
    exact g
noncomputable def cF:WS :=
  (wSeq (wTry (wF 2 dZ (aj (wVar 0) (aj (wVar 1) wNil))) (fun a=>[none,none,none,some (.xc a),none]) (fun a n=>(wSeq (wSet 4 (wLst (aj (wIsx 3 a (decide (n = "TooBig"))) (aj (wIsx 3 a (decide (n = "NoState"))) (aj (wIsx 3 a (decide (n = "NoDeed"))) (aj (wIsx 3 a (decide (n = "NoText"))) wNil))))))
  (wSeq (wSet 4 (wOp fAdd (wVar 4) (wLst (aj (wIsx 3 a (decide (n = "NoFrame"))) (aj (wIsx 3 a (decide (n = "NoScroll"))) (aj (wIsx 3 a (decide (n = "NoName"))) wNil))))))
  (wSeq (wIfS (wOr (wB (wOp (fIn false) (wC (.bl true)) (wVar 4))) (wOr (wB (wIsx 3 a (decide (n = "NoRow")))) (wNot (wB (wIsx 3 a true)))))
  (wRet (wTup (aj (wC (.str "refused")) (aj (wC (.str "other")) wNil))))
  cH)
  (wRet (wTup (aj (wC (.str "refused")) (aj (wIsx 3 a (decide (n = "NoMachine"))) wNil)))))))))
  (vW [.inl (wC (.str "told")),.inr 2]))
noncomputable def aM:SpD:=fun ds Q=>(∃ (many:Int) (steps:List Stp) (c k:Nat),ds=[.int many,.list (steps.map stpD)]∧1≤many∧(∀ s∈steps,StOk many s)∧steps.length≤63∧pW steps c∧ju steps k ∧
  Sml many c k∧∀ out,Mde steps out→Q (.ow true) (.tup [.str "told",mD many out]))∨∃ dm dl:D,ds=[dm,dl]∧dC dm dl=false∧Q .sh (.tup [.str "refused",.bl true])
theorem jh (ds Q) (h:aM ds Q):ds.length=["_law_many", "_law_steps_here"].length:=by
  rcases h with ⟨_,_,_,_,rfl,_⟩ | ⟨_,_,rfl,_⟩
  · rfl
  · rfl
theorem lU:∀ ds Q,aM ds Q→cF { nx:=fun _=>Q .sh .non,rt:=Q } (bj 5 ds):=by
  rintro ds Q (⟨many,steps,c,k,rfl,h1,hs,hz,hc,hk,sm,g1⟩ | ⟨dm,dl,rfl,hp,g⟩)
  · unfold cF
    walk_at "q"
    refine Or.inl ⟨many,steps,c,k,rfl,h1,hs,hz,hc,hk,sm,fun out M=>?_⟩
    unfold mD
    walk_at "q"
    exact g1 out M
  · unfold cF
    walk_at "q"
    refine Or.inr ⟨_,_,rfl,hp,?_⟩
    walk_at "q"
    intro a
    refine .inl ⟨rfl,rfl,R.F (by decide) ?_⟩
    walk_at "q"
    refine R.F (by decide) ?_
    walk_at "q"
    exact g
noncomputable def wz:WS :=
  (wSeq (wSet 1 (wOp fAdd (wC (.int 1)) (wOp fMod (bY az (aj (wVar 0) (aj (wC (.int 0)) wNil))) (wC (.int 30)))))
  (wSeq (wSet 2 (bY bx (aj (wVar 0) (aj (wVar 1) wNil))))
  (wSeq (wSet 3 (bY az (aj (wVar 0) (aj (wC (.int 1)) wNil))))
  (wSeq (wSet 4 (wOp fMod (bY az (aj (wVar 0) (aj (wC (.int 2)) wNil))) (wOp fAdd (wUn fLen (wVar 2)) (wC (.int 1)))))
  (wSeq (wSet 5 (wTup (aj (wOp fMod (wVar 3) (wVar 1)) (aj (wC (.str "a")) (aj (wOp fMod (wOp fDiv (wVar 3) (wVar 1)) (wVar 1)) wNil)))))
  (wSeq (wSet 6 (wOp fAdd (wFz (wOp fAdd (wFz (wSl (wVar 2) dY (jt (wVar 4)))) (wFz (wLst (aj (bY aY (aj (bY az (aj (wVar 0) (aj (wC (.int 3)) wNil))) (aj (wVar 5) (aj (wVar 1) wNil)))) wNil))))) (wFz (wSl (wVar 2) (jt (wVar 4)) dY))))
  (wSeq (wFrz 6 (wSet 7 (wUn oH (wVar 6))))
  (wSeq (wIfS (wOr (wB (wOp fNe (bY aM (aj (wVar 1) (aj (wVar 7) wNil))) (wTup (aj (wC (.str "refused")) (aj (wC (.bl true)) wNil))))) (wB (wOp fNe (wVar 7) (wVar 6))))
  (wRet (wC (.bl false)))
  cH)
  (wSeq (wSet 8 (bY az (aj (wVar 0) (aj (wC (.int 3)) wNil))))
  (wSeq (wIfS (wB (wOp fNe (bY aM (aj (bY aW (aj (wVar 8) wNil)) (aj (wUn oH (wVar 2)) wNil))) (wTup (aj (wC (.str "refused")) (aj (wC (.bl true)) wNil)))))
  (wRet (wC (.bl false)))
  cH)
  (wSeq (wIfS (wB (wOp fNe (bY aM (aj (wVar 1) (aj (wOp fIx (wLst (aj (wUn tQ (wVar 2)) (aj (wC (.str "")) (aj (wC (.str "1 a 0")) (aj (wC .non) (aj (wC (.int 0)) (aj (wC (.bl true)) wNil))))))) (wOp fMod (wOp fDiv (wVar 8) (wC (.int 8))) (wC (.int 6)))) wNil))) (wTup (aj (wC (.str "refused")) (aj (wC (.bl true)) wNil)))))
  (wRet (wC (.bl false)))
  cH)
  (wSeq (wFrz 5 (wSet 9 (bY bw (aj (wVar 1) (aj (wOp fAdd (wOp fAdd (wFz (wSl (wVar 2) dY (jt (wVar 4)))) (wLst (aj (wVar 5) wNil))) (wFz (wSl (wVar 2) (jt (wVar 4)) dY))) wNil)))))
  (wSeq (wIfS (wB (wOp fGt (wVar 1) (wC (.int 20))))
  (wRet (wC (.bl true)))
  cH)
  (wFrz 1 (wRet (wOp fEq (bY aM (aj (wVar 1) (aj (wUn oH (wVar 9)) wNil))) (wTup (aj (wC (.str "told")) (aj (wTup (aj (wVar 1) (aj (wUn vz (wVar 9)) wNil))) wNil)))))))))))))))))))
theorem gU {α:Type} {R:α→α→Prop} (as:∀ x y,R x y→¬ R y x):∀ {a b:List α},a.Pairwise R→b.Pairwise R→(∀ x,x∈a↔x∈b)→a=b
  | [],[],_,_,_=>rfl
  | [],y :: b,_,_,m=>absurd ((m y).mpr List.mem_cons_self) (by simp)
  | x :: a,[],_,_,m=>absurd ((m x).mp List.mem_cons_self) (by simp)
  | x :: a,y :: b,p,q,m=>by
    obtain ⟨p1,p2⟩:=List.pairwise_cons.mp p
    obtain ⟨q1,q2⟩:=List.pairwise_cons.mp q
    have e:x=y:=by
      rcases List.mem_cons.mp ((m x).mp List.mem_cons_self) with h | h
      · exact h
      · rcases List.mem_cons.mp ((m y).mpr List.mem_cons_self) with g | g
        · exact g.symm
        · exact absurd (p1 y g) (as _ _ (q1 x h))
    subst e
    have irr:∀ z,R z z→False:=fun z h=>as z z h h
    rw [gU as p2 q2 fun z=>⟨fun hz=>?_,fun hz=>?_⟩]
    · rcases List.mem_cons.mp ((m z).mp (List.mem_cons_of_mem _ hz)) with h | h
      · subst h; exact (irr _ (p1 _ hz)).elim
      · exact h
    · rcases List.mem_cons.mp ((m z).mpr (List.mem_cons_of_mem _ hz)) with h | h
      · subst h; exact (irr _ (q1 _ hz)).elim
      · exact h
theorem Mde.strict {steps out:List Stp} (M:Mde steps out):out.Pairwise fun a b=>ltP b a=false∧a≠b:=(M.2.2.and M.1).imp fun h=>h
theorem Mde.uniq {steps a b:List Stp} (x:Mde steps a) (y:Mde steps b):a=b :=
  gU (fun s t h g=>h.2 (gJ (n_ (a:=stpK s) (b:=stpK t) rfl g.1 h.1))) x.strict y.strict fun s=>(x.2.1 s).trans (y.2.1 s).symm
theorem lC (l:List Stp) (lo hi:Option Int):cutG (l.map stpD) lo hi=(cutG l lo hi).map stpD:=by
  unfold cutG
  rw [List.length_map,List.map_take,List.map_drop]
theorem nO {α:Type} {l:List α} {lo hi:Option Int} {x:α} (h:x∈cutG l lo hi):x∈l:=List.mem_of_mem_drop (List.mem_of_mem_take h)
theorem xq {α:Type} (l:List α) (k:Int):(cutG l none (some k)).length+(cutG l (some k) none).length≤l.length:=by
  unfold cutG
  simp only [HT.sIx,List.length_take,List.length_drop]
  split <;> walk_at "l"
noncomputable abbrev sp_law:SpD:=spLaw
theorem wX (ds Q) (h:sp_law ds Q):ds.length=["_law_script"].length:=by obtain ⟨_,rfl,_⟩:=h; rfl
theorem Bh:∀ ds Q,sp_law ds Q→wz { nx:=fun _=>Q .sh .non,rt:=Q } (bj 10 ds):=by
  rintro ds Q ⟨ns,rfl,hl,h⟩
  unfold wz
  walk_at "q"
  refine ⟨ns,0,rfl,by decide,?_⟩
  generalize ns.getD _ 0=c0
  walk_at "q"
  have m0:=Int.emod_nonneg c0 (show (30:Int)≠0 by decide)
  have m1:=Int.emod_lt_of_pos c0 (show (0:Int)<30 by decide)
  obtain ⟨many,hm⟩:∃ many,many=1+c0 % 30:=⟨_,rfl⟩
  rw [← hm]
  have hm1:1≤many:=by walk_at "l"
  have hm2:many≤30:=by walk_at "l"
  refine ⟨ns,many,rfl,hl,hm1,hm2,fun steps hs hz=>?_⟩
  walk_at "q"
  refine ⟨ns,1,rfl,by decide,?_⟩
  generalize ns.getD _ 0=cell
  walk_at "q"
  refine ⟨ns,2,rfl,by decide,?_⟩
  generalize ns.getD _ 0=cat
  walk_at "q"
  refine ⟨by walk_at "l",by walk_at "l",⟨by walk_at "l",by walk_at "l"⟩,by walk_at "l",.inl ⟨bz _,ns,3,rfl,by decide,?_⟩⟩
  generalize ns.getD _ 0=far
  walk_at "q"
  have st0:StOk many (cell % many, "a",cell / many % many):=⟨Int.emod_nonneg _ (by walk_at "l"),Int.emod_lt_of_pos _ (by walk_at "l"),pF (x := "a") (by decide +kernel),Int.emod_nonneg _ (by walk_at "l"),Int.emod_lt_of_pos _ (by walk_at "l")⟩
  have cl1:=cV (steps.map stpD) none (some (cat % ((steps.length:Int)+1)))
  have cl2:=cV (steps.map stpD) (some (cat % ((steps.length:Int)+1))) none
  rw [List.length_map] at cl1 cl2
  have l1:(cutG (steps.map stpD) none (some (cat % ((steps.length:Int)+1)))).length≤16777215:=by walk_at "l"
  have l2:∀ d:D,(cutG (steps.map stpD) none (some (cat % ((steps.length:Int)+1)))++[d]).length+(cutG (steps.map stpD) (some (cat % ((steps.length:Int)+1))) none).length≤16777216:=fun d=>by
    rw [List.length_append]
    simp only [List.length_cons,List.length_nil]
    walk_at "l"
  refine wD (K:=?K) ?pk fun key=>?main
  case main =>
    refine ⟨far,(cell % many, "a",cell / many % many),many,rfl,st0,fun d hd ho=>?_⟩
    rw [outM]
    cases hf:d.flat with
    | true =>
      simp only [cond_true]
      walk_at "q"
      simp only [hf,cond_true]
      refine ⟨trivial,l1,.inr (.inl ⟨bz steps,l2 d,.inr (.inr ?_)⟩)⟩
      clear hf
      revert d
      exact key
    | false =>
      simp only [cond_false]
      walk_at "q"
      simp only [hf,cond_false]
      refine ⟨l1,.inr (.inl ⟨bz steps,l2 d,.inr (.inr ?_)⟩)⟩
      clear hf
      revert d
      exact key
  intro d hd ho
  rw [lC,lC]
  have okc:∀ lo hi,∀ x∈(cutG steps lo hi).map stpD,okD 11 x=true:=fun lo hi x hx=>by
    obtain ⟨s,hs',rfl⟩:=List.mem_map.mp hx
    exact pP 10 (hs s (nO hs'))
  have okw:okD 12 (.list ((cutG steps none (some (cat % ((steps.length:Int)+1)))).map stpD++[d]++(cutG steps (some (cat % ((steps.length:Int)+1))) none).map stpD))=true:=by
    show List.all _ (okD 11)=true
    rw [List.all_eq_true]
    intro x hx
    rcases List.mem_append.mp hx with hx | hx
    · rcases List.mem_append.mp hx with hx | hx
      · exact okc _ _ x hx
      · obtain rfl:x=d:=by simpa using hx
        exact ho
    · exact okc _ _ x hx
  have pw:dC (.int many) (.list ((cutG steps none (some (cat % ((steps.length:Int)+1)))).map stpD++[d]++(cutG steps (some (cat % ((steps.length:Int)+1))) none).map stpD))=false:=by
    show (decide (1≤many) && List.all _ (bV many))=false
    cases z:List.all ((cutG steps none (some (cat % ((steps.length:Int)+1)))).map stpD++[d]++(cutG steps (some (cat % ((steps.length:Int)+1))) none).map stpD) (bV many) with
    | false=>simp
    | true =>
      have:=List.all_eq_true.mp z d (by simp)
      rw [hd] at this
      cases this
  have okr:okD 12 (D.tup [.str "refused",.bl true])=true∧eqD (D.tup [.str "refused",.bl true]) (D.tup [.str "refused",.bl true])=true:=by decide +kernel
  refine Or.inr ⟨_,_,rfl,pw,?_⟩
  generalize (cutG steps none (some (cat % ((steps.length:Int)+1)))).map stpD++[d]++(cutG steps (some (cat % ((steps.length:Int)+1))) none).map stpD=wrong at *
  walk_at "q"
  refine ⟨okr.1,okr.1,R.F (by rw [okr.2]; rfl) ?_⟩
  walk_at "q"
  refine ⟨okw,okw,R.F (by rw [qW okw]; rfl) ?_⟩
  walk_at "q"
  refine ⟨ns,3,rfl,by decide,?_⟩
  generalize ns.getD _ 0=far2
  walk_at "q"
  refine ⟨_,rfl,fun dm hdm=>?_⟩
  walk_at "q"
  refine .inl ⟨bz steps,Or.inr ⟨_,_,rfl,hdm _,?_⟩⟩
  walk_at "q"
  refine ⟨okr.1,okr.1,R.F (by rw [okr.2]; rfl) ?_⟩
  walk_at "q"
  have f0:=Int.emod_nonneg (far2 / 8) (show (6:Int)≠0 by decide)
  have f1:=Int.emod_lt_of_pos (far2 / 8) (show (0:Int)<6 by decide)
  obtain ⟨dl,edl,hdl⟩:∃ dl,atI [D.tup (steps.map stpD),.str "",.str "1 a 0",.non,.int 0,.bl true] (far2 / 8 % 6)=some dl∧dC (.int many) dl=false:=by
    obtain e | e | e | e | e | e:far2 / 8 % 6=0∨far2 / 8 % 6=1∨far2 / 8 % 6=2∨far2 / 8 % 6=3∨far2 / 8 % 6=4∨far2 / 8 % 6=5:=by walk_at "l"
    all_goals
      rw [e]
      exact ⟨_,rfl,rfl⟩
  refine ⟨bz steps,dl,edl,?_⟩
  rw [onD]
  refine Or.inr ⟨_,_,rfl,hdl,?_⟩
  walk_at "q"
  refine ⟨okr.1,okr.1,R.F (by rw [okr.2]; rfl) ?_⟩
  walk_at "q"
  simp only [lC] at l1 l2 ⊢
  have fa:flats ((cutG steps none (some (cat % ((steps.length:Int)+1)))).map stpD++[D.tup [.int (cell % many),.str "a",.int (cell / many % many)]])=true:=by rw [cZ,bz]; rfl
  refine .inl ⟨bz _,l1,.inl ⟨bz _,.inl ⟨bz _,l2 _,.inl ⟨fa,bz _,?_⟩⟩⟩⟩
  refine ⟨many,cutG steps none (some (cat % ((steps.length:Int)+1)))++([(cell % many, "a",cell / many % many)]:List Stp)++cutG steps (some (cat % ((steps.length:Int)+1))) none,by rw [List.map_append,List.map_append]; rfl,fun s hs'=>?_,?_,fun kept kn kk kl kl2=>?_⟩
  · rcases List.mem_append.mp hs' with hs' | hs'
    · rcases List.mem_append.mp hs' with hs' | hs'
      · exact hs s (nO hs')
      · obtain rfl:s=_:=by simpa using hs'
        exact st0
    · exact hs s (nO hs')
  · have:=cV steps none (some (cat % ((steps.length:Int)+1)))
    have:=cV steps (some (cat % ((steps.length:Int)+1))) none
    simp only [List.length_append,List.length_cons,List.length_nil]
    walk_at "l"
  walk_at "q"
  refine R.D (fun big=>?_) fun big=>?_
  · walk_at "q"
    exact h _
  walk_at "q"
  have kl3:kept.length≤63:=by
    have:=xq steps (cat % ((steps.length:Int)+1))
    simp only [List.length_append,List.length_cons,List.length_nil] at kl2
    walk_at "l"
  have dk:pW kept kept.length:=⟨kept,kn,fun _=>Iff.rfl,rfl⟩
  have ok3:ju kept ((["a", "ab", "zzzzzz"]:List Str).filter fun n=>decide (n∈dsOf kept)).length:=by
    refine ⟨_,(show (["a", "ab", "zzzzzz"]:List Str).Nodup by decide +kernel).filter _,fun n=>?_,rfl⟩
    rw [List.mem_filter,decide_eq_true_eq]
    constructor
    · rintro ⟨h1,h2⟩
      refine ⟨h2,fun z=>?_⟩
      subst z
      exact absurd h1 (by decide +kernel)
    · rintro ⟨h1,h2⟩
      obtain ⟨s,hs',e⟩:=List.mem_map.mp h1
      have:=(kk s hs').2
      rw [e] at this
      rcases List.mem_cons.mp this with z | z
      · exact absurd z h2
      · exact ⟨z,h1⟩
  have l3:((["a", "ab", "zzzzzz"]:List Str).filter fun n=>decide (n∈dsOf kept)).length≤3:=List.length_filter_le _ _
  refine .inl ⟨bz _,Or.inl ⟨many,kept,_,_,rfl,hm1,fun s hs'=>(kk s hs').1,by walk_at "l",dk,ok3,⟨by walk_at "l",kl,by walk_at "l"⟩,fun out M=>?_⟩⟩
  unfold mD
  walk_at "q"
  refine ⟨kept.map stpK,[false,true],by rw [List.map_map]; rfl,by rw [List.length_map]; exact kl3,?_,fun ms pm pw=>?_⟩
  · intro k hk
    obtain ⟨s,_,rfl⟩:=List.mem_map.mp hk
    rfl
  obtain ⟨out2,rfl,ho2⟩:=nq (P:=fun s=>s∈kept) (ks:=ms) fun k hk=>by
    obtain ⟨s,hs',rfl⟩:=List.mem_map.mp (pm.mem_iff.mp hk)
    exact ⟨s,rfl,hs'⟩
  have M2:Mde kept out2:=⟨dh (f:=stpK) (pm.nodup_iff.mpr (by
    rw [List.Nodup,List.pairwise_map]
    exact kn.imp fun hab e=>hab (gJ e))),fun s=>⟨fun hm=>ho2 s hm,fun hm=>by
    have:=pm.mem_iff.mpr (List.mem_map.mpr ⟨s,hm,rfl⟩)
    obtain ⟨s',hs',e⟩:=List.mem_map.mp this
    rw [← gJ e]; exact hs'⟩,List.pairwise_map.mp pw⟩
  have eo:out2=out:=M2.uniq M
  subst eo
  have e:(out2.map stpK).map keyT=out2.map stpD:=by rw [List.map_map]; rfl
  rw [e]
  have okt:okD 12 (D.tup [.str "told",.tup [.int many,.list (out2.map stpD)]])=true:=by
    show (okD 11 (.str "told") && ((okD 10 (.int many) && (okD 10 (.list (out2.map stpD)) && true)) && true))=true
    rw [n6 8 fun s hs'=>(kk s ((M.2.1 s).mp hs')).1,show okD 11 (.str "told")=true by decide +kernel]
    rfl
  refine ⟨okt,okt,?_⟩
  rw [qW okt]
  exact h _

end L2.Q.Law

namespace L2.Q.Law
open PySem PySem.Spec PyProof.Rows
def top (i:Nat):Stmt:=PySem.Challenge.pw_kinlook_k03_no_machine.main.body.getD i (.Pass ⟨0,0,0,0⟩)
abbrev bJ:Stmt:=top 4
abbrev bO:Stmt:=top 5
abbrev bA:Stmt:=top 21
abbrev bB:Stmt:=top 22
abbrev bU:Stmt:=top 23
abbrev aN:Stmt:=top 24
abbrev aD:Stmt:=top 25
abbrev dN:Stmt:=top 26
abbrev bh:Stmt:=top 27
abbrev aK:Stmt:=top 29
abbrev aQ:Stmt:=top 30
abbrev bf:Stmt:=top 31
abbrev aB:Stmt:=top 32
abbrev aH:Stmt:=top 33
abbrev aJ:Stmt:=top 34
abbrev aG:Stmt:=top 35
abbrev aP:Stmt:=top 36
abbrev aO:Stmt:=top 37
abbrev fV:Stmt:=top 38
abbrev rn:List Str:=["NoMachine", "TooBig"]
structure Txt (K:PySem.W.Frag) (mg:Str→Option Value):Prop where
  n_ValueError:mg "ValueError" = none
  n_all:mg "all" = none
  n_bool:mg "bool" = none
  n_int:mg "int" = none
  n_isinstance:mg "isinstance" = none
  n_len:mg "len" = none
  n_list:mg "list" = none
  n_set:mg "set" = none
  n_sorted:mg "sorted" = none
  n_str:mg "str" = none
  n_tuple:mg "tuple" = none
  g_HIDDEN:GlS mg "HIDDEN" "*"
  g_LETTERS:GlS mg "LETTERS" "abcdefghijklmnopqrstuvwxyz"
  g_MOST_LETTERS:GlI mg "MOST_LETTERS" 6
  g_MOST_STATES:GlI mg "MOST_STATES" 20
  g_MOST_STEPS:GlI mg "MOST_STEPS" 80
  g_MOST_OPEN_DEEDS:GlI mg "MOST_OPEN_DEEDS" 6
  x_NoMachine:XCl K mg "NoMachine"
  x_TooBig:XCl K mg "TooBig"
  r_KinError:yj K mg rn "KinError"
  i_NoText:∀ n C,n∈rn→mg n=some (.ref C)→∃ c,mg "NoText" = some (.ref c)∧PySem.W.kitOne K (.ref C) (.ref c)=some (decide (n = "NoText"))
  i_NoDeed:∀ n C,n∈rn→mg n=some (.ref C)→∃ c,mg "NoDeed" = some (.ref c)∧PySem.W.kitOne K (.ref C) (.ref c)=some (decide (n = "NoDeed"))
  i_NoState:∀ n C,n∈rn→mg n=some (.ref C)→∃ c,mg "NoState" = some (.ref c)∧PySem.W.kitOne K (.ref C) (.ref c)=some (decide (n = "NoState"))
  i_TooBig:∀ n C,n∈rn→mg n=some (.ref C)→∃ c,mg "TooBig" = some (.ref c)∧PySem.W.kitOne K (.ref C) (.ref c)=some (decide (n = "TooBig"))
  i_NoName:∀ n C,n∈rn→mg n=some (.ref C)→∃ c,mg "NoName" = some (.ref c)∧PySem.W.kitOne K (.ref C) (.ref c)=some (decide (n = "NoName"))
  i_NoScroll:∀ n C,n∈rn→mg n=some (.ref C)→∃ c,mg "NoScroll" = some (.ref c)∧PySem.W.kitOne K (.ref C) (.ref c)=some (decide (n = "NoScroll"))
  i_NoFrame:∀ n C,n∈rn→mg n=some (.ref C)→∃ c,mg "NoFrame" = some (.ref c)∧PySem.W.kitOne K (.ref C) (.ref c)=some (decide (n = "NoFrame"))
  i_NoRow:∀ n C,n∈rn→mg n=some (.ref C)→∃ c,mg "NoRow" = some (.ref c)∧PySem.W.kitOne K (.ref C) (.ref c)=some (decide (n = "NoRow"))
  i_ValueError:∀ n C,n∈rn→mg n=some (.ref C)→PySem.W.kitOne K (.ref C) (.type "ValueError")=some true
  i_NoMachine:∀ n C,n∈rn→mg n=some (.ref C)→∃ c,mg "NoMachine" = some (.ref c)∧PySem.W.kitOne K (.ref C) (.ref c)=some (decide (n = "NoMachine"))
section
variable {P:Program} {w:World} {K:PySem.W.Frag} {mg:Str→Option Value} {base:Heap}
theorem jZ:FnScope ["thing"] ["thing"] (defScope bJ):=⟨rfl,rfl,rfl,by decide +kernel,rfl,by decide +kernel,by decide +kernel⟩
theorem tR {f:Addr} (T:Txt K mg)  (cdv:Value) (A:Around) (outer:List PySem.Env) (s:Shared) (H:Hp) (E:XK) (hr:Room 0 (A.deeper (envOfC "is_open" (defScope bJ) s.heap.objs.size f cdv))) :
    QSs (cxOf CX0 P w K mg base ["thing"] "is_open" (defScope bJ) f cdv A outer s H E).nox K L0 (defBody bJ) ir :=
  have nd:=jZ.nd
  have hu:(A.deeper (envOfC "is_open" (defScope bJ) s.heap.objs.size f cdv)).units+64<cLine:=hr.units
  (ao (cR (qt_w (qz (iM (fY (qD T.n_isinstance (qv 0) (oK T.n_str vG)))) (l_ (iM (uB rA rA xK xK aA (cQ b_ iD rfl T.n_len jb (qv 0)) (q_gi T.g_MOST_LETTERS))))))
      (au (bD q_bl))
      bu)
      (au (bD (cQ kAll zf rfl T.n_all yo (rY (tn:=["sign"]) (cn:=[]) (ix:=[]) rfl (yl (yQ (qv 0))) (eQ.of (sc:=defScope bJ) (N:=["thing"]) rfl rfl (by decide +kernel)) (fun _ _ _ _=>(fG (i:=0) (show (["sign"]:List Str).Nodup by decide +kernel) rfl (Or.inl rfl) (.inr rfl))) (fun _ _ _ _=>tO) (fun _ _ _ _=>(xN (kIn (K:=K) hu) wV (qv 0) (q_gs T.g_LETTERS) (by rfl))))))))
theorem qy {f:Addr} {fd:FuncData} (F:Fun K "is_open" "is_open" bJ f fd) (T:Txt K mg)  : FnOk P w K mg base CX0 1 f fd ["thing"] (ak K bC) :=
  FunQ.ok F jZ nG (tR T ) rT
theorem je:FnScope ["thing"] ["thing"] (defScope bA):=⟨rfl,rfl,rfl,by decide +kernel,rfl,by decide +kernel,by decide +kernel⟩
theorem qu {f:Addr} (T:Txt K mg)  (cdv:Value) (A:Around) (outer:List PySem.Env) (s:Shared) (H:Hp) (E:XK) (hr:Room 0 (A.deeper (envOfC "is_whole" (defScope bA) s.heap.objs.size f cdv))) :
    QSs (cxOf CX0 P w K mg base ["thing"] "is_whole" (defScope bA) f cdv A outer s H E).nox K L0 (defBody bA) fK :=
  have nd:=je.nd
  have hu:(A.deeper (envOfC "is_whole" (defScope bA) s.heap.objs.size f cdv)).units+64<cLine:=hr.units
  (au (bD (sX (qD T.n_isinstance (qv 0) (oK T.n_int zq)) (sO (Ao (qD T.n_isinstance (qv 0) (oK T.n_bool v7)))))))
theorem oG {f:Addr} {fd:FuncData} (F:Fun K "is_whole" "is_whole" bA f fd) (T:Txt K mg)  : FnOk P w K mg base CX0 1 f fd ["thing"] (ak K a_) :=
  FunQ.ok F je mZ (qu T ) qe
theorem iR:FnScope ["m"] ["m"] (defScope bh):=⟨rfl,rfl,rfl,by decide +kernel,rfl,by decide +kernel,by decide +kernel⟩
theorem qJ {f:Addr} (T:Txt K mg)  (cdv:Value) (A:Around) (outer:List PySem.Env) (s:Shared) (H:Hp) (E:XK) (hr:Room 0 (A.deeper (envOfC "deeds_of" (defScope bh) s.heap.objs.size f cdv))) :
    QSs (cxOf CX0 P w K mg base ["m"] "deeds_of" (defScope bh) f cdv A outer s H E).nox K L0 (defBody bh) fM :=
  have nd:=iR.nd
  have hu:(A.deeper (envOfC "deeds_of" (defScope bh) s.heap.objs.size f cdv)).units+64<cLine:=hr.units
  (au (bD (qj rfl T.n_sorted rfl T.n_set (rY (tn:=["step"]) (cn:=[]) (ix:=[]) rfl (rK (q_ix hu (qv 0) aA)) (eQ.of (sc:=defScope bh) (N:=["m"]) rfl rfl (by decide +kernel)) (fun _ _ _ _=>(fG (i:=0) (show (["step"]:List Str).Nodup by decide +kernel) rfl (Or.inl rfl) (.inr rfl))) (fun _ _ _ _=>tO) (fun _ _ _ _=>(q_ix hu (qv 0) aA))))))
theorem oh {f:Addr} {fd:FuncData} (F:Fun K "deeds_of" "deeds_of" bh f fd) (T:Txt K mg)  : FnOk P w K mg base CX0 1 f fd ["m"] (ak K bW) :=
  FunQ.ok F iR lY (qJ T ) qw
theorem du:FnScope ["_law_script", "_law_k"] ["_law_script", "_law_k"] (defScope aK):=⟨rfl,rfl,rfl,by decide +kernel,rfl,by decide +kernel,by decide +kernel⟩
theorem jC {f:Addr} (T:Txt K mg)  (cdv:Value) (A:Around) (outer:List PySem.Env) (s:Shared) (H:Hp) (E:XK) (hr:Room 0 (A.deeper (envOfC "_law_cell_at" (defScope aK) s.heap.objs.size f cdv))) :
    QSs (cxOf CX0 P w K mg base ["_law_script", "_law_k"] "_law_cell_at" (defScope aK) f cdv A outer s H E).nox K L0 (defBody aK) cI :=
  have nd:=du.nd
  have hu:(A.deeper (envOfC "_law_cell_at" (defScope aK) s.heap.objs.size f cdv)).units+64<cLine:=hr.units
  (ao (cR (b7 gP nW (qv 1) (cQ b_ iD rfl T.n_len jb (qv 0)) (nomark _))
      (au (bD (q_ix hu (qv 0) (qv 1))))
      bu)
      (au (bD aA)))
theorem gZ {f:Addr} {fd:FuncData} (F:Fun K "_law_cell_at" "_law_cell_at" aK f fd) (T:Txt K mg)  : FnOk P w K mg base CX0 1 f fd ["_law_script", "_law_k"] (ak K az) :=
  FunQ.ok F du gD (jC T ) jF
theorem fZ:FnScope ["_law_cell", "_law_some"] ["_law_cell"] (defScope bf):=⟨rfl,rfl,rfl,by decide +kernel,rfl,by decide +kernel,by decide +kernel⟩
theorem oM {f:Addr} (T:Txt K mg)  (cdv:Value) (A:Around) (outer:List PySem.Env) (s:Shared) (H:Hp) (E:XK) (hr:Room 0 (A.deeper (envOfC "_law_deed" (defScope bf) s.heap.objs.size f cdv))) :
    QSs (cxOf CX0 P w K mg base ["_law_cell", "_law_some"] "_law_deed" (defScope bf) f cdv A outer s H E).nox K L0 (defBody bf) dU :=
  have nd:=fZ.nd
  have hu:(A.deeper (envOfC "_law_deed" (defScope bf) s.heap.objs.size f cdv)).units+64<cLine:=hr.units
  (ao (bN (i:=1) nd rfl (Or.inl rfl) (d7 (aa aZ (aa aZ (aa aZ (aa aZ (aa aZ (aa aZ (aa aZ (aa aZ (aa aZ (aa aZ aq))))))))))))
      (au (bD (q_ix hu (qv 1) (dq (qv 0) aA)))))
theorem mK {f:Addr} {fd:FuncData} (F:Fun K "_law_deed" "_law_deed" bf f fd) (T:Txt K mg)  : FnOk P w K mg base CX0 1 f fd ["_law_cell"] (ak K bH) :=
  FunQ.ok F fZ kO (oM T ) nZ
theorem cW:FnScope ["_law_cell", "_law_many", "_law_number"] ["_law_cell", "_law_many"] (defScope aB):=⟨rfl,rfl,rfl,by decide +kernel,rfl,by decide +kernel,by decide +kernel⟩
theorem iB {f:Addr} (T:Txt K mg)  (cdv:Value) (A:Around) (outer:List PySem.Env) (s:Shared) (H:Hp) (E:XK) (hr:Room 0 (A.deeper (envOfC "_law_no_state" (defScope aB) s.heap.objs.size f cdv))) :
    QSs (cxOf CX0 P w K mg base ["_law_cell", "_law_many", "_law_number"] "_law_no_state" (defScope aB) f cdv A outer s H E).nox K L0 (defBody aB) cB :=
  have nd:=cW.nd
  have hu:(A.deeper (envOfC "_law_no_state" (defScope aB) s.heap.objs.size f cdv)).units+64<cLine:=hr.units
  (ao (bN (i:=2) nd rfl (Or.inl rfl) (dq (jn (qv 0) aA) (yC aA aA)))
      (au (dR 1 (bD (q_ix hu (d7 (aa (uI aA) (aa (zc (uI aA) (qv 2)) (aa (qv 1) (aa (jG (qv 1) (qv 2)) (aa q_bl (aa rQ (aa aZ (aa q_bl aq))))))))) (dq (qv 0) aA))))))
theorem gA {f:Addr} {fd:FuncData} (F:Fun K "_law_no_state" "_law_no_state" aB f fd) (T:Txt K mg)  : FnOk P w K mg base CX0 1 f fd ["_law_cell", "_law_many"] (ak K aL) :=
  FunQ.ok F cW fu (iB T ) g_
theorem dD:FnScope ["_law_cell", "_law_letters", "_law_word", "_law_some"] ["_law_cell"] (defScope aH):=⟨rfl,rfl,rfl,by decide +kernel,rfl,by decide +kernel,by decide +kernel⟩
theorem jl {f:Addr} (T:Txt K mg)  (cdv:Value) (A:Around) (outer:List PySem.Env) (s:Shared) (H:Hp) (E:XK) (hr:Room 0 (A.deeper (envOfC "_law_no_deed" (defScope aH) s.heap.objs.size f cdv))) :
    QSs (cxOf CX0 P w K mg base ["_law_cell", "_law_letters", "_law_word", "_law_some"] "_law_no_deed" (defScope aH) f cdv A outer s H E).nox K L0 (defBody aH) cL :=
  have nd:=dD.nd
  have hu:(A.deeper (envOfC "_law_no_deed" (defScope aH) s.heap.objs.size f cdv)).units+64<cLine:=hr.units
  (ao (bN (i:=1) nd rfl (Or.inl rfl) aZ)
      (ao (bN (i:=2) nd rfl (Or.inl rfl) (zb (q_ix hu (qv 1) (dq (jn (qv 0) aA) aA)) (jG aA (dq (jn (qv 0) aA) aA))))
      (ao (dR 2 (bN (i:=3) nd rfl (Or.inl rfl) (d7 (aa aZ (aa aZ (aa (qv 2) (aa aZ (aa aZ (aa aZ (aa aZ (aa aA (aa rQ (aa q_bl (aa (cX (aa aZ aq)) (aa aZ (aa (d7 (aa aZ aq)) aq))))))))))))))))
      (au (pq (pv 3) (dq (qv 0) aA))))))
theorem iy {f:Addr} {fd:FuncData} (F:Fun K "_law_no_deed" "_law_no_deed" aH f fd) (T:Txt K mg)  : FnOk P w K mg base CX0 1 f fd ["_law_cell"] (ak K aU) :=
  FunQ.ok F dD gF (jl T ) jE
theorem dw:FnScope ["_law_cell"] ["_law_cell"] (defScope aG):=⟨rfl,rfl,rfl,by decide +kernel,rfl,by decide +kernel,by decide +kernel⟩
theorem jj {f:Addr} (T:Txt K mg)  (cdv:Value) (A:Around) (outer:List PySem.Env) (s:Shared) (H:Hp) (E:XK) (hr:Room 0 (A.deeper (envOfC "_law_no_many" (defScope aG) s.heap.objs.size f cdv))) :
    QSs (cxOf CX0 P w K mg base ["_law_cell"] "_law_no_many" (defScope aG) f cdv A outer s H E).nox K L0 (defBody aG) cJ :=
  have nd:=dw.nd
  have hu:(A.deeper (envOfC "_law_no_many" (defScope aG) s.heap.objs.size f cdv)).units+64<cLine:=hr.units
  (au (bD (q_ix hu (d7 (aa aA (aa (uI aA) (aa (zc (uI aA) (dq (jn (qv 0) aA) (yC aA aA))) (aa q_bl (aa q_bl (aa rQ (aa aZ (aa (cX (aa aA aq)) aq))))))))) (dq (qv 0) aA))))
theorem iH {f:Addr} {fd:FuncData} (F:Fun K "_law_no_many" "_law_no_many" aG f fd) (T:Txt K mg)  : FnOk P w K mg base CX0 1 f fd ["_law_cell"] (ak K aW) :=
  FunQ.ok F dw gr (jj T ) jq
theorem eU:FnScope ["_law_many", "_law_steps_here", "_law_kept", "_law_step"] ["_law_many", "_law_steps_here"] (defScope aO):=⟨rfl,rfl,rfl,by decide +kernel,rfl,by decide +kernel,by decide +kernel⟩
theorem lK {f:Addr} (T:Txt K mg)  (cdv:Value) (A:Around) (outer:List PySem.Env) (s:Shared) (H:Hp) (E:XK) (hr:Room 0 (A.deeper (envOfC "_law_small" (defScope aO) s.heap.objs.size f cdv))) :
    QSs (cxOf CX0 P w K mg base ["_law_many", "_law_steps_here", "_law_kept", "_law_step"] "_law_small" (defScope aO) f cdv A outer s H E).nox K L0 (defBody aO) cY :=
  have nd:=eU.nd
  have hu:(A.deeper (envOfC "_law_small" (defScope aO) s.heap.objs.size f cdv)).units+64<cLine:=hr.units
  (ao (bN (i:=2) nd rfl (Or.inl rfl) (d7 aq))
      (ao (dR 1 (qZ PassesOwn.never rfl (nQ (qv 1)) (fG (i:=3) nd rfl (Or.inl rfl))
      (au (cR (qt_w (vA (b7 (wg (K:=K) hu) yG (qv 3) (qv 2) (by rfl)) (vA (b7 (kIn (K:=K) hu) wV (q_ix hu (qv 3) aA) (cX (aa aZ (aa aZ (aa aZ (aa aZ aq))))) (by rfl)) (vO (b7 gP nW (cQ b_ iD rfl T.n_len jb (qv 2)) aA (nomark _))))))
      (au (dR 3 (vJ (tM (pv 2)) (qv 3))))
      bu))))
      (ao (cR (b7 mU rP (qv 0) aA (nomark _))
      (au (bD (d7 aq)))
      bu)
      (au (oA (pv 2))))))
theorem lA {f:Addr} {fd:FuncData} (F:Fun K "_law_small" "_law_small" aO f fd) (T:Txt K mg)  : FnOk P w K mg base CX0 1 f fd ["_law_many", "_law_steps_here"] (ak K bw) :=
  FunQ.ok F eU jf (lK T ) m8
theorem jR:FnScope ["thing"] ["thing"] (defScope bO):=⟨rfl,rfl,rfl,by decide +kernel,rfl,by decide +kernel,by decide +kernel⟩
theorem sU {f:Addr} (T:Txt K mg) (c_is_open:Cal P w K mg base 1 "is_open" ["thing"] (ak K bC)) (cdv:Value) (A:Around) (outer:List PySem.Env) (s:Shared) (H:Hp) (E:XK) (hr:Room 1 (A.deeper (envOfC "is_deed" (defScope bO) s.heap.objs.size f cdv))) :
    QSs (cxOf CX0 P w K mg base ["thing"] "is_deed" (defScope bO) f cdv A outer s H E).nox K L0 (defBody bO) iG :=
  have nd:=jR.nd
  have hu:(A.deeper (envOfC "is_deed" (defScope bO) s.heap.objs.size f cdv)).units+64<cLine:=hr.units
  (au (bD (q_or (cz c_is_open (hr.mono (by decide)) (aa (qv 0) aq)) (sO (sX (qD T.n_isinstance (qv 0) (oK T.n_str vG)) (sO (xN (kEq (K:=K) hu) y_ (qv 0) (q_gs T.g_HIDDEN) (nomark _))))))))
theorem qI {f:Addr} {fd:FuncData} (F:Fun K "is_deed" "is_deed" bO f fd) (T:Txt K mg) (c_is_open:Cal P w K mg base 1 "is_open" ["thing"] (ak K bC)):FnOk P w K mg base CX0 2 f fd ["thing"] (ak K cg) :=
  FunQ.ok F jR nH (sU T c_is_open) qN
theorem ie:FnScope ["many", "thing"] ["many", "thing"] (defScope bB):=⟨rfl,rfl,rfl,by decide +kernel,rfl,by decide +kernel,by decide +kernel⟩
theorem qd {f:Addr} (T:Txt K mg) (c_is_whole:Cal P w K mg base 1 "is_whole" ["thing"] (ak K a_)) (cdv:Value) (A:Around) (outer:List PySem.Env) (s:Shared) (H:Hp) (E:XK) (hr:Room 1 (A.deeper (envOfC "is_state" (defScope bB) s.heap.objs.size f cdv))) :
    QSs (cxOf CX0 P w K mg base ["many", "thing"] "is_state" (defScope bB) f cdv A outer s H E).nox K L0 (defBody bB) fQ :=
  have nd:=ie.nd
  have hu:(A.deeper (envOfC "is_state" (defScope bB) s.heap.objs.size f cdv)).units+64<cLine:=hr.units
  (au (bD (sX (cz c_is_whole (hr.mono (by decide)) (aa (qv 1) aq)) (sO (vM rA gP xK nW aA (qv 1) (qv 0))))))
theorem nJ {f:Addr} {fd:FuncData} (F:Fun K "is_state" "is_state" bB f fd) (T:Txt K mg) (c_is_whole:Cal P w K mg base 1 "is_whole" ["thing"] (ak K a_)):FnOk P w K mg base CX0 2 f fd ["many", "thing"] (ak K bK) :=
  FunQ.ok F ie mW (qd T c_is_whole) qp
theorem di:FnScope ["m"] ["m"] (defScope aD):=⟨rfl,rfl,rfl,by decide +kernel,rfl,by decide +kernel,by decide +kernel⟩
theorem jo {f:Addr} (T:Txt K mg) (c_deeds_of:Cal P w K mg base 1 "deeds_of" ["m"] (ak K bW)) (c_is_open:Cal P w K mg base 1 "is_open" ["thing"] (ak K bC)) (cdv:Value) (A:Around) (outer:List PySem.Env) (s:Shared) (H:Hp) (E:XK) (hr:Room 1 (A.deeper (envOfC "check_bounds" (defScope aD) s.heap.objs.size f cdv))) :
    QSs (cxOf (CXx P w mg rn) P w K mg base ["m"] "check_bounds" (defScope aD) f cdv A outer s H E) K (LX rn mg E) (defBody aD) cM :=
  have nd:=di.nd
  have hu:(A.deeper (envOfC "check_bounds" (defScope aD) s.heap.objs.size f cdv)).units+64<cLine:=hr.units
  (ao (cR (b7 mU rP (q_ix hu (qv 0) aA) (q_gi T.g_MOST_STATES) (nomark _))
      (au (dI rfl jN T.x_TooBig (.tail _ (.head _)) aZ))
      bu)
      (ao (cR (b7 mU rP (cQ b_ iD rfl T.n_len jb (q_ix hu (qv 0) aA)) (q_gi T.g_MOST_STEPS) (nomark _))
      (au (dI rfl jN T.x_TooBig (.tail _ (.head _)) aZ))
      bu)
      (au (cR (b7 mU rP (cQ b_ iD rfl T.n_len jb (rY (tn:=["deed"]) (cn:=[]) (ix:=[]) rfl (rK (cz c_deeds_of (hr.mono (by decide)) (aa (qv 0) aq))) (eQ.of (sc:=defScope aD) (N:=["m"]) rfl rfl (by decide +kernel)) (fun _ _ _ _=>(fG (i:=0) (show (["deed"]:List Str).Nodup by decide +kernel) rfl (Or.inl rfl) (.inr rfl))) (fun _ _ _ _=>(vN (fY (cz c_is_open (hr.mono (by decide)) (aa (qv 0) aq))))) (fun _ _ _ _=>(qv 0)))) (q_gi T.g_MOST_OPEN_DEEDS) (nomark _))
      (au (dI rfl jN T.x_TooBig (.tail _ (.head _)) aZ))
      bu))))
theorem gQ {f:Addr} {fd:FuncData} (F:Fun K "check_bounds" "check_bounds" aD f fd) (T:Txt K mg) (c_deeds_of:Cal P w K mg base 1 "deeds_of" ["m"] (ak K bW)) (c_is_open:Cal P w K mg base 1 "is_open" ["thing"] (ak K bC)):FnOk P w K mg base (CXx P w mg rn) 2 f fd ["m"] (cT K rn mg aV) :=
  FunX.ok F di gw (jo T c_deeds_of c_is_open) jz
theorem dB:FnScope ["_law_cell", "_law_step", "_law_many", "_law_kind", "_law_far", "_law_some"] ["_law_cell", "_law_step", "_law_many"] (defScope aJ):=⟨rfl,rfl,rfl,by decide +kernel,rfl,by decide +kernel,by decide +kernel⟩
theorem jm {f:Addr} (T:Txt K mg) (c__law_no_state:Cal P w K mg base 1 "_law_no_state" ["_law_cell", "_law_many"] (ak K aL)) (c__law_no_deed:Cal P w K mg base 1 "_law_no_deed" ["_law_cell"] (ak K aU)) (cdv:Value) (A:Around) (outer:List PySem.Env) (s:Shared) (H:Hp) (E:XK) (hr:Room 1 (A.deeper (envOfC "_law_no_step" (defScope aJ) s.heap.objs.size f cdv))) :
    QSs (cxOf CX0 P w K mg base ["_law_cell", "_law_step", "_law_many", "_law_kind", "_law_far", "_law_some"] "_law_no_step" (defScope aJ) f cdv A outer s H E).nox K L0 (defBody aJ) cG :=
  have nd:=dB.nd
  have hu:(A.deeper (envOfC "_law_no_step" (defScope aJ) s.heap.objs.size f cdv)).units+64<cLine:=hr.units
  (ao (bN (i:=3) nd rfl (Or.inl rfl) (dq (qv 0) aA))
      (ao (bN (i:=4) nd rfl (Or.inl rfl) (jn (qv 0) aA))
      (ao (cR (b7 gP nW (qv 3) aA (nomark _))
      (au (bD (cX (aa (cz c__law_no_state (hr.mono (by decide)) (aa (qv 4) (aa (qv 2) aq))) (aa (q_ix hu (qv 1) aA) (aa (q_ix hu (qv 1) aA) aq))))))
      bu)
      (ao (cR (b7 gP nW (qv 3) aA (nomark _))
      (au (bD (cX (aa (q_ix hu (qv 1) aA) (aa (q_ix hu (qv 1) aA) (aa (cz c__law_no_state (hr.mono (by decide)) (aa (qv 4) (aa (qv 2) aq))) aq))))))
      bu)
      (ao (cR (b7 gP nW (qv 3) aA (nomark _))
      (au (bD (cX (aa (q_ix hu (qv 1) aA) (aa (cz c__law_no_deed (hr.mono (by decide)) (aa (qv 4) aq)) (aa (q_ix hu (qv 1) aA) aq))))))
      bu)
      (ao (bN (i:=5) nd rfl (Or.inl rfl) (d7 (aa (d7 (aa (q_ix hu (qv 1) aA) (aa (q_ix hu (qv 1) aA) (aa (q_ix hu (qv 1) aA) aq)))) (aa (fU (qv 1) h_ (dW aA)) (aa (jG (qv 1) (cX (aa aA aq))) (aa rQ (aa aZ (aa aA (aa (cX aq) aq)))))))))
      (au (pq (pv 5) (dq (qv 4) aA)))))))))
theorem iw {f:Addr} {fd:FuncData} (F:Fun K "_law_no_step" "_law_no_step" aJ f fd) (T:Txt K mg) (c__law_no_state:Cal P w K mg base 1 "_law_no_state" ["_law_cell", "_law_many"] (ak K aL)) (c__law_no_deed:Cal P w K mg base 1 "_law_no_deed" ["_law_cell"] (ak K aU)):FnOk P w K mg base CX0 2 f fd ["_law_cell", "_law_step", "_law_many"] (ak K aY) :=
  FunQ.ok F dB gB (jm T c__law_no_state c__law_no_deed) jr
theorem d9:FnScope ["_law_script", "_law_many", "_law_steps_here", "_law_cell"] ["_law_script", "_law_many"] (defScope aP):=⟨rfl,rfl,rfl,by decide +kernel,rfl,by decide +kernel,by decide +kernel⟩
theorem mV {f:Addr} (T:Txt K mg) (c__law_deed:Cal P w K mg base 1 "_law_deed" ["_law_cell"] (ak K bH)) (cdv:Value) (A:Around) (outer:List PySem.Env) (s:Shared) (H:Hp) (E:XK) (hr:Room 1 (A.deeper (envOfC "_law_steps" (defScope aP) s.heap.objs.size f cdv))) :
    QSs (cxOf CX0 P w K mg base ["_law_script", "_law_many", "_law_steps_here", "_law_cell"] "_law_steps" (defScope aP) f cdv A outer s H E).nox K L0 (defBody aP) dF :=
  have nd:=d9.nd
  have hu:(A.deeper (envOfC "_law_steps" (defScope aP) s.heap.objs.size f cdv)).units+64<cLine:=hr.units
  (ao (bN (i:=2) nd rfl (Or.inl rfl) (d7 aq))
      (ao (dR 0 (qZ PassesOwn.never rfl (nQ (fU (qv 0) (dW aA) (dW aA))) (fG (i:=3) nd rfl (Or.inl rfl))
      (au (vJ (tM (pv 2)) (cX (aa (dq (qv 3) (qv 1)) (aa (cz c__law_deed (hr.mono (by decide)) (aa (jn (jn (qv 3) (qv 1)) (qv 1)) aq)) (aa (dq (jn (qv 3) (qv 1)) (qv 1)) aq))))))))
      (au (oA (pv 2)))))
theorem kI {f:Addr} {fd:FuncData} (F:Fun K "_law_steps" "_law_steps" aP f fd) (T:Txt K mg) (c__law_deed:Cal P w K mg base 1 "_law_deed" ["_law_cell"] (ak K bH)):FnOk P w K mg base CX0 2 f fd ["_law_script", "_law_many"] (ak K bx) :=
  FunQ.ok F d9 jg (mV T c__law_deed) lZ
theorem jQ:FnScope ["many", "thing"] ["many", "thing"] (defScope bU):=⟨rfl,rfl,rfl,by decide +kernel,rfl,by decide +kernel,by decide +kernel⟩
theorem t6 {f:Addr} (T:Txt K mg) (c_is_state:Cal P w K mg base 2 "is_state" ["many", "thing"] (ak K bK)) (c_is_deed:Cal P w K mg base 2 "is_deed" ["thing"] (ak K cg)) (cdv:Value) (A:Around) (outer:List PySem.Env) (s:Shared) (H:Hp) (E:XK) (hr:Room 2 (A.deeper (envOfC "is_step" (defScope bU) s.heap.objs.size f cdv))) :
    QSs (cxOf CX0 P w K mg base ["many", "thing"] "is_step" (defScope bU) f cdv A outer s H E).nox K L0 (defBody bU) iK :=
  have nd:=jQ.nd
  have hu:(A.deeper (envOfC "is_step" (defScope bU) s.heap.objs.size f cdv)).units+64<cLine:=hr.units
  (ao (cR (qt_w (qz (iM (fY (qD T.n_isinstance (qv 1) (oK T.n_tuple o8)))) (l_ (b7 (kNe (K:=K) hu) rZ (cQ b_ iD rfl T.n_len jb (qv 1)) aA (nomark _)))))
      (au (bD q_bl))
      bu)
      (au (bD (sX (cz c_is_state (hr.mono (by decide)) (aa (qv 0) (aa (q_ix hu (qv 1) aA) aq))) (sX (cz c_is_deed (hr.mono (by decide)) (aa (q_ix hu (qv 1) aA) aq)) (sO (cz c_is_state (hr.mono (by decide)) (aa (qv 0) (aa (q_ix hu (qv 1) aA) aq)))))))))
theorem p6 {f:Addr} {fd:FuncData} (F:Fun K "is_step" "is_step" bU f fd) (T:Txt K mg) (c_is_state:Cal P w K mg base 2 "is_state" ["many", "thing"] (ak K bK)) (c_is_deed:Cal P w K mg base 2 "is_deed" ["thing"] (ak K cg)):FnOk P w K mg base CX0 3 f fd ["many", "thing"] (ak K cj) :=
  FunQ.ok F jQ nU (t6 T c_is_state c_is_deed) rG
theorem dO:FnScope ["many", "steps", "step"] ["many", "steps"] (defScope aN):=⟨rfl,rfl,rfl,by decide +kernel,rfl,by decide +kernel,by decide +kernel⟩
theorem j5 {f:Addr} (T:Txt K mg) (c_is_whole:Cal P w K mg base 1 "is_whole" ["thing"] (ak K a_)) (c_is_step:Cal P w K mg base 3 "is_step" ["many", "thing"] (ak K cj)) (cdv:Value) (A:Around) (outer:List PySem.Env) (s:Shared) (H:Hp) (E:XK) (hr:Room 3 (A.deeper (envOfC "check_parts" (defScope aN) s.heap.objs.size f cdv))) :
    QSs (cxOf (CXx P w mg rn) P w K mg base ["many", "steps", "step"] "check_parts" (defScope aN) f cdv A outer s H E) K (LX rn mg E) (defBody aN) cO :=
  have nd:=dO.nd
  have hu:(A.deeper (envOfC "check_parts" (defScope aN) s.heap.objs.size f cdv)).units+64<cLine:=hr.units
  (ao (cR (qt_w (qz (iM (fY (cz c_is_whole (hr.mono (by decide)) (aa (qv 0) aq)))) (l_ (b7 gP nW (qv 0) aA (nomark _)))))
      (au (dI rfl jN T.x_NoMachine (.head _) aZ))
      bu)
      (ao (cR (iM (fY (qD T.n_isinstance (qv 1) (oK T.n_list j7))))
      (au (dI rfl jN T.x_NoMachine (.head _) aZ))
      bu)
      (au (dR 1 (qZ PassesOwn.leaving rfl (nQ (qv 1)) (fG (i:=2) nd rfl (Or.inl rfl))
      (au (cR (iM (fY (cz c_is_step (hr.mono (by decide)) (aa (qv 0) (aa (qv 2) aq)))))
      (au (dI rfl jN T.x_NoMachine (.head _) aZ))
      bu)))))))
theorem jw {f:Addr} {fd:FuncData} (F:Fun K "check_parts" "check_parts" aN f fd) (T:Txt K mg) (c_is_whole:Cal P w K mg base 1 "is_whole" ["thing"] (ak K a_)) (c_is_step:Cal P w K mg base 3 "is_step" ["many", "thing"] (ak K cj)):FnOk P w K mg base (CXx P w mg rn) 4 f fd ["many", "steps"] (cT K rn mg bc) :=
  FunX.ok F dO iJ (j5 T c_is_whole c_is_step) j8
theorem rN:FnScope ["many", "steps", "m"] ["many", "steps"] (defScope dN):=⟨rfl,rfl,rfl,by decide +kernel,rfl,by decide +kernel,by decide +kernel⟩
theorem xZ {f:Addr} (T:Txt K mg) (c_check_parts:CalX P w K mg base rn 4 "check_parts" ["many", "steps"] bc) (c_check_bounds:CalX P w K mg base rn 2 "check_bounds" ["m"] aV) (cdv:Value) (A:Around) (outer:List PySem.Env) (s:Shared) (H:Hp) (E:XK) (hr:Room 4 (A.deeper (envOfC "made" (defScope dN) s.heap.objs.size f cdv))) :
    QSs (cxOf (CXx P w mg rn) P w K mg base ["many", "steps", "m"] "made" (defScope dN) f cdv A outer s H E) K (LX rn mg E) (defBody dN) pG :=
  have nd:=rN.nd
  have hu:(A.deeper (envOfC "made" (defScope dN) s.heap.objs.size f cdv)).units+64<cLine:=hr.units
  (ao (pQ c_check_parts (hr.mono (by decide)) ye (aa (qv 0) (aa (qv 1) aq)))
      (ao (dR 0 (bN (i:=2) nd rfl (Or.inl rfl) (cX (aa (qv 0) (aa (qH hu rfl T.n_sorted rfl T.n_set (qv 1)) aq)))))
      (ao (pQ c_check_bounds (hr.mono (by decide)) ye (aa (qv 2) aq))
      (au (oA (pv 2))))))
theorem vY {f:Addr} {fd:FuncData} (F:Fun K "made" "made" dN f fd) (T:Txt K mg) (c_check_parts:CalX P w K mg base rn 4 "check_parts" ["many", "steps"] bc) (c_check_bounds:CalX P w K mg base rn 2 "check_bounds" ["m"] aV):FnOk P w K mg base (CXx P w mg rn) 5 f fd ["many", "steps"] (cT K rn mg dZ) :=
  FunX.ok F rN uo (xZ T c_check_parts c_check_bounds) yN
theorem fj:FnScope ["_law_many", "_law_steps_here", "_law_found", "e", "_law_others"] ["_law_many", "_law_steps_here"] (defScope aQ):=⟨rfl,rfl,rfl,by decide +kernel,rfl,by decide +kernel,by decide +kernel⟩
theorem mY {f:Addr} (T:Txt K mg) (c_made:CalX P w K mg base rn 5 "made" ["many", "steps"] dZ) (cdv:Value) (A:Around) (outer:List PySem.Env) (s:Shared) (H:Hp) (E:XK) (hr:Room 5 (A.deeper (envOfC "_law_asked" (defScope aQ) s.heap.objs.size f cdv))) :
    QSs (cxOf CX0 P w K mg base ["_law_many", "_law_steps_here", "_law_found", "e", "_law_others"] "_law_asked" (defScope aQ) f cdv A outer s H E).nox K L0 (defBody aQ) cF :=
  have nd:=fj.nd
  have hu:(A.deeper (envOfC "_law_asked" (defScope aQ) s.heap.objs.size f cdv)).units+64<cLine:=hr.units
  (ao (yU (j:=3) (ρh:=fun a=>[none,none,none,some (.xc a),none]) T.r_KinError nd rfl rfl rfl rfl (fun a=>rfl) (fun pn xe E1 hx1=>(au (wY c_made (hr.mono (by decide)) hx1 (i:=2) nd rfl (Or.inl rfl) (aa (qv 0) (aa (qv 1) aq)))))
      (fun pn a oe n C hn hm xc hp hcl=>by
        obtain ⟨c_NoText,m_NoText,k_NoText⟩:=T.i_NoText n C hn hm
        obtain ⟨c_NoDeed,m_NoDeed,k_NoDeed⟩:=T.i_NoDeed n C hn hm
        obtain ⟨c_NoState,m_NoState,k_NoState⟩:=T.i_NoState n C hn hm
        obtain ⟨c_TooBig,m_TooBig,k_TooBig⟩:=T.i_TooBig n C hn hm
        obtain ⟨c_NoName,m_NoName,k_NoName⟩:=T.i_NoName n C hn hm
        obtain ⟨c_NoScroll,m_NoScroll,k_NoScroll⟩:=T.i_NoScroll n C hn hm
        obtain ⟨c_NoFrame,m_NoFrame,k_NoFrame⟩:=T.i_NoFrame n C hn hm
        obtain ⟨c_NoRow,m_NoRow,k_NoRow⟩:=T.i_NoRow n C hn hm
        obtain ⟨c_NoMachine,m_NoMachine,k_NoMachine⟩:=T.i_NoMachine n C hn hm
        exact (ao (bN (i:=4) nd rfl (Or.inl rfl) (d7 (aa (jx (vc:=.ref c_TooBig) (j:=3) T.n_isinstance hp hcl xc k_TooBig (pv 3) (pe_glob rfl m_TooBig rfl) (fun _ r=>r)) (aa (jx (vc:=.ref c_NoState) (j:=3) T.n_isinstance hp hcl xc k_NoState (pv 3) (pe_glob rfl m_NoState rfl) (fun _ r=>r)) (aa (jx (vc:=.ref c_NoDeed) (j:=3) T.n_isinstance hp hcl xc k_NoDeed (pv 3) (pe_glob rfl m_NoDeed rfl) (fun _ r=>r)) (aa (jx (vc:=.ref c_NoText) (j:=3) T.n_isinstance hp hcl xc k_NoText (pv 3) (pe_glob rfl m_NoText rfl) (fun _ r=>r)) aq))))))
      (ao (bN (i:=4) nd rfl (Or.inl rfl) (jG (qv 4) (d7 (aa (jx (vc:=.ref c_NoFrame) (j:=3) T.n_isinstance hp hcl xc k_NoFrame (pv 3) (pe_glob rfl m_NoFrame rfl) (fun _ r=>r)) (aa (jx (vc:=.ref c_NoScroll) (j:=3) T.n_isinstance hp hcl xc k_NoScroll (pv 3) (pe_glob rfl m_NoScroll rfl) (fun _ r=>r)) (aa (jx (vc:=.ref c_NoName) (j:=3) T.n_isinstance hp hcl xc k_NoName (pv 3) (pe_glob rfl m_NoName rfl) (fun _ r=>r)) aq))))))
      (ao (cR (qt_w (qz (b7 (kIn (K:=K) hu) wV q_bl (qv 4) (by rfl)) (qz (fY (jx (vc:=.ref c_NoRow) (j:=3) T.n_isinstance hp hcl xc k_NoRow (pv 3) (pe_glob rfl m_NoRow rfl) (fun _ r=>r))) (l_ (iM (fY (jx (vc:=.ty "ValueError") (j:=3) T.n_isinstance hp hcl xc (T.i_ValueError n C hn hm) (pv 3) (oK T.n_ValueError j9) (fun _ r=>r))))))))
      (au (bD (cX (aa aZ (aa aZ aq)))))
      bu)
      (au (bD (cX (aa aZ (aa (jx (vc:=.ref c_NoMachine) (j:=3) T.n_isinstance hp hcl xc k_NoMachine (pv 3) (pe_glob rfl m_NoMachine rfl) (fun _ r=>r)) aq))))))))))
      (au (v5 (qm_e aZ (qm_v (pv 2) zu)))))
theorem lu {f:Addr} {fd:FuncData} (F:Fun K "_law_asked" "_law_asked" aQ f fd) (T:Txt K mg) (c_made:CalX P w K mg base rn 5 "made" ["many", "steps"] dZ):FnOk P w K mg base CX0 6 f fd ["_law_many", "_law_steps_here"] (ak K aM) :=
  FunQ.ok F fj jh (mY T c_made) lU
theorem vI:FnScope ["_law_script", "_law_many", "_law_steps_here", "_law_cell", "_law_at", "_law_step", "_law_wrong", "_law_handed", "_law_far", "_law_small_here"] ["_law_script"] (defScope fV):=⟨rfl,rfl,rfl,by decide +kernel,rfl,by decide +kernel,by decide +kernel⟩
theorem Bf {f:Addr} (T:Txt K mg) (c__law_steps:Cal P w K mg base 2 "_law_steps" ["_law_script", "_law_many"] (ak K bx)) (c__law_cell_at:Cal P w K mg base 1 "_law_cell_at" ["_law_script", "_law_k"] (ak K az)) (c__law_small:Cal P w K mg base 1 "_law_small" ["_law_many", "_law_steps_here"] (ak K bw)) (c__law_asked:Cal P w K mg base 6 "_law_asked" ["_law_many", "_law_steps_here"] (ak K aM)) (c__law_no_many:Cal P w K mg base 1 "_law_no_many" ["_law_cell"] (ak K aW)) (c__law_no_step:Cal P w K mg base 2 "_law_no_step" ["_law_cell", "_law_step", "_law_many"] (ak K aY)) (cdv:Value) (A:Around) (outer:List PySem.Env) (s:Shared) (H:Hp) (E:XK) (hr:Room 6 (A.deeper (envOfC "law" (defScope fV) s.heap.objs.size f cdv))) :
    QSs (cxOf CX0 P w K mg base ["_law_script", "_law_many", "_law_steps_here", "_law_cell", "_law_at", "_law_step", "_law_wrong", "_law_handed", "_law_far", "_law_small_here"] "law" (defScope fV) f cdv A outer s H E).nox K L0 (defBody fV) wz :=
  have nd:=vI.nd
  have hu:(A.deeper (envOfC "law" (defScope fV) s.heap.objs.size f cdv)).units+64<cLine:=hr.units
  (ao (bN (i:=1) nd rfl (Or.inl rfl) (jG aA (dq (cz c__law_cell_at (hr.mono (by decide)) (aa (qv 0) (aa aA aq))) aA)))
      (ao (bN (i:=2) nd rfl (Or.inl rfl) (cz c__law_steps (hr.mono (by decide)) (aa (qv 0) (aa (qv 1) aq))))
      (ao (bN (i:=3) nd rfl (Or.inl rfl) (cz c__law_cell_at (hr.mono (by decide)) (aa (qv 0) (aa aA aq))))
      (ao (bN (i:=4) nd rfl (Or.inl rfl) (dq (cz c__law_cell_at (hr.mono (by decide)) (aa (qv 0) (aa aA aq))) (jG (cQ b_ iD rfl T.n_len jb (qv 2)) aA)))
      (ao (bN (i:=5) nd rfl (Or.inl rfl) (cX (aa (dq (qv 3) (qv 1)) (aa aZ (aa (dq (jn (qv 3) (qv 1)) (qv 1)) aq)))))
      (ao (bN (i:=6) nd rfl (Or.inl rfl) (jG (q_fz (jG (q_fz (fU (qv 2) h_ (dW (qv 4)))) (q_fz (d7 (aa (cz c__law_no_step (hr.mono (by decide)) (aa (cz c__law_cell_at (hr.mono (by decide)) (aa (qv 0) (aa aA aq))) (aa (qv 5) (aa (qv 1) aq)))) aq))))) (q_fz (fU (qv 2) (dW (qv 4)) h_))))
      (ao (dR 6 (bN (i:=7) nd rfl (Or.inl rfl) (gH fC nu rfl T.n_list j7 (qv 6))))
      (ao (cR (qt_w (qz (b7 (kNe (K:=K) hu) rZ (cz c__law_asked (hr.mono (by decide)) (aa (qv 1) (aa (qv 7) aq))) (cX (aa aZ (aa q_bl aq))) (nomark _)) (l_ (b7 (kNe (K:=K) hu) rZ (qv 7) (qv 6) (nomark _)))))
      (au (bD q_bl))
      bu)
      (ao (bN (i:=8) nd rfl (Or.inl rfl) (cz c__law_cell_at (hr.mono (by decide)) (aa (qv 0) (aa aA aq))))
      (ao (cR (b7 (kNe (K:=K) hu) rZ (cz c__law_asked (hr.mono (by decide)) (aa (cz c__law_no_many (hr.mono (by decide)) (aa (qv 8) aq)) (aa (gH fC nu rfl T.n_list j7 (qv 2)) aq))) (cX (aa aZ (aa q_bl aq))) (nomark _))
      (au (bD q_bl))
      bu)
      (ao (cR (b7 (kNe (K:=K) hu) rZ (cz c__law_asked (hr.mono (by decide)) (aa (qv 1) (aa (q_ix hu (d7 (aa (gH yz uW rfl T.n_tuple o8 (qv 2)) (aa aZ (aa aZ (aa rQ (aa aA (aa q_bl aq))))))) (dq (jn (qv 8) aA) aA)) aq))) (cX (aa aZ (aa q_bl aq))) (nomark _))
      (au (bD q_bl))
      bu)
      (ao (dR 5 (bN (i:=9) nd rfl (Or.inl rfl) (cz c__law_small (hr.mono (by decide)) (aa (qv 1) (aa (jG (jG (q_fz (fU (qv 2) h_ (dW (qv 4)))) (d7 (aa (qv 5) aq))) (q_fz (fU (qv 2) (dW (qv 4)) h_))) aq)))))
      (ao (cR (b7 mU rP (qv 1) aA (nomark _))
      (au (bD q_bl))
      bu)
      (au (dR 1 (bD (xN (kEq (K:=K) hu) y_ (cz c__law_asked (hr.mono (by decide)) (aa (qv 1) (aa (gH fC nu rfl T.n_list j7 (qv 9)) aq))) (cX (aa aZ (aa (cX (aa (qv 1) (aa (cQ ym u_ rfl T.n_sorted iu (qv 9)) aq))) aq))) (nomark _))))))))))))))))))
theorem ok_law {f:Addr} {fd:FuncData} (F:Fun K "law" "law" fV f fd) (T:Txt K mg) (c__law_steps:Cal P w K mg base 2 "_law_steps" ["_law_script", "_law_many"] (ak K bx)) (c__law_cell_at:Cal P w K mg base 1 "_law_cell_at" ["_law_script", "_law_k"] (ak K az)) (c__law_small:Cal P w K mg base 1 "_law_small" ["_law_many", "_law_steps_here"] (ak K bw)) (c__law_asked:Cal P w K mg base 6 "_law_asked" ["_law_many", "_law_steps_here"] (ak K aM)) (c__law_no_many:Cal P w K mg base 1 "_law_no_many" ["_law_cell"] (ak K aW)) (c__law_no_step:Cal P w K mg base 2 "_law_no_step" ["_law_cell", "_law_step", "_law_many"] (ak K aY)):FnOk P w K mg base CX0 7 f fd ["_law_script"] (ak K sp_law) :=
  FunQ.ok F vI wX (Bf T c__law_steps c__law_cell_at c__law_small c__law_asked c__law_no_many c__law_no_step) Bh
end
theorem us1 {us:List Value} (h:us.length=1):∃ a0,us=[a0]:=by
  cases us with
  | nil=>simp at h
  | cons a0 us =>
  cases us with
  | nil=>exact ⟨_,rfl⟩
  | cons b us=>simp at h
theorem us2 {us:List Value} (h:us.length=2):∃ a0 a1,us=[a0,a1]:=by
  cases us with
  | nil=>simp at h
  | cons a0 us =>
  cases us with
  | nil=>simp at h
  | cons a1 us =>
  cases us with
  | nil=>exact ⟨_,_,rfl⟩
  | cons b us=>simp at h
theorem us3 {us:List Value} (h:us.length=3):∃ a0 a1 a2,us=[a0,a1,a2]:=by
  cases us with
  | nil=>simp at h
  | cons a0 us =>
  cases us with
  | nil=>simp at h
  | cons a1 us =>
  cases us with
  | nil=>simp at h
  | cons a2 us =>
  cases us with
  | nil=>exact ⟨_,_,_,rfl⟩
  | cons b us=>simp at h
theorem all_mk {l:PySem.W.OpenLaw} {w:World} {K:PySem.W.Frag} {h:Heap} {mg:Str→Option Value} {fa:Addr} (X:K.In h) (G:h.Ns mainGlobals mg) (hfa:mg "law" = some (.ref fa))
    {f_is_open:Addr} {od_is_open an_is_open:Option Addr} {sl_is_open:Array (Option Value)} {oc_is_open kV_is_open dc_is_open pm_is_open cd_is_open ct_is_open:Value}
    (a_is_open:PySem.W.nsIn K mainGlobals "is_open" = some (some (.ref f_is_open))) (l_is_open:K.lookup f_is_open=some ⟨oc_is_open,od_is_open,.func (PySem.W.fnOf "is_open" "is_open" (defArgs bJ) (defBody bJ) (defScope bJ) .none kV_is_open dc_is_open pm_is_open an_is_open cd_is_open ct_is_open),sl_is_open⟩) (c_is_open:PySem.W.codeIn K cd_is_open "is_open" = true) (k_is_open:PySem.W.keepIn K (.ref f_is_open)=true)
    {f_is_deed:Addr} {od_is_deed an_is_deed:Option Addr} {sl_is_deed:Array (Option Value)} {oc_is_deed kV_is_deed dc_is_deed pm_is_deed cd_is_deed ct_is_deed:Value}
    (a_is_deed:PySem.W.nsIn K mainGlobals "is_deed" = some (some (.ref f_is_deed))) (l_is_deed:K.lookup f_is_deed=some ⟨oc_is_deed,od_is_deed,.func (PySem.W.fnOf "is_deed" "is_deed" (defArgs bO) (defBody bO) (defScope bO) .none kV_is_deed dc_is_deed pm_is_deed an_is_deed cd_is_deed ct_is_deed),sl_is_deed⟩) (c_is_deed:PySem.W.codeIn K cd_is_deed "is_deed" = true) (k_is_deed:PySem.W.keepIn K (.ref f_is_deed)=true)
    {f_is_whole:Addr} {od_is_whole an_is_whole:Option Addr} {sl_is_whole:Array (Option Value)} {oc_is_whole kV_is_whole dc_is_whole pm_is_whole cd_is_whole ct_is_whole:Value}
    (a_is_whole:PySem.W.nsIn K mainGlobals "is_whole" = some (some (.ref f_is_whole))) (l_is_whole:K.lookup f_is_whole=some ⟨oc_is_whole,od_is_whole,.func (PySem.W.fnOf "is_whole" "is_whole" (defArgs bA) (defBody bA) (defScope bA) .none kV_is_whole dc_is_whole pm_is_whole an_is_whole cd_is_whole ct_is_whole),sl_is_whole⟩) (c_is_whole:PySem.W.codeIn K cd_is_whole "is_whole" = true) (k_is_whole:PySem.W.keepIn K (.ref f_is_whole)=true)
    {f_is_state:Addr} {od_is_state an_is_state:Option Addr} {sl_is_state:Array (Option Value)} {oc_is_state kV_is_state dc_is_state pm_is_state cd_is_state ct_is_state:Value}
    (a_is_state:PySem.W.nsIn K mainGlobals "is_state" = some (some (.ref f_is_state))) (l_is_state:K.lookup f_is_state=some ⟨oc_is_state,od_is_state,.func (PySem.W.fnOf "is_state" "is_state" (defArgs bB) (defBody bB) (defScope bB) .none kV_is_state dc_is_state pm_is_state an_is_state cd_is_state ct_is_state),sl_is_state⟩) (c_is_state:PySem.W.codeIn K cd_is_state "is_state" = true) (k_is_state:PySem.W.keepIn K (.ref f_is_state)=true)
    {f_is_step:Addr} {od_is_step an_is_step:Option Addr} {sl_is_step:Array (Option Value)} {oc_is_step kV_is_step dc_is_step pm_is_step cd_is_step ct_is_step:Value}
    (a_is_step:PySem.W.nsIn K mainGlobals "is_step" = some (some (.ref f_is_step))) (l_is_step:K.lookup f_is_step=some ⟨oc_is_step,od_is_step,.func (PySem.W.fnOf "is_step" "is_step" (defArgs bU) (defBody bU) (defScope bU) .none kV_is_step dc_is_step pm_is_step an_is_step cd_is_step ct_is_step),sl_is_step⟩) (c_is_step:PySem.W.codeIn K cd_is_step "is_step" = true) (k_is_step:PySem.W.keepIn K (.ref f_is_step)=true)
    {f_check_parts:Addr} {od_check_parts an_check_parts:Option Addr} {sl_check_parts:Array (Option Value)} {oc_check_parts kV_check_parts dc_check_parts pm_check_parts cd_check_parts ct_check_parts:Value}
    (a_check_parts:PySem.W.nsIn K mainGlobals "check_parts" = some (some (.ref f_check_parts))) (l_check_parts:K.lookup f_check_parts=some ⟨oc_check_parts,od_check_parts,.func (PySem.W.fnOf "check_parts" "check_parts" (defArgs aN) (defBody aN) (defScope aN) .none kV_check_parts dc_check_parts pm_check_parts an_check_parts cd_check_parts ct_check_parts),sl_check_parts⟩) (c_check_parts:PySem.W.codeIn K cd_check_parts "check_parts" = true) (k_check_parts:PySem.W.keepIn K (.ref f_check_parts)=true)
    {f_check_bounds:Addr} {od_check_bounds an_check_bounds:Option Addr} {sl_check_bounds:Array (Option Value)} {oc_check_bounds kV_check_bounds dc_check_bounds pm_check_bounds cd_check_bounds ct_check_bounds:Value}
    (a_check_bounds:PySem.W.nsIn K mainGlobals "check_bounds" = some (some (.ref f_check_bounds))) (l_check_bounds:K.lookup f_check_bounds=some ⟨oc_check_bounds,od_check_bounds,.func (PySem.W.fnOf "check_bounds" "check_bounds" (defArgs aD) (defBody aD) (defScope aD) .none kV_check_bounds dc_check_bounds pm_check_bounds an_check_bounds cd_check_bounds ct_check_bounds),sl_check_bounds⟩) (c_check_bounds:PySem.W.codeIn K cd_check_bounds "check_bounds" = true) (k_check_bounds:PySem.W.keepIn K (.ref f_check_bounds)=true)
    {f_made:Addr} {od_made an_made:Option Addr} {sl_made:Array (Option Value)} {oc_made kV_made dc_made pm_made cd_made ct_made:Value}
    (a_made:PySem.W.nsIn K mainGlobals "made" = some (some (.ref f_made))) (l_made:K.lookup f_made=some ⟨oc_made,od_made,.func (PySem.W.fnOf "made" "made" (defArgs dN) (defBody dN) (defScope dN) .none kV_made dc_made pm_made an_made cd_made ct_made),sl_made⟩) (c_made:PySem.W.codeIn K cd_made "made" = true) (k_made:PySem.W.keepIn K (.ref f_made)=true)
    {f_deeds_of:Addr} {od_deeds_of an_deeds_of:Option Addr} {sl_deeds_of:Array (Option Value)} {oc_deeds_of kV_deeds_of dc_deeds_of pm_deeds_of cd_deeds_of ct_deeds_of:Value}
    (a_deeds_of:PySem.W.nsIn K mainGlobals "deeds_of" = some (some (.ref f_deeds_of))) (l_deeds_of:K.lookup f_deeds_of=some ⟨oc_deeds_of,od_deeds_of,.func (PySem.W.fnOf "deeds_of" "deeds_of" (defArgs bh) (defBody bh) (defScope bh) .none kV_deeds_of dc_deeds_of pm_deeds_of an_deeds_of cd_deeds_of ct_deeds_of),sl_deeds_of⟩) (c_deeds_of:PySem.W.codeIn K cd_deeds_of "deeds_of" = true) (k_deeds_of:PySem.W.keepIn K (.ref f_deeds_of)=true)
    {f__law_cell_at:Addr} {od__law_cell_at an__law_cell_at:Option Addr} {sl__law_cell_at:Array (Option Value)} {oc__law_cell_at kV__law_cell_at dc__law_cell_at pm__law_cell_at cd__law_cell_at ct__law_cell_at:Value}
    (a__law_cell_at:PySem.W.nsIn K mainGlobals "_law_cell_at" = some (some (.ref f__law_cell_at))) (l__law_cell_at:K.lookup f__law_cell_at=some ⟨oc__law_cell_at,od__law_cell_at,.func (PySem.W.fnOf "_law_cell_at" "_law_cell_at" (defArgs aK) (defBody aK) (defScope aK) .none kV__law_cell_at dc__law_cell_at pm__law_cell_at an__law_cell_at cd__law_cell_at ct__law_cell_at),sl__law_cell_at⟩) (c__law_cell_at:PySem.W.codeIn K cd__law_cell_at "_law_cell_at" = true) (k__law_cell_at:PySem.W.keepIn K (.ref f__law_cell_at)=true)
    {f__law_asked:Addr} {od__law_asked an__law_asked:Option Addr} {sl__law_asked:Array (Option Value)} {oc__law_asked kV__law_asked dc__law_asked pm__law_asked cd__law_asked ct__law_asked:Value}
    (a__law_asked:PySem.W.nsIn K mainGlobals "_law_asked" = some (some (.ref f__law_asked))) (l__law_asked:K.lookup f__law_asked=some ⟨oc__law_asked,od__law_asked,.func (PySem.W.fnOf "_law_asked" "_law_asked" (defArgs aQ) (defBody aQ) (defScope aQ) .none kV__law_asked dc__law_asked pm__law_asked an__law_asked cd__law_asked ct__law_asked),sl__law_asked⟩) (c__law_asked:PySem.W.codeIn K cd__law_asked "_law_asked" = true) (k__law_asked:PySem.W.keepIn K (.ref f__law_asked)=true)
    {f__law_deed:Addr} {od__law_deed an__law_deed:Option Addr} {sl__law_deed:Array (Option Value)} {oc__law_deed kV__law_deed dc__law_deed pm__law_deed cd__law_deed ct__law_deed:Value}
    (a__law_deed:PySem.W.nsIn K mainGlobals "_law_deed" = some (some (.ref f__law_deed))) (l__law_deed:K.lookup f__law_deed=some ⟨oc__law_deed,od__law_deed,.func (PySem.W.fnOf "_law_deed" "_law_deed" (defArgs bf) (defBody bf) (defScope bf) .none kV__law_deed dc__law_deed pm__law_deed an__law_deed cd__law_deed ct__law_deed),sl__law_deed⟩) (c__law_deed:PySem.W.codeIn K cd__law_deed "_law_deed" = true) (k__law_deed:PySem.W.keepIn K (.ref f__law_deed)=true)
    {f__law_no_state:Addr} {od__law_no_state an__law_no_state:Option Addr} {sl__law_no_state:Array (Option Value)} {oc__law_no_state kV__law_no_state dc__law_no_state pm__law_no_state cd__law_no_state ct__law_no_state:Value}
    (a__law_no_state:PySem.W.nsIn K mainGlobals "_law_no_state" = some (some (.ref f__law_no_state))) (l__law_no_state:K.lookup f__law_no_state=some ⟨oc__law_no_state,od__law_no_state,.func (PySem.W.fnOf "_law_no_state" "_law_no_state" (defArgs aB) (defBody aB) (defScope aB) .none kV__law_no_state dc__law_no_state pm__law_no_state an__law_no_state cd__law_no_state ct__law_no_state),sl__law_no_state⟩) (c__law_no_state:PySem.W.codeIn K cd__law_no_state "_law_no_state" = true) (k__law_no_state:PySem.W.keepIn K (.ref f__law_no_state)=true)
    {f__law_no_deed:Addr} {od__law_no_deed an__law_no_deed:Option Addr} {sl__law_no_deed:Array (Option Value)} {oc__law_no_deed kV__law_no_deed dc__law_no_deed pm__law_no_deed cd__law_no_deed ct__law_no_deed:Value}
    (a__law_no_deed:PySem.W.nsIn K mainGlobals "_law_no_deed" = some (some (.ref f__law_no_deed))) (l__law_no_deed:K.lookup f__law_no_deed=some ⟨oc__law_no_deed,od__law_no_deed,.func (PySem.W.fnOf "_law_no_deed" "_law_no_deed" (defArgs aH) (defBody aH) (defScope aH) .none kV__law_no_deed dc__law_no_deed pm__law_no_deed an__law_no_deed cd__law_no_deed ct__law_no_deed),sl__law_no_deed⟩) (c__law_no_deed:PySem.W.codeIn K cd__law_no_deed "_law_no_deed" = true) (k__law_no_deed:PySem.W.keepIn K (.ref f__law_no_deed)=true)
    {f__law_no_step:Addr} {od__law_no_step an__law_no_step:Option Addr} {sl__law_no_step:Array (Option Value)} {oc__law_no_step kV__law_no_step dc__law_no_step pm__law_no_step cd__law_no_step ct__law_no_step:Value}
    (a__law_no_step:PySem.W.nsIn K mainGlobals "_law_no_step" = some (some (.ref f__law_no_step))) (l__law_no_step:K.lookup f__law_no_step=some ⟨oc__law_no_step,od__law_no_step,.func (PySem.W.fnOf "_law_no_step" "_law_no_step" (defArgs aJ) (defBody aJ) (defScope aJ) .none kV__law_no_step dc__law_no_step pm__law_no_step an__law_no_step cd__law_no_step ct__law_no_step),sl__law_no_step⟩) (c__law_no_step:PySem.W.codeIn K cd__law_no_step "_law_no_step" = true) (k__law_no_step:PySem.W.keepIn K (.ref f__law_no_step)=true)
    {f__law_no_many:Addr} {od__law_no_many an__law_no_many:Option Addr} {sl__law_no_many:Array (Option Value)} {oc__law_no_many kV__law_no_many dc__law_no_many pm__law_no_many cd__law_no_many ct__law_no_many:Value}
    (a__law_no_many:PySem.W.nsIn K mainGlobals "_law_no_many" = some (some (.ref f__law_no_many))) (l__law_no_many:K.lookup f__law_no_many=some ⟨oc__law_no_many,od__law_no_many,.func (PySem.W.fnOf "_law_no_many" "_law_no_many" (defArgs aG) (defBody aG) (defScope aG) .none kV__law_no_many dc__law_no_many pm__law_no_many an__law_no_many cd__law_no_many ct__law_no_many),sl__law_no_many⟩) (c__law_no_many:PySem.W.codeIn K cd__law_no_many "_law_no_many" = true) (k__law_no_many:PySem.W.keepIn K (.ref f__law_no_many)=true)
    {f__law_steps:Addr} {od__law_steps an__law_steps:Option Addr} {sl__law_steps:Array (Option Value)} {oc__law_steps kV__law_steps dc__law_steps pm__law_steps cd__law_steps ct__law_steps:Value}
    (a__law_steps:PySem.W.nsIn K mainGlobals "_law_steps" = some (some (.ref f__law_steps))) (l__law_steps:K.lookup f__law_steps=some ⟨oc__law_steps,od__law_steps,.func (PySem.W.fnOf "_law_steps" "_law_steps" (defArgs aP) (defBody aP) (defScope aP) .none kV__law_steps dc__law_steps pm__law_steps an__law_steps cd__law_steps ct__law_steps),sl__law_steps⟩) (c__law_steps:PySem.W.codeIn K cd__law_steps "_law_steps" = true) (k__law_steps:PySem.W.keepIn K (.ref f__law_steps)=true)
    {f__law_small:Addr} {od__law_small an__law_small:Option Addr} {sl__law_small:Array (Option Value)} {oc__law_small kV__law_small dc__law_small pm__law_small cd__law_small ct__law_small:Value}
    (a__law_small:PySem.W.nsIn K mainGlobals "_law_small" = some (some (.ref f__law_small))) (l__law_small:K.lookup f__law_small=some ⟨oc__law_small,od__law_small,.func (PySem.W.fnOf "_law_small" "_law_small" (defArgs aO) (defBody aO) (defScope aO) .none kV__law_small dc__law_small pm__law_small an__law_small cd__law_small ct__law_small),sl__law_small⟩) (c__law_small:PySem.W.codeIn K cd__law_small "_law_small" = true) (k__law_small:PySem.W.keepIn K (.ref f__law_small)=true)
    {f_law:Addr} {od_law an_law:Option Addr} {sl_law:Array (Option Value)} {oc_law kV_law dc_law pm_law cd_law ct_law:Value}
    (a_law:PySem.W.nsIn K mainGlobals "law" = some (some (.ref f_law))) (l_law:K.lookup f_law=some ⟨oc_law,od_law,.func (PySem.W.fnOf "law" "law" (defArgs fV) (defBody fV) (defScope fV) .none kV_law dc_law pm_law an_law cd_law ct_law),sl_law⟩) (c_law:PySem.W.codeIn K cd_law "law" = true) (k_law:PySem.W.keepIn K (.ref f_law)=true)
    (n_ValueError:PySem.W.nsIn K mainGlobals "ValueError" = some none)
    (n_all:PySem.W.nsIn K mainGlobals "all" = some none)
    (n_bool:PySem.W.nsIn K mainGlobals "bool" = some none)
    (n_int:PySem.W.nsIn K mainGlobals "int" = some none)
    (n_isinstance:PySem.W.nsIn K mainGlobals "isinstance" = some none)
    (n_len:PySem.W.nsIn K mainGlobals "len" = some none)
    (n_list:PySem.W.nsIn K mainGlobals "list" = some none)
    (n_set:PySem.W.nsIn K mainGlobals "set" = some none)
    (n_sorted:PySem.W.nsIn K mainGlobals "sorted" = some none)
    (n_str:PySem.W.nsIn K mainGlobals "str" = some none)
    (n_tuple:PySem.W.nsIn K mainGlobals "tuple" = some none)
    {t_HIDDEN:Tok} (g_HIDDEN:PySem.W.nsIn K mainGlobals "HIDDEN" = some (some (.str "*" t_HIDDEN)))
    {t_LETTERS:Tok} (g_LETTERS:PySem.W.nsIn K mainGlobals "LETTERS" = some (some (.str "abcdefghijklmnopqrstuvwxyz" t_LETTERS)))
    {t_MOST_LETTERS:Tok} (g_MOST_LETTERS:PySem.W.nsIn K mainGlobals "MOST_LETTERS" = some (some (.int 6 t_MOST_LETTERS)))
    {t_MOST_STATES:Tok} (g_MOST_STATES:PySem.W.nsIn K mainGlobals "MOST_STATES" = some (some (.int 20 t_MOST_STATES)))
    {t_MOST_STEPS:Tok} (g_MOST_STEPS:PySem.W.nsIn K mainGlobals "MOST_STEPS" = some (some (.int 80 t_MOST_STEPS)))
    {t_MOST_OPEN_DEEDS:Tok} (g_MOST_OPEN_DEEDS:PySem.W.nsIn K mainGlobals "MOST_OPEN_DEEDS" = some (some (.int 6 t_MOST_OPEN_DEEDS)))
    {C_KinError:Addr} (xa_KinError:PySem.W.nsIn K mainGlobals "KinError" = some (some (.ref C_KinError)))
    {C_NoDeed:Addr} (xa_NoDeed:PySem.W.nsIn K mainGlobals "NoDeed" = some (some (.ref C_NoDeed)))
    {C_NoFrame:Addr} (xa_NoFrame:PySem.W.nsIn K mainGlobals "NoFrame" = some (some (.ref C_NoFrame)))
    {C_NoMachine:Addr} (xa_NoMachine:PySem.W.nsIn K mainGlobals "NoMachine" = some (some (.ref C_NoMachine)))
    {C_NoName:Addr} (xa_NoName:PySem.W.nsIn K mainGlobals "NoName" = some (some (.ref C_NoName)))
    {C_NoRow:Addr} (xa_NoRow:PySem.W.nsIn K mainGlobals "NoRow" = some (some (.ref C_NoRow)))
    {C_NoScroll:Addr} (xa_NoScroll:PySem.W.nsIn K mainGlobals "NoScroll" = some (some (.ref C_NoScroll)))
    {C_NoState:Addr} (xa_NoState:PySem.W.nsIn K mainGlobals "NoState" = some (some (.ref C_NoState)))
    {C_NoText:Addr} (xa_NoText:PySem.W.nsIn K mainGlobals "NoText" = some (some (.ref C_NoText)))
    {C_TooBig:Addr} (xa_TooBig:PySem.W.nsIn K mainGlobals "TooBig" = some (some (.ref C_TooBig)))
    (xe_KinError:PySem.W.excIn K C_KinError [.type "ValueError",.type "Exception",.type "BaseException",.type "object"] "ValueError.__new__" = true) (xg_KinError:PySem.W.findIn K (.ref C_KinError) "__getattr__" = some none) (xh_KinError:PySem.W.findIn K (.ref C_KinError) "__getattribute__" = some (some (.builtin "BaseException.__getattribute__"))) (xi_KinError:PySem.W.findIn K (.ref C_KinError) "__class__" = some (some (.builtin "object.__class__"))) (xj_KinError:PySem.W.mroIn K C_KinError (.type "object")=some true)
    (xe_NoMachine:PySem.W.excIn K C_NoMachine [.type "ValueError",.type "Exception",.type "BaseException",.type "object"] "ValueError.__new__" = true) (xg_NoMachine:PySem.W.findIn K (.ref C_NoMachine) "__getattr__" = some none) (xh_NoMachine:PySem.W.findIn K (.ref C_NoMachine) "__getattribute__" = some (some (.builtin "BaseException.__getattribute__"))) (xi_NoMachine:PySem.W.findIn K (.ref C_NoMachine) "__class__" = some (some (.builtin "object.__class__"))) (xj_NoMachine:PySem.W.mroIn K C_NoMachine (.type "object")=some true)
    (xe_TooBig:PySem.W.excIn K C_TooBig [.type "ValueError",.type "Exception",.type "BaseException",.type "object"] "ValueError.__new__" = true) (xg_TooBig:PySem.W.findIn K (.ref C_TooBig) "__getattr__" = some none) (xh_TooBig:PySem.W.findIn K (.ref C_TooBig) "__getattribute__" = some (some (.builtin "BaseException.__getattribute__"))) (xi_TooBig:PySem.W.findIn K (.ref C_TooBig) "__class__" = some (some (.builtin "object.__class__"))) (xj_TooBig:PySem.W.mroIn K C_TooBig (.type "object")=some true)
    (xs_NoMachine_KinError:PySem.W.mroIn K C_NoMachine (.ref C_KinError)=some true)
    (xt_NoMachine_NoText:PySem.W.kitOne K (.ref C_NoMachine) (.ref C_NoText)=some false)
    (xt_NoMachine_NoDeed:PySem.W.kitOne K (.ref C_NoMachine) (.ref C_NoDeed)=some false)
    (xt_NoMachine_NoState:PySem.W.kitOne K (.ref C_NoMachine) (.ref C_NoState)=some false)
    (xt_NoMachine_TooBig:PySem.W.kitOne K (.ref C_NoMachine) (.ref C_TooBig)=some false)
    (xt_NoMachine_NoName:PySem.W.kitOne K (.ref C_NoMachine) (.ref C_NoName)=some false)
    (xt_NoMachine_NoScroll:PySem.W.kitOne K (.ref C_NoMachine) (.ref C_NoScroll)=some false)
    (xt_NoMachine_NoFrame:PySem.W.kitOne K (.ref C_NoMachine) (.ref C_NoFrame)=some false)
    (xt_NoMachine_NoRow:PySem.W.kitOne K (.ref C_NoMachine) (.ref C_NoRow)=some false)
    (xt_NoMachine_ValueError:PySem.W.kitOne K (.ref C_NoMachine) (.type "ValueError")=some true)
    (xt_NoMachine_NoMachine:PySem.W.kitOne K (.ref C_NoMachine) (.ref C_NoMachine)=some true)
    (xs_TooBig_KinError:PySem.W.mroIn K C_TooBig (.ref C_KinError)=some true)
    (xt_TooBig_NoText:PySem.W.kitOne K (.ref C_TooBig) (.ref C_NoText)=some false)
    (xt_TooBig_NoDeed:PySem.W.kitOne K (.ref C_TooBig) (.ref C_NoDeed)=some false)
    (xt_TooBig_NoState:PySem.W.kitOne K (.ref C_TooBig) (.ref C_NoState)=some false)
    (xt_TooBig_TooBig:PySem.W.kitOne K (.ref C_TooBig) (.ref C_TooBig)=some true)
    (xt_TooBig_NoName:PySem.W.kitOne K (.ref C_TooBig) (.ref C_NoName)=some false)
    (xt_TooBig_NoScroll:PySem.W.kitOne K (.ref C_TooBig) (.ref C_NoScroll)=some false)
    (xt_TooBig_NoFrame:PySem.W.kitOne K (.ref C_TooBig) (.ref C_NoFrame)=some false)
    (xt_TooBig_NoRow:PySem.W.kitOne K (.ref C_TooBig) (.ref C_NoRow)=some false)
    (xt_TooBig_ValueError:PySem.W.kitOne K (.ref C_TooBig) (.type "ValueError")=some true)
    (xt_TooBig_NoMachine:PySem.W.kitOne K (.ref C_TooBig) (.ref C_NoMachine)=some false)
    : ∃ fd:FuncData,(∀ (s:Shared) (v:Value),BindsTo s fd ⟨[v],[]⟩ [("_law_script",v)])∧∀ base:Heap,K.In base→base.Ns mainGlobals mg→FnOk l.prog w K mg base CX0 7 fa fd ["_law_script"] (ak K sp_law):=by
  have e:=hfa.symm.trans (PySem.W.mg_of X G a_law)
  cases e
  have ma_KinError:=PySem.W.mg_of X G xa_KinError
  have ma_NoDeed:=PySem.W.mg_of X G xa_NoDeed
  have ma_NoFrame:=PySem.W.mg_of X G xa_NoFrame
  have ma_NoMachine:=PySem.W.mg_of X G xa_NoMachine
  have ma_NoName:=PySem.W.mg_of X G xa_NoName
  have ma_NoRow:=PySem.W.mg_of X G xa_NoRow
  have ma_NoScroll:=PySem.W.mg_of X G xa_NoScroll
  have ma_NoState:=PySem.W.mg_of X G xa_NoState
  have ma_NoText:=PySem.W.mg_of X G xa_NoText
  have ma_TooBig:=PySem.W.mg_of X G xa_TooBig
  have mk_KinError:XcK K C_KinError:=⟨xe_KinError,xg_KinError,xh_KinError,xi_KinError,xj_KinError⟩
  have mk_NoMachine:XcK K C_NoMachine:=⟨xe_NoMachine,xg_NoMachine,xh_NoMachine,xi_NoMachine,xj_NoMachine⟩
  have mk_TooBig:XcK K C_TooBig:=⟨xe_TooBig,xg_TooBig,xh_TooBig,xi_TooBig,xj_TooBig⟩
  have each:∀ {G:Str→Addr→Prop},G "NoMachine" C_NoMachine→G "TooBig" C_TooBig→∀ n C,n∈rn→mg n=some (.ref C)→G n C:=by
    intro G q_NoMachine q_TooBig n C hn hm
    simp only [rn,List.mem_cons,List.not_mem_nil,or_false] at hn
    rcases hn with rfl | rfl
    · rw [ma_NoMachine] at hm; cases hm; exact q_NoMachine
    · rw [ma_TooBig] at hm; cases hm; exact q_TooBig
  have T:Txt K mg:=⟨PySem.W.mg_none_of X G n_ValueError,PySem.W.mg_none_of X G n_all,PySem.W.mg_none_of X G n_bool,PySem.W.mg_none_of X G n_int,PySem.W.mg_none_of X G n_isinstance,PySem.W.mg_none_of X G n_len,PySem.W.mg_none_of X G n_list,PySem.W.mg_none_of X G n_set,PySem.W.mg_none_of X G n_sorted,PySem.W.mg_none_of X G n_str,PySem.W.mg_none_of X G n_tuple,⟨_,PySem.W.mg_of X G g_HIDDEN⟩,⟨_,PySem.W.mg_of X G g_LETTERS⟩,⟨_,PySem.W.mg_of X G g_MOST_LETTERS⟩,⟨_,PySem.W.mg_of X G g_MOST_STATES⟩,⟨_,PySem.W.mg_of X G g_MOST_STEPS⟩,⟨_,PySem.W.mg_of X G g_MOST_OPEN_DEEDS⟩,⟨_,ma_NoMachine,mk_NoMachine⟩,⟨_,ma_TooBig,mk_TooBig⟩,⟨_,ma_KinError,mk_KinError,each ⟨mk_NoMachine,xs_NoMachine_KinError⟩ ⟨mk_TooBig,xs_TooBig_KinError⟩⟩,each ⟨_,ma_NoText,xt_NoMachine_NoText⟩ ⟨_,ma_NoText,xt_TooBig_NoText⟩,each ⟨_,ma_NoDeed,xt_NoMachine_NoDeed⟩ ⟨_,ma_NoDeed,xt_TooBig_NoDeed⟩,each ⟨_,ma_NoState,xt_NoMachine_NoState⟩ ⟨_,ma_NoState,xt_TooBig_NoState⟩,each ⟨_,ma_TooBig,xt_NoMachine_TooBig⟩ ⟨_,ma_TooBig,xt_TooBig_TooBig⟩,each ⟨_,ma_NoName,xt_NoMachine_NoName⟩ ⟨_,ma_NoName,xt_TooBig_NoName⟩,each ⟨_,ma_NoScroll,xt_NoMachine_NoScroll⟩ ⟨_,ma_NoScroll,xt_TooBig_NoScroll⟩,each ⟨_,ma_NoFrame,xt_NoMachine_NoFrame⟩ ⟨_,ma_NoFrame,xt_TooBig_NoFrame⟩,each ⟨_,ma_NoRow,xt_NoMachine_NoRow⟩ ⟨_,ma_NoRow,xt_TooBig_NoRow⟩,each xt_NoMachine_ValueError xt_TooBig_ValueError,each ⟨_,ma_NoMachine,xt_NoMachine_NoMachine⟩ ⟨_,ma_NoMachine,xt_TooBig_NoMachine⟩⟩
  have F_is_open:=fun_mk (st:=bJ) l_is_open c_is_open k_is_open
  have F_is_deed:=fun_mk (st:=bO) l_is_deed c_is_deed k_is_deed
  have F_is_whole:=fun_mk (st:=bA) l_is_whole c_is_whole k_is_whole
  have F_is_state:=fun_mk (st:=bB) l_is_state c_is_state k_is_state
  have F_is_step:=fun_mk (st:=bU) l_is_step c_is_step k_is_step
  have F_check_parts:=fun_mk (st:=aN) l_check_parts c_check_parts k_check_parts
  have F_check_bounds:=fun_mk (st:=aD) l_check_bounds c_check_bounds k_check_bounds
  have F_made:=fun_mk (st:=dN) l_made c_made k_made
  have F_deeds_of:=fun_mk (st:=bh) l_deeds_of c_deeds_of k_deeds_of
  have F__law_cell_at:=fun_mk (st:=aK) l__law_cell_at c__law_cell_at k__law_cell_at
  have F__law_asked:=fun_mk (st:=aQ) l__law_asked c__law_asked k__law_asked
  have F__law_deed:=fun_mk (st:=bf) l__law_deed c__law_deed k__law_deed
  have F__law_no_state:=fun_mk (st:=aB) l__law_no_state c__law_no_state k__law_no_state
  have F__law_no_deed:=fun_mk (st:=aH) l__law_no_deed c__law_no_deed k__law_no_deed
  have F__law_no_step:=fun_mk (st:=aJ) l__law_no_step c__law_no_step k__law_no_step
  have F__law_no_many:=fun_mk (st:=aG) l__law_no_many c__law_no_many k__law_no_many
  have F__law_steps:=fun_mk (st:=aP) l__law_steps c__law_steps k__law_steps
  have F__law_small:=fun_mk (st:=aO) l__law_small c__law_small k__law_small
  have F_law:=fun_mk (st:=fV) l_law c_law k_law
  refine ⟨PySem.W.fnOf "law" "law" (defArgs fV) (defBody fV) (defScope fV) .none kV_law dc_law pm_law an_law cd_law ct_law,fun s v=>.of_eq rfl,fun base _ _=>?_⟩
  have C_is_open:Cal l.prog w K mg base 1 "is_open" ["thing"] (ak K bC):=F_is_open.cal (PySem.W.mg_of X G a_is_open) (qy F_is_open T ) fun _ _ _ _ _ _ us hl=>by obtain ⟨_,rfl⟩:=us1 hl; rfl
  have C_is_whole:Cal l.prog w K mg base 1 "is_whole" ["thing"] (ak K a_):=F_is_whole.cal (PySem.W.mg_of X G a_is_whole) (oG F_is_whole T ) fun _ _ _ _ _ _ us hl=>by obtain ⟨_,rfl⟩:=us1 hl; rfl
  have C_deeds_of:Cal l.prog w K mg base 1 "deeds_of" ["m"] (ak K bW):=F_deeds_of.cal (PySem.W.mg_of X G a_deeds_of) (oh F_deeds_of T ) fun _ _ _ _ _ _ us hl=>by obtain ⟨_,rfl⟩:=us1 hl; rfl
  have C__law_cell_at:Cal l.prog w K mg base 1 "_law_cell_at" ["_law_script", "_law_k"] (ak K az):=F__law_cell_at.cal (PySem.W.mg_of X G a__law_cell_at) (gZ F__law_cell_at T ) fun _ _ _ _ _ _ us hl=>by obtain ⟨_,_,rfl⟩:=us2 hl; rfl
  have C__law_deed:Cal l.prog w K mg base 1 "_law_deed" ["_law_cell"] (ak K bH):=F__law_deed.cal (PySem.W.mg_of X G a__law_deed) (mK F__law_deed T ) fun _ _ _ _ _ _ us hl=>by obtain ⟨_,rfl⟩:=us1 hl; rfl
  have C__law_no_state:Cal l.prog w K mg base 1 "_law_no_state" ["_law_cell", "_law_many"] (ak K aL):=F__law_no_state.cal (PySem.W.mg_of X G a__law_no_state) (gA F__law_no_state T ) fun _ _ _ _ _ _ us hl=>by obtain ⟨_,_,rfl⟩:=us2 hl; rfl
  have C__law_no_deed:Cal l.prog w K mg base 1 "_law_no_deed" ["_law_cell"] (ak K aU):=F__law_no_deed.cal (PySem.W.mg_of X G a__law_no_deed) (iy F__law_no_deed T ) fun _ _ _ _ _ _ us hl=>by obtain ⟨_,rfl⟩:=us1 hl; rfl
  have C__law_no_many:Cal l.prog w K mg base 1 "_law_no_many" ["_law_cell"] (ak K aW):=F__law_no_many.cal (PySem.W.mg_of X G a__law_no_many) (iH F__law_no_many T ) fun _ _ _ _ _ _ us hl=>by obtain ⟨_,rfl⟩:=us1 hl; rfl
  have C__law_small:Cal l.prog w K mg base 1 "_law_small" ["_law_many", "_law_steps_here"] (ak K bw):=F__law_small.cal (PySem.W.mg_of X G a__law_small) (lA F__law_small T ) fun _ _ _ _ _ _ us hl=>by obtain ⟨_,_,rfl⟩:=us2 hl; rfl
  have C_is_deed:Cal l.prog w K mg base 2 "is_deed" ["thing"] (ak K cg):=F_is_deed.cal (PySem.W.mg_of X G a_is_deed) (qI F_is_deed T C_is_open) fun _ _ _ _ _ _ us hl=>by obtain ⟨_,rfl⟩:=us1 hl; rfl
  have C_is_state:Cal l.prog w K mg base 2 "is_state" ["many", "thing"] (ak K bK):=F_is_state.cal (PySem.W.mg_of X G a_is_state) (nJ F_is_state T C_is_whole) fun _ _ _ _ _ _ us hl=>by obtain ⟨_,_,rfl⟩:=us2 hl; rfl
  have C_check_bounds:CalX l.prog w K mg base rn 2 "check_bounds" ["m"] aV:=Fun.calX F_check_bounds (PySem.W.mg_of X G a_check_bounds) (gQ F_check_bounds T C_deeds_of C_is_open) fun _ _ _ _ _ _ us hl=>by obtain ⟨_,rfl⟩:=us1 hl; rfl
  have C__law_no_step:Cal l.prog w K mg base 2 "_law_no_step" ["_law_cell", "_law_step", "_law_many"] (ak K aY):=F__law_no_step.cal (PySem.W.mg_of X G a__law_no_step) (iw F__law_no_step T C__law_no_state C__law_no_deed) fun _ _ _ _ _ _ us hl=>by obtain ⟨_,_,_,rfl⟩:=us3 hl; rfl
  have C__law_steps:Cal l.prog w K mg base 2 "_law_steps" ["_law_script", "_law_many"] (ak K bx):=F__law_steps.cal (PySem.W.mg_of X G a__law_steps) (kI F__law_steps T C__law_deed) fun _ _ _ _ _ _ us hl=>by obtain ⟨_,_,rfl⟩:=us2 hl; rfl
  have C_is_step:Cal l.prog w K mg base 3 "is_step" ["many", "thing"] (ak K cj):=F_is_step.cal (PySem.W.mg_of X G a_is_step) (p6 F_is_step T C_is_state C_is_deed) fun _ _ _ _ _ _ us hl=>by obtain ⟨_,_,rfl⟩:=us2 hl; rfl
  have C_check_parts:CalX l.prog w K mg base rn 4 "check_parts" ["many", "steps"] bc:=Fun.calX F_check_parts (PySem.W.mg_of X G a_check_parts) (jw F_check_parts T C_is_whole C_is_step) fun _ _ _ _ _ _ us hl=>by obtain ⟨_,_,rfl⟩:=us2 hl; rfl
  have C_made:CalX l.prog w K mg base rn 5 "made" ["many", "steps"] dZ:=Fun.calX F_made (PySem.W.mg_of X G a_made) (vY F_made T C_check_parts C_check_bounds) fun _ _ _ _ _ _ us hl=>by obtain ⟨_,_,rfl⟩:=us2 hl; rfl
  have C__law_asked:Cal l.prog w K mg base 6 "_law_asked" ["_law_many", "_law_steps_here"] (ak K aM):=F__law_asked.cal (PySem.W.mg_of X G a__law_asked) (lu F__law_asked T C_made) fun _ _ _ _ _ _ us hl=>by obtain ⟨_,_,rfl⟩:=us2 hl; rfl
  exact ok_law F_law T C__law_steps C__law_cell_at C__law_small C__law_asked C__law_no_many C__law_no_step
theorem walk {l:PySem.W.OpenLaw} {q:Program} {loose:List Str} {XP:(Str→Option Value)→Heap→Prop} {YP:World→Heap→Prop} {d:DefRec} {K:Params→PySem.W.Frag} (hn:l.most=some 63) (hdf:d.params.defaults=[])
    (hY:∀ (w:World) (h:Heap),YP w h→(K w.params).In h)
    (F:∀ (w:World) (mg:Str→Option Value) (fa:Addr) (h:Heap),(K w.params).In h→h.Ns mainGlobals mg→mg d.name=some (.ref fa) →
      ∃ fd:FuncData,(∀ (s:Shared) (u:Value),BindsTo s fd ⟨[u],[]⟩ [("_law_script",u)])∧∀ base:Heap,(K w.params).In base→base.Ns mainGlobals mg→FnOk l.prog w (K w.params) mg base CX0 7 fa fd ["_law_script"] (ak (K w.params) sp_law)) :
    PySem.W.WalkO q loose XP YP l.row.toRowW d [] (fun f vs=>PySem.call f vs) :=
  L2.walk_of (n:=63) (k:=7) (x := "_law_script") (CX:=fun _=>CX0) (sp:=fun w=>ak (K w.params) sp_law) hn (by decide) hdf ⟨rfl,by decide,by decide⟩ hY F (fun w H a ns hl hO hS=>uY hl hS) fun _ _ _ _ _ z=>z
end L2.Q.Law
open PySem PySem.W PyProof.Rows
set_option maxRecDepth 100000 in
set_option maxHeartbeats 0 in
theorem PySem.Challenge.cw_kinlook_k03_no_machine_holds : PySem.Challenge.rw_kinlook_k03_no_machine.Holds := by
  w_on; o_law; k_head; (case hw=>w_witness2)
  k_fill
  refine L2.Q.Law.walk (l:=PySem.Challenge.rw_kinlook_k03_no_machine) rfl rfl (fun w h Y=>PySem.W.kIn_of Y) ?F
  case F =>
    intro w mg fa h KX G hmg
    refine' L2.Q.Law.all_mk KX G hmg ?a_is_open ?l_is_open ?c_is_open ?k_is_open ?a_is_deed ?l_is_deed ?c_is_deed ?k_is_deed ?a_is_whole ?l_is_whole ?c_is_whole ?k_is_whole ?a_is_state ?l_is_state ?c_is_state ?k_is_state ?a_is_step ?l_is_step ?c_is_step ?k_is_step ?a_check_parts ?l_check_parts ?c_check_parts ?k_check_parts ?a_check_bounds ?l_check_bounds ?c_check_bounds ?k_check_bounds ?a_made ?l_made ?c_made ?k_made ?a_deeds_of ?l_deeds_of ?c_deeds_of ?k_deeds_of ?a__law_cell_at ?l__law_cell_at ?c__law_cell_at ?k__law_cell_at ?a__law_asked ?l__law_asked ?c__law_asked ?k__law_asked ?a__law_deed ?l__law_deed ?c__law_deed ?k__law_deed ?a__law_no_state ?l__law_no_state ?c__law_no_state ?k__law_no_state ?a__law_no_deed ?l__law_no_deed ?c__law_no_deed ?k__law_no_deed ?a__law_no_step ?l__law_no_step ?c__law_no_step ?k__law_no_step ?a__law_no_many ?l__law_no_many ?c__law_no_many ?k__law_no_many ?a__law_steps ?l__law_steps ?c__law_steps ?k__law_steps ?a__law_small ?l__law_small ?c__law_small ?k__law_small ?a_law ?l_law ?c_law ?k_law ?n_ValueError ?n_all ?n_bool ?n_int ?n_isinstance ?n_len ?n_list ?n_set ?n_sorted ?n_str ?n_tuple ?g_HIDDEN ?g_LETTERS ?g_MOST_LETTERS ?g_MOST_STATES ?g_MOST_STEPS ?g_MOST_OPEN_DEEDS ?xa_KinError ?xa_NoDeed ?xa_NoFrame ?xa_NoMachine ?xa_NoName ?xa_NoRow ?xa_NoScroll ?xa_NoState ?xa_NoText ?xa_TooBig ?xe_KinError ?xg_KinError ?xh_KinError ?xi_KinError ?xj_KinError ?xe_NoMachine ?xg_NoMachine ?xh_NoMachine ?xi_NoMachine ?xj_NoMachine ?xe_TooBig ?xg_TooBig ?xh_TooBig ?xi_TooBig ?xj_TooBig ?xs_NoMachine_KinError ?xt_NoMachine_NoText ?xt_NoMachine_NoDeed ?xt_NoMachine_NoState ?xt_NoMachine_TooBig ?xt_NoMachine_NoName ?xt_NoMachine_NoScroll ?xt_NoMachine_NoFrame ?xt_NoMachine_NoRow ?xt_NoMachine_ValueError ?xt_NoMachine_NoMachine ?xs_TooBig_KinError ?xt_TooBig_NoText ?xt_TooBig_NoDeed ?xt_TooBig_NoState ?xt_TooBig_TooBig ?xt_TooBig_NoName ?xt_TooBig_NoScroll ?xt_TooBig_NoFrame ?xt_TooBig_NoRow ?xt_TooBig_ValueError ?xt_TooBig_NoMachine
    (case a_is_open=>k_is)
    (case l_is_open=>k_is)
    (case c_is_open=>k_is)
    (case k_is_open=>k_is)
    (case a_is_deed=>k_is)
    (case l_is_deed=>k_is)
    (case c_is_deed=>k_is)
    (case k_is_deed=>k_is)
    (case a_is_whole=>k_is)
    (case l_is_whole=>k_is)
    (case c_is_whole=>k_is)
    (case k_is_whole=>k_is)
    (case a_is_state=>k_is)
    (case l_is_state=>k_is)
    (case c_is_state=>k_is)
    (case k_is_state=>k_is)
    (case a_is_step=>k_is)
    (case l_is_step=>k_is)
    (case c_is_step=>k_is)
    (case k_is_step=>k_is)
    (case a_check_parts=>k_is)
    (case l_check_parts=>k_is)
    (case c_check_parts=>k_is)
    (case k_check_parts=>k_is)
    (case a_check_bounds=>k_is)
    (case l_check_bounds=>k_is)
    (case c_check_bounds=>k_is)
    (case k_check_bounds=>k_is)
    (case a_made=>k_is)
    (case l_made=>k_is)
    (case c_made=>k_is)
    (case k_made=>k_is)
    (case a_deeds_of=>k_is)
    (case l_deeds_of=>k_is)
    (case c_deeds_of=>k_is)
    (case k_deeds_of=>k_is)
    (case a__law_cell_at=>k_is)
    (case l__law_cell_at=>k_is)
    (case c__law_cell_at=>k_is)
    (case k__law_cell_at=>k_is)
    (case a__law_asked=>k_is)
    (case l__law_asked=>k_is)
    (case c__law_asked=>k_is)
    (case k__law_asked=>k_is)
    (case a__law_deed=>k_is)
    (case l__law_deed=>k_is)
    (case c__law_deed=>k_is)
    (case k__law_deed=>k_is)
    (case a__law_no_state=>k_is)
    (case l__law_no_state=>k_is)
    (case c__law_no_state=>k_is)
    (case k__law_no_state=>k_is)
    (case a__law_no_deed=>k_is)
    (case l__law_no_deed=>k_is)
    (case c__law_no_deed=>k_is)
    (case k__law_no_deed=>k_is)
    (case a__law_no_step=>k_is)
    (case l__law_no_step=>k_is)
    (case c__law_no_step=>k_is)
    (case k__law_no_step=>k_is)
    (case a__law_no_many=>k_is)
    (case l__law_no_many=>k_is)
    (case c__law_no_many=>k_is)
    (case k__law_no_many=>k_is)
    (case a__law_steps=>k_is)
    (case l__law_steps=>k_is)
    (case c__law_steps=>k_is)
    (case k__law_steps=>k_is)
    (case a__law_small=>k_is)
    (case l__law_small=>k_is)
    (case c__law_small=>k_is)
    (case k__law_small=>k_is)
    (case a_law=>k_is)
    (case l_law=>k_is)
    (case c_law=>k_is)
    (case k_law=>k_is)
    (case n_ValueError=>k_is)
    (case n_all=>k_is)
    (case n_bool=>k_is)
    (case n_int=>k_is)
    (case n_isinstance=>k_is)
    (case n_len=>k_is)
    (case n_list=>k_is)
    (case n_set=>k_is)
    (case n_sorted=>k_is)
    (case n_str=>k_is)
    (case n_tuple=>k_is)
    (case g_HIDDEN=>k_is)
    (case g_LETTERS=>k_is)
    (case g_MOST_LETTERS=>k_is)
    (case g_MOST_STATES=>k_is)
    (case g_MOST_STEPS=>k_is)
    (case g_MOST_OPEN_DEEDS=>k_is)
    (case xa_KinError=>k_is)
    (case xa_NoDeed=>k_is)
    (case xa_NoFrame=>k_is)
    (case xa_NoMachine=>k_is)
    (case xa_NoName=>k_is)
    (case xa_NoRow=>k_is)
    (case xa_NoScroll=>k_is)
    (case xa_NoState=>k_is)
    (case xa_NoText=>k_is)
    (case xa_TooBig=>k_is)
    (case xe_KinError=>k_exc)
    (case xg_KinError=>k_is)
    (case xh_KinError=>k_is)
    (case xi_KinError=>k_is)
    (case xj_KinError=>k_is)
    (case xe_NoMachine=>k_exc)
    (case xg_NoMachine=>k_is)
    (case xh_NoMachine=>k_is)
    (case xi_NoMachine=>k_is)
    (case xj_NoMachine=>k_is)
    (case xe_TooBig=>k_exc)
    (case xg_TooBig=>k_is)
    (case xh_TooBig=>k_is)
    (case xi_TooBig=>k_is)
    (case xj_TooBig=>k_is)
    (case xs_NoMachine_KinError=>k_is)
    (case xt_NoMachine_NoText=>kit_is)
    (case xt_NoMachine_NoDeed=>kit_is)
    (case xt_NoMachine_NoState=>kit_is)
    (case xt_NoMachine_TooBig=>kit_is)
    (case xt_NoMachine_NoName=>kit_is)
    (case xt_NoMachine_NoScroll=>kit_is)
    (case xt_NoMachine_NoFrame=>kit_is)
    (case xt_NoMachine_NoRow=>kit_is)
    (case xt_NoMachine_ValueError=>kit_is)
    (case xt_NoMachine_NoMachine=>kit_is)
    (case xs_TooBig_KinError=>k_is)
    (case xt_TooBig_NoText=>kit_is)
    (case xt_TooBig_NoDeed=>kit_is)
    (case xt_TooBig_NoState=>kit_is)
    (case xt_TooBig_TooBig=>kit_is)
    (case xt_TooBig_NoName=>kit_is)
    (case xt_TooBig_NoScroll=>kit_is)
    (case xt_TooBig_NoFrame=>kit_is)
    (case xt_TooBig_NoRow=>kit_is)
    (case xt_TooBig_ValueError=>kit_is)
    (case xt_TooBig_NoMachine=>kit_is)
