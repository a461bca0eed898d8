import PyProof.Rows.All
import Wide.All
import OpenK.AllK
import Wide.FinOn
import Lean
import PyProof.EqAt
import PyProof.EqKinds
import PyProof.TupleCall
import PyProof.CompUse
import PyProof.NeData
import PyProof.WalksEnum
import PyProof.EnumMake
import PyProof.ZipIter
import PyProof.Rows.EnumRows
import PyProof.Rows.FactsT2
import KE.KDictList
import PyProof.Rows.SortRuns
import PyProof.Rows.SortWalk
import KE.KSortTup
import PyProof.Rows.SortStr
import PyProof.ListRange
import PyProof.StrOps2
import PyProof.StrBlock2
import PyProof.AutoIntG3
import PyProof.ListMulRight
import PyProof.Rows.ListMulArg
import PyProof.Rows.CallKwBuiltin
import PyProof.Rows.StrMul
import KE.KMinBuiltin
import PySem.Challenge.RW_kinlook_k21_depths
set_option Elab.async false
set_option linter.all false
set_option maxRecDepth 100000
namespace L2
open PySem PySem.Spec PyProof.Rows

abbrev Key := Sum Int Str
def keyIs : Key → Value → Bool
  | .inl k, v => Value.isInt k v
  | .inr x, v => Value.isStrOf x v
def keyH (w : World) : Key → Int
  | .inl k => hashInt k
  | .inr x => hashStr w x
theorem keyIs_shape : ∀ {k : Key} {v : Value}, keyIs k v = true → (∃ i t, k = Sum.inl i ∧ v = Value.int i t) ∨ (∃ x t, k = Sum.inr x ∧ v = Value.str x t)
  | .inl i, v, h => by
    obtain ⟨t, e⟩ := Value.isInt_shape (k := i) (v := v) h
    exact .inl ⟨i, t, rfl, e⟩
  | .inr x, v, h => by
    obtain ⟨t, e⟩ := Value.isStrOf_shape (x := x) (v := v) h
    exact .inr ⟨x, t, rfl, e⟩
theorem keyIs_int (i : Int) (t : Tok) : keyIs (.inl i) (.int i t) = true := by simp [keyIs, Value.isInt]
theorem keyIs_str (x : Str) (t : Tok) : keyIs (.inr x) (.str x t) = true := by simp [keyIs, Value.isStrOf]
theorem key_ll (a b : Int) : decide ((Sum.inl a : Key) = Sum.inl b) = (a == b) := by
  by_cases e : a = b
  · subst e; simp
  · have h : ¬ (Sum.inl a : Key) = Sum.inl b := fun q => e (Sum.inl.inj q)
    rw [decide_eq_false h]
    exact (beq_eq_false_iff_ne.mpr e).symm
theorem key_rr (a b : Str) : decide ((Sum.inr a : Key) = Sum.inr b) = decide (a = b) := by
  by_cases e : a = b
  · subst e; simp
  · have h : ¬ (Sum.inr a : Key) = Sum.inr b := fun q => e (Sum.inr.inj q)
    rw [decide_eq_false h, decide_eq_false e]
theorem key_lr (a : Int) (b : Str) : decide ((Sum.inl a : Key) = Sum.inr b) = false := decide_eq_false (fun q => nomatch q)
theorem key_rl (a : Str) (b : Int) : decide ((Sum.inr a : Key) = Sum.inl b) = false := decide_eq_false (fun q => nomatch q)

def mixKind (prog : Program) (w : World) : PySem.KeyKind prog w Key where
  is := keyIs
  hash := keyH w
  inj := fun v a b ha hb => by
    rcases keyIs_shape ha with ⟨i, t, rfl, rfl⟩ | ⟨x, t, rfl, rfl⟩
    · rcases keyIs_shape hb with ⟨j, u, rfl, e⟩ | ⟨y, u, rfl, e⟩
      · injection e with e1 _; rw [e1]
      · exact nomatch e
    · rcases keyIs_shape hb with ⟨j, u, rfl, e⟩ | ⟨y, u, rfl, e⟩
      · exact nomatch e
      · injection e with e1 _; rw [e1]
  byValue := fun k v h => by
    rcases keyIs_shape h with ⟨i, t, rfl, rfl⟩ | ⟨x, t, rfl, rfl⟩ <;> rfl
  pyHash := fun hv h => by
    rcases keyIs_shape hv with ⟨i, t, rfl, rfl⟩ | ⟨x, t, rfl, rfl⟩
    · exact wpAny_pyHash_int h
    · exact wpAny_pyHash_str h
  eqBool := fun hu hv h => by
    rcases keyIs_shape hu with ⟨i, t, rfl, rfl⟩ | ⟨x, t, rfl, rfl⟩
    · rcases keyIs_shape hv with ⟨j, u, rfl, rfl⟩ | ⟨y, u, rfl, rfl⟩
      · rw [key_ll] at h; exact wpAny_eqBool_int h
      · rw [key_lr] at h; exact SeqAt.EqAt.int_str i t y u _ _ _ _ h
    · rcases keyIs_shape hv with ⟨j, u, rfl, rfl⟩ | ⟨y, u, rfl, rfl⟩
      · rw [key_rl] at h; exact SeqAt.EqAt.str_int x t j u _ _ _ _ h
      · rw [key_rr] at h; exact wpAny_eqBool_str h
  «strs» := fun k x t v h => by
    rcases keyIs_shape h with ⟨i, u, rfl, e⟩ | ⟨y, u, rfl, e⟩
    · exact nomatch e
    · injection e with e1 _
      subst e1
      cases v <;> rfl

theorem mixKind_int (prog : Program) (w : World) (i : Int) (t : Tok) : (mixKind prog w).is (.inl i) (.int i t) = true := keyIs_int i t
theorem mixKind_str (prog : Program) (w : World) (x : Str) (t : Tok) : (mixKind prog w).is (.inr x) (.str x t) = true := keyIs_str x t
end L2

namespace L2
open PySem PySem.Spec PyProof.Rows

inductive V where
  | non | bl (b : Bool) | int (i : Int) | str (x : Str) | byt (b : Array UInt8) | flt (b : UInt64) | ref (a : Addr) | ty (n : String)
  deriving DecidableEq

def RelV : V → Value → Prop
  | .non, u => u = Value.none
  | .bl b, u => u = Value.bool b
  | .int i, u => ∃ t, u = Value.int i t
  | .str x, u => ∃ t, u = Value.str x t
  | .byt b, u => ∃ t, u = Value.bytes b t
  | .flt b, u => ∃ t, u = Value.float b t
  | .ref a, u => u = Value.ref a
  | .ty n, u => u = Value.type n

abbrev Vals : List V → List Value → Prop := Paired RelV
theorem Vals.length {xs : List V} {us : List Value} (r : Vals xs us) : xs.length = us.length := Paired.length r
theorem Vals.get : ∀ {xs : List V} {us : List Value} {i : Nat} {x : V}, Vals xs us → xs[i]? = some x → ∃ u, us[i]? = some u ∧ RelV x u
  | _, _, _, _, .nil, e => by simp at e
  | _, _, 0, _, .cons r _, e => by simp at e; subst e; exact ⟨_, rfl, r⟩
  | _, _, i + 1, x, .cons _ t, e => by
    obtain ⟨u, h1, h2⟩ := Vals.get (i := i) (x := x) t (by simpa using e)
    exact ⟨u, by simpa using h1, h2⟩
theorem Vals.set {x : V} {u : Value} (r : RelV x u) : ∀ {xs : List V} {us : List Value} (i : Nat), Vals xs us → Vals (xs.set i x) (us.set i u)
  | _, _, _, .nil => .nil
  | _, _, 0, .cons _ t => .cons r t
  | _, _, i + 1, .cons q t => .cons q (Vals.set r i t)
theorem Vals.append : ∀ {xs ys : List V} {us ws : List Value}, Vals xs us → Vals ys ws → Vals (xs ++ ys) (us ++ ws)
  | _, _, _, _, .nil, s => s
  | _, _, _, _, .cons r t, s => .cons r (Vals.append t s)
theorem Vals.take : ∀ {xs : List V} {us : List Value} (n : Nat), Vals xs us → Vals (xs.take n) (us.take n)
  | _, _, 0, _ => .nil
  | _, _, _ + 1, .nil => .nil
  | _, _, n + 1, .cons r t => .cons r (Vals.take n t)
theorem Vals.drop : ∀ {xs : List V} {us : List Value} (n : Nat), Vals xs us → Vals (xs.drop n) (us.drop n)
  | _, _, 0, r => r
  | _, _, _ + 1, .nil => .nil
  | _, _, n + 1, .cons _ t => Vals.drop n t
def RelO : Option V → Option Value → Prop
  | some v, some u => RelV v u
  | none, none => True
  | _, _ => False
def KV {κ : Type} : List (κ × V) → List (κ × Value) → Prop := Paired fun (p : κ × V) (q : κ × Value) => p.1 = q.1 ∧ RelV p.2 q.2

def kV : Key → V
  | .inl i => .int i
  | .inr x => .str x

inductive HO where
  /-- a list -/
  | lst (xs : List V)
  /-- a tuple (never changes) -/
  | tup (xs : List V)
  /-- a dict whose keys are ints and texts; one whose keys are tuples of ints and texts (the empty one is both) -/
  | dK (kvs : List (Key × V)) | dT (kvs : List (List Key × V))
  /-- a set of ints: its members, its size -/
  | set (S : Int → Bool) (n : Nat)
  /-- an instance of the class at C, its dict at dx, its attributes -/
  | ins (C dx : Addr) (fs : List (Str × V))
  /-- the dict of the instance at x -/
  | own (x : Addr)
  /-- the dict of an exception -/
  | xd (fs : List (Str × V))
  /-- a bound method, f of x -/
  | met (f x : Addr)
  /-- a range object lo, lo + 1, .. below hi -/
  | rng (lo hi : Int)
  /-- a thing that is known to the object (the script; a dict while a loop walks it): read, never written while it is so -/
  | frz (o : Obj) (u : HO)
  /-- a code object's table -/
  | tbl (ps : Array Value)
  /-- any other thing, by what is true of its one object (a def of one's own: SetO a S n := HO.ext fun h => ..) -/
  | ext (φ : Heap → Prop)

abbrev Hp := Addr → Option HO
def upd (H : Hp) (a : Addr) (o : HO) : Hp := fun b => if b = a then some o else H b
theorem upd_same {H : Hp} {a : Addr} {o : HO} : upd H a o a = some o := by unfold upd; rw [if_pos rfl]
theorem upd_ne {H : Hp} {a b : Addr} {o : HO} (h : b ≠ a) : upd H a o b = H b := by unfold upd; rw [if_neg h]
theorem ne_of_none {H : Hp} {a b : Addr} {o : HO} (h : H a = some o) (h' : H b = none) : a ≠ b := by
  intro e; subst e; rw [h] at h'; cases h'

section
variable (P : Program) (w : World)
def ObjOk (H : Hp) (h : Heap) (a : Addr) : HO → Prop
  | .lst xs => xs.length ≤ sizeLine ∧ ∃ (its : List Value) (n : Nat), Vals xs its ∧ h.get? a = some { cls := .type "list", data := .seq its.toArray n }
  | .tup xs => xs.length ≤ sizeLine ∧ ∃ its : List Value, Vals xs its ∧ IsTup h a its.toArray
  | .dK kvs => kvs.length ≤ sizeLine ∧ (a == sysModules) = false ∧ ∃ vs, KV kvs vs ∧ h.DictOf (mixKind P w) a vs
  | .dT kvs => kvs.length ≤ sizeLine ∧ (a == sysModules) = false ∧ ∃ xs : List (List Key × Addr × Value),
      Paired (fun (p : List Key × V) (q : List Key × Addr × Value) => p.1 = q.1 ∧ H q.2.1 = some (.tup (p.1.map kV)) ∧ RelV p.2 q.2.2) kvs xs ∧
      ∃ o es ep, h.get? a = some o ∧ o.ExactDict ∧ o.data = .dict es ep ∧ es.toList = xs.map (entryOfKey (tupleKind (mixKind P w))) ∧ (xs.map (·.1)).Nodup
  | .set S n => h.SetOf (intKind P w) a S n
  | .ins C dx fs => H dx = some (.own a) ∧ fs.length ≤ 1000 ∧ dx ≠ a ∧ h.get? a = some (PySem.W.instObj C dx) ∧
      ∃ mA, h.Ns1 dx mA ∧ (∀ f, RelO (fs.lookup f) (mA f)) ∧ PySem.Within mA (fs.map (·.1))
  | .own _ => ∃ o, h.get? a = some o
  | .xd fs => ∃ mA, h.Ns1 a mA ∧ ∀ f, RelO (fs.lookup f) (mA f)
  | .rng lo hi => ∃ t u v, h.get? a = some { cls := .type "range", data := .fields #[.int lo t, .int hi u, .int 1 v] }
  | .frz o u => h.get? a = some o ∧ ObjOk H h a u
  | .tbl ps => h.get? a = some { cls := .none, data := .fields ps }
  | .met f x => h.get? a = some (PySem.W.methodObj (.ref f) (.ref x))
  | .ext φ => φ h ∧ (∃ o, h.get? a = some o) ∧ ∀ h1 h2 : Heap, φ h1 → (∀ o, h1.get? a = some o → h2.get? a = some o) → φ h2
def HOk (H : Hp) (h : Heap) : Prop := ∀ a o, H a = some o → ObjOk P w H h a o
end

section
variable {P : Program} {w : World} {H H' : Hp} {h h' : Heap} {a : Addr} {o : HO}
theorem ObjOk.lt (x : ObjOk P w H h a o) : a < h.objs.size := by
  cases o with
  | lst xs => obtain ⟨_, _, _, _, e⟩ := x; exact Heap.lt_size e
  | tup xs => obtain ⟨_, _, _, p⟩ := x; exact p.lt
  | dK kvs => obtain ⟨_, _, _, _, o, _, _, e, _⟩ := x; exact Heap.lt_size e
  | dT kvs => obtain ⟨_, _, _, _, o, _, _, e, _⟩ := x; exact Heap.lt_size e
  | set S n => obtain ⟨o, _, _, _, e, _⟩ := x; exact Heap.lt_size e
  | ins C dx fs => obtain ⟨_, _, _, e, _⟩ := x; exact Heap.lt_size e
  | own y => obtain ⟨_, e⟩ := x; exact Heap.lt_size e
  | xd fs => obtain ⟨_, ⟨_, _, _, e, _⟩, _⟩ := x; exact Heap.lt_size e
  | rng lo hi => obtain ⟨_, _, _, e⟩ := x; exact Heap.lt_size e
  | frz ob u => obtain ⟨e, _⟩ := x; exact Heap.lt_size e
  | tbl ps => exact Heap.lt_size (show h.get? a = some _ from x)
  | met f y => exact Heap.lt_size (show h.get? a = some _ from x)
  | ext φ => obtain ⟨_, ⟨_, e⟩, _⟩ := x; exact Heap.lt_size e
theorem Paired.mapP {α β : Type} {F G : α → β → Prop} : ∀ {l₁ : List α} {l₂ : List β}, Paired F l₁ l₂ → (∀ a b, F a b → G a b) → Paired G l₁ l₂
  | _, _, .nil, _ => .nil
  | _, _, .cons r t, f => .cons (f _ _ r) (Paired.mapP t f)
theorem ObjOk.stay (x : ObjOk P w H h a o) (k : ∀ b u, (b = a ∨ H b = some (.own a)) → h.get? b = some u → h'.get? b = some u)
    (ho : ∀ b, H b = some (.own a) → H' b = some (.own a)) (ht : ∀ b xs, H b = some (.tup xs) → H' b = some (.tup xs)) : ObjOk P w H' h' a o := by
  induction o with
  | lst xs => obtain ⟨z, its, n, r, e⟩ := x; exact ⟨z, its, n, r, k _ _ (.inl rfl) e⟩
  | tup xs => obtain ⟨z, its, r, ob, e, c⟩ := x; exact ⟨z, its, r, ob, k _ _ (.inl rfl) e, c⟩
  | dK kvs => obtain ⟨z, y, vs, r, ob, es, ep, e, c⟩ := x; exact ⟨z, y, vs, r, ob, es, ep, k _ _ (.inl rfl) e, c⟩
  | dT kvs =>
    obtain ⟨z, y, xs, r, ob, es, ep, e, c⟩ := x
    exact ⟨z, y, xs, Paired.mapP r fun p q z => ⟨z.1, ht _ _ z.2.1, z.2.2⟩, ob, es, ep, k _ _ (.inl rfl) e, c⟩
  | set S n => obtain ⟨ob, es, ep, t, e, c⟩ := x; exact ⟨ob, es, ep, t, k _ _ (.inl rfl) e, c⟩
  | ins C dx fs =>
    obtain ⟨d, z, ne, e, mA, ⟨od, es, ep, e2, c⟩, r⟩ := x
    exact ⟨ho _ d, z, ne, k _ _ (.inl rfl) e, mA, ⟨od, es, ep, k _ _ (.inr d) e2, c⟩, r⟩
  | own y => obtain ⟨ob, e⟩ := x; exact ⟨ob, k _ _ (.inl rfl) e⟩
  | xd fs => obtain ⟨mA, ⟨od, es, ep, e, c⟩, r⟩ := x; exact ⟨mA, ⟨od, es, ep, k _ _ (.inl rfl) e, c⟩, r⟩
  | rng lo hi => obtain ⟨t, u, v, e⟩ := x; exact ⟨t, u, v, k _ _ (.inl rfl) e⟩
  | frz ob u ih => obtain ⟨e, q⟩ := x; exact ⟨k _ _ (.inl rfl) e, ih q⟩
  | tbl ps =>
    have e : h.get? a = some { cls := .none, data := .fields ps } := x
    show h'.get? a = some { cls := .none, data := .fields ps }
    exact k a _ (.inl rfl) e
  | met f y =>
    have e : h.get? a = some (PySem.W.methodObj (.ref f) (.ref y)) := x
    show h'.get? a = some (PySem.W.methodObj (.ref f) (.ref y))
    exact k a _ (.inl rfl) e
  | ext φ => obtain ⟨p, ⟨o, e⟩, st⟩ := x; exact ⟨st _ _ p fun o q => k _ _ (.inl rfl) q, ⟨o, k _ _ (.inl rfl) e⟩, st⟩
theorem HOk.lt (x : HOk P w H h) (e : H a = some o) : a < h.objs.size := (x a o e).lt
theorem HOk.fresh (x : HOk P w H h) (e : h.objs.size ≤ a) : H a = none := by
  cases q : H a with
  | none => rfl
  | some u => exact absurd (Nat.lt_of_lt_of_le (x.lt q) e) (Nat.lt_irrefl _)
theorem HOk.kept (x : HOk P w H h) (k : ∀ b u, h.get? b = some u → h'.get? b = some u) : HOk P w H h' := fun a o e =>
  (x a o e).stay (fun b u _ q => k b u q) (fun _ q => q) fun _ _ q => q
theorem HOk.laid (x : HOk P w H h) (k : ∀ b u, h.get? b = some u → h'.get? b = some u) (hp : h.objs.size ≤ a) (new : ObjOk P w (upd H a o) h' a o) : HOk P w (upd H a o) h' := fun b u e => by
  have hn := x.fresh hp
  by_cases hb : b = a
  · subst hb; rw [upd_same] at e; cases e; exact new
  · rw [upd_ne hb] at e
    exact (x b u e).stay (fun c v _ q => k c v q) (fun c q => by rw [upd_ne (ne_of_none q hn)]; exact q) fun c xs q => by rw [upd_ne (ne_of_none q hn)]; exact q
end

def Rd (H : Hp) (a : Addr) (u : HO) : Prop := H a = some u ∨ ∃ o, H a = some (.frz o u)
theorem Rd.of {H : Hp} {a : Addr} {u : HO} (h : H a = some u) : Rd H a u := .inl h
theorem Rd.ok {P : Program} {w : World} {H : Hp} {h : Heap} {a : Addr} {u : HO} (r : Rd H a u) (x : HOk P w H h) : ObjOk P w H h a u := by
  rcases r with r | ⟨o, r⟩
  · exact x a u r
  · obtain ⟨_, q⟩ := x a _ r
    exact q
def Mut : Option HO → Prop
  | some (.lst _) => True
  | some (.dK _) => True
  | some (.dT _) => True
  | some (.set _ _) => True
  | some (.ins _ _ _) => True
  | some (.ext _) => True
  | _ => False
section
variable {P : Program} {w : World} {H : Hp} {h h' : Heap} {x e : Addr} {o' : HO}
theorem HOk.write (ok : HOk P w H h) (mu : Mut (H x)) (he : e = x ∨ H e = some (.own x)) (k : ∀ b u, b ≠ e → h.get? b = some u → h'.get? b = some u) (heo : ∃ u, h'.get? e = some u)
    (new : ObjOk P w (upd H x o') h' x o') : HOk P w (upd H x o') h' := fun b u q => by
  have nown : ∀ c y, H c = some (.own y) → c ≠ x := fun c y r z => by subst z; rw [r] at mu; exact mu
  have ntup : ∀ c xs, H c = some (.tup xs) → c ≠ x := fun c xs r z => by subst z; rw [r] at mu; exact mu
  by_cases hb : b = x
  · subst hb; rw [upd_same] at q; cases q; exact new
  · rw [upd_ne hb] at q
    by_cases hbe : b = e
    · have q' : H b = some (.own x) := by
        rcases he with z | z
        · exact absurd (hbe.trans z) hb
        · rw [hbe]; exact z
      rw [q] at q'; cases q'
      obtain ⟨v, hv⟩ := heo
      exact ⟨v, by rw [hbe]; exact hv⟩
    · refine (ok b u q).stay (fun c v hc r => k c v ?_ r) (fun c r => by rw [upd_ne (nown c b r)]; exact r) fun c xs r => by rw [upd_ne (ntup c xs r)]; exact r
      rcases hc with rfl | hc
      · exact hbe
      · rintro rfl
        rcases he with z | z
        · exact nown c b hc z
        · rw [hc] at z; cases z; exact hb rfl
end

structure Un (fs ex : List Addr) (H H' : Hp) (h h' : Heap) : Prop where
  keep : ∀ b o, h.get? b = some o → H b = none → b ∉ fs → b ∉ ex → h'.get? b = some o
  slot : ∀ b o, h.get? b = some o → H b = none → b ∈ fs → b ∉ ex → ∃ sl, h'.get? b = some { o with slots := sl }
  free : ∀ b o, h.get? b = some o → H b = none → b ∉ ex → H' b = none
  there : ∀ b o, h.get? b = some o → b ∉ ex → ∃ o', h'.get? b = some o'
  tups : ∀ b xs, H b = some (.tup xs) → H' b = some (.tup xs)
  frzs : ∀ b o u, H b = some (.frz o u) → H' b = some (.frz o u)
  tbls : ∀ b ps, H b = some (.tbl ps) → ∃ more, H' b = some (.tbl (ps ++ more))
section
variable {fs fs' ex ex' : List Addr} {H H1 H2 : Hp} {h h1 h2 h' : Heap} {a x e : Addr} {o : HO}
theorem Un.any (u : Un fs ex H H1 h h1) {b : Addr} {ob : Obj} (q : h.get? b = some ob) (n : H b = none) (hx : b ∉ ex) : ∃ sl, h1.get? b = some { ob with slots := sl } := by
  by_cases hb : b ∈ fs
  · exact u.slot b ob q n hb hx
  · exact ⟨ob.slots, u.keep b ob q n hb hx⟩
theorem Un.trans (a : Un fs ex H H1 h h1) (b : Un fs ex H1 H2 h1 h2) : Un fs ex H H2 h h2 where
  keep := fun c ob q n hc hx => b.keep c ob (a.keep c ob q n hc hx) (a.free c ob q n hx) hc hx
  slot := fun c ob q n hc hx => by
    obtain ⟨sl, e1⟩ := a.slot c ob q n hc hx
    obtain ⟨sl', e2⟩ := b.slot c _ e1 (a.free c ob q n hx) hc hx
    exact ⟨sl', e2⟩
  free := fun c ob q n hx => by
    obtain ⟨o', e1⟩ := a.there c ob q hx
    exact b.free c o' e1 (a.free c ob q n hx) hx
  there := fun c ob q hx => by
    obtain ⟨o', e1⟩ := a.there c ob q hx
    exact b.there c o' e1 hx
  tups := fun c xs q => b.tups c xs (a.tups c xs q)
  frzs := fun c ob xs q => b.frzs c ob xs (a.frzs c ob xs q)
  tbls := fun c ps q => by
    obtain ⟨m1, e1⟩ := a.tbls c ps q
    obtain ⟨m2, e2⟩ := b.tbls c _ e1
    exact ⟨m1 ++ m2, by rw [e2, Array.append_assoc]⟩
theorem Un.kept (k : ∀ b u, h.get? b = some u → h'.get? b = some u) : Un fs ex H H h h' :=
  ⟨fun b ob q _ _ _ => k b ob q, fun b ob q _ _ _ => ⟨ob.slots, k b ob q⟩, fun _ _ _ n _ => n, fun b ob q _ => ⟨ob, k b ob q⟩, fun _ _ q => q, fun _ _ _ q => q, fun _ ps q => ⟨#[], by rw [q]; simp⟩⟩
theorem Un.refl : Un fs ex H H h h := Un.kept fun _ _ q => q
theorem Un.laid (k : ∀ b u, h.get? b = some u → h'.get? b = some u) (hp : h.objs.size ≤ a) (hn : H a = none) : Un fs ex H (upd H a o) h h' where
  keep := fun b u q _ _ _ => k b u q
  slot := fun b u q _ _ _ => ⟨u.slots, k b u q⟩
  free := fun b u q n _ => by rw [upd_ne (Nat.ne_of_lt (Nat.lt_of_lt_of_le (Heap.lt_size q) hp))]; exact n
  there := fun b u q _ => ⟨u, k b u q⟩
  tups := fun b xs q => by rw [upd_ne (ne_of_none q hn)]; exact q
  frzs := fun b u xs q => by rw [upd_ne (ne_of_none q hn)]; exact q
  tbls := fun b ps q => ⟨#[], by rw [upd_ne (ne_of_none q hn), q]; simp⟩
theorem Un.write (mu : Mut (H x)) (he : e = x ∨ H e = some (.own x)) (k : ∀ b u, b ≠ e → h.get? b = some u → h'.get? b = some u) (heo : ∃ u, h'.get? e = some u) : Un fs ex H (upd H x o) h h' := by
  have hx : ∀ b, H b = none → b ≠ x := fun b n z => by subst z; rw [n] at mu; exact mu
  have hb : ∀ b, H b = none → b ≠ e := fun b n z => by
    subst z
    rcases he with r | r
    · exact hx b n r
    · rw [n] at r; cases r
  have hm : ∀ b u, H b = some u → ¬ Mut (some u) → b ≠ x := fun b u q nm z => by subst z; rw [q] at mu; exact nm mu
  refine ⟨fun b u q n _ _ => k b u (hb b n) q, fun b u q n _ _ => ⟨u.slots, k b u (hb b n) q⟩, fun b u q n _ => by rw [upd_ne (hx b n)]; exact n, fun b u q _ => ?_,
    fun b xs q => by rw [upd_ne (hm b _ q fun z => z)]; exact q, fun b u xs q => by rw [upd_ne (hm b _ q fun z => z)]; exact q, fun b ps q => ⟨#[], by rw [upd_ne (hm b _ q fun z => z), q]; simp⟩⟩
  by_cases hbe : b = e
  · subst hbe; exact heo
  · exact ⟨u, k b u hbe q⟩
theorem Un.mono (u : Un fs ex H H1 h h1) (hs : ∀ b ∈ fs, b ∈ fs') (hx : ∀ b ∈ ex, b ∈ ex') : Un fs' ex' H H1 h h1 :=
  ⟨fun b ob q n hb he => u.keep b ob q n (fun z => hb (hs b z)) fun z => he (hx b z), fun _ _ q n _ he => u.any q n fun z => he (hx _ z), fun b ob q n he => u.free b ob q n fun z => he (hx b z), fun b ob q he => u.there b ob q fun z => he (hx b z), u.tups, u.frzs, u.tbls⟩
end

def trk (h : Heap) (H : Hp) : List Addr := (List.range h.objs.size).filter fun a => (H a).isSome
def hidT (h : Heap) (H : Hp) : Heap := PySem.W.hideAll h (trk h H)
theorem hidT_size (h : Heap) (H : Hp) : (hidT h H).objs.size = h.objs.size := PySem.W.hideAll_size _ _
theorem hidT_get {h : Heap} {H : Hp} {b : Addr} {o : Obj} (e : h.get? b = some o) (n : H b = none) : (hidT h H).get? b = some o :=
  PySem.W.hideAll_get _ e fun hm => by
    have q : (H b).isSome = true := (List.mem_filter.mp hm).2
    rw [n] at q; simp at q
theorem of_hidT {h : Heap} {H : Hp} {b : Addr} {o : Obj} (e : (hidT h H).get? b = some o) : h.get? b = some o ∧ H b = none := by
  have e' : h.get? b = some o := PySem.W.of_hideAll (trk h H) e
  refine ⟨e', ?_⟩
  cases q : H b with
  | none => rfl
  | some x =>
    have hm : b ∈ trk h H := List.mem_filter.mpr ⟨List.mem_range.mpr (Heap.lt_size e'), by simp [q]⟩
    have z : (hidT h H).get? b = none := PySem.W.hideAll_none (trk h H) hm
    rw [z] at e; cases e

def allNews (g h : Heap) (L : Addr) : List (Addr × Obj) := (List.range h.objs.size).filterMap fun a => if a = L ∨ (g.get? a).isSome = true then none else (h.get? a).map fun o => (a, o)
def rest (g h : Heap) (L d : Addr) : List (Addr × Obj) := (allNews g h L).filter fun p => decide (p.1 ≠ d)
end L2

namespace L2
open PySem PySem.Spec PyProof.Rows

structure Mod (K : PySem.W.Frag) (mg : Str → Option Value) (base : Heap) : Prop where
  kin : K.In base
  glob : base.Ns mainGlobals mg
  blt : ∃ mb, base.Ns builtinsNs mb ∧ ∀ x : Str, x ≠ "__name__" → mb x = bootBuiltins x
  nolimit : base.NoLimit

structure Cx where
  prog : Program
  w : World
  K : PySem.W.Frag
  mg : Str → Option Value
  base : Heap
  A : Around
  N : List Str
  s₀ : Shared
  H₀ : Hp
  env : Env
  outer : List Env
  stack : List Env
  ex : List Addr
  fn : Str → Bool
  calm : Bool
  pn : List (Addr × Obj)
  xe : Value → Shared → Prop
def frs (l : List Env) : List Addr := l.filterMap (·.frame)
abbrev Cx.fs (X : Cx) : List Addr := frs X.outer

def Vis (sc : Scope) (x : Str) : Prop := sc.names.lookup x = some .local ∨ sc.names.lookup x = some .cell ∨ sc.names.lookup x = some .free
def Loc (sc : Scope) (x : Str) : Prop := sc.names.lookup x = some .local ∨ sc.names.lookup x = some .cell
def Look (env : Env) (h : Heap) (m : Str → Option Value) (x : Str) (u : Value) : Prop :=
  (env.kindOf x = some .local ∧ m x = some u) ∨ ((env.kindOf x = some .cell ∨ env.kindOf x = some .free) ∧ ∃ c, env.cells.lookup x = some c ∧ h.IsCell c (some u))

structure Cx.Ok (X : Cx) : Prop where
  mod : Mod X.K X.mg X.base
  kind : X.env.scope.kind = .function
  glob : X.env.globals = mainGlobals
  blt : X.env.builtins = builtinsNs
  above : X.s₀.heap.objs.size ≤ X.env.locals
  inj : ∀ x y c, X.env.cells.lookup x = some c → X.env.cells.lookup y = some c → x = y
  has : ∀ x, (X.env.kindOf x = some .cell ∨ X.env.kindOf x = some .free) → ∃ c, X.env.cells.lookup x = some c
  cab : ∀ x c, X.fn x = true → X.env.cells.lookup x = some c → X.s₀.heap.objs.size ≤ c
  hd : X.calm = true → X.A.handled = none
  frames : X.A.frames = some X.stack
  stk : X.stack = X.outer ∨ (X.stack = X.env :: X.outer ∧ X.env.frame = some X.env.locals)
  exf : ∀ b ∈ X.ex, b ≠ X.env.locals ∧ ∀ x c, X.env.cells.lookup x = some c → c ≠ b
  bs : ∀ b o, X.base.get? b = some o → X.s₀.heap.get? b = some o ∧ X.H₀ b = none
  bsz : X.base.objs.size ≤ X.s₀.heap.objs.size
  noex : ∀ b o, X.base.get? b = some o → b ∉ X.ex
  exfs : ∀ b ∈ X.ex, b ∉ X.fs
  funs : X.s₀.heap.FunFrames X.base X.outer
  frf : ∀ b ∈ X.fs, X.H₀ b = none

structure Inv (X : Cx) (pins : List (Addr × Obj)) (σ : List (Option V)) (H : Hp) (s : Shared) : Prop where
  ok : X.Ok
  os : s.os = X.s₀.os
  bare : AllBare s.gens
  base : Un X.fs X.ex X.H₀ H X.s₀.heap s.heap
  loc : ∃ m, s.heap.Ns X.env.locals m ∧ ∀ (i : Nat) (x : Str) (v : V), X.N[i]? = some x → σ[i]? = some (some v) → Vis X.env.scope x → ∃ u, RelV v u ∧ Look X.env s.heap m x u
  cell : ∀ x c, X.env.cells.lookup x = some c → ∃ v, s.heap.IsCell c v
  free : H X.env.locals = none
  freeC : ∀ x c, X.env.cells.lookup x = some c → H c = none
  pin : ∀ p ∈ X.pn ++ pins, s.heap.get? p.1 = some p.2 ∧ H p.1 = none ∧ p.1 ≠ X.env.locals ∧ p.1 ∉ X.fs ∧ ∀ v, p.2.data ≠ .cell v
  hok : HOk X.prog X.w H s.heap
  len : σ.length = X.N.length

section
variable {X : Cx} {pins : List (Addr × Obj)} {σ : List (Option V)} {H H' : Hp} {s : Shared} {h' : Heap}

theorem Cx.Ok.nofr (ok : X.Ok) {b : Addr} {o : Obj} (e : X.base.get? b = some o) : b ∉ X.fs := fun hb => by
  have := (ok.funs.mem hb).1
  rw [e] at this; cases this
theorem Inv.bs (I : Inv X pins σ H s) : ∀ b o, X.base.get? b = some o → s.heap.get? b = some o ∧ H b = none := fun b o e =>
  ⟨I.base.keep b o (I.ok.bs b o e).1 (I.ok.bs b o e).2 (I.ok.nofr e) (I.ok.noex b o e), I.base.free b o (I.ok.bs b o e).1 (I.ok.bs b o e).2 (I.ok.noex b o e)⟩
theorem Inv.bk (I : Inv X pins σ H s) : ∀ b o, X.base.get? b = some o → s.heap.get? b = some o := fun b o e => (I.bs b o e).1
theorem Inv.mod (I : Inv X pins σ H s) : Mod X.K X.mg X.base := I.ok.mod
theorem Inv.kIn (I : Inv X pins σ H s) : X.K.In s.heap := I.ok.mod.kin.keeps I.bk
theorem Inv.nolimit (I : Inv X pins σ H s) : s.heap.NoLimit := I.ok.mod.nolimit.keeps I.bk
theorem Inv.fr (I : Inv X pins σ H s) : ∃ m, Fr X.base X.env.locals s.heap m :=
  let ⟨m, hn, _⟩ := I.loc
  ⟨m, hn, I.bk, Nat.le_trans I.ok.bsz I.ok.above⟩
theorem Inv.lt (I : Inv X pins σ H s) : X.env.locals < s.heap.objs.size := let ⟨_, hn, _⟩ := I.loc; hn.lt
theorem Inv.sz (I : Inv X pins σ H s) : X.s₀.heap.objs.size ≤ s.heap.objs.size := Nat.le_trans I.ok.above (Nat.le_of_lt I.lt)
theorem Inv.nofs (I : Inv X pins σ H s) {a : Addr} (h : s.heap.objs.size ≤ a) : a ∉ X.fs := fun hb => by
  obtain ⟨_, o, ho, _⟩ := I.ok.funs.mem hb
  exact absurd (Nat.lt_of_lt_of_le (Heap.lt_size ho) (Nat.le_trans I.sz h)) (Nat.lt_irrefl _)
theorem Inv.cne (I : Inv X pins σ H s) : ∀ x c, X.env.cells.lookup x = some c → c ≠ X.env.locals := fun x c e z => by
  obtain ⟨v, o, ho, hd⟩ := I.cell x c e
  obtain ⟨m, ⟨o', es, ep, ho', hd', _⟩, _⟩ := I.loc
  rw [z, ho'] at ho; cases ho; rw [hd'] at hd; cases hd
theorem Inv.funs (I : Inv X pins σ H s) : s.heap.FunFrames X.base X.outer := by
  have all : ∀ (l : List Env), (∀ b ∈ frs l, b ∈ X.fs) → X.s₀.heap.FunFrames X.base l → s.heap.FunFrames X.base l := by
    intro l
    induction l with
    | nil => intro _ _; trivial
    | cons env r ih =>
      intro hs hl
      obtain ⟨hk, ⟨L, o, hf, hn, ho, hd⟩, hr⟩ := hl
      have hL : L ∈ X.fs := hs L (by unfold frs; rw [List.filterMap_cons, hf]; exact List.mem_cons_self)
      obtain ⟨sl, e⟩ := I.base.slot L o ho (I.ok.frf L hL) hL fun z => I.ok.exfs L z hL
      exact ⟨hk, ⟨L, _, hf, hn, e, hd⟩, ih (fun b hb => hs b (by unfold frs; rw [List.filterMap_cons, hf]; exact List.mem_cons_of_mem _ hb)) hr⟩
  exact all X.outer (fun _ hb => hb) I.ok.funs

theorem Inv.stack (I : Inv X pins σ H s) : s.heap.FunFrames X.base X.stack := by
  rcases I.ok.stk with e | ⟨e, hf⟩
  · rw [e]; exact I.funs
  · rw [e]
    obtain ⟨m, hn, _⟩ := I.loc
    refine .cons (by rw [I.ok.kind]; decide) hf hn ?_ I.funs
    exact Heap.get?_none_of_le (Nat.le_trans I.ok.bsz I.ok.above)
theorem Inv.stkSub (I : Inv X pins σ H s) : ∀ b ∈ frs X.stack, b ∈ X.env.locals :: X.fs := fun b hb => by
  rcases I.ok.stk with e | ⟨e, hf⟩
  · rw [e] at hb; exact List.mem_cons_of_mem _ hb
  · rw [e] at hb
    unfold frs at hb
    rw [List.filterMap_cons, hf] at hb
    exact hb
theorem Inv.stkFree (I : Inv X pins σ H s) : ∀ b ∈ frs X.stack, H b = none := fun b hb => by
  rcases List.mem_cons.mp (I.stkSub b hb) with e | hb
  · rw [e]; exact I.free
  · obtain ⟨_, o, ho, _⟩ := I.ok.funs.mem hb
    exact I.base.free b o ho (I.ok.frf b hb) fun z => I.ok.exfs b z hb

theorem Inv.step {g' : Array GenState} {t' : Nat} {d' : Drawn} {ch : List Addr} (I : Inv X pins σ H s)
    (hch : ∀ b ∈ ch, (b ∈ X.ex ∨ X.s₀.heap.objs.size ≤ b) ∧ b ≠ X.env.locals ∧ (∀ x c, X.env.cells.lookup x = some c → c ≠ b) ∧ ∀ p ∈ X.pn ++ pins, p.1 ≠ b)
    (keep : ∀ b o, b ≠ X.env.locals → b ∉ X.fs → b ∉ ch → s.heap.get? b = some o → H b = none → h'.get? b = some o)
    (slot : ∀ b o, b ≠ X.env.locals → b ∈ X.fs → b ∉ ch → s.heap.get? b = some o → H b = none → ∃ sl, h'.get? b = some { o with slots := sl }) (free : ∀ b o, b ∉ ch → s.heap.get? b = some o → H b = none → H' b = none)
    (there : ∀ b o, b ∉ ch → s.heap.get? b = some o → ∃ o', h'.get? b = some o')
    (tups : ∀ b xs, H b = some (.tup xs) → H' b = some (.tup xs)) (frzs : ∀ b o u, H b = some (.frz o u) → H' b = some (.frz o u)) (tbls : ∀ b ps, H b = some (.tbl ps) → ∃ more, H' b = some (.tbl (ps ++ more)))
    (ns : ∀ m, s.heap.Ns X.env.locals m → h'.Ns X.env.locals m) (hok : HOk X.prog X.w H' h') (hg : AllBare g') :
    Inv X pins σ H' { s with heap := h', gens := g', drawn := d', toks := t' } := by
  have neL : ∀ b o, X.s₀.heap.get? b = some o → b ≠ X.env.locals := fun b o e => Nat.ne_of_lt (Nat.lt_of_lt_of_le (Heap.lt_size e) I.ok.above)
  have neC : ∀ b o, X.s₀.heap.get? b = some o → b ∉ X.ex → b ∉ ch := fun b o e hx hb => by
    rcases (hch b hb).1 with z | z
    · exact hx z
    · exact absurd (Nat.lt_of_lt_of_le (Heap.lt_size e) z) (Nat.lt_irrefl _)
  have cellK : ∀ x c, X.env.cells.lookup x = some c → ∀ v, s.heap.IsCell c v → h'.IsCell c v := fun x c e v ⟨o, ho, hd⟩ => by
    have nch : c ∉ ch := fun z => (hch c z).2.2.1 x c e rfl
    by_cases hc : c ∈ X.fs
    · obtain ⟨sl, q⟩ := slot c o (I.cne x c e) hc nch ho (I.freeC x c e)
      exact ⟨_, q, hd⟩
    · exact ⟨o, keep c o (I.cne x c e) hc nch ho (I.freeC x c e), hd⟩
  refine ⟨I.ok, I.os, hg, ⟨fun b o e n hb hx => ?_, fun b o e n hb hx => ?_, fun b o e n hx => ?_, fun b o e hx => ?_, fun b xs e => tups b xs (I.base.tups b xs e), fun b o xs e => frzs b o xs (I.base.frzs b o xs e), fun b ps e => ?_⟩, ?_, fun x c e => ?_, ?_, fun x c e => ?_, fun p hp => ?_, hok, I.len⟩
  · exact keep b o (neL b o e) hb (neC b o e hx) (I.base.keep b o e n hb hx) (I.base.free b o e n hx)
  · obtain ⟨sl, e1⟩ := I.base.slot b o e n hb hx
    obtain ⟨sl', e2⟩ := slot b _ (neL b o e) hb (neC b o e hx) e1 (I.base.free b o e n hx)
    exact ⟨sl', e2⟩
  · obtain ⟨o', e1⟩ := I.base.there b o e hx
    exact free b o' (neC b o e hx) e1 (I.base.free b o e n hx)
  · obtain ⟨o', e1⟩ := I.base.there b o e hx
    exact there b o' (neC b o e hx) e1
  · obtain ⟨m1, e1⟩ := I.base.tbls b ps e
    obtain ⟨m2, e2⟩ := tbls b _ e1
    exact ⟨m1 ++ m2, by rw [e2, Array.append_assoc]⟩
  · obtain ⟨m, hn, hl⟩ := I.loc
    refine ⟨m, ns m hn, fun i x v e1 e2 e3 => ?_⟩
    obtain ⟨u, r, l⟩ := hl i x v e1 e2 e3
    refine ⟨u, r, ?_⟩
    rcases l with l | ⟨k, c, e, z⟩
    · exact .inl l
    · exact .inr ⟨k, c, e, cellK x c e _ z⟩
  · obtain ⟨v, z⟩ := I.cell x c e
    exact ⟨v, cellK x c e v z⟩
  · obtain ⟨m, ⟨o, _, _, ho, _⟩, _⟩ := I.loc
    exact free _ o (fun z => (hch _ z).2.1 rfl) ho I.free
  · obtain ⟨v, o, ho, hd⟩ := I.cell x c e
    exact free c o (fun z => (hch c z).2.2.1 x c e rfl) ho (I.freeC x c e)
  · obtain ⟨e, n, ne, nf, d⟩ := I.pin p hp
    have nch : p.1 ∉ ch := fun z => (hch p.1 z).2.2.2 p hp rfl
    exact ⟨keep p.1 p.2 ne nf nch e n, free p.1 p.2 nch e n, ne, nf, d⟩
theorem Inv.un {t' : Nat} (I : Inv X pins σ H s) (u : Un X.fs [] H H' s.heap h') (hok : HOk X.prog X.w H' h') : Inv X pins σ H' { s with heap := h', toks := t' } := by
  obtain ⟨m, ⟨o, es, ep, ho, r⟩, _⟩ := id I.loc
  obtain ⟨sl, hL⟩ := u.any ho I.free (by simp)
  exact I.step (g' := s.gens) (d' := s.drawn) (ch := []) (fun _ z => nomatch z) (fun b o _ hb _ e n => u.keep b o e n hb (by simp)) (fun b o _ hb _ e n => u.slot b o e n hb (by simp)) (fun b o _ e n => u.free b o e n (by simp)) (fun b o _ e => u.there b o e (by simp)) u.tups u.frzs u.tbls (fun m' hm => by
    obtain ⟨o', es', ep', ho', r'⟩ := hm
    rw [ho] at ho'; cases ho'
    exact ⟨_, es', ep', hL, r'⟩) hok I.bare
theorem Inv.call {g' : Array GenState} {t' : Nat} {d' : Drawn} {ch : List Addr} (I : Inv X pins σ H s) (u : Un (frs X.stack) ch H H' s.heap h') (hok : HOk X.prog X.w H' h') (hg : AllBare g')
    (hch : ∀ b ∈ ch, (b ∈ X.ex ∨ X.s₀.heap.objs.size ≤ b) ∧ b ≠ X.env.locals ∧ (∀ x c, X.env.cells.lookup x = some c → c ≠ b) ∧ ∀ p ∈ X.pn ++ pins, p.1 ≠ b) :
    Inv X pins σ H' { s with heap := h', gens := g', drawn := d', toks := t' } := by
  obtain ⟨m, ⟨o, es, ep, ho, r⟩, _⟩ := id I.loc
  obtain ⟨sl, hL⟩ := u.any ho I.free fun z => (hch _ z).2.1 rfl
  exact I.step (ch := ch) hch (fun b o hL hb hc e n => u.keep b o e n (fun z => (List.mem_cons.mp (I.stkSub b z)).elim hL hb) hc) (fun b o _ _ hc e n => u.any e n hc) (fun b o hc e n => u.free b o e n hc) (fun b o hc e => u.there b o e hc) u.tups u.frzs u.tbls (fun m' hm => by
    obtain ⟨o', es', ep', ho', r'⟩ := hm
    rw [ho] at ho'; cases ho'
    exact ⟨_, es', ep', hL, r'⟩) hok hg
theorem Inv.turned {t' : Nat} {it : Addr} (I : Inv X pins σ H s) (k : ∀ b o, b ≠ it → s.heap.get? b = some o → h'.get? b = some o) (hn : H it = none) (hL : it ≠ X.env.locals)
    (h1 : it ∈ X.ex ∨ X.s₀.heap.objs.size ≤ it) (h2 : ∀ x c, X.env.cells.lookup x = some c → c ≠ it) (h3 : ∀ p ∈ X.pn ++ pins, p.1 ≠ it) : Inv X pins σ H { s with heap := h', toks := t' } := by
  have nit : ∀ b u, H b = some u → b ≠ it := fun b u e z => by rw [z, hn] at e; cases e
  refine I.step (g' := s.gens) (d' := s.drawn) (ch := [it]) (fun b hb => ?_) (fun b o _ _ hc e _ => k b o (fun z => hc (by simp [z])) e) (fun b o _ _ hc e _ => ⟨o.slots, k b o (fun z => hc (by simp [z])) e⟩) (fun _ _ _ _ n => n)
    (fun b o hc e => ⟨o, k b o (fun z => hc (by simp [z])) e⟩) (fun _ _ e => e) (fun _ _ _ e => e) (fun b ps e => ⟨#[], by rw [e]; simp⟩) (fun m hm => ?_) (fun b u e => ?_) I.bare
  · have e : b = it := by simpa using hb
    subst e
    exact ⟨h1, hL, h2, h3⟩
  · obtain ⟨o, es, ep, ho, r⟩ := hm
    exact ⟨o, es, ep, k _ o (Ne.symm hL) ho, r⟩
  · refine (I.hok b u e).stay (fun c v hc q => k c v ?_ q) (fun _ q => q) fun _ _ q => q
    rcases hc with z | z
    · rw [z]; exact nit b u e
    · exact nit c _ z
theorem Inv.tok (I : Inv X pins σ H s) (t : Nat) : Inv X pins σ H { s with toks := t } := I.un (h' := s.heap) (t' := t) Un.refl I.hok
theorem Inv.kept {t' : Nat} (I : Inv X pins σ H s) (k : ∀ b u, s.heap.get? b = some u → h'.get? b = some u) : Inv X pins σ H { s with heap := h', toks := t' } := I.un (Un.kept k) (I.hok.kept k)
theorem Inv.laid {a : Addr} {o : HO} {t' : Nat} (I : Inv X pins σ H s) (k : ∀ b u, s.heap.get? b = some u → h'.get? b = some u) (hp : s.heap.objs.size ≤ a) (new : ObjOk X.prog X.w (upd H a o) h' a o) :
    Inv X pins σ (upd H a o) { s with heap := h', toks := t' } := I.un (Un.laid k hp (I.hok.fresh hp)) (I.hok.laid k hp new)
theorem Inv.write {x e : Addr} {o : HO} {t' : Nat} (I : Inv X pins σ H s) (mu : Mut (H x)) (he : e = x ∨ H e = some (.own x)) (k : ∀ b u, b ≠ e → s.heap.get? b = some u → h'.get? b = some u) (heo : ∃ u, h'.get? e = some u)
    (new : ObjOk X.prog X.w (upd H x o) h' x o) : Inv X pins σ (upd H x o) { s with heap := h', toks := t' } := I.un (Un.write mu he k heo) (I.hok.write mu he k heo new)
theorem Inv.pins_of {pins' : List (Addr × Obj)} (I : Inv X pins σ H s) (h : ∀ p ∈ pins', s.heap.get? p.1 = some p.2 ∧ H p.1 = none ∧ p.1 ≠ X.env.locals ∧ p.1 ∉ X.fs ∧ ∀ v, p.2.data ≠ .cell v) : Inv X pins' σ H s :=
  ⟨I.ok, I.os, I.bare, I.base, I.loc, I.cell, I.free, I.freeC, fun p hp => (List.mem_append.mp hp).elim (fun z => I.pin p (List.mem_append_left _ z)) (h p), I.hok, I.len⟩

theorem nodup_ix {N : List Str} (hN : N.Nodup) {i j : Nat} {x : Str} (a : N[i]? = some x) (b : N[j]? = some x) : i = j := by
  obtain ⟨h1, e1⟩ := List.getElem?_eq_some_iff.mp a
  obtain ⟨h2, e2⟩ := List.getElem?_eq_some_iff.mp b
  exact (List.getElem_inj hN).mp (e1.trans e2.symm)

theorem store_ok2 {M : Model} {A : Around} {E : Value → Shared → Prop} {i : Nat} {x : Str} {v : V} {u : Value} {Q : Unit → Shared → Prop} (I : Inv X pins σ H s) (hN : X.N.Nodup) (hi : X.N[i]? = some x) (hx : Loc X.env.scope x) (r : RelV v u)
    (h : ∀ s', Inv X pins (σ.set i (some v)) H s' → (∃ a, Heap.SameBut a s.heap s'.heap ∧ (a = X.env.locals ∨ X.env.cells.lookup x = some a)) → Q () s') (hf : X.fn x = true ∨ X.env.scope.names.lookup x = some .local := by first | exact .inl rfl | exact .inr rfl | assumption) : wpAny M A (storeName X.env x u) Q E s := by
  obtain ⟨m, hn, hl⟩ := id I.loc
  have hcls : (X.env.scope.kind == .class || (X.env.scope.kind == .module && X.env.locals != X.env.globals)) = false := by rw [I.ok.kind]; rfl
  have hiσ : i < σ.length := by rw [I.len]; exact (List.getElem?_eq_some_iff.mp hi).1
  have cne := I.cne
  have tracked : ∀ {a : Addr} {h' : Heap}, (∃ o, s.heap.get? a = some o ∧ H a = none) → Heap.SameBut a s.heap h' → HOk X.prog X.w H h' := fun {a h'} ha hs b ob e => by
    obtain ⟨_, _, hfree⟩ := ha
    refine (I.hok b ob e).stay (fun c w' hc q => (hs.2 c ?_).trans q) (fun _ q => q) fun _ _ q => q
    rintro rfl
    rcases hc with rfl | hc
    · rw [hfree] at e; cases e
    · rw [hfree] at hc; cases hc
  rcases hx with hk | hk
  · refine wpAny_storeName_local hk hn (fun h' hn' hs => ?_) hcls
    obtain ⟨oL, _, _, hoL, _⟩ := id hn
    refine h _ ⟨I.ok, I.os, I.bare, ⟨fun b o e n hb hx => ?_, fun b o e n hb hx => ?_, I.base.free, fun b o e hx => ?_, I.base.tups, I.base.frzs, I.base.tbls⟩, ⟨_, hn', fun j y v' e1 e2 e3 => ?_⟩, fun y c e => ?_, I.free, I.freeC, fun p hp => ?_, tracked ⟨oL, hoL, I.free⟩ hs, by simpa using I.len⟩ ⟨_, hs, .inl rfl⟩
    · exact (hs.2 b (Nat.ne_of_lt (Nat.lt_of_lt_of_le (Heap.lt_size e) I.ok.above))).trans (I.base.keep b o e n hb hx)
    · obtain ⟨sl, e1⟩ := I.base.slot b o e n hb hx
      exact ⟨sl, (hs.2 b (Nat.ne_of_lt (Nat.lt_of_lt_of_le (Heap.lt_size e) I.ok.above))).trans e1⟩
    · obtain ⟨o', e1⟩ := I.base.there b o e hx
      exact ⟨o', (hs.2 b (Nat.ne_of_lt (Nat.lt_of_lt_of_le (Heap.lt_size e) I.ok.above))).trans e1⟩
    · by_cases hj : j = i
      · subst hj
        rw [hi] at e1; cases e1
        rw [List.getElem?_set_self hiσ] at e2
        cases e2
        exact ⟨u, r, .inl ⟨hk, by simp⟩⟩
      · rw [List.getElem?_set_ne (Ne.symm hj)] at e2
        obtain ⟨u', r', q⟩ := hl j y v' e1 e2 e3
        refine ⟨u', r', ?_⟩
        rcases q with ⟨k, e⟩ | ⟨k, c, e, z⟩
        · refine .inl ⟨k, ?_⟩
          have : y ≠ x := fun e => hj (nodup_ix hN e1 (e ▸ hi))
          simp [this, e]
        · exact .inr ⟨k, c, e, z.sameBut hs (cne y c e)⟩
    · obtain ⟨w', z⟩ := I.cell y c e
      exact ⟨w', z.sameBut hs (cne y c e)⟩
    · obtain ⟨e, n, ne, nf, d⟩ := I.pin p hp
      exact ⟨(hs.2 p.1 ne).trans e, n, ne, nf, d⟩
  · have hfn : X.fn x = true := by
      rcases hf with z | z
      · exact z
      · rw [z] at hk; cases hk
    obtain ⟨c, hc⟩ := I.ok.has x (.inl hk)
    obtain ⟨w', z⟩ := I.cell x c hc
    refine wpAny_storeName_cell I.ok.kind hk hc z (fun h' hc' hs => ?_)
    obtain ⟨oc, hoc, hocd⟩ := id z
    refine h { s with heap := h' } ⟨I.ok, I.os, I.bare, ⟨fun b o e n hb hx => ?_, fun b o e n hb hx => ?_, I.base.free, fun b o e hx => ?_, I.base.tups, I.base.frzs, I.base.tbls⟩, ⟨m, hn.sameBut hs (Ne.symm (cne x c hc)), fun j y v' e1 e2 e3 => ?_⟩, fun y c' e => ?_, I.free, I.freeC, fun p hp => ?_, tracked ⟨oc, hoc, I.freeC x c hc⟩ hs, by simpa using I.len⟩ ⟨c, hs, .inr hc⟩
    · exact (hs.2 b (Nat.ne_of_lt (Nat.lt_of_lt_of_le (Heap.lt_size e) (I.ok.cab x c hfn hc)))).trans (I.base.keep b o e n hb hx)
    · obtain ⟨sl, e1⟩ := I.base.slot b o e n hb hx
      exact ⟨sl, (hs.2 b (Nat.ne_of_lt (Nat.lt_of_lt_of_le (Heap.lt_size e) (I.ok.cab x c hfn hc)))).trans e1⟩
    · obtain ⟨o', e1⟩ := I.base.there b o e hx
      exact ⟨o', (hs.2 b (Nat.ne_of_lt (Nat.lt_of_lt_of_le (Heap.lt_size e) (I.ok.cab x c hfn hc)))).trans e1⟩
    · by_cases hj : j = i
      · subst hj
        rw [hi] at e1; cases e1
        rw [List.getElem?_set_self hiσ] at e2
        cases e2
        exact ⟨u, r, .inr ⟨.inl hk, c, hc, hc'⟩⟩
      · rw [List.getElem?_set_ne (Ne.symm hj)] at e2
        obtain ⟨u', r', q⟩ := hl j y v' e1 e2 e3
        refine ⟨u', r', ?_⟩
        rcases q with q | ⟨k, c', e, z'⟩
        · exact .inl q
        · refine .inr ⟨k, c', e, z'.sameBut hs ?_⟩
          rintro rfl
          exact hj (nodup_ix hN e1 (I.ok.inj _ _ _ e hc ▸ hi))
    · by_cases hcc : c' = c
      · subst hcc; exact ⟨_, hc'⟩
      · obtain ⟨w2, z2⟩ := I.cell y c' e
        exact ⟨w2, z2.sameBut hs hcc⟩
    · obtain ⟨e, n, ne, nf, d⟩ := I.pin p hp
      refine ⟨(hs.2 p.1 ?_).trans e, n, ne, nf, d⟩
      intro q
      rw [q, hoc] at e
      have q' : oc = p.2 := Option.some.inj e
      exact d w' (by rw [← q']; exact hocd)
theorem store_ok {M : Model} {A : Around} {E : Value → Shared → Prop} {i : Nat} {x : Str} {v : V} {u : Value} {Q : Unit → Shared → Prop} (I : Inv X pins σ H s) (hN : X.N.Nodup) (hi : X.N[i]? = some x) (hx : Loc X.env.scope x) (r : RelV v u)
    (h : ∀ s', Inv X pins (σ.set i (some v)) H s' → Q () s') (hf : X.fn x = true ∨ X.env.scope.names.lookup x = some .local := by first | exact .inl rfl | exact .inr rfl | assumption) : wpAny M A (storeName X.env x u) Q E s :=
  store_ok2 I hN hi hx r (fun s' I' _ => h s' I') hf
theorem Inv.call' {s' : Shared} {ch : List Addr} (I : Inv X pins σ H s) (ho : s'.os = s.os) (u : Un (frs X.stack) ch H H' s.heap s'.heap) (hok : HOk X.prog X.w H' s'.heap) (hg : AllBare s'.gens)
    (hch : ∀ b ∈ ch, (b ∈ X.ex ∨ X.s₀.heap.objs.size ≤ b) ∧ b ≠ X.env.locals ∧ (∀ x c, X.env.cells.lookup x = some c → c ≠ b) ∧ ∀ p ∈ X.pn ++ pins, p.1 ≠ b) : Inv X pins σ H' s' := by
  obtain ⟨h', g', d', t', o'⟩ := s'
  have e : o' = s.os := ho
  subst e
  exact I.call (g' := g') (t' := t') (d' := d') u hok hg hch
end

abbrev XK := Value → Option Addr → Hp → Prop
abbrev St := List (Option V)
abbrev VK := V → Hp → Prop
abbrev TE := St → Hp → VK → Prop
abbrev TT := St → Hp → (Bool → Hp → Prop) → Prop
abbrev TA := St → Hp → (List V → Hp → Prop) → Prop
structure Ends where
  nx : St → Hp → Prop
  rt : VK
  bk : St → Hp → Prop := fun _ _ => False
  ct : St → Hp → Prop := fun _ _ => False
abbrev TS := Ends → St → Hp → Prop

def EP (X : Cx) (pins : List (Addr × Obj)) (σ : St) (Q : VK) (u : Value) (s' : Shared) : Prop := ∃ v H', Inv X pins σ H' s' ∧ RelV v u ∧ Q v H'
def TP (X : Cx) (pins : List (Addr × Obj)) (σ : St) (Q : Bool → Hp → Prop) (b : Bool) (s' : Shared) : Prop := ∃ H', Inv X pins σ H' s' ∧ Q b H'
def AP (X : Cx) (pins : List (Addr × Obj)) (σ : St) (Q : List V → Hp → Prop) (us : List Value) (s' : Shared) : Prop := ∃ vs H', Inv X pins σ H' s' ∧ Vals vs us ∧ Q vs H'
def SP (X : Cx) (pins : List (Addr × Obj)) (D : Ends) (f : Flow) (s' : Shared) : Prop :=
  match f with
  | .next => ∃ σ' H', Inv X pins σ' H' s' ∧ D.nx σ' H'
  | .brk => ∃ σ' H', Inv X pins σ' H' s' ∧ D.bk σ' H'
  | .cont => ∃ σ' H', Inv X pins σ' H' s' ∧ D.ct σ' H'
  | .ret u => ∃ v σ' H', Inv X pins σ' H' s' ∧ RelV v u ∧ D.rt v H'

def PE (X : Cx) (e : Expr) (t : TE) : Prop :=
  ∀ (pins : List (Addr × Obj)) (s : Shared) (σ : St) (H : Hp) (Q : VK), Inv X pins σ H s → t σ H Q → wpAny (model X.prog X.w) X.A (eval e X.env) (EP X pins σ Q) X.xe s
def PT (X : Cx) (e : Expr) (t : TT) : Prop :=
  ∀ (pins : List (Addr × Obj)) (s : Shared) (σ : St) (H : Hp) (Q : Bool → Hp → Prop), Inv X pins σ H s → t σ H Q → wpAny (model X.prog X.w) X.A (isTrue e X.env (eval e X.env)) (TP X pins σ Q) X.xe s
def PW (X : Cx) (e : Expr) (t : TT) : Prop :=
  ∀ (whole : Sem Value) (pins : List (Addr × Obj)) (s : Shared) (σ : St) (H : Hp) (Q : Bool → Hp → Prop), Inv X pins σ H s → t σ H Q → wpAny (model X.prog X.w) X.A (isTrue e X.env whole) (TP X pins σ Q) X.xe s
def PA (X : Cx) (es : List Expr) (t : TA) : Prop :=
  ∀ (pos : Pos) (pins : List (Addr × Obj)) (s : Shared) (σ : St) (H : Hp) (Q : List V → Hp → Prop), Inv X pins σ H s → t σ H Q → wpAny (model X.prog X.w) X.A (spliced (backTo pos (starEach es X.env))) (AP X pins σ Q) X.xe s
def PS (X : Cx) (st : Stmt) (t : TS) : Prop :=
  ∀ (pins : List (Addr × Obj)) (s : Shared) (σ : St) (H : Hp) (D : Ends), Inv X pins σ H s → t D σ H → wpAny (model X.prog X.w) X.A (exec st X.env) (SP X pins D) X.xe s
def PSs (X : Cx) (st : List Stmt) (t : TS) : Prop :=
  ∀ (pins : List (Addr × Obj)) (s : Shared) (σ : St) (H : Hp) (D : Ends), Inv X pins σ H s → t D σ H → wpAny (model X.prog X.w) X.A (execs st X.env) (SP X pins D) X.xe s
theorem thn {α : Type} {t : Sem α} {Q Q' : α → Shared → Prop} {M : Model} {A : Around} {E : Value → Shared → Prop} {s : Shared} (h : wpAny M A t Q E s) (hQ : ∀ a s, Q a s → Q' a s) : wpAny M A t Q' E s := wpAny_mono h hQ fun _ _ x => x
end L2

namespace L2
open PySem PySem.Spec PyProof.Rows
section
variable {X : Cx}

def tVar (i : Nat) : TE := fun σ H Q => ∃ v, σ[i]? = some (some v) ∧ Q v H
def tC (v : V) : TE := fun _ H Q => Q v H
theorem pe_var {i : Nat} {x : Str} {pos : Pos} (hN : X.N[i]? = some x) (hv : Vis X.env.scope x) (hd : (x == ("__debug__" : Str)) = false := by decide) (hcd : (x == ("__classdict__" : Str)) = false := by decide) : PE X (.Name x pos) (tVar i) := by
  intro pins s σ H Q I h
  obtain ⟨v, e, h⟩ := h
  obtain ⟨m, hn, hl⟩ := I.loc
  obtain ⟨u, r, l⟩ := hl i x v hN e hv
  have fin : EP X pins σ Q u s := ⟨v, H, I, r, h⟩
  rcases l with ⟨hk, hm⟩ | ⟨hk, c, hc, hcell⟩
  · exact wpAny_Name (wpAny_loadName_local I.ok.kind hk hn hm fin) hd
  · rcases hk with hk | hk
    · exact wpAny_Name (wpAny_loadName_cell I.ok.kind hk hc hcell fin) hd
    · exact wpAny_Name (wpAny_loadName_free I.ok.kind hk hc hcell fin hcd) hd
theorem pe_int {i j pos} : PE X (.Constant (.int i) j pos) (tC (.int i)) := fun _ _ _ H _ I h => wpAny_Constant_int ⟨.int i, H, I.tok _, ⟨_, rfl⟩, h⟩
theorem pe_bl {b j pos} : PE X (.Constant (.bool b) j pos) (tC (.bl b)) := fun _ _ _ H _ I h => Constant_bool ⟨.bl b, H, I, rfl, h⟩
theorem pe_str {x j pos} : PE X (.Constant (.str x) j pos) (tC (.str x)) := fun _ _ _ H _ I h => Calls.Constant_str ⟨.str x, H, I.tok _, ⟨_, rfl⟩, h⟩

def Gl (X : Cx) (x : Str) : Prop := X.env.kindOf x = some .globalImplicit
theorem ld_glob {E : Value → Shared → Prop} {pins : List (Addr × Obj)} {s : Shared} {σ : St} {H : Hp} {x : Str} {u : Value} {pos : Pos} {Q : Value → Shared → Prop} (I : Inv X pins σ H s) (hg : Gl X x) (hm : X.mg x = some u) (h : Q u s)
    (hd : (x == ("__debug__" : Str)) = false := by decide) : wpAny (model X.prog X.w) X.A (eval (.Name x pos) X.env) Q E s :=
  Calls.Name_function_global I.ok.kind hg (Calls.loadGlobal_global (by rw [I.ok.glob]; exact I.mod.glob.keeps I.bk) hm h) hd
theorem ld_blt {E : Value → Shared → Prop} {pins : List (Addr × Obj)} {s : Shared} {σ : St} {H : Hp} {x : Str} {u : Value} {pos : Pos} {Q : Value → Shared → Prop} (I : Inv X pins σ H s) (hg : Gl X x) (hm : X.mg x = none) (hv : bootBuiltins x = some u) (h : Q u s)
    (hn : x ≠ "__name__" := by decide) (hd : (x == ("__debug__" : Str)) = false := by decide) : wpAny (model X.prog X.w) X.A (eval (.Name x pos) X.env) Q E s := by
  obtain ⟨mb, h1, h2⟩ := I.mod.blt
  exact Calls.Name_function_global I.ok.kind hg (Calls.loadGlobal_builtin (by rw [I.ok.glob]; exact I.mod.glob.keeps I.bk) hm (by rw [I.ok.blt]; exact h1.keeps I.bk) ((h2 x hn).trans hv) h) hd
theorem pe_glob {x : Str} {v : V} {u : Value} {pos : Pos} (hg : Gl X x) (hm : X.mg x = some u) (r : RelV v u) (hd : (x == ("__debug__" : Str)) = false := by decide) : PE X (.Name x pos) (tC v) :=
  fun _ _ _ H _ I h => ld_glob I hg hm ⟨v, H, I, r, h⟩ hd
theorem pe_bltn {x : Str} {v : V} {u : Value} {pos : Pos} (hg : Gl X x) (hm : X.mg x = none) (hv : bootBuiltins x = some u) (r : RelV v u) (hn : x ≠ "__name__" := by decide) (hd : (x == ("__debug__" : Str)) = false := by decide) : PE X (.Name x pos) (tC v) :=
  fun _ _ _ H _ I h => ld_blt I hg hm hv ⟨v, H, I, r, h⟩ hn hd

variable {a b : Expr} {ta tb : TE} {pos : Pos}
def tB (t : TE) : TT := fun σ H Q => t σ H fun x H1 => ∃ c, x = .bl c ∧ Q c H1
theorem pt_val {e : Expr} {t : TE} (h : PE X e t) (he : ∀ whole, isTrue e X.env whole = (do let v ← whole; standAt e.pos; holding [v] (truthy v)) := by intro _; rfl) : PT X e (tB t) := by
  intro pins s σ H Q I hw
  refine isTrue_plain (thn (h pins s σ H _ I hw) fun v s1 ⟨x, H1, I1, r1, q1⟩ => ?_) (he _)
  obtain ⟨d, rfl, q⟩ := q1
  cases r1
  exact wpAny_truthy_bool ⟨H1, I1, q⟩

variable {tA tB' : TT} {rest : List Expr}
def tOr (t u : TT) : TT := fun σ H Q => t σ H fun c H1 => if c = true then Q true H1 else u σ H1 Q
def tNot (t : TT) : TT := fun σ H Q => t σ H fun c H1 => Q (!c) H1
theorem pw_or1 (ha : PT X a tA) : PW X (.BoolOp .Or [a] pos) tA := by
  intro wh pins s σ H Q I h
  refine isTrue_or (thn (ha pins s σ H Q I h) fun c s1 e => ?_)
  cases c with
  | false => exact isTrue_or_nil e
  | true => exact e
theorem pw_or (ha : PT X a tA) (hb : PW X (.BoolOp .Or (b :: rest) pos) tB') : PW X (.BoolOp .Or (a :: b :: rest) pos) (tOr tA tB') := by
  intro wh pins s σ H Q I h
  refine isTrue_or (thn (ha pins s σ H _ I h) fun c s1 ⟨H1, I1, q1⟩ => ?_)
  cases c with
  | true => exact ⟨H1, I1, q1⟩
  | false => exact hb wh pins s1 σ H1 Q I1 q1
theorem pt_not (ha : PT X a tA) : PT X (.UnaryOp .Not a pos) (tNot tA) := by
  intro pins s σ H Q I h
  exact isTrue_not (ha pins s σ H (fun c H1 => Q (!c) H1) I h)
def tAndV (ta tb : TE) : TE := fun σ H Q => ta σ H fun x H1 => ∃ c, x = .bl c ∧ if c = true then tb σ H1 Q else Q (.bl false) H1
def tOrV (ta tb : TE) : TE := fun σ H Q => ta σ H fun x H1 => ∃ c, x = .bl c ∧ if c = true then Q (.bl true) H1 else tb σ H1 Q
def tNotV (ta : TE) : TE := fun σ H Q => ta σ H fun x H1 => ∃ c, x = .bl c ∧ Q (.bl (!c)) H1
theorem pe_one {op} {t : TE} (h : PE X a t) : PE X (.BoolOp op [a] pos) t := fun pins s σ H Q I hw => BoolOp_one (h pins s σ H Q I hw)
theorem pe_and (ha : PE X a ta) (hb : PE X (.BoolOp .And (b :: rest) pos) tb) : PE X (.BoolOp .And (a :: b :: rest) pos) (tAndV ta tb) := by
  intro pins s σ H Q I h
  refine BoolOp_and (thn (ha pins s σ H _ I h) fun v s1 ⟨x, H1, I1, r1, q1⟩ => ?_)
  obtain ⟨c, rfl, q1⟩ := q1
  cases r1
  refine wpAny_truthy_bool ?_
  cases c with
  | true => exact hb pins s1 σ H1 Q I1 q1
  | false => exact ⟨.bl false, H1, I1, rfl, q1⟩
theorem pe_or (ha : PE X a ta) (hb : PE X (.BoolOp .Or (b :: rest) pos) tb) : PE X (.BoolOp .Or (a :: b :: rest) pos) (tOrV ta tb) := by
  intro pins s σ H Q I h
  refine BoolOp_or (thn (ha pins s σ H _ I h) fun v s1 ⟨x, H1, I1, r1, q1⟩ => ?_)
  obtain ⟨c, rfl, q1⟩ := q1
  cases r1
  refine wpAny_truthy_bool ?_
  cases c with
  | false => exact hb pins s1 σ H1 Q I1 q1
  | true => exact ⟨.bl true, H1, I1, rfl, q1⟩
theorem pe_not (ha : PE X a ta) : PE X (.UnaryOp .Not a pos) (tNotV ta) := by
  intro pins s σ H Q I h
  refine UnaryOp_ (thn (ha pins s σ H _ I h) fun v s1 ⟨x, H1, I1, r1, q1⟩ => ?_)
  obtain ⟨c, rfl, q1⟩ := q1
  cases r1
  exact not_of (wpAny_truthy_bool ⟨.bl (!c), H1, I1, rfl, q1⟩)
def tIf (t : TT) (ta tb : TE) : TE := fun σ H Q => t σ H fun c H1 => if c = true then ta σ H1 Q else tb σ H1 Q
theorem pe_ifExp {c : Expr} (hc : PT X c tA) (ha : PE X a ta) (hb : PE X b tb) : PE X (.IfExp c a b pos) (tIf tA ta tb) := by
  intro pins s σ H Q I h
  refine wpAny_IfExp (thn (hc pins s σ H _ I h) fun d s1 ⟨H1, I1, q1⟩ => ?_)
  cases d with
  | true => exact ha pins s1 σ H1 Q I1 q1
  | false => exact hb pins s1 σ H1 Q I1 q1
end
end L2

namespace L2
open PySem PySem.Spec PyProof.Rows

def SqL (K : PySem.W.Frag) (H : Hp) (a : Addr) (xs : List V) : Prop :=
  Rd H a (.lst xs) ∨
    ∃ (o : Obj) (its : Array Value) (n : Nat), K.lookup a = some o ∧ o.cls = .type "list" ∧ o.dict = none ∧ o.data = .seq its n ∧ its.size ≤ sizeLine ∧ Vals xs its.toList
def SqT (K : PySem.W.Frag) (H : Hp) (a : Addr) (xs : List V) : Prop :=
  Rd H a (.tup xs) ∨
    ∃ (o : Obj) (its : Array Value) (n : Nat), K.lookup a = some o ∧ o.cls = .type "tuple" ∧ o.data = .seq its n ∧ its.size ≤ sizeLine ∧ Vals xs its.toList
def absV : Value → Option V
  | .none => some .non
  | .bool b => some (.bl b)
  | .int i _ => some (.int i)
  | .str x _ => some (.str x)
  | .bytes b _ => some (.byt b)
  | .float b _ => some (.flt b)
  | .ref a => some (.ref a)
  | .type n => some (.ty n)
  | _ => none
theorem RelV.abs {x : V} {u : Value} (r : RelV x u) : absV u = some x := by
  cases x with
  | non => cases r; rfl
  | bl _ => cases r; rfl
  | int _ => obtain ⟨t, rfl⟩ := r; rfl
  | str _ => obtain ⟨t, rfl⟩ := r; rfl
  | byt _ => obtain ⟨t, rfl⟩ := r; rfl
  | flt _ => obtain ⟨t, rfl⟩ := r; rfl
  | ref _ => cases r; rfl
  | ty _ => cases r; rfl
theorem RelV.inj {x y : V} {u : Value} (r : RelV x u) (q : RelV y u) : x = y := Option.some.inj (r.abs.symm.trans q.abs)
theorem Vals.inj : ∀ {xs ys : List V} {us : List Value}, Vals xs us → Vals ys us → xs = ys
  | _, _, _, .nil, .nil => rfl
  | _, _, _, .cons r t, .cons r' t' => by rw [r.inj r', Vals.inj t t']
section
variable {X : Cx} {pins : List (Addr × Obj)} {σ : St} {H : Hp} {s : Shared} {a : Addr} {xs ys : List V}
theorem SqL.of {K : PySem.W.Frag} (h : H a = some (.lst xs)) : SqL K H a xs := .inl (.inl h)
theorem SqT.of {K : PySem.W.Frag} (h : H a = some (.tup xs)) : SqT K H a xs := .inl (.inl h)
theorem Inv.list (I : Inv X pins σ H s) (h : SqL X.K H a xs) : ∃ its : List Value, Vals xs its ∧ PlainL s.heap a its.toArray ∧ xs.length ≤ sizeLine := by
  rcases h with h | ⟨o, its, n, hk, hc, hd, hs, hz, r⟩
  · obtain ⟨z, its, n, r, e⟩ := h.ok I.hok
    exact ⟨its, r, ⟨_, n, e, rfl, rfl, rfl⟩, z⟩
  · refine ⟨its.toList, r, ⟨o, n, I.kIn a o hk, hc, hd, by simpa using hs⟩, ?_⟩
    have e := r.length
    simp only [Array.length_toList] at e
    omega
theorem Inv.tuple (I : Inv X pins σ H s) (h : SqT X.K H a xs) : ∃ its : List Value, Vals xs its ∧ IsTup s.heap a its.toArray ∧ xs.length ≤ sizeLine := by
  rcases h with h | ⟨o, its, n, hk, hc, hs, hz, r⟩
  · obtain ⟨z, its, r, p⟩ := h.ok I.hok
    exact ⟨its, r, p, z⟩
  · refine ⟨its.toList, r, ⟨o, I.kIn a o hk, hc, n, by simpa using hs⟩, ?_⟩
    have e := r.length
    simp only [Array.length_toList] at e
    omega
theorem Inv.list_inj (I : Inv X pins σ H s) (h : SqL X.K H a xs) (h' : SqL X.K H a ys) : xs = ys := by
  obtain ⟨its, r, ⟨o, n, e, _, _, d⟩, _⟩ := I.list h
  obtain ⟨its', r', ⟨o', n', e', _, _, d'⟩, _⟩ := I.list h'
  rw [e] at e'; cases e'
  rw [d] at d'
  injection d' with d1 _
  have : its = its' := by simpa using congrArg Array.toList d1
  subst this
  exact r.inj r'
theorem Inv.tuple_inj (I : Inv X pins σ H s) (h : SqT X.K H a xs) (h' : SqT X.K H a ys) : xs = ys := by
  obtain ⟨its, r, ⟨o, e, _, n, d⟩, _⟩ := I.tuple h
  obtain ⟨its', r', ⟨o', e', _, n', d'⟩, _⟩ := I.tuple h'
  rw [e] at e'; cases e'
  rw [d] at d'
  injection d' with d1 _
  have : its = its' := by simpa using congrArg Array.toList d1
  subst this
  exact r.inj r'
end

abbrev Cx.wish (X : Cx) (E : Value → Shared → Prop) : Cx := { X with xe := E }
abbrev Cx.nox (X : Cx) : Cx := X.wish fun _ _ => False
theorem Cx.Ok.wish {X : Cx} (ok : X.Ok) (E : Value → Shared → Prop) : (X.wish E).Ok :=
  ⟨ok.mod, ok.kind, ok.glob, ok.blt, ok.above, ok.inj, ok.has, ok.cab, ok.hd, ok.frames, ok.stk, ok.exf, ok.bs, ok.bsz, ok.noex, ok.exfs, ok.funs, ok.frf⟩
theorem Cx.Ok.unwish {X : Cx} {E : Value → Shared → Prop} (ok : (X.wish E).Ok) : X.Ok :=
  ⟨ok.mod, ok.kind, ok.glob, ok.blt, ok.above, ok.inj, ok.has, ok.cab, ok.hd, ok.frames, ok.stk, ok.exf, ok.bs, ok.bsz, ok.noex, ok.exfs, ok.funs, ok.frf⟩
section
variable {X : Cx} {pins : List (Addr × Obj)} {σ : St} {H : Hp} {s : Shared} {E : Value → Shared → Prop}
theorem Inv.wish (I : Inv X pins σ H s) (E : Value → Shared → Prop) : Inv (X.wish E) pins σ H s := ⟨I.ok.wish E, I.os, I.bare, I.base, I.loc, I.cell, I.free, I.freeC, I.pin, I.hok, I.len⟩
theorem Inv.unwish (I : Inv (X.wish E) pins σ H s) : Inv X pins σ H s := ⟨I.ok.unwish, I.os, I.bare, I.base, I.loc, I.cell, I.free, I.freeC, I.pin, I.hok, I.len⟩
theorem SP.unwish {D : Ends} {f : Flow} {s' : Shared} (h : SP (X.wish E) pins D f s') : SP X pins D f s' := by
  cases f with
  | next => obtain ⟨σ', H', I, q⟩ := h; exact ⟨σ', H', I.unwish, q⟩
  | brk => obtain ⟨σ', H', I, q⟩ := h; exact ⟨σ', H', I.unwish, q⟩
  | cont => obtain ⟨σ', H', I, q⟩ := h; exact ⟨σ', H', I.unwish, q⟩
  | ret u => obtain ⟨v, σ', H', I, r, q⟩ := h; exact ⟨v, σ', H', I.unwish, r, q⟩
theorem PE.nox {e : Expr} {t : TE} (h : PE X.nox e t) : PE X e t := fun pins s σ H Q I hw =>
  wpAny_mono (h pins s σ H Q (I.wish _) hw) (fun _ _ ⟨v, H', I', r, q⟩ => ⟨v, H', I'.unwish, r, q⟩) fun _ _ z => False.elim z
theorem PT.nox {e : Expr} {t : TT} (h : PT X.nox e t) : PT X e t := fun pins s σ H Q I hw =>
  wpAny_mono (h pins s σ H Q (I.wish _) hw) (fun _ _ ⟨H', I', q⟩ => ⟨H', I'.unwish, q⟩) fun _ _ z => False.elim z
theorem PSs.nox {st : List Stmt} {t : TS} (h : PSs X.nox st t) : PSs X st t := fun pins s σ H D I hw =>
  wpAny_mono (h pins s σ H D (I.wish _) hw) (fun _ _ q => q.unwish) fun _ _ z => False.elim z
end

section
variable {X : Cx} {st : Stmt} {rest : List Stmt} {t u : TS} {e : Expr} {te : TE} {pos : Pos}
def tNext : TS := fun D σ H => D.nx σ H
def tSeq (t u : TS) : TS := fun D σ H => t { D with nx := u D } σ H
theorem pss_nil : PSs X [] tNext := fun _ _ σ H _ I h => wpAny_execs_nil ⟨σ, H, I, h⟩
theorem pss_cons (h1 : PS X st t) (h2 : PSs X rest u) : PSs X (st :: rest) (tSeq t u) := by
  intro pins s σ H D I h
  refine wpAny_execs_cons (thn (h1 pins s σ H { D with nx := u D } I h) fun f s1 q => ?_)
  cases f with
  | next =>
    obtain ⟨σ', H', I', q⟩ := q
    exact h2 pins s1 σ' H' D I' q
  | ret v => exact q
  | brk => exact q
  | cont => exact q
theorem pss_one (h1 : PS X st t) : PSs X [st] t := by
  intro pins s σ H D I h
  refine wpAny_execs_cons (thn (h1 pins s σ H D I h) fun f s1 q => ?_)
  cases f with
  | next => exact wpAny_execs_nil q
  | ret v => exact q
  | brk => exact q
  | cont => exact q
theorem Inv.quiet {pins : List (Addr × Obj)} {σ : St} {H : Hp} {s : Shared} (I : Inv X pins σ H s) : interactive X.env = false := by simp [interactive, I.ok.kind]
def tDrop (te : TE) : TS := fun D σ H => te σ H fun _ H1 => D.nx σ H1
theorem ps_expr (he : PE X e te) (hs : swapsWith e none pos.line X.env = pure false := by rfl) : PS X (.Expr e pos) (tDrop te) := by
  intro pins s σ H D I h
  exact wpAny_Expr_any (thn (he pins s σ H _ I h) fun v s1 ⟨x, H1, I1, r1, q1⟩ => ⟨σ, H1, I1, q1⟩) I.quiet hs
def tRet (te : TE) : TS := fun D σ H => te σ H D.rt
theorem ps_ret (he : PE X e te) : PS X (.Return (some e) pos) (tRet te) := by
  intro pins s σ H D I h
  exact wpAny_Return_some (thn (he pins s σ H _ I h) fun v s1 ⟨x, H1, I1, r1, q1⟩ => ⟨x, σ, H1, I1, r1, q1⟩)
def tIfS (c : TT) (t u : TS) : TS := fun D σ H => c σ H fun b H1 => if b = true then t D σ H1 else u D σ H1
theorem ps_if {c : Expr} {a b : List Stmt} {tc : TT} (hc : PT X c tc) (ha : PSs X a t) (hb : PSs X b u) : PS X (.If c a b pos) (tIfS tc t u) := by
  intro pins s σ H D I h
  refine wpAny_If (thn (hc pins s σ H _ I h) fun d s1 ⟨H1, I1, q1⟩ => ?_)
  cases d with
  | true => exact ha pins s1 σ H1 D I1 q1
  | false => exact hb pins s1 σ H1 D I1 q1
def tNever : TS := fun _ _ _ => False
theorem pss_never {sts : List Stmt} : PSs X sts tNever := fun _ _ _ _ _ _ h => h.elim
end

abbrev TG := V → St → Hp → (St → Hp → Prop) → Prop
abbrev TGs := List V → St → Hp → (St → Hp → Prop) → Prop
def PG (X : Cx) (target : Expr) (t : TG) : Prop :=
  ∀ (pins : List (Addr × Obj)) (s : Shared) (σ : St) (H : Hp) (v : V) (u : Value) (Q : St → Hp → Prop), Inv X pins σ H s → RelV v u → t v σ H Q →
    wpAny (model X.prog X.w) X.A (assign target X.env u) (fun _ s' => ∃ σ' H', Inv X pins σ' H' s' ∧ Q σ' H') X.xe s
def PGs (X : Cx) (ts : List Expr) (t : TGs) : Prop :=
  ∀ (pins : List (Addr × Obj)) (s : Shared) (σ : St) (H : Hp) (vs : List V) (us : List Value) (Q : St → Hp → Prop), Inv X pins σ H s → Vals vs us → t vs σ H Q →
    wpAny (model X.prog X.w) X.A (assignInOrder ((assignEach ts X.env).map (·.2)) us) (fun _ s' => ∃ σ' H', Inv X pins σ' H' s' ∧ Q σ' H') X.xe s
section
variable {X : Cx} {pos : Pos}
def gName (i : Nat) : TG := fun v σ H Q => Q (σ.set i (some v)) H
theorem pg_name {i : Nat} {x : Str} (hN : X.N.Nodup) (hi : X.N[i]? = some x) (hx : Loc X.env.scope x) (hf : X.fn x = true ∨ X.env.scope.names.lookup x = some .local := by first | exact .inl rfl | exact .inr rfl | assumption) : PG X (.Name x pos) (gName i) := by
  intro pins s σ H v u Q I r h
  exact wpAny_assign_Name (store_ok I hN hi hx r (fun s' I' => ⟨_, H, I', h⟩) hf)
def gNil : TGs := fun vs σ H Q => vs = [] ∧ Q σ H
def gCons (t : TG) (u : TGs) : TGs := fun vs σ H Q => ∃ v r, vs = v :: r ∧ t v σ H fun σ' H' => u r σ' H' Q
theorem pgs_nil : PGs X [] gNil := by
  intro pins s σ H vs us Q I r h
  obtain ⟨e, h⟩ := h
  subst e
  cases r
  exact assignInOrder_nil ⟨σ, H, I, h⟩
theorem pgs_cons {e : Expr} {es : List Expr} {t : TG} {u : TGs} (h1 : PG X e t) (h2 : PGs X es u)
    (hs : (assignEach (e :: es) X.env).map (·.2) = assign e X.env :: (assignEach es X.env).map (·.2) := by rfl) : PGs X (e :: es) (gCons t u) := by
  intro pins s σ H vs us Q I r h
  obtain ⟨v, vr, e1, h⟩ := h
  subst e1
  cases r with
  | cons r rr =>
    rw [hs]
    refine assignInOrder_cons (thn (h1 pins s σ H _ _ _ I r h) fun _ s1 ⟨σ1, H1, I1, q1⟩ => ?_)
    exact h2 pins s1 σ1 H1 _ _ Q I1 rr q1
def gTup (K : PySem.W.Frag) (n : Nat) (t : TGs) : TG := fun v σ H Q => ∃ a xs, v = .ref a ∧ SqT K H a xs ∧ xs.length = n ∧ t xs σ H Q
theorem pg_tup {es : List Expr} {k : Nat} {t : TGs} {n : Nat} (hc : X.calm = true) (h : PGs X es t)
    (hn : (assignEach es X.env).length = n := by rfl) (hst : (assignEach es X.env).findIdx? (·.1) = none := by rfl) : PG X (.Tuple es k pos) (gTup X.K n t) := by
  intro pins s σ H v u Q I r hw
  obtain ⟨a, xs, e1, hq, hl, hw⟩ := hw
  subst e1
  cases r
  obtain ⟨its, rv, ht, hz⟩ := I.tuple hq
  refine assign_Tuple_tuple (I.ok.hd hc) ht (by simp [hn, ← hl, rv.length]) hst fun h' hx => ?_
  have I1 : Inv X pins σ H { s with heap := h' } := I.kept (t' := s.toks) fun b o e => hx b o (Nat.ne_of_lt (Heap.lt_size e)) e
  exact h pins _ σ H xs _ Q I1 (by simpa using rv) hw
def tAsg (te : TE) (g : TG) : TS := fun D σ H => te σ H fun x H1 => g x σ H1 D.nx
theorem ps_set {i : Nat} {x : Str} {e : Expr} {te : TE} {pos' : Pos} (hN : X.N.Nodup) (hi : X.N[i]? = some x) (hx : Loc X.env.scope x) (he : PE X e te) (hs : swapsWith e (some (.Name x pos')) pos.line X.env = pure false := by rfl) (hf : X.fn x = true ∨ X.env.scope.names.lookup x = some .local := by first | exact .inl rfl | exact .inr rfl | assumption) :
    PS X (.Assign [.Name x pos'] e pos) (tAsg te (gName i)) := by
  intro pins s σ H D I h
  refine wpAny_Assign_Name (thn (he pins s σ H _ I h) fun v s1 ⟨y, H1, I1, r1, q1⟩ => ?_) hs
  exact store_ok I1 hN hi hx r1 (fun s2 I2 => ⟨_, H1, I2, q1⟩) hf
end

section
variable {X : Cx} {pos : Pos}
end

structure It where
  go : Nat → Hp → Prop
  yld : Nat → Hp → V → Hp → Prop
  stop : Nat → Hp → Prop
def FpOk (X : Cx) (pins : List (Addr × Obj)) (H : Hp) (b : Addr) : Prop :=
  H b = none ∧ b ≠ X.env.locals ∧ b ∉ X.fs ∧ (b ∈ X.ex ∨ X.s₀.heap.objs.size ≤ b) ∧ (∀ x c, X.env.cells.lookup x = some c → c ≠ b) ∧ ∀ p ∈ X.pn ++ pins, p.1 ≠ b
theorem Inv.fpOk {X : Cx} {pins : List (Addr × Obj)} {σ : St} {H H' : Hp} {s : Shared} {b : Addr} (I : Inv X pins σ H s) (hb : s.heap.objs.size ≤ b) (hn : H' b = none) : FpOk X pins H' b := by
  refine ⟨hn, Nat.ne_of_gt (Nat.lt_of_lt_of_le I.lt hb), I.nofs hb, .inr (Nat.le_trans I.sz hb), fun x c e z => ?_, fun p hp z => ?_⟩
  · obtain ⟨v, q⟩ := I.cell x c e
    exact absurd (Nat.lt_of_lt_of_le q.lt (by rw [z]; exact hb)) (Nat.lt_irrefl _)
  · exact absurd (Nat.lt_of_lt_of_le (Heap.lt_size (I.pin p hp).1) (by rw [z]; exact hb)) (Nat.lt_irrefl _)
structure Turn (P : Program) (w : World) (K : PySem.W.Frag) (tg : Expr) (J : It) (fp : List Addr) (it : Addr) (tn : Nat → Heap → Prop) : Prop where
  mem : it ∈ fp
  obj : ∀ i h, tn i h → ∀ b ∈ fp, ∃ o, h.get? b = some o ∧ ∀ v, o.data ≠ .cell v
  keep : ∀ i h h', tn i h → (∀ b ∈ fp, ∀ o, h.get? b = some o → h'.get? b = some o) → tn i h'
  item : ∀ (X : Cx), X.prog = P → X.w = w → X.K = K → X.calm = true → ∀ (i : Nat) (pins : List (Addr × Obj)) (s : Shared) (σ : St) (H : Hp) (E : Value → Shared → Prop), Inv X pins σ H s → (∀ b ∈ fp, FpOk X pins H b) → tn i s.heap → J.go i H →
    wpAny (model P w) X.A (pyNext (.ref it)) (fun r s1 => ∃ u, r = some u ∧
      wpAny (model P w) X.A (letOwnedTupleGo tg (.ref it) u) (fun _ s2 => ∃ x H', Inv X pins σ H' s2 ∧ RelV x u ∧ J.yld i H x H' ∧ tn (i + 1) s2.heap ∧ ∀ b ∈ fp, H' b = none) E s1) E s
  done : ∀ (X : Cx), X.prog = P → X.w = w → X.K = K → X.calm = true → ∀ (i : Nat) (pins : List (Addr × Obj)) (s : Shared) (σ : St) (H : Hp) (E : Value → Shared → Prop), Inv X pins σ H s → (∀ b ∈ fp, FpOk X pins H b) → tn i s.heap → J.stop i H →
    wpAny (model P w) X.A (pyNext (.ref it)) (fun r s1 => r = none ∧ Inv X pins σ H s1) E s
  self : ∀ (A : Around) (i : Nat) (s : Shared) (Q : Value → Shared → Prop) (E : Value → Shared → Prop), tn i s.heap → Q (.ref it) s → wpAny (model P w) A (pyIter (.ref it)) Q E s
abbrev TI := St → Hp → (It → Hp → Prop) → Prop
def PIE (X : Cx) (pins : List (Addr × Obj)) (σ : St) (tg : Expr) (R : It → Hp → Prop) (itv : Value) (s2 : Shared) : Prop :=
  ∃ (it : Addr) (fp : List Addr) (tn : Nat → Heap → Prop) (J : It) (H' : Hp), itv = .ref it ∧ Inv X pins σ H' s2 ∧ Turn X.prog X.w X.K tg J fp it tn ∧ tn 0 s2.heap ∧ (∀ b ∈ fp, FpOk X pins H' b) ∧ R J H'
def PI (X : Cx) (tg iter : Expr) (wi : TI) : Prop :=
  ∀ (pins : List (Addr × Obj)) (s : Shared) (σ : St) (H : Hp) (R : It → Hp → Prop), Inv X pins σ H s → wi σ H R →
    wpAny (model X.prog X.w) X.A (eval iter X.env) (fun v s1 => wpAny (model X.prog X.w) X.A (pyIter v) (PIE X pins σ tg R) X.xe s1) X.xe s

theorem go_of {M : Model} {A : Around} {E : Value → Shared → Prop} {s : Shared} {tg : Expr} {it : Addr} {u : Value} {o : Obj} {n : String} {vs : Array Value} {Q : Unit → Shared → Prop} (ho : s.heap.get? it = some o) (hc : o.cls = .type n) (hd : o.data = .fields vs)
    (hn : ["enumerate", "zip", "dict_itemiterator", "dict_reverseitemiterator", "odict_iterator", "itertools.zip_longest", "itertools.pairwise"].contains n = false) (hQ : Q () s) : wpAny M A (letOwnedTupleGo tg (.ref it) u) Q E s := by
  unfold letOwnedTupleGo
  cases tg <;> first
    | exact wpAny_pure hQ
    | (cases u <;> first
        | exact wpAny_pure hQ
        | (refine wpAny_bind (wpAny_load ho ?_)
           rw [hc, hd]
           show wpAny M A (if (["enumerate", "zip", "dict_itemiterator", "dict_reverseitemiterator", "odict_iterator", "itertools.zip_longest", "itertools.pairwise"].contains n && vs[0]? == some (rawInt _)) = true then _ else _) Q E s
           rw [if_neg (by intro h; rw [hn, Bool.false_and] at h; cases h)]
           exact wpAny_pure hQ))

def Itl (K : PySem.W.Frag) (a : Addr) : It :=
  ⟨fun i H => ∃ xs x, SqL K H a xs ∧ xs[i]? = some x, fun i H x H' => H' = H ∧ ∀ xs, SqL K H a xs → xs[i]? = some x, fun i H => ∃ xs, SqL K H a xs ∧ xs.length ≤ i⟩
def Itt (K : PySem.W.Frag) (a : Addr) : It :=
  ⟨fun i H => ∃ xs x, SqT K H a xs ∧ xs[i]? = some x, fun i H x H' => H' = H ∧ ∀ xs, SqT K H a xs → xs[i]? = some x, fun i H => ∃ xs, SqT K H a xs ∧ xs.length ≤ i⟩
def Itr (lo : Int) (n : Nat) : It := ⟨fun i _ => i < n, fun i H x H' => H' = H ∧ x = .int (lo + i), fun i _ => n ≤ i⟩
theorem turn_list {P : Program} {w : World} {K : PySem.W.Frag} {tg : Expr} (a it : Addr) : Turn P w K tg (Itl K a) [it] it (fun i h => h.IsListIter it a i) where
  mem := by simp
  obj := fun i h st b hb => by
    have e : b = it := by simpa using hb
    subst e
    obtain ⟨o, e, c, d⟩ := st
    exact ⟨o, e, fun v z => by rw [d] at z; cases z⟩
  keep := fun i h h' st k => st.at fun o e => k it (by simp) o e
  item := by
    intro X hP hw hK hc i pins s σ H E I hf st hg
    subst hP hw hK
    obtain ⟨xs, x, hq, hx⟩ := hg
    obtain ⟨its, rv, p, hz⟩ := I.list hq
    obtain ⟨u, hu, ru⟩ := rv.get hx
    obtain ⟨f0, f1, f2, f3, f4, f5⟩ := hf it (by simp)
    refine wpAny_pyNext_list_item st p.isList (x := u) (by simpa using hu) fun h' st' sb => ?_
    have I1 : Inv X pins σ H { s with heap := h' } := I.turned (t' := s.toks) (fun b o hb e => (sb.2 b hb).trans e) f0 f1 f3 f4 f5
    obtain ⟨o, e, c, d⟩ := id st'
    exact ⟨u, rfl, go_of (s := { s with heap := h' }) e c d (by decide) ⟨x, H, I1, ru, ⟨rfl, fun ys hy => by rw [I.list_inj hy hq]; exact hx⟩, st', fun b hb => (hf b hb).1⟩⟩
  done := by
    intro X hP hw hK hc i pins s σ H E I hf st hg
    subst hP hw hK
    obtain ⟨xs, hq, hx⟩ := hg
    obtain ⟨its, rv, p, hz⟩ := I.list hq
    obtain ⟨f0, f1, f2, f3, f4, f5⟩ := hf it (by simp)
    have hl := rv.length
    exact wpAny_pyNext_list_end (I.ok.hd hc) st p.isList (by simp; omega) fun h' eb => ⟨rfl, I.turned (t' := s.toks) (fun b o hb e => eb b o hb e) f0 f1 f3 f4 f5⟩
  self := fun _ _ _ _ _ st h => wpAny_pyIter_listiter st h
theorem turn_tuple {P : Program} {w : World} {K : PySem.W.Frag} {tg : Expr} (a it : Addr) : Turn P w K tg (Itt K a) [it] it (fun i h => h.IsTupleIter it a i) where
  mem := by simp
  obj := fun i h st b hb => by
    have e : b = it := by simpa using hb
    subst e
    obtain ⟨o, e, c, d⟩ := st
    exact ⟨o, e, fun v z => by rw [d] at z; cases z⟩
  keep := fun i h h' st k => st.at fun o e => k it (by simp) o e
  item := by
    intro X hP hw hK hc i pins s σ H E I hf st hg
    subst hP hw hK
    obtain ⟨xs, x, hq, hx⟩ := hg
    obtain ⟨its, rv, p, hz⟩ := I.tuple hq
    obtain ⟨u, hu, ru⟩ := rv.get hx
    obtain ⟨f0, f1, f2, f3, f4, f5⟩ := hf it (by simp)
    refine wpAny_pyNext_tuple_item st (show s.heap.IsTuple a its.toArray from p) (x := u) (by simpa using hu) fun h' st' sb => ?_
    have I1 : Inv X pins σ H { s with heap := h' } := I.turned (t' := s.toks) (fun b o hb e => (sb.2 b hb).trans e) f0 f1 f3 f4 f5
    obtain ⟨o, e, c, d⟩ := id st'
    exact ⟨u, rfl, go_of (s := { s with heap := h' }) e c d (by decide) ⟨x, H, I1, ru, ⟨rfl, fun ys hy => by rw [I.tuple_inj hy hq]; exact hx⟩, st', fun b hb => (hf b hb).1⟩⟩
  done := by
    intro X hP hw hK hc i pins s σ H E I hf st hg
    subst hP hw hK
    obtain ⟨xs, hq, hx⟩ := hg
    obtain ⟨its, rv, p, hz⟩ := I.tuple hq
    obtain ⟨f0, f1, f2, f3, f4, f5⟩ := hf it (by simp)
    have hl := rv.length
    exact wpAny_pyNext_tuple_end (I.ok.hd hc) st (show s.heap.IsTuple a its.toArray from p) (by simp; omega) fun h' eb => ⟨rfl, I.turned (t' := s.toks) (fun b o hb e => eb b o hb e) f0 f1 f3 f4 f5⟩
  self := fun _ _ _ _ _ st h => wpAny_pyIter_tupleiter st h
theorem turn_range {P : Program} {w : World} {K : PySem.W.Frag} {tg : Expr} (it : Addr) (lo : Int) (n : Nat) : Turn P w K tg (Itr lo n) [it] it (fun i h => IsRangeIter h it (lo + (i : Nat) * 1) ((n : Int) - (i : Nat)) 1) where
  mem := by simp
  obj := fun i h st b hb => by
    have e : b = it := by simpa using hb
    subst e
    exact ⟨_, st, fun v z => by
      have z' : Data.fields _ = Data.cell v := z
      cases z'⟩
  keep := fun i h h' st k => k it (by simp) _ st
  item := by
    intro X hP hw hK hc i pins s σ H E I hf st hg
    subst hP hw hK
    obtain ⟨f0, f1, f2, f3, f4, f5⟩ := hf it (by simp)
    have W := Walks.range (prog := X.prog) (w := X.w) (I.ok.hd hc) it lo 1 n
    refine W.item i s _ _ hg st fun v h' tk hv st' kk => ?_
    obtain ⟨t, rfl⟩ := hv
    have I1 : Inv X pins σ H { s with heap := h', toks := tk } := I.turned (fun b o hb e => kk b o (by simpa using hb) e) f0 f1 f3 f4 f5
    refine ⟨_, rfl, go_of (s := { s with heap := h', toks := tk }) (n := "range_iterator") st' rfl rfl (by decide) ⟨.int (lo + i), H, I1, ⟨t, ?_⟩, ⟨rfl, rfl⟩, st', fun b hb => (hf b hb).1⟩⟩
    rw [Int.mul_one]
  done := by
    intro X hP hw hK hc i pins s σ H E I hf st hg
    subst hP hw hK
    obtain ⟨f0, f1, f2, f3, f4, f5⟩ := hf it (by simp)
    exact wpAny_pyNext_range_end (I.ok.hd hc) st (by have : n ≤ i := hg; omega) fun h' eb => ⟨rfl, I.turned (t' := s.toks) (fun b o hb e => eb b o hb e) f0 f1 f3 f4 f5⟩
  self := fun _ _ _ _ _ st h => wpAny_pyIter_rangeiter st h
end L2

namespace L2
open PySem PySem.Spec PyProof.Rows
section
variable {X : Cx} {tg : Expr}
def iList (K : PySem.W.Frag) (tl : TE) : TI := fun σ H R => tl σ H fun x H1 => ∃ a, x = .ref a ∧ (∃ xs, SqL K H1 a xs) ∧ R (Itl K a) H1
def iTup (K : PySem.W.Frag) (tl : TE) : TI := fun σ H R => tl σ H fun x H1 => ∃ a, x = .ref a ∧ (∃ xs, SqT K H1 a xs) ∧ R (Itt K a) H1
theorem pi_list {l : Expr} {tl : TE} (hl : PE X l tl) : PI X tg l (iList X.K tl) := by
  intro pins s σ H R I h
  refine thn (hl pins s σ H _ I h) fun v s1 ⟨x, H1, I1, r1, q1⟩ => ?_
  obtain ⟨a, e, ⟨xs, hq⟩, q⟩ := q1
  subst e
  cases r1
  obtain ⟨its, rv, p, hz⟩ := I1.list hq
  refine wpAny_pyIter_list p.isList ?_
  refine ⟨s1.heap.objs.size, [s1.heap.objs.size], _, _, H1, rfl, I1.kept (t' := s1.toks) fun b o e => Heap.get?_push_of_some _ e, turn_list a _, ⟨_, Heap.get?_push_size _ rfl, rfl, rfl⟩, fun b hb => ?_, q⟩
  have e : b = s1.heap.objs.size := by simpa using hb
  subst e
  exact I1.fpOk (Nat.le_refl _) (I1.hok.fresh (Nat.le_refl _))
theorem pi_tup {l : Expr} {tl : TE} (hl : PE X l tl) : PI X tg l (iTup X.K tl) := by
  intro pins s σ H R I h
  refine thn (hl pins s σ H _ I h) fun v s1 ⟨x, H1, I1, r1, q1⟩ => ?_
  obtain ⟨a, e, ⟨xs, hq⟩, q⟩ := q1
  subst e
  cases r1
  obtain ⟨its, rv, p, hz⟩ := I1.tuple hq
  refine wpAny_pyIter_tuple (show s1.heap.IsTuple a its.toArray from p) ?_
  refine ⟨s1.heap.objs.size, [s1.heap.objs.size], _, _, H1, rfl, I1.kept (t' := s1.toks) fun b o e => Heap.get?_push_of_some _ e, turn_tuple a _, ⟨_, Heap.get?_push_size _ rfl, rfl, rfl⟩, fun b hb => ?_, q⟩
  have e : b = s1.heap.objs.size := by simpa using hb
  subst e
  exact I1.fpOk (Nat.le_refl _) (I1.hok.fresh (Nat.le_refl _))
theorem range_it {pins : List (Addr × Obj)} {σ : St} {H : Hp} {s : Shared} {R : It → Hp → Prop} {E : Value → Shared → Prop} {lo hi : Int} {t u v : Tok} {tk : Nat} (I : Inv X pins σ H s) (h1 : -(2 ^ 62) ≤ lo) (h2 : lo < 2 ^ 62) (h3 : -(2 ^ 62) ≤ hi) (h4 : hi < 2 ^ 62)
    (q : R (Itr lo (hi - lo).toNat) H) : wpAny (model X.prog X.w) X.A (pyIter (.ref s.heap.objs.size)) (PIE X pins σ tg R) E { s with heap := s.heap.push { cls := .type "range", data := .fields #[.int lo t, .int hi u, .int 1 v] }, toks := tk } := by
  refine wpAny_pyIter_range (IsRange.new ..) (small_one h1 h2 h3 h4) ?_
  have I1 : Inv X pins σ H { s with heap := s.heap.push { cls := .type "range", data := .fields #[.int lo t, .int hi u, .int 1 v] }, toks := tk } := I.kept fun b o e => Heap.get?_push_of_some _ e
  refine ⟨(s.heap.push { cls := .type "range", data := .fields #[.int lo t, .int hi u, .int 1 v] }).objs.size, [(s.heap.push { cls := .type "range", data := .fields #[.int lo t, .int hi u, .int 1 v] }).objs.size], _, _, H, rfl,
    I1.kept (t' := tk) fun b o e => Heap.get?_push_of_some _ e, turn_range _ lo (hi - lo).toNat, ?_, fun b hb => ?_, q⟩
  · have e1 : lo + ((0 : Nat) : Int) * 1 = lo := by simp
    have e2 : (((hi - lo).toNat : Nat) : Int) - ((0 : Nat) : Int) = Builtin.Range.rangeSize lo hi 1 := by rw [rangeSize_one]; split <;> omega
    show IsRangeIter _ _ (lo + ((0 : Nat) : Int) * 1) ((((hi - lo).toNat : Nat) : Int) - ((0 : Nat) : Int)) 1
    rw [e1, e2]
    exact Heap.get?_push_size _ rfl
  · have e : b = (s.heap.push { cls := .type "range", data := .fields #[.int lo t, .int hi u, .int 1 v] }).objs.size := by simpa using hb
    subst e
    exact I1.fpOk (Nat.le_refl _) (I1.hok.fresh (Nat.le_refl _))
def iRng1 (ta : TA) : TI := fun σ H R => ta σ H fun vs H1 => ∃ j : Int, vs = [.int j] ∧ -(2 ^ 62) ≤ j ∧ j < 2 ^ 62 ∧ R (Itr 0 j.toNat) H1
def iRng2 (ta : TA) : TI := fun σ H R => ta σ H fun vs H1 => ∃ i j : Int, vs = [.int i, .int j] ∧ (-(2 ^ 62) ≤ i ∧ i < 2 ^ 62 ∧ -(2 ^ 62) ≤ j ∧ j < 2 ^ 62) ∧ R (Itr i (j - i).toNat) H1
theorem pi_range1 {a : Expr} {ta : TA} {p pos : Pos} (hg : Gl X "range") (hm : X.mg "range" = none) (ha : PA X [a] ta) (hs : starEach [a] X.env = [(false, eval a X.env)] := by rfl) : PI X tg (.Call (.Name "range" p) [a] [] pos) (iRng1 ta) := by
  intro pins s σ H R I h
  refine Call_ (ld_blt I hg hm boot_range (PyProof.Rows.callWith_type1 (thn (ha pos pins s σ H _ I h) fun us s1 ⟨vs, H1, I1, r1, q1⟩ => ?_) hs rfl))
  obtain ⟨j, e, q1, q2, q⟩ := q1
  subst e
  cases r1 with
  | cons r rr =>
    cases rr
    obtain ⟨t, rfl⟩ := r
    exact call_range_1 (range_it I1 (by omega) (by omega) q1 q2 (by simpa using q))
theorem pi_range2 {a b : Expr} {ta : TA} {p pos : Pos} (hg : Gl X "range") (hm : X.mg "range" = none) (ha : PA X [a, b] ta) (hs : starEach [a, b] X.env = [(false, eval a X.env), (false, eval b X.env)] := by rfl) (hs2 : starEach [b] X.env = [(false, eval b X.env)] := by rfl) :
    PI X tg (.Call (.Name "range" p) [a, b] [] pos) (iRng2 ta) := by
  intro pins s σ H R I h
  refine Call_ (ld_blt I hg hm boot_range (PyProof.Rows.callWith_type1 (thn (ha pos pins s σ H _ I h) fun us s1 ⟨vs, H1, I1, r1, q1⟩ => ?_) (by rw [hs, hs2]) (by rw [hs2]; rfl)))
  obtain ⟨i, j, e, ⟨q1, q2, q3, q4⟩, q⟩ := q1
  subst e
  cases r1 with
  | cons r rr =>
    cases rr with
    | cons r' rr =>
      cases rr
      obtain ⟨t, rfl⟩ := r
      obtain ⟨t', rfl⟩ := r'
      exact call_range_2 (range_it I1 q1 q2 q3 q4 q)

def tFor (wi : TI) (g : TG) (tb : TS) : TS := fun D σ H => wi σ H fun J H1 => ∃ W : Nat → Nat → St → Hp → Prop, (∃ m, W 0 m σ H1) ∧ ∀ i m σ H, W i m σ H →
  (J.stop i H ∧ D.nx σ H) ∨ (J.go i H ∧ ∃ N : St → Hp → Prop, (∀ σ' H', N σ' H' → ∃ m', m' < m ∧ W (i + 1) m' σ' H') ∧ ∀ x H', J.yld i H x H' → g x σ H' fun σ2 H2 => tb { D with nx := N, ct := N, bk := D.nx } σ2 H2)
def pinsAt (fp : List Addr) (h : Heap) : List (Addr × Obj) := fp.filterMap fun b => (h.get? b).map fun o => (b, o)
theorem mem_pinsAt {fp : List Addr} {h : Heap} {b : Addr} {o : Obj} (hb : b ∈ fp) (e : h.get? b = some o) : (b, o) ∈ pinsAt fp h := List.mem_filterMap.mpr ⟨b, hb, by rw [e]; rfl⟩
theorem of_pinsAt {fp : List Addr} {h : Heap} {p : Addr × Obj} (hp : p ∈ pinsAt fp h) : p.1 ∈ fp ∧ h.get? p.1 = some p.2 := by
  obtain ⟨b, hb, e⟩ := List.mem_filterMap.mp hp
  cases q : h.get? b with
  | none => rw [q] at e; cases e
  | some o =>
    rw [q] at e
    have e' : (b, o) = p := Option.some.inj e
    subst e'
    exact ⟨hb, q⟩
theorem Inv.pinned {pins : List (Addr × Obj)} {σ : St} {H : Hp} {s : Shared} {fp : List Addr} (I : Inv X pins σ H s) (hf : ∀ b ∈ fp, FpOk X pins H b) (ho : ∀ b ∈ fp, ∃ o, s.heap.get? b = some o ∧ ∀ v, o.data ≠ .cell v) : Inv X (pins ++ pinsAt fp s.heap) σ H s :=
  I.pins_of fun p hp => (List.mem_append.mp hp).elim (fun z => I.pin p (List.mem_append_right _ z)) fun z => by
    obtain ⟨hb, e⟩ := of_pinsAt z
    obtain ⟨f0, f1, f2, _⟩ := hf p.1 hb
    obtain ⟨o, e', d⟩ := ho p.1 hb
    rw [e] at e'; cases e'
    exact ⟨e, f0, f1, f2, d⟩
theorem Inv.unpinned {pins pl : List (Addr × Obj)} {σ : St} {H : Hp} {s : Shared} (I : Inv X (pins ++ pl) σ H s) : Inv X pins σ H s := I.pins_of fun p hp => I.pin p (List.mem_append_right _ (List.mem_append_left _ hp))
theorem ps_for {iter : Expr} {body : List Stmt} {wi : TI} {g : TG} {tb : TS} {pos : Pos} (hp : PassesOwn (model X.prog X.w) X.A X.env X.xe) (hc : X.calm = true) (hi : PI X tg iter wi) (hg : PG X tg g) (hb : PSs X body tb)
    (hs : ∀ x, foldedSetIterable iter X.env x = pure x := by intro _; rfl) : PS X (.For tg iter body [] pos) (tFor wi g tb) := by
  intro pins s σ H D I h
  refine wpAny_For (thn (hi pins s σ H _ I h) fun v s1 h1 => thn h1 fun itv s2 h2 => ?_) hs
  obtain ⟨it, fp, tn, J, H2, e, I2, T, st2, f2, W, ⟨m0, w0⟩, turn⟩ := h2
  subst e
  -- what stays true of the iterator's objects through the loop
  have stat : ∀ {H' : Hp}, (∀ b ∈ fp, H' b = none) → ∀ b ∈ fp, FpOk X pins H' b := fun hn b hb => ⟨hn b hb, (f2 b hb).2⟩
  refine codeAny_forLoop_any (fun n s' => ∃ i σ' H', Inv X pins σ' H' s' ∧ tn i s'.heap ∧ (∀ b ∈ fp, H' b = none) ∧ W i n σ' H') ?_ m0 ⟨0, σ, H2, I2, st2, fun b hb => (f2 b hb).1, w0⟩
  rintro n s3 ⟨i, σ3, H3, I3, st3, fr3, w3⟩
  rcases turn i n σ3 H3 w3 with ⟨stop, qn⟩ | ⟨go, N, hN, step⟩
  · refine wpAny_passesOwn hp (thn (T.done X rfl rfl rfl hc i pins s3 σ3 H3 X.xe I3 (stat fr3) st3 stop) fun r s4 ⟨hr, I4⟩ => ?_)
    subst hr
    exact wpAny_execs_nil ⟨σ3, H3, I4, qn⟩
  · refine wpAny_passesOwn hp (thn (T.item X rfl rfl rfl hc i pins s3 σ3 H3 X.xe I3 (stat fr3) st3 go) fun r s4 ⟨u, hr, h4⟩ => ?_)
    subst hr
    refine wpAny_passesOwn hp (thn h4 fun _ s5 ⟨x, H5, I5, r5, y5, st5, fr5⟩ => ?_)
    have I5' := I5.pinned (stat fr5) (T.obj _ _ st5)
    refine wpAny_passesOwn hp (thn (hg _ s5 σ3 H5 x u _ I5' r5 (step x H5 y5)) fun _ s6 ⟨σ6, H6, I6, q6⟩ => ?_)
    refine wpAny_passesOwn hp (thn (hb _ s6 σ6 H6 _ I6 q6) fun f s7 q7 => ?_)
    have again : ∀ {σ7 : St} {H7 : Hp}, Inv X (pins ++ pinsAt fp s5.heap) σ7 H7 s7 → N σ7 H7 → ∃ m, m < n ∧ ∃ i σ' H', Inv X pins σ' H' s7 ∧ tn i s7.heap ∧ (∀ b ∈ fp, H' b = none) ∧ W i m σ' H' := fun {σ7 H7} I7 n7 => by
      obtain ⟨m', hm, w7⟩ := hN σ7 H7 n7
      refine ⟨m', hm, i + 1, σ7, H7, I7.unpinned, T.keep _ _ _ st5 fun b hb o e => (I7.pin (b, o) (List.mem_append_right _ (List.mem_append_right _ (mem_pinsAt hb e)))).1, fun b hb => ?_, w7⟩
      obtain ⟨o, e, d⟩ := T.obj _ _ st5 b hb
      exact (I7.pin (b, o) (List.mem_append_right _ (List.mem_append_right _ (mem_pinsAt hb e)))).2.1
    cases f with
    | next => obtain ⟨σ7, H7, I7, n7⟩ := q7; exact again I7 n7
    | cont => obtain ⟨σ7, H7, I7, n7⟩ := q7; exact again I7 n7
    | brk => obtain ⟨σ7, H7, I7, q7⟩ := q7; exact ⟨σ7, H7, I7.unpinned, q7⟩
    | ret v => obtain ⟨x7, σ7, H7, I7, r7, q7⟩ := q7; exact ⟨x7, σ7, H7, I7.unpinned, r7, q7⟩
end

end L2

namespace L2
open PySem PySem.Spec PyProof.Rows

abbrev R2 := V → V → Hp → VK → Prop
def OpR (X : Cx) (f : Value → Value → Sem Value) (r : R2) : Prop :=
  ∀ (pins : List (Addr × Obj)) (s : Shared) (σ : St) (H : Hp) (x y : V) (v u : Value) (Q : VK), Inv X pins σ H s → RelV x v → RelV y u → r x y H Q →
    wpAny (model X.prog X.w) X.A (f v u) (EP X pins σ Q) X.xe s
def UnR (X : Cx) (f : Value → Sem Value) (r : V → Hp → VK → Prop) : Prop :=
  ∀ (pins : List (Addr × Obj)) (s : Shared) (σ : St) (H : Hp) (x : V) (v : Value) (Q : VK), Inv X pins σ H s → RelV x v → r x H Q →
    wpAny (model X.prog X.w) X.A (f v) (EP X pins σ Q) X.xe s
def CallR (X : Cx) (f : Value) (r : List V → Hp → VK → Prop) : Prop :=
  ∀ (pins : List (Addr × Obj)) (s : Shared) (σ : St) (H : Hp) (xs : List V) (us : List Value) (Q : VK), Inv X pins σ H s → Vals xs us → r xs H Q →
    wpAny (model X.prog X.w) X.A (call f us) (EP X pins σ Q) X.xe s
def tOp (r : R2) (ta tb : TE) : TE := fun σ H Q => ta σ H fun x H1 => tb σ H1 fun y H2 => r x y H2 Q
def tUn (r : V → Hp → VK → Prop) (ta : TE) : TE := fun σ H Q => ta σ H fun x H1 => r x H1 Q
def rI (C : Int → Int → Prop) (g : Int → Int → V) : R2 := fun x y H Q => ∃ i j, x = .int i ∧ y = .int j ∧ C i j ∧ Q (g i j) H
def rI0 (g : Int → Int → V) : R2 := fun x y H Q => ∃ i j, x = .int i ∧ y = .int j ∧ Q (g i j) H
def rU (g : Int → V) : V → Hp → VK → Prop := fun x H Q => ∃ i, x = .int i ∧ Q (g i) H

section
variable {X : Cx} {a b c : Expr} {ta tb tc : TE} {pos : Pos}

theorem binT (ha : PE X a ta) (hb : PE X b tb) {pins : List (Addr × Obj)} {s : Shared} {σ : St} {H : Hp} {R : V → V → Hp → Prop} (I : Inv X pins σ H s)
    (h : ta σ H fun x H1 => tb σ H1 fun y H2 => R x y H2) {Q : Value → Shared → Prop} {f : Value → Value → Sem Value}
    (hf : ∀ v u s2 x y H2, Inv X pins σ H2 s2 → RelV x v → RelV y u → R x y H2 → wpAny (model X.prog X.w) X.A (f v u) Q X.xe s2) :
    wpAny (model X.prog X.w) X.A (eval a X.env) (fun v s₁ => wpAny (model X.prog X.w) X.A (eval b X.env) (fun u s₂ => wpAny (model X.prog X.w) X.A (f v u) Q X.xe s₂) X.xe s₁) X.xe s := by
  refine thn (ha pins s σ H _ I h) fun v s1 ⟨x, H1, I1, r1, q1⟩ => ?_
  refine thn (hb pins s1 σ H1 _ I1 q1) fun u s2 ⟨y, H2, I2, r2, q2⟩ => ?_
  exact hf v u s2 x y H2 I2 r1 r2 q2

theorem pe_op {op : Operator} {r : R2} (ho : OpR X (binaryOp op) r) (ha : PE X a ta) (hb : PE X b tb) : PE X (.BinOp a op b pos) (tOp r ta tb) := by
  intro pins s σ H Q I h
  exact wpAny_BinOp (binT ha hb I h fun v u s2 x y H2 I2 rx ry q => ho pins s2 σ H2 x y v u Q I2 rx ry q)
theorem pe_un {op : UnaryOp} {r : V → Hp → VK → Prop} (ho : UnR X (unaryOp op) r) (ha : PE X a ta) : PE X (.UnaryOp op a pos) (tUn r ta) := by
  intro pins s σ H Q I h
  exact UnaryOp_ (thn (ha pins s σ H _ I h) fun v s1 ⟨x, H1, I1, r1, q1⟩ => ho pins s1 σ H1 x v Q I1 r1 q1)
theorem opI {f : Value → Value → Sem Value} {C : Int → Int → Prop} {g : Int → Int → Int}
    (rule : ∀ (i j : Int) (t u : Tok) (s : Shared) (Q : Value → Shared → Prop) (E : Value → Shared → Prop), C i j → Q (.int (g i j) s.toks) { s with toks := s.toks + 1 } → wpAny (model X.prog X.w) X.A (f (.int i t) (.int j u)) Q E s) :
    OpR X f (rI C fun i j => .int (g i j)) := by
  intro pins s σ H x y v u Q I rx ry h
  obtain ⟨i, j, rfl, rfl, hc, q⟩ := h
  obtain ⟨t, rfl⟩ := rx
  obtain ⟨t', rfl⟩ := ry
  exact rule i j t t' s _ _ hc ⟨.int (g i j), H, I.tok _, ⟨_, rfl⟩, q⟩
theorem opI0 {f : Value → Value → Sem Value} {g : Int → Int → Int}
    (rule : ∀ (i j : Int) (t u : Tok) (s : Shared) (Q : Value → Shared → Prop) (E : Value → Shared → Prop), Q (.int (g i j) s.toks) { s with toks := s.toks + 1 } → wpAny (model X.prog X.w) X.A (f (.int i t) (.int j u)) Q E s) :
    OpR X f (rI0 fun i j => .int (g i j)) := by
  intro pins s σ H x y v u Q I rx ry h
  obtain ⟨i, j, rfl, rfl, q⟩ := h
  obtain ⟨t, rfl⟩ := rx
  obtain ⟨t', rfl⟩ := ry
  exact rule i j t t' s _ _ ⟨.int (g i j), H, I.tok _, ⟨_, rfl⟩, q⟩
theorem opB0 {f : Value → Value → Sem Value} {g : Int → Int → Bool}
    (rule : ∀ (i j : Int) (t u : Tok) (s : Shared) (Q : Value → Shared → Prop) (E : Value → Shared → Prop), Q (.bool (g i j)) s → wpAny (model X.prog X.w) X.A (f (.int i t) (.int j u)) Q E s) :
    OpR X f (rI0 fun i j => .bl (g i j)) := by
  intro pins s σ H x y v u Q I rx ry h
  obtain ⟨i, j, rfl, rfl, q⟩ := h
  obtain ⟨t, rfl⟩ := rx
  obtain ⟨t', rfl⟩ := ry
  exact rule i j t t' s _ _ ⟨.bl (g i j), H, I, rfl, q⟩

def CDiv (i j : Int) : Prop := 0 < j ∧ j < 1073741824
def CMul (i j : Int) : Prop := (-(2 ^ 64) < i ∧ i < 2 ^ 64) ∨ (-(2 ^ 64) < j ∧ j < 2 ^ 64)
theorem CMul.ok {i j : Int} (h : CMul i j) : IntMulOk i j := by
  rcases h with ⟨h1, h2⟩ | ⟨h1, h2⟩
  · exact .of_left (intBits_le_64 h1 h2)
  · exact .of_right (intBits_le_64 h1 h2)
theorem op_add : OpR X (binaryOp .Add) (rI0 fun i j => .int (i + j)) := opI0 fun _ _ _ _ _ _ _ q => add_int q
theorem op_sub : OpR X (binaryOp .Sub) (rI0 fun i j => .int (i - j)) := opI0 fun _ _ _ _ _ _ _ q => sub_int q
theorem op_mul : OpR X (binaryOp .Mult) (rI CMul fun i j => .int (i * j)) := opI fun _ _ _ _ _ _ _ hc q => mul_int q hc.ok
theorem op_fdiv : OpR X (binaryOp .FloorDiv) (rI CDiv fun i j => .int (i / j)) := opI fun i j _ _ _ _ _ hc q => by
  have h1 : (0 : Int) < j := hc.1
  have h2 : j < 1073741824 := hc.2
  exact floordiv_int (by omega) (by rw [Int.fdiv_eq_ediv_of_nonneg i (by omega)]; exact q) (.inl (PyProof.noPylong_small (by omega)))
theorem op_mod : OpR X (binaryOp .Mod) (rI (fun _ j => 0 < j) fun i j => .int (i % j)) := opI fun i j _ _ _ _ _ hc q => by
  have h1 : (0 : Int) < j := hc
  exact mod_int' (by omega) (by rw [Int.fmod_eq_emod_of_nonneg i (by omega)]; exact q)
theorem unI {f : Value → Sem Value} {g : Int → Int}
    (rule : ∀ (i : Int) (t : Tok) (s : Shared) (Q : Value → Shared → Prop) (E : Value → Shared → Prop), Q (.int (g i) s.toks) { s with toks := s.toks + 1 } → wpAny (model X.prog X.w) X.A (f (.int i t)) Q E s) :
    UnR X f (rU fun i => .int (g i)) := by
  intro pins s σ H x v Q I rx h
  obtain ⟨i, rfl, q⟩ := h
  obtain ⟨t, rfl⟩ := rx
  exact rule i t s _ _ ⟨.int (g i), H, I.tok _, ⟨_, rfl⟩, q⟩
theorem un_neg : UnR X (unaryOp .USub) (rU fun i => .int (-i)) := unI fun _ _ _ _ _ q => neg_int q
end

def scal : V → V → Bool
  | .non, .non => true | .non, .int _ => true | .int _, .non => true | .non, .bl _ => true | .bl _, .non => true | .non, .str _ => true | .str _, .non => true
  | .int _, .int _ => true | .bl _, .bl _ => true | .str _, .str _ => true | .byt _, .byt _ => true
  | .int _, .str _ => true | .str _, .int _ => true | .bl _, .str _ => true | .str _, .bl _ => true
  | _, _ => false
def rEq : R2 := fun x y H Q => scal x y = true ∧ Q (.bl (decide (x = y))) H
def rNe : R2 := fun x y H Q => scal x y = true ∧ Q (.bl (!decide (x = y))) H

theorem dec_int {i j : Int} : decide (V.int i = V.int j) = (i == j) := by
  rw [Bool.eq_iff_iff]
  simp
theorem dec_bl {i j : Bool} : decide (V.bl i = V.bl j) = (i == j) := by
  rw [Bool.eq_iff_iff]
  simp
theorem dec_str {i j : Str} : decide (V.str i = V.str j) = (i == j) := by
  rw [Bool.eq_iff_iff]
  simp
theorem dec_byt {i j : Array UInt8} : decide (V.byt i = V.byt j) = (i.toList == j.toList) := by
  rw [Bool.eq_iff_iff]
  cases i
  cases j
  simp

section
variable {X : Cx} {a b c : Expr} {ta tb tc : TE} {pos : Pos}
theorem fin_bl {pins : List (Addr × Obj)} {σ : St} {H : Hp} {s : Shared} {Q : VK} {k k' : Bool} (I : Inv X pins σ H s) (q : Q (.bl k) H) (e : k = k') : EP X pins σ Q (.bool k') s := by
  subst e
  exact ⟨.bl k, H, I, rfl, q⟩
theorem op_eq : OpR X (compareOp .Eq) rEq := by
  intro pins s σ H x y v u Q I rx ry h
  obtain ⟨hs, q⟩ := h
  cases x with
  | non =>
    cases rx
    cases y with
    | non => cases ry; exact PySem.EqNone.eq_none_none (fin_bl I q (by simp))
    | bl j => cases ry; exact PySem.EqNone.eq_none_bool (fin_bl I q (by simp))
    | int j => obtain ⟨t', rfl⟩ := ry; exact PySem.EqNone.eq_none_int (fin_bl I q (by simp))
    | str j => obtain ⟨t', rfl⟩ := ry; exact PySem.EqNone.eq_none_str (fin_bl I q (by simp))
    | _ => exact absurd (show false = true from hs) Bool.false_ne_true
  | bl i =>
    cases rx
    cases y with
    | non => cases ry; exact PySem.EqNone.eq_bool_none (fin_bl I q (by simp))
    | bl j => cases ry; exact eq_bool (fin_bl I q dec_bl)
    | str j => obtain ⟨t', rfl⟩ := ry; exact PySem.EqMixed.eq_bool_str (fin_bl I q (by simp))
    | _ => exact absurd (show false = true from hs) Bool.false_ne_true
  | int i =>
    obtain ⟨t, rfl⟩ := rx
    cases y with
    | non => cases ry; exact PySem.EqNone.eq_int_none (fin_bl I q (by simp))
    | int j => obtain ⟨t', rfl⟩ := ry; exact eq_int (fin_bl I q dec_int)
    | str j => obtain ⟨t', rfl⟩ := ry; exact PySem.EqMixed.eq_int_str (fin_bl I q (by simp))
    | _ => exact absurd (show false = true from hs) Bool.false_ne_true
  | str i =>
    obtain ⟨t, rfl⟩ := rx
    cases y with
    | non => cases ry; exact PySem.EqNone.eq_str_none (fin_bl I q (by simp))
    | bl j => cases ry; exact PySem.EqMixed.eq_str_bool (fin_bl I q (by simp))
    | int j => obtain ⟨t', rfl⟩ := ry; exact PySem.EqMixed.eq_str_int (fin_bl I q (by simp))
    | str j => obtain ⟨t', rfl⟩ := ry; exact eq_str (fin_bl I q dec_str)
    | _ => exact absurd (show false = true from hs) Bool.false_ne_true
  | byt i =>
    obtain ⟨t, rfl⟩ := rx
    cases y with
    | byt j => obtain ⟨t', rfl⟩ := ry; exact PySem.W.eq_bytes (fin_bl I q dec_byt)
    | _ => exact absurd (show false = true from hs) Bool.false_ne_true
  | _ => cases y <;> exact absurd (show false = true from hs) Bool.false_ne_true
theorem op_ne : OpR X (compareOp .NotEq) rNe := by
  intro pins s σ H x y v u Q I rx ry h
  obtain ⟨hs, q⟩ := h
  cases x with
  | non =>
    cases rx
    cases y with
    | non => cases ry; exact PySem.EqNone.ne_none_none (fin_bl I q (by simp))
    | bl j => cases ry; exact PySem.EqNone.ne_none_bool (fin_bl I q (by simp))
    | int j => obtain ⟨t', rfl⟩ := ry; exact PySem.EqNone.ne_none_int (fin_bl I q (by simp))
    | str j => obtain ⟨t', rfl⟩ := ry; exact PySem.EqNone.ne_none_str (fin_bl I q (by simp))
    | _ => exact absurd (show false = true from hs) Bool.false_ne_true
  | bl i =>
    cases rx
    cases y with
    | non => cases ry; exact PySem.EqNone.ne_bool_none (fin_bl I q (by simp))
    | bl j => cases ry; exact ne_bool (fin_bl I q (congrArg not dec_bl))
    | str j => obtain ⟨t', rfl⟩ := ry; exact PySem.EqMixed.ne_bool_str (fin_bl I q (by simp))
    | _ => exact absurd (show false = true from hs) Bool.false_ne_true
  | int i =>
    obtain ⟨t, rfl⟩ := rx
    cases y with
    | non => cases ry; exact PySem.EqNone.ne_int_none (fin_bl I q (by simp))
    | int j => obtain ⟨t', rfl⟩ := ry; exact ne_int (fin_bl I q (congrArg not dec_int))
    | str j => obtain ⟨t', rfl⟩ := ry; exact PySem.EqMixed.ne_int_str (fin_bl I q (by simp))
    | _ => exact absurd (show false = true from hs) Bool.false_ne_true
  | str i =>
    obtain ⟨t, rfl⟩ := rx
    cases y with
    | non => cases ry; exact PySem.EqNone.ne_str_none (fin_bl I q (by simp))
    | bl j => cases ry; exact PySem.EqMixed.ne_str_bool (fin_bl I q (by simp))
    | int j => obtain ⟨t', rfl⟩ := ry; exact PySem.EqMixed.ne_str_int (fin_bl I q (by simp))
    | str j => obtain ⟨t', rfl⟩ := ry; exact ne_str (fin_bl I q (congrArg not dec_str))
    | _ => exact absurd (show false = true from hs) Bool.false_ne_true
  | byt i =>
    obtain ⟨t, rfl⟩ := rx
    cases y with
    | byt j => obtain ⟨t', rfl⟩ := ry; exact PySem.W.ne_bytes (fin_bl I q (congrArg not dec_byt))
    | _ => exact absurd (show false = true from hs) Bool.false_ne_true
  | _ => cases y <;> exact absurd (show false = true from hs) Bool.false_ne_true

theorem op_lt : OpR X (compareOp .Lt) (rI0 fun i j => .bl (decide (i < j))) := opB0 fun _ _ _ _ _ _ _ q => lt_int q
theorem op_le : OpR X (compareOp .LtE) (rI0 fun i j => .bl (decide (i ≤ j))) := opB0 fun _ _ _ _ _ _ _ q => le_int q
theorem op_gt : OpR X (compareOp .Gt) (rI0 fun i j => .bl (decide (j < i))) := opB0 fun _ _ _ _ _ _ _ q => gt_int q
theorem op_lt_str : OpR X (compareOp .Lt) (fun x y H Q => ∃ i j, x = .str i ∧ y = .str j ∧ Q (.bl (decide (i.cps.toList < j.cps.toList))) H) := by
  intro pins s σ H x y v u Q I rx ry h
  obtain ⟨i, j, rfl, rfl, q⟩ := h
  obtain ⟨t, rfl⟩ := rx
  obtain ⟨t', rfl⟩ := ry
  exact lt_str (fin_bl I q rfl)
theorem op_in_str : OpR X (compareOp .In) (fun x y H Q => ∃ i j, x = .str i ∧ y = .str j ∧ Q (.bl (!(Builtin.Str.occurrences j i 0 j.length 1).isEmpty)) H) := by
  intro pins s σ H x y v u Q I rx ry h
  obtain ⟨i, j, rfl, rfl, q⟩ := h
  obtain ⟨t, rfl⟩ := rx
  obtain ⟨t', rfl⟩ := ry
  exact in_str (fin_bl I q rfl)

theorem OpR.or {f : Value → Value → Sem Value} {r r' : R2} (h : OpR X f r) (h' : OpR X f r') : OpR X f (fun x y H Q => r x y H Q ∨ r' x y H Q) := by
  intro pins s σ H x y v u Q I rx ry q
  rcases q with q | q
  · exact h pins s σ H x y v u Q I rx ry q
  · exact h' pins s σ H x y v u Q I rx ry q

theorem nomark (b : Expr) {op : CmpOp} (h : op ≠ .In := by decide) (h2 : op ≠ .NotIn := by decide) : behindInMarks op b = false := by
  have e1 : (op == CmpOp.In) = false := by cases op <;> first | rfl | exact absurd rfl h
  have e2 : (op == CmpOp.NotIn) = false := by cases op <;> first | rfl | exact absurd rfl h2
  cases b <;> simp [behindInMarks, e1, e2]
theorem pe_cmpR {op : CmpOp} {r : R2} (ho : OpR X (compareOp op) r) (ha : PE X a ta) (hb : PE X b tb) (hm : behindInMarks op b = false) : PE X (.Compare a [op] [b] pos) (tOp r ta tb) := by
  intro pins s σ H Q I h
  exact wpAny_Compare1 (binT ha hb I h fun v u s2 x y H2 I2 rx ry q => ho pins s2 σ H2 x y v u Q I2 rx ry q) hm
def tTest (t : TE) : TT := fun σ H Q => t σ H fun x H' => ∃ k, x = .bl k ∧ Q k H'
theorem pt_cmpR {op : CmpOp} {r : R2} (ho : OpR X (compareOp op) r) (ha : PE X a ta) (hb : PE X b tb) (hm : behindInMarks op b = false) : PT X (.Compare a [op] [b] pos) (tTest (tOp r ta tb)) := by
  intro pins s σ H Q I h
  refine wpAny_isTrue_Compare1 (thn (ha pins s σ H _ I h) fun v s1 ⟨x, H1, I1, r1, q1⟩ => thn (hb pins s1 σ H1 _ I1 q1) fun u s2 ⟨y, H2, I2, r2, q2⟩ =>
    thn (ho pins s2 σ H2 x y v u _ I2 r1 r2 q2) fun c s3 ⟨z, H3, I3, r3, k, e, q3⟩ => ?_) hm
  subst e
  cases r3
  exact wpAny_truthy_bool ⟨H3, I3, q3⟩
def tChain (r r' : R2) (ta tb tc : TE) : TE := fun σ H Q => ta σ H fun x H1 => tb σ H1 fun y H2 => r x y H2 fun z H3 => ∃ k, z = .bl k ∧
  (if k = true then tc σ H3 fun w' H4 => r' y w' H4 Q else Q (.bl false) H3)
theorem pe_chain {op op' : CmpOp} {r r' : R2} (ho : OpR X (compareOp op) r) (ho' : OpR X (compareOp op') r') (ha : PE X a ta) (hb : PE X b tb) (hc : PE X c tc)
    (hm : lastMarks [op, op'] [b, c] = false := by with_unfolding_all rfl) : PE X (.Compare a [op, op'] [b, c] pos) (tChain r r' ta tb tc) := by
  intro pins s σ H Q I h
  refine Compare_chain (thn (ha pins s σ H _ I h) fun v s1 ⟨x, H1, I1, r1, q1⟩ => chain_link (thn (hb pins s1 σ H1 _ I1 q1) fun u s2 ⟨y, H2, I2, r2, q2⟩ =>
    thn (ho pins s2 σ H2 x y v u _ I2 r1 r2 q2) fun d s3 ⟨z, H3, I3, r3, k, e, q3⟩ => ?_)) hm
  subst e
  cases r3
  refine wpAny_truthy_bool ?_
  cases k with
  | false => exact ite_ff ⟨.bl false, H3, I3, rfl, q3⟩
  | true => exact ite_tt (chain_last (thn (hc pins s3 σ H3 _ I3 q3) fun w' s4 ⟨z', H4, I4, r4, q4⟩ => ho' pins s4 σ H4 y z' u w' Q I4 r2 r4 q4))
theorem pt_chain {op op' : CmpOp} {r r' : R2} (ho : OpR X (compareOp op) r) (ho' : OpR X (compareOp op') r') (ha : PE X a ta) (hb : PE X b tb) (hc : PE X c tc)
    (hm : lastMarks [op, op'] [b, c] = false := by with_unfolding_all rfl) : PT X (.Compare a [op, op'] [b, c] pos) (tTest (tChain r r' ta tb tc)) := by
  intro pins s σ H Q I h
  refine isTrue_chain (thn (ha pins s σ H _ I h) fun v s1 ⟨x, H1, I1, r1, q1⟩ => test_link (thn (hb pins s1 σ H1 _ I1 q1) fun u s2 ⟨y, H2, I2, r2, q2⟩ =>
    thn (ho pins s2 σ H2 x y v u _ I2 r1 r2 q2) fun d s3 ⟨z, H3, I3, r3, k, e, q3⟩ => ?_)) hm
  subst e
  cases r3
  refine wpAny_truthy_bool ?_
  cases k with
  | false =>
    obtain ⟨k', e', q'⟩ := q3
    cases e'
    exact ite_ff ⟨H3, I3, q'⟩
  | true =>
    refine ite_tt (test_last (thn (hc pins s3 σ H3 _ I3 q3) fun w' s4 ⟨z', H4, I4, r4, q4⟩ => thn (ho' pins s4 σ H4 y z' u w' _ I4 r2 r4 q4) fun d' s5 ⟨z2, H5, I5, r5, k2, e2, q5⟩ => ?_))
    subst e2
    cases r5
    exact wpAny_truthy_bool ⟨H5, I5, q5⟩

theorem line63 : (sizeLine : Nat) < 2 ^ 63 := by rw [sizeLine_eq]; decide
theorem op_add_str : OpR X (binaryOp .Add) (fun x y H Q => ∃ i j, x = .str i ∧ y = .str j ∧ i.length + j.length ≤ sizeLine ∧ Q (.str (i ++ j)) H) := by
  intro pins s σ H x y v u Q I rx ry h
  obtain ⟨i, j, rfl, rfl, hz, q⟩ := h
  obtain ⟨t, rfl⟩ := rx
  obtain ⟨t', rfl⟩ := ry
  exact add_str (fun t' tk => ⟨.str (i ++ j), H, I.tok _, ⟨_, rfl⟩, q⟩) hz
theorem vals1 {x : V} {us : List Value} (r : Vals [x] us) : ∃ u, us = [u] ∧ RelV x u := by
  cases r with
  | cons r1 r2 => cases r2; exact ⟨_, rfl, r1⟩
theorem vals2 {x y : V} {us : List Value} (r : Vals [x, y] us) : ∃ u w', us = [u, w'] ∧ RelV x u ∧ RelV y w' := by
  cases r with
  | cons r1 r2 =>
    cases r2 with
    | cons r3 r4 => cases r4; exact ⟨_, _, rfl, r1, r3⟩
theorem call_max2 (hc : X.calm = true) : CallR X (.builtin "max") (fun xs H Q => ∃ i j, xs = [.int i, .int j] ∧ Q (.int (if j > i then j else i)) H) := by
  intro pins s σ H xs us Q I r h
  obtain ⟨i, j, rfl, q⟩ := h
  obtain ⟨u, w', rfl, ⟨t, rfl⟩, ⟨t', rfl⟩⟩ := vals2 r
  refine max_two_ints (I.ok.hd hc) fun h' tk k => ⟨_, H, I.kept k, ?_, q⟩
  by_cases hj : j > i
  · rw [if_pos hj, if_pos hj]; exact ⟨_, rfl⟩
  · rw [if_neg hj, if_neg hj]; exact ⟨_, rfl⟩
theorem call_min2 (hc : X.calm = true) : CallR X (.builtin "min") (fun xs H Q => ∃ i j, xs = [.int i, .int j] ∧ Q (.int (if j < i then j else i)) H) := by
  intro pins s σ H xs us Q I r h
  obtain ⟨i, j, rfl, q⟩ := h
  obtain ⟨u, w', rfl, ⟨t, rfl⟩, ⟨t', rfl⟩⟩ := vals2 r
  refine min_two_ints (I.ok.hd hc) fun h' tk k => ⟨_, H, I.kept k, ?_, q⟩
  by_cases hj : j < i
  · rw [if_pos hj, if_pos hj]; exact ⟨_, rfl⟩
  · rw [if_neg hj, if_neg hj]; exact ⟨_, rfl⟩
def LenV (K : PySem.W.Frag) (x : V) (H : Hp) (n : Nat) : Prop :=
  match x with
  | .str y => y.length ≤ sizeLine ∧ n = y.length
  | .byt y => y.size ≤ sizeLine ∧ n = y.size
  | .ref p => (∃ xs, SqL K H p xs ∧ n = xs.length) ∨ ∃ xs, SqT K H p xs ∧ n = xs.length
  | _ => False
theorem call_len : CallR X (.builtin "len") (fun xs H Q => ∃ x n, xs = [x] ∧ LenV X.K x H n ∧ Q (.int n) H) := by
  intro pins s σ H xs us Q I r h
  obtain ⟨x, n, rfl, e, q⟩ := h
  obtain ⟨u, rfl, rx⟩ := vals1 r
  have hl := line63
  have hs : sizeLine = 16777216 := sizeLine_eq
  cases x with
  | str y =>
    obtain ⟨t, rfl⟩ := rx
    obtain ⟨hy, e'⟩ : y.length ≤ sizeLine ∧ n = y.length := e
    subst e'
    exact len_str (by omega) ⟨.int _, H, I.tok _, ⟨_, rfl⟩, q⟩
  | byt y =>
    obtain ⟨t, rfl⟩ := rx
    obtain ⟨hy, e'⟩ : y.size ≤ sizeLine ∧ n = y.size := e
    subst e'
    exact PySem.W.len_bytes (by omega) ⟨.int _, H, I.tok _, ⟨_, rfl⟩, q⟩
  | ref p =>
    cases rx
    have e' : (∃ xs, SqL X.K H p xs ∧ n = xs.length) ∨ ∃ xs, SqT X.K H p xs ∧ n = xs.length := e
    rcases e' with ⟨xs, hx, e'⟩ | ⟨xs, hx, e'⟩
    · subst e'
      obtain ⟨its, r', pl, hz⟩ := I.list hx
      have hlen := r'.length
      exact Calls.call_len_list pl.isList (by simp only [List.size_toArray]; omega) ⟨.int xs.length, H, I.tok _, ⟨_, by simp only [List.size_toArray]; rw [hlen]⟩, q⟩
    · subst e'
      obtain ⟨its, r', pl, hz⟩ := I.tuple hx
      have hlen := r'.length
      exact len_tuple pl (by simp only [List.size_toArray]; omega) ⟨.int xs.length, H, I.tok _, ⟨_, by simp only [List.size_toArray]; rw [hlen]⟩, q⟩
  | _ => exact (show False from e).elim
end
end L2

namespace L2
open PySem PySem.Spec PyProof.Rows

structure ObjM (h : Heap) (x dx C : Addr) (mA : Str → Option Value) : Prop where
  obj : h.get? x = some (PySem.W.instObj C dx)
  ns : h.Ns1 dx mA
  ne : dx ≠ x

theorem lookIn_ns {h : Heap} {dx : Addr} {mA : Str → Option Value} (n : h.Ns1 dx mA) : ∃ od, h.get? dx = some od ∧ ∀ name, PySem.W.lookIn name od = some (mA name) := by
  obtain ⟨o, es, ep, ho, hd, hk, _, hm⟩ := n
  refine ⟨o, ho, fun name => ?_⟩
  have e := hm name
  unfold nsFind findBy at e
  rw [← Array.find?_toList] at e
  unfold PySem.W.lookIn
  rw [hd]
  dsimp only
  split
  · rename_i y q
    rw [q] at e
    exact congrArg some e
  · rename_i q
    rw [q] at e
    have a : es.toList.any (·.refKey) = false := by
      rw [List.any_eq_false]
      intro y hy
      obtain ⟨z, t, hkey⟩ := hk y (Array.mem_toList_iff.mp hy)
      simp [DictEntry.refKey, hkey]
    have a' : ¬ es.toList.any (·.refKey) = true := by rw [a]; exact Bool.false_ne_true
    rw [if_neg a']
    exact congrArg some e

theorem ObjM.look {h : Heap} {x dx C : Addr} {mA : Str → Option Value} (I : ObjM h x dx C mA) : ∃ od, PySem.W.InstAt h x (PySem.W.instObj C dx) C (some od) ∧ ∀ name, PySem.W.lookIn name od = some (mA name) :=
  let ⟨od, ho, hl⟩ := lookIn_ns I.ns
  ⟨od, ⟨I.obj, rfl, rfl, ho⟩, hl⟩

section
variable {prog : Program} {w : World} {A : Around} {E : Value → Shared → Prop} {s : Shared} {K : PySem.W.Frag} {x dx C f : Addr} {mA : Str → Option Value} {name : Str} {v : Value}

end

theorem RelO.some_of {v : V} {o : Option Value} (r : RelO (some v) o) : ∃ u, o = some u ∧ RelV v u := by
  cases o with
  | none => exact (show False from r).elim
  | some u => exact ⟨u, rfl, r⟩
section
variable {P : Program} {w : World} {H H' : Hp} {h h' : Heap} {a C dx : Addr} {fs fs' : List (Str × V)}
theorem ins_get (hok : HOk P w H h) (e : H a = some (.ins C dx fs)) : ∃ mA, ObjM h a dx C mA ∧ (∀ f, RelO (fs.lookup f) (mA f)) ∧ PySem.Within mA (fs.map (·.1)) ∧ fs.length ≤ 1000 ∧ H dx = some (.own a) := by
  obtain ⟨d, z, ne, ob, mA, n, r, q⟩ := (show ObjOk P w H h a (.ins C dx fs) from hok a _ e)
  exact ⟨mA, ⟨ob, n, ne⟩, r, q, z, d⟩
end

structure Cls (K : PySem.W.Frag) (C : Addr) : Prop where
  pg : PySem.W.plainGet K C Str.empty = true
  hd : PySem.W.hasDictIn K C = true
  po : PySem.W.plainOver K C = true
  sa : PySem.W.findIn K (.ref C) "__setattr__" = some (some (.builtin "object.__setattr__"))
theorem Cls.get {K : PySem.W.Frag} {C : Addr} (c : Cls K C) (f : Str) : PySem.W.plainGet K C f = true := c.pg
structure Con (K : PySem.W.Frag) (C : Addr) (f : Str) (v : V) (u : Value) : Prop where
  at_ : PySem.W.findIn K (.ref C) f = some (some u)
  rel : RelV v u
  get : PySem.W.specialIn K u "__get__" = some none
  cp : PySem.W.copiedNames.contains f = false
structure Meth (K : PySem.W.Frag) (C : Addr) (m : Str) (f : Addr) : Prop where
  at_ : PySem.W.findIn K (.ref C) m = some (some (.ref f))
  fn : PySem.W.isFn K (.ref f) = true
  kp : PySem.W.keepIn K (.ref f) = true

section
variable {X : Cx} {pins : List (Addr × Obj)} {σ : St} {H : Hp} {s : Shared} {a C dx : Addr} {fs : List (Str × V)} {f : Str} {v : V} {A : Around} {E : Value → Shared → Prop}

end

section
variable {X : Cx} {o e value : Expr} {f : Str} {pos pos' tpos : Pos} {ta tv : TE}
end

section
variable {X : Cx} {pins : List (Addr × Obj)} {σ : St} {H : Hp} {s : Shared} {A : Around} {E : Value → Shared → Prop} {Q : Value → Shared → Prop} {c : Value} {b : Bool}
inductive TyOf (K : PySem.W.Frag) (H : Hp) : V → Value → Prop where
  | non : TyOf K H .non (.type "NoneType")
  | bl (x : Bool) : TyOf K H (.bl x) (.type "bool")
  | int (i : Int) : TyOf K H (.int i) (.type "int")
  | str (x : Str) : TyOf K H (.str x) (.type "str")
  | flt (x : UInt64) : TyOf K H (.flt x) (.type "float")
  | lst {a : Addr} {xs : List V} (e : H a = some (.lst xs)) : TyOf K H (.ref a) (.type "list")
  | frz {a : Addr} {o : Obj} {xs : List V} (e : H a = some (.frz o (.lst xs))) : TyOf K H (.ref a) (.type "list")
  | tup {a : Addr} {xs : List V} (e : H a = some (.tup xs)) : TyOf K H (.ref a) (.type "tuple")
  | dK {a : Addr} {kvs : List (Key × V)} (e : H a = some (.dK kvs)) : TyOf K H (.ref a) (.type "dict")
  | dT {a : Addr} {kvs : List (List Key × V)} (e : H a = some (.dT kvs)) : TyOf K H (.ref a) (.type "dict")
  | ins {a C dx : Addr} {fs : List (Str × V)} (e : H a = some (.ins C dx fs)) (cl : Cls K C) (ha : PySem.W.findIn K (.ref C) "__class__" = some (some (.builtin "object.__class__")))
      (hn : PySem.W.specialIn K (.builtin "object.__class__") "__get__" = some (some (.builtin "getset_descriptor.__get__"))) (htk : PySem.W.takesIn K (.builtin "object.__class__") = some true)
      (hm : PySem.W.mroIn K C (.type "object") = some true) : TyOf K H (.ref a) (.ref C)
theorem isinst_ok {x : V} {u t : Value} (I : Inv X pins σ H s) (rx : RelV x u) (ty : TyOf X.K H x t) (e : PySem.W.kitOne X.K t c = some b) (h : ∀ tk, Q (.bool b) { s with toks := tk }) :
    wpAny (model X.prog X.w) A (call (.builtin "isinstance") [u, c]) Q E s := by
  cases ty with
  | non => cases (show u = Value.none from rx); exact PySem.W.kia_one PySem.W.kitx_none I.kIn True.intro e (fun z => nomatch z) h
  | bl y => cases (show u = Value.bool y from rx); exact PySem.W.kia_one PySem.W.kitx_bool I.kIn True.intro e (fun z => nomatch z) h
  | int i => obtain ⟨t, q⟩ := (show ∃ t, u = Value.int i t from rx); cases q; exact PySem.W.kia_one PySem.W.kitx_int I.kIn True.intro e (fun z => nomatch z) h
  | str y => obtain ⟨t, q⟩ := (show ∃ t, u = Value.str y t from rx); cases q; exact PySem.W.kia_one PySem.W.kitx_str I.kIn True.intro e (fun z => nomatch z) h
  | flt y => obtain ⟨t, q⟩ := (show ∃ t, u = Value.float y t from rx); cases q; exact PySem.W.kia_one PySem.W.kitx_float I.kIn True.intro e (fun z => nomatch z) h
  | @lst a xs ea =>
    cases (show u = Value.ref a from rx)
    obtain ⟨_, _, n, _, h1⟩ := (show ObjOk X.prog X.w H s.heap a (.lst xs) from I.hok a _ ea)
    exact PySem.W.kia_one PySem.W.kitx_list I.kIn ⟨_, h1, rfl⟩ e (fun z => nomatch z) h
  | @frz a ob xs ea =>
    cases (show u = Value.ref a from rx)
    obtain ⟨_, _, _, n, _, h1⟩ := (show ObjOk X.prog X.w H s.heap a (.frz ob (.lst xs)) from I.hok a _ ea)
    exact PySem.W.kia_one PySem.W.kitx_list I.kIn ⟨_, h1, rfl⟩ e (fun z => nomatch z) h
  | @tup a xs ea =>
    cases (show u = Value.ref a from rx)
    obtain ⟨_, _, _, p⟩ := (show ObjOk X.prog X.w H s.heap a (.tup xs) from I.hok a _ ea)
    obtain ⟨o, h1, h2, _⟩ := p
    exact PySem.W.kia_one PySem.W.kitx_tuple I.kIn ⟨o, h1, h2⟩ e (fun z => nomatch z) h
  | @dK a kvs ea =>
    cases (show u = Value.ref a from rx)
    obtain ⟨_, _, vs, _, p⟩ := (show ObjOk X.prog X.w H s.heap a (.dK kvs) from I.hok a _ ea)
    obtain ⟨o, es, ep, h1, h2, _⟩ := p
    exact PySem.W.kia_one PySem.W.kitx_dict I.kIn ⟨o, h1, h2.1⟩ e (fun z => nomatch z) h
  | @dT a kvs ea =>
    cases (show u = Value.ref a from rx)
    obtain ⟨_, _, xs, _, o, es, ep, h1, h2, _⟩ := (show ObjOk X.prog X.w H s.heap a (.dT kvs) from I.hok a _ ea)
    exact PySem.W.kia_one PySem.W.kitx_dict I.kIn ⟨o, h1, h2.1⟩ e (fun z => nomatch z) h
  | @ins a C dx fs ea cl ha hn htk hm =>
    cases (show u = Value.ref a from rx)
    obtain ⟨mA, O, _⟩ := ins_get I.hok ea
    obtain ⟨od, J, _⟩ := O.look
    exact PySem.W.kia_one (PySem.W.kitx_own (cl.get _) cl.hd ha hn htk hm) I.kIn J e (fun z => nomatch z) h
end
end L2

namespace L2
open PySem PySem.Spec PyProof.Rows

structure Room (k : Nat) (A : Around) : Prop where
  hd : A.handled = none
  dp : A.depth + 3 * k + 5 < recursionLimit
  un : A.units + 16 * k + 200 < cLine
theorem Room.mono {j k : Nat} {A : Around} (r : Room k A) (h : j ≤ k) : Room j A := ⟨r.hd, by have := r.dp; omega, by have := r.un; omega⟩
theorem Room.deeper {k : Nat} {A : Around} (r : Room (k + 1) A) (env : Env) : Room k (A.deeper env) :=
  ⟨r.hd, by have := r.dp; show A.depth + 1 + 3 * k + 5 < _; omega, by have := r.un; show A.units + 3 + 16 * k + 200 < _; omega⟩
theorem Room.in1 {k : Nat} {A : Around} (r : Room (k + 1) A) : Room k A.in1 :=
  ⟨r.hd, by have := r.dp; show A.depth + 3 * k + 5 < _; omega, by have := r.un; show A.units + 1 + 16 * k + 200 < _; omega⟩
theorem Room.depth {k : Nat} {A : Around} (r : Room k A) : A.depth < recursionLimit := by have := r.dp; omega
theorem Room.units {k : Nat} {A : Around} (r : Room k A) : A.units + 64 < cLine := by have := r.un; omega
def tNil : TA := fun _ H Q => Q [] H
def tCons (ta : TE) (tr : TA) : TA := fun σ H Q => ta σ H fun x H1 => tr σ H1 fun xs H2 => Q (x :: xs) H2
section
variable {X : Cx} {e : Expr} {es : List Expr} {te : TE} {t : TA} {pos : Pos}
theorem pa_nil : PA X [] tNil := fun _ _ _ _ H Q I h => Calls.spliced_nil ⟨[], H, I, .nil, h⟩
theorem pa_cons (ha : PE X e te) (hr : PA X es t) (hs : starEach (e :: es) X.env = (false, eval e X.env) :: starEach es X.env := by rfl) : PA X (e :: es) (tCons te t) := by
  intro pos pins s σ H Q I h
  rw [hs]
  show wpAny _ _ (spliced ((false, eval e X.env) :: backTo pos (starEach es X.env))) _ _ s
  refine Calls.spliced_cons (thn (ha pins s σ H _ I h) fun u s1 ⟨x, H1, I1, r1, q1⟩ => ?_)
  exact thn (hr pos pins s1 σ H1 _ I1 q1) fun us s2 ⟨xs, H2, I2, r2, q2⟩ => ⟨x :: xs, H2, I2, .cons r1 r2, q2⟩

def tTup (t : TA) : TE := fun σ H Q => t σ H fun xs H1 => xs.length ≤ sizeLine ∧ ∀ p, H1 p = none → Q (.ref p) (upd H1 p (.tup xs))
def tLst (t : TA) : TE := fun σ H Q => t σ H fun xs H1 => xs.length ≤ sizeLine ∧ ∀ p, H1 p = none → Q (.ref p) (upd H1 p (.lst xs))
theorem pe_tup {x1} (h : PA X es t) : PE X (.Tuple es x1 pos) (tTup t) := by
  intro pins s σ H Q I hq
  refine wpAny_Tuple_spliced (thn (h pos pins s σ H _ I hq) fun us s1 ⟨xs, H1, I1, r, z, q⟩ => ⟨by rw [← r.length]; exact z, ?_⟩)
  have hf : H1 s1.heap.objs.size = none := I1.hok.fresh (Nat.le_refl _)
  refine ⟨.ref s1.heap.objs.size, upd H1 s1.heap.objs.size (.tup xs), I1.laid (t' := s1.toks) (fun b u e => Heap.get?_push_of_some _ e) (Nat.le_refl _) ?_, rfl, q _ hf⟩
  exact ⟨z, us, r, ⟨_, Heap.get?_push_size _ rfl, rfl, _, rfl⟩⟩
theorem pe_lst (h : PA X es t) : PE X (.List es pos) (tLst t) := by
  intro pins s σ H Q I hq
  refine wpAny_List_spliced (thn (h pos pins s σ H _ I hq) fun us s1 ⟨xs, H1, I1, r, z, q⟩ => ⟨by rw [← r.length]; exact z, ?_⟩)
  have hf : H1 s1.heap.objs.size = none := I1.hok.fresh (Nat.le_refl _)
  refine ⟨.ref s1.heap.objs.size, upd H1 s1.heap.objs.size (.lst xs), I1.laid (t' := s1.toks) (fun b u e => Heap.get?_push_of_some _ e) (Nat.le_refl _) ?_, rfl, q _ hf⟩
  exact ⟨z, us, 0, r, Heap.get?_push_size _ rfl⟩
end

abbrev Sp := List V → Hp → VK → XK → Prop
abbrev CXT := List Env → Hp → Shared → XK → Value → Shared → Prop

structure Env0 (P : Program) (w : World) (K : PySem.W.Frag) (mg : Str → Option Value) (base : Heap) (A : Around) (outer : List Env) (s : Shared) (H : Hp) : Prop where
  frames : A.frames = some outer
  mod : Mod K mg base
  bs : ∀ b o, base.get? b = some o → s.heap.get? b = some o ∧ H b = none
  bsz : base.objs.size ≤ s.heap.objs.size
  funs : s.heap.FunFrames base outer
  frf : ∀ b ∈ frs outer, H b = none
  hok : HOk P w H s.heap
  bare : AllBare s.gens
def CE (outer : List Env) (P : Program) (w : World) (H : Hp) (s : Shared) (Q : VK) (u : Value) (s' : Shared) : Prop :=
  ∃ v H', s'.os = s.os ∧ AllBare s'.gens ∧ Un (frs outer) [] H H' s.heap s'.heap ∧ HOk P w H' s'.heap ∧ RelV v u ∧ Q v H'
def CR (CX : CXT) (outer : List Env) (P : Program) (w : World) (H : Hp) (s : Shared) (Q : VK) (E : XK) (r : Result) (s' : Shared) : Prop :=
  match r with
  | .ok (.ret u) => CE outer P w H s Q u s'
  | .ok _ => False
  | .error e => CX outer H s E e s'
structure FnOk (P : Program) (w : World) (K : PySem.W.Frag) (mg : Str → Option Value) (base : Heap) (CX : CXT) (k : Nat) (f : Addr) (fd : FuncData) (ps : List Str) (sp : Sp) : Prop where
  len : ∀ vs H Q E, sp vs H Q E → vs.length = ps.length
  run : ∀ (A : Around) (outer : List Env) (s : Shared) (H : Hp) (args : Args) (us : List Value) (vs : List V) (Q : VK) (E : XK), Room k A → Env0 P w K mg base A outer s H → BindsTo s fd args (ps.zip us) → Vals vs us → sp vs H Q E →
    codeAny (model P w) A (.call (.ref f) args) (CR CX outer P w H s Q E) s
theorem FnOk.mono {P : Program} {w : World} {K : PySem.W.Frag} {mg : Str → Option Value} {base : Heap} {CX : CXT} {j k : Nat} {f : Addr} {fd : FuncData} {ps : List Str} {sp : Sp} (F : FnOk P w K mg base CX j f fd ps sp) (h : j ≤ k) :
    FnOk P w K mg base CX k f fd ps sp := ⟨F.len, fun A outer s H args us vs Q E hr => F.run A outer s H args us vs Q E (hr.mono h)⟩
theorem FnOk.imp {P : Program} {w : World} {K : PySem.W.Frag} {mg : Str → Option Value} {base : Heap} {CX : CXT} {k : Nat} {f : Addr} {fd : FuncData} {ps : List Str} {sp sp' : Sp} (F : FnOk P w K mg base CX k f fd ps sp)
    (h : ∀ vs H Q E, sp' vs H Q E → sp vs H Q E) : FnOk P w K mg base CX k f fd ps sp' :=
  ⟨fun vs H Q E q => F.len vs H Q E (h _ _ _ _ q), fun A outer s H args us vs Q E hr he hb hv hs => F.run A outer s H args us vs Q E hr he hb hv (h _ _ _ _ hs)⟩

theorem Env0.in1 {P : Program} {w : World} {K : PySem.W.Frag} {mg : Str → Option Value} {base : Heap} {A : Around} {outer : List Env} {s : Shared} {H : Hp} (e : Env0 P w K mg base A outer s H) :
    Env0 P w K mg base A.in1 outer s H := ⟨e.frames, e.mod, e.bs, e.bsz, e.funs, e.frf, e.hok, e.bare⟩

section
variable {X : Cx} {pins : List (Addr × Obj)} {σ : St} {H : Hp} {s s' : Shared}
theorem Inv.env0 (I : Inv X pins σ H s) : Env0 X.prog X.w X.K X.mg X.base X.A X.stack s H :=
  ⟨I.ok.frames, I.ok.mod, I.bs, Nat.le_trans I.ok.bsz I.sz, I.stack, I.stkFree, I.hok, I.bare⟩
theorem Inv.after {Q : VK} {u : Value} (I : Inv X pins σ H s) (h : CE X.stack X.prog X.w H s Q u s') : EP X pins σ Q u s' := by
  obtain ⟨v, H', os, bare, un, hok, r, q⟩ := h
  obtain ⟨hh, g, d, t, os'⟩ := s'
  obtain rfl : os' = s.os := os
  exact ⟨v, H', I.call (h' := hh) (g' := g) (d' := d) (t' := t) (ch := []) un hok bare (fun b z => absurd z (by simp)), r, q⟩
end

def tCall (sp : Sp) (dvs : List V) (E : XK) (t : TA) : TE := fun σ H Q => t σ H fun vs H1 => sp (vs ++ dvs) H1 Q E
def Binds (K : PySem.W.Frag) (fd : FuncData) (ps : List Str) (ds : List Value) : Prop :=
  ∀ (s : Shared) (us : List Value), K.In s.heap → (us ++ ds).length = ps.length → BindsTo s fd ⟨us, []⟩ (ps.zip (us ++ ds))
theorem Binds.all {K : PySem.W.Frag} {fd : FuncData} {ps : List Str} (h : ∀ us : List Value, us.length = ps.length → bindArgs fd ⟨us, []⟩ = pure (ps.zip us)) : Binds K fd ps [] := fun s us _ hl => by
  rw [List.append_nil] at hl ⊢
  exact .of_eq (h us hl)

def Passes (CX : CXT) (X : Cx) (E : XK) : Prop := ∀ (pins : List (Addr × Obj)) (σ : St) (H : Hp) (s : Shared) (e : Value) (s' : Shared), Inv X pins σ H s → CX X.stack H s E e s' → X.xe e s'

section
variable {X : Cx} {CX : CXT} {k : Nat} {f C : Addr} {fd : FuncData} {ps : List Str} {sp : Sp} {dvs : List V} {ds : List Value} {E : XK} {x m : Str} {p pos apos : Pos} {e o : Expr} {es : List Expr} {ta : TE} {t : TA}

theorem run_fn {pins : List (Addr × Obj)} {σ : St} {H : Hp} {s : Shared} {Q : VK} {us : List Value} {vs : List V} (F : FnOk X.prog X.w X.K X.mg X.base CX k f fd ps sp) (hr : Room k X.A) (hb : Binds X.K fd ps ds) (hd : Vals dvs ds) (hx : Passes CX X E)
    (I : Inv X pins σ H s) (r : Vals vs us) (h : sp (vs ++ dvs) H Q E) : wpAny (model X.prog X.w) X.A (call (.ref f) us) (EP X pins σ Q) X.xe s := by
  have r2 : Vals (vs ++ dvs) (us ++ ds) := r.append hd
  have hl : (us ++ ds).length = ps.length := by rw [← r2.length]; exact F.len _ _ _ _ h
  refine wpAny_call (codeAny_mono (F.run X.A X.stack s H ⟨us, []⟩ (us ++ ds) (vs ++ dvs) Q E hr I.env0 (hb s us I.kIn hl) r2 h) fun r s' hq => ?_)
  cases r with
  | error e => exact hx pins σ H s e s' I hq
  | ok fl =>
    cases fl with
    | ret u => exact I.after hq
    | next => exact False.elim hq
    | brk => exact False.elim hq
    | cont => exact False.elim hq

theorem pe_call (F : FnOk X.prog X.w X.K X.mg X.base CX k f fd ps sp) (hr : Room k X.A) (hg : Gl X x) (hm : X.mg x = some (.ref f)) (hk : PySem.W.keepIn X.K (.ref f) = true) (hb : Binds X.K fd ps ds) (hd : Vals dvs ds) (hx : Passes CX X E)
    (ha : PA X (e :: es) t) (hdb : (x == ("__debug__" : Str)) = false := by decide) (he : starEach (e :: es) X.env = (false, eval e X.env) :: starEach es X.env := by rfl) (hpl : (backTo pos (starEach es X.env)).any (·.1) = false := by rfl) :
    PE X (.Call (.Name x p) (e :: es) [] pos) (tCall sp dvs E t) := by
  intro pins s σ H Q I h
  refine wpAny_Call_Name_kw (ld_glob I hg hm ?_ hdb)
  refine PySem.W.callWith_K (h₀ := X.base) I.ok.mod.kin hk (thn (ha pos pins s σ H _ I h) fun us s1 ⟨vs, H1, I1, r, q⟩ => ⟨I1.kIn, ?_⟩) he hpl
  exact run_fn F hr hb hd hx I1 r q
structure Mk (K : PySem.W.Frag) (C f : Addr) : Prop where
  makes : PySem.W.makesIn K C = true
  init : PySem.W.findIn K (.ref C) "__init__" = some (some (.ref f))
  fn : PySem.W.isFn K (.ref f) = true
  kp : PySem.W.keepIn K (.ref C) = true

end

section
variable {X : Cx} {CX : CXT} {k : Nat} {f C : Addr} {fd : FuncData} {ps ks : List Str} {sp : Sp} {E : XK} {x m : Str} {p pos apos kpos : Pos} {e o : Expr} {es : List Expr} {kws : List Keyword} {te ta : TE} {t tk : TA} {nm : Option Str}
structure KBinds (K : PySem.W.Frag) (fd : FuncData) (ps ks : List Str) (g : List Value → List Value → List Value) (gV : List V → List V → List V) : Prop where
  to : ∀ (s : Shared) (us ws : List Value), K.In s.heap → (g us ws).length = ps.length → BindsTo s fd ⟨us, ks.zip ws⟩ (ps.zip (g us ws))
  rel : ∀ {vs : List V} {us : List Value} {zs : List V} {ws : List Value}, Vals vs us → Vals zs ws → Vals (gV vs zs) (g us ws)
variable {g : List Value → List Value → List Value} {gV : List V → List V → List V}
end

structure FnScope (N P : List Str) (sc : Scope) : Prop where
  kind : sc.kind = .function
  co : sc.isCoroutine = false
  gen : sc.isGenerator = false
  nd : N.Nodup
  pre : N.take P.length = P
  par : ∀ x ∈ P, sc.names.lookup x = some .local ∨ sc.names.lookup x = some .cell
  nofree : ∀ y ∈ sc.names, y.2 ≠ .free

theorem bindL_out {kindOf : Str → Option NameKind} {x : Str} : ∀ {binds : List (Str × Value)} {m : Str → Option Value}, (∀ v, (x, v) ∉ binds) → bindL kindOf binds m x = m x
  | [], _, _ => rfl
  | (n, v) :: r, m, h => by
    unfold bindL
    rw [bindL_out fun w hw => h w (List.mem_cons_of_mem _ hw)]
    split
    · have : x ≠ n := by rintro rfl; exact h v List.mem_cons_self
      simp [this]
    · rfl
theorem bindC_out {kindOf : Str → Option NameKind} {x : Str} : ∀ {binds : List (Str × Value)} {m : Str → Option Value}, (∀ v, (x, v) ∉ binds) → bindC kindOf binds m x = m x
  | [], _, _ => rfl
  | (n, v) :: r, m, h => by
    unfold bindC
    rw [bindC_out fun w hw => h w (List.mem_cons_of_mem _ hw)]
    split
    · rfl
    · have : x ≠ n := by rintro rfl; exact h v List.mem_cons_self
      simp [this]
theorem bindL_get {kindOf : Str → Option NameKind} {x : Str} {v : Value} : ∀ {P : List Str} {vs : List Value} {i : Nat} {m : Str → Option Value}, P.Nodup → P[i]? = some x → vs[i]? = some v → kindOf x = some .local →
    bindL kindOf (P.zip vs) m x = some v
  | [], _, _, _, _, h, _, _ => by simp at h
  | _ :: _, [], _, _, _, _, h, _ => by simp at h
  | p :: P, w :: vs, 0, m, nd, h1, h2, hk => by
    simp at h1 h2; subst h1; subst h2
    show bindL kindOf ((p, w) :: P.zip vs) m p = _
    unfold bindL
    rw [bindL_out fun v hv => (List.nodup_cons.mp nd).1 (List.of_mem_zip hv).1, if_pos hk]
    simp
  | p :: P, w :: vs, i + 1, m, nd, h1, h2, hk => by
    show bindL kindOf ((p, w) :: P.zip vs) m x = _
    unfold bindL
    exact bindL_get (i := i) (List.nodup_cons.mp nd).2 (by simpa using h1) (by simpa using h2) hk
theorem bindC_get {kindOf : Str → Option NameKind} {x : Str} {v : Value} : ∀ {P : List Str} {vs : List Value} {i : Nat} {m : Str → Option Value}, P.Nodup → P[i]? = some x → vs[i]? = some v → kindOf x ≠ some .local →
    bindC kindOf (P.zip vs) m x = some v
  | [], _, _, _, _, h, _, _ => by simp at h
  | _ :: _, [], _, _, _, _, h, _ => by simp at h
  | p :: P, w :: vs, 0, m, nd, h1, h2, hk => by
    simp at h1 h2; subst h1; subst h2
    show bindC kindOf ((p, w) :: P.zip vs) m p = _
    unfold bindC
    rw [bindC_out fun v hv => (List.nodup_cons.mp nd).1 (List.of_mem_zip hv).1, if_neg hk]
    simp
  | p :: P, w :: vs, i + 1, m, nd, h1, h2, hk => by
    show bindC kindOf ((p, w) :: P.zip vs) m x = _
    unfold bindC
    exact bindC_get (i := i) (List.nodup_cons.mp nd).2 (by simpa using h1) (by simpa using h2) hk

def start (N : List Str) (vs : List V) : St := vs.map some ++ List.replicate (N.length - vs.length) none

def cxOf (CX : CXT) (P : Program) (w : World) (K : PySem.W.Frag) (mg : Str → Option Value) (base : Heap) (N : List Str) (qual : Str) (scope : Scope) (f : Addr) (cd : Value) (A : Around) (outer : List Env) (s : Shared) (H : Hp) (E : XK) : Cx where
  prog := P
  w := w
  K := K
  mg := mg
  base := base
  A := A.deeper (envOfC qual scope s.heap.objs.size f cd)
  N := N
  s₀ := s
  H₀ := H
  env := envOfC qual scope s.heap.objs.size f cd
  outer := outer
  stack := envOfC qual scope s.heap.objs.size f cd :: outer
  ex := []
  calm := true
  fn := fun _ => true
  pn := []
  xe := fun e s' => wpAny (model P w) (A.deeper (envOfC qual scope s.heap.objs.size f cd)) (leaving (envOfC qual scope s.heap.objs.size f cd) e) (fun _ s'' => CX outer H s E e s'') (fun e' s'' => CX outer H s E e' s'') s'

theorem cell_has {sc : Scope} {n : Nat} {x : Str} (h : sc.names.lookup x = some .cell) : ∃ c, (cellsFrom n sc.names []).lookup x = some c := by
  have q := PySem.W.cellsFrom_some sc.names n [] (.inl h)
  exact Option.isSome_iff_exists.mp q

theorem inv_start {CX : CXT} {P : Program} {w : World} {K : PySem.W.Frag} {mg : Str → Option Value} {base : Heap} {N ps : List Str} {qual : Str} {scope : Scope} {f : Addr} {cd : Value} {A : Around} {outer : List Env} {s s1 : Shared} {H : Hp} {E : XK} {us : List Value} {vs : List V}
    (S : FnScope N ps scope) (hd : A.handled = none) (e0 : Env0 P w K mg base A outer s H) (hl : vs.length = ps.length) (r : Vals vs us)
    (x : InCallC s s.heap.objs.size (bindL (envOfC qual scope s.heap.objs.size f cd).kindOf (ps.zip us) fun _ => none) (cellsFrom (s.heap.objs.size + 1) scope.names []) (bindC (envOfC qual scope s.heap.objs.size f cd).kindOf (ps.zip us) fun _ => none) s1) :
    Inv (cxOf CX P w K mg base N qual scope f cd A outer s H E) [] (start N vs) H s1 := by
  have hpl : ps.length ≤ N.length := by have := congrArg List.length S.pre; rw [List.length_take] at this; omega
  obtain ⟨h1, tk, rfl, hk⟩ := x.done
  have noA : ∀ b : Addr, b ∉ (cxOf CX P w K mg base N qual scope f cd A outer s H E).ex := fun b z => absurd (show b ∈ ([] : List Addr) from z) (by simp)
  refine ⟨⟨e0.mod, S.kind, rfl, rfl, Nat.le_refl _, fun y z c h1 h2 => ?_, fun y hy => ?_, fun y c _ h => ?_, fun _ => hd, Around.frames_deeper e0.frames, .inr ⟨rfl, rfl⟩, fun b z => absurd z (noA b), e0.bs, e0.bsz, fun b _ _ => noA b, fun b z => absurd z (noA b), e0.funs, e0.frf⟩,
    rfl, e0.bare, Un.kept hk, ⟨_, x.toInCall.ns, fun i y v h1 h2 h3 => ?_⟩, fun y c h => ⟨_, x.cell y c h⟩, e0.hok.fresh (Nat.le_refl _), fun y c h => ?_, fun p hp => absurd (show p ∈ ([] : List (Addr × Obj)) from hp) (by simp), e0.hok.kept hk, ?_⟩
  · exact name_of_addr x.apart (PySem.mem_of_lookup h1) (PySem.mem_of_lookup h2)
  · have hy : scope.names.lookup y = some .cell ∨ scope.names.lookup y = some .free := hy
    rcases hy with hy | hy
    · exact cell_has hy
    · exact absurd rfl (S.nofree _ (PySem.mem_of_lookup hy))
  · exact Nat.le_of_lt (x.above y c (PySem.mem_of_lookup h))
  · have hi : i < vs.length := by
      unfold start at h2
      by_cases hi : i < vs.length
      · exact hi
      · rw [List.getElem?_append_right (by simpa using hi)] at h2
        rw [List.getElem?_replicate] at h2
        split at h2 <;> cases h2
    have ha : vs[i]? = some v := by
      unfold start at h2
      rw [List.getElem?_append_left (by simpa using hi), List.getElem?_map] at h2
      cases e : vs[i]? with
      | none => rw [e] at h2; cases h2
      | some a => rw [e] at h2; cases h2; rfl
    obtain ⟨u, hu, rv⟩ := r.get ha
    have hp : ps[i]? = some y := by
      rw [← S.pre, List.getElem?_take_of_lt (by omega)]; exact h1
    have ndP : ps.Nodup := by rw [← S.pre]; exact S.nd.sublist (List.take_sublist _ _)
    refine ⟨u, rv, ?_⟩
    rcases S.par y (List.mem_of_getElem? hp) with k | k
    · exact .inl ⟨k, bindL_get ndP hp hu k⟩
    · obtain ⟨c, e⟩ := cell_has (n := s.heap.objs.size + 1) k
      refine .inr ⟨.inl k, c, e, ?_⟩
      have q := x.cell y c e
      rw [bindC_get ndP hp hu (by show scope.names.lookup y ≠ _; rw [k]; decide)] at q
      exact q
  · exact e0.hok.fresh (Nat.le_of_lt (x.above y c (PySem.mem_of_lookup h)))
  · unfold start
    show _ = N.length
    rw [List.length_append, List.length_map, List.length_replicate]
    omega

theorem fn_of {CX : CXT} {P : Program} {w : World} {K : PySem.W.Frag} {mg : Str → Option Value} {base : Heap} {k : Nat} {f : Addr} {name qual : Str} {params : Arguments} {body : List Stmt} {scope : Scope} {dV kV doc pm cdv ct oc : Value} {an od : Option Addr}
    {osl : Array (Option Value)} {N ps : List Str} {sp : Sp} (lk : K.lookup f = some ⟨oc, od, .func (PySem.W.fnOf name qual params body scope dV kV doc pm an cdv ct), osl⟩) (hcd : PySem.W.codeIn K cdv qual = true) (S : FnScope N ps scope)
    (len : ∀ vs H Q E, sp vs H Q E → vs.length = ps.length)
    (hbody : ∀ (A : Around) (outer : List Env) (s : Shared) (H : Hp) (vs : List V) (Q : VK) (E : XK), Room k (A.deeper (envOfC qual scope s.heap.objs.size f cdv)) → sp vs H Q E →
      ∃ t, PSs (cxOf CX P w K mg base N qual scope f cdv A outer s H E) body t ∧ t { nx := fun _ H' => Q .non H', rt := Q } (start N vs) H) :
    FnOk P w K mg base CX (k + 1) f (PySem.W.fnOf name qual params body scope dV kV doc pm an cdv ct) ps sp := by
  refine ⟨len, fun A outer s H args us vs Q E hr e0 hb r hsp => ?_⟩
  have hl := len _ _ _ _ hsp
  have KX : K.In s.heap := e0.mod.kin.keeps fun b o e => (e0.bs b o e).1
  have lim : s.heap.NoLimit := e0.mod.nolimit.keeps fun b o e => (e0.bs b o e).1
  have hkind : ∀ y ∈ ps.zip us, scope.names.lookup y.1 = some .local ∨ (scope.names.lookup y.1 = some .cell ∧ ((cellsFrom (s.heap.objs.size + 1) scope.names []).lookup y.1).isSome = true) := fun ⟨n, v⟩ hy => by
    rcases S.par n (List.of_mem_zip hy).1 with q | q
    · exact .inl q
    · exact .inr ⟨q, PySem.W.cellsFrom_some _ _ _ (.inl q)⟩
  refine codeAny_call_function hr.depth (KX _ _ lk) rfl S.co S.gen rfl (PySem.W.codeRec_of KX hcd) (hb _ _ _ _ ?_)
  refine wpAny_newFunctionEnv_cells S.kind hkind fun env he s1 x => ?_
  subst he
  refine ⟨lim.keeps x.toInCall.keep, codeAny_func ?_⟩
  obtain ⟨t, ht, hq⟩ := hbody A outer s H vs Q E (hr.deeper _) hsp
  have I : Inv (cxOf CX P w K mg base N qual scope f cdv A outer s H E) [] (start N vs) H s1 := inv_start S hr.hd e0 hl r x
  refine wpAny_mono (ht [] s1 (start N vs) H _ I hq) (fun fl s' hs => ?_) fun e s' hs => hs
  have fin : ∀ {σ' : St} {H' : Hp} {v : V} {u : Value}, Inv (cxOf CX P w K mg base N qual scope f cdv A outer s H E) [] σ' H' s' → RelV v u → Q v H' → CE outer P w H s Q u s' :=
    fun {σ' H' v u} J rv q => ⟨v, H', J.os, J.bare, J.base, J.hok, rv, q⟩
  cases fl with
  | ret u =>
    obtain ⟨v, σ', H', J, rv, q⟩ := hs
    exact fin J rv q
  | next =>
    obtain ⟨σ', H', J, q⟩ := hs
    exact fin (v := V.non) (u := Value.none) J rfl q
  | brk =>
    obtain ⟨_, _, _, q⟩ := hs
    exact False.elim q
  | cont =>
    obtain ⟨_, _, _, q⟩ := hs
    exact False.elim q
end L2

namespace L2
open PySem PySem.Spec PyProof.Rows
section
variable {X : Cx} {x : Str} {p pos : Pos} {e : Expr} {es : List Expr} {t : TA} {id T : String} {r : List V → Hp → VK → Prop}

def tCB (r : List V → Hp → VK → Prop) (t : TA) : TE := fun σ H Q => t σ H fun vs H1 => r vs H1 Q
theorem pe_callB (hc : CallR X (.builtin id) r) (hg : Gl X x) (hm : X.mg x = none) (hv : bootBuiltins x = some (.builtin id)) (ha : PA X (e :: es) t) (hn : x ≠ "__name__" := by decide) (hdb : (x == ("__debug__" : Str)) = false := by decide)
    (he : starEach (e :: es) X.env = (false, eval e X.env) :: starEach es X.env := by rfl) (hpl : (backTo pos (starEach es X.env)).any (·.1) = false := by rfl) : PE X (.Call (.Name x p) (e :: es) [] pos) (tCB r t) := by
  intro pins s σ H Q I h
  refine wpAny_Call_Name_kw (ld_blt I hg hm hv ?_ hn hdb)
  exact PyProof.Rows.callWith_builtin1 (thn (ha pos pins s σ H _ I h) fun us s1 ⟨vs, H1, I1, r1, q1⟩ => hc pins s1 σ H1 vs us Q I1 r1 q1) he hpl
theorem pe_callTy (hc : CallR X (.type T) r) (hg : Gl X x) (hm : X.mg x = none) (hv : bootBuiltins x = some (.type T)) (ha : PA X (e :: es) t) (hn : x ≠ "__name__" := by decide) (hdb : (x == ("__debug__" : Str)) = false := by decide)
    (he : starEach (e :: es) X.env = (false, eval e X.env) :: starEach es X.env := by rfl) (hpl : (backTo pos (starEach es X.env)).any (·.1) = false := by rfl) : PE X (.Call (.Name x p) (e :: es) [] pos) (tCB r t) := by
  intro pins s σ H Q I h
  refine wpAny_Call_Name_kw (ld_blt I hg hm hv ?_ hn hdb)
  exact PyProof.Rows.callWith_type1 (thn (ha pos pins s σ H _ I h) fun us s1 ⟨vs, H1, I1, r1, q1⟩ => hc pins s1 σ H1 vs us Q I1 r1 q1) he hpl
end
end L2

namespace HT
open PySem PyProof.Rows

section
open PySem.SeqAt
open PySem.AutoSeq1 (wpAny_loadPart')
open PySem.MeetsSeq PySem.MeetsSeq2 PySem.MeetsSeq3

end

section
variable {prog : Program} {w : World} {A : Around} {E : Value → Shared → Prop} {s : Shared}

theorem cat_tup {t b : Addr} {vs ws : List Value} {Q : Value → Shared → Prop} (ht : IsTup s.heap t vs.toArray) (hb : IsTup s.heap b ws.toArray) (hv : vs ≠ [])
    (h1 : ws = [] → Q (.ref t) s) (h2 : ws ≠ [] → Q (.ref s.heap.objs.size) { s with heap := s.heap.push { cls := .type "tuple", data := .seq (vs ++ ws).toArray } })
    (hsz : vs.length + ws.length ≤ sizeLine) : wpAny (model prog w) A (binaryOp .Add (.ref t) (.ref b)) Q E s := by
  obtain ⟨⟨cls, dd, data, sl⟩, ho, hc, n, hd⟩ := id ht
  obtain ⟨⟨cls2, dd2, data2, sl2⟩, ho2, hc2, n2, hd2⟩ := id hb
  simp only at hc hd hc2 hd2
  subst hc hd hc2 hd2
  have e : vs.toArray ++ ws.toArray = (vs ++ ws).toArray := by simp
  by_cases hw : ws = []
  · exact concat_meets ⟨_, ho, rfl⟩ ⟨_, ho2, rfl⟩ noFill_tuple_add seq_tuple_add PySem.F.slot_tuple_add PySem.F.entry_tuple_add (PySem.F.args_tuple_add_2 _ _)
      (tuple_addW1 t b vs.toArray ws.toArray n n2 dd dd2 sl sl2 (by simpa using hv) (by simp [hw])) ⟨ho, ho2, h1 hw⟩
  · refine concat_meets ⟨_, ho, rfl⟩ ⟨_, ho2, rfl⟩ noFill_tuple_add seq_tuple_add PySem.F.slot_tuple_add PySem.F.entry_tuple_add (PySem.F.args_tuple_add_2 _ _)
      (tuple_addW2 t b vs.toArray ws.toArray n n2 dd dd2 sl sl2 (by simpa using hv) (by simpa using hw) (by rw [List.size_toArray, List.size_toArray]; exact hsz)) ⟨ho, ho2, ?_⟩
    rw [e]
    exact h2 hw

def sIx (n d : Nat) : Option Int → Nat
  | none => d
  | some v => if v < 0 then (v + (n : Int)).toNat else min v.toNat n
theorem sIx_le (n d : Nat) (hd : d ≤ n) (o : Option Int) : sIx n d o ≤ n := by
  cases o with
  | none => exact hd
  | some v =>
    show (if v < 0 then (v + (n : Int)).toNat else min v.toNat n) ≤ n
    by_cases hv : v < 0
    · rw [if_pos hv]; omega
    · rw [if_neg hv]; exact Nat.min_le_right _ _
theorem clip_eq (v : Int) (n d : Nat) : (if v < 0 then max (v + (n : Int)) 0 else min v (n : Int)) = ((sIx n d (some v) : Nat) : Int) := by
  show (if v < 0 then max (v + (n : Int)) 0 else min v (n : Int)) = (((if v < 0 then (v + (n : Int)).toNat else min v.toNat n) : Nat) : Int)
  by_cases hv : v < 0
  · simp only [if_pos hv]; omega
  · simp only [if_neg hv]; omega
theorem adjust_gen (lo hi : Option Int) (n : Nat) : Builtin.Slice.sliceAdjust lo hi 1 (n : Int) = (((sIx n 0 lo : Nat) : Int), ((sIx n n hi : Nat) : Int)) := by
  have h1 : ¬ ((1 : Int) < 0) := by omega
  unfold Builtin.Slice.sliceAdjust
  simp only [h1, if_false]
  refine Prod.ext ?_ ?_
  · cases lo with
    | none => rfl
    | some v => exact clip_eq v n 0
  · cases hi with
    | none => rfl
    | some v => exact clip_eq v n n
theorem places_gen (i j : Nat) : Builtin.Slice.slicePlaces (i : Int) (j : Int) 1 = j - i := by
  unfold Builtin.Slice.slicePlaces
  have h1 : (1 : Int) > 0 := by omega
  simp only [h1, if_true, Int.ediv_one]
  split <;> omega
theorem slicePart_ {v : Value} {o : Option Int} {Q : Option Int → Shared → Prop} (p : IsPart v o) (h : Q o s) : wpAny (model prog w) A (Builtin.Slice.slicePartIndex v) Q E s := by
  cases p with
  | none => exact slicePart_none h
  | int i t => exact slicePart_int h
theorem sliceApplied_gen {sl : Addr} {vl vu : Value} {lo hi : Option Int} {n : Nat} {Q : Int × Int × Nat → Shared → Prop} (hs : s.heap.IsSliceOf sl vl vu .none) (pl : IsPart vl lo) (pu : IsPart vu hi)
    (h : Q (((sIx n 0 lo : Nat) : Int), 1, sIx n n hi - sIx n 0 lo) s) : wpAny (model prog w) A (Builtin.Slice.sliceApplied (.ref sl) (pure (n : Int))) Q E s := by
  obtain ⟨os, hos, hcs, hds⟩ := id hs
  unfold Builtin.Slice.sliceApplied Builtin.Slice.sliceFields
  refine wpAny_bind (wpAny_bind (wpAny_field hos hds (x := vl) rfl (wpAny_bind (wpAny_field hos hds (x := vu) rfl (wpAny_bind (wpAny_field hos hds (x := .none) rfl (wpAny_pure ?_)))))))
  refine wpAny_bind (slicePart_none ?_)
  show wpAny _ _ (if ((1 : Int) == 0) = true then _ else _) _ _ s
  rw [if_neg (by decide)]
  refine wpAny_bind (slicePart_ pl (wpAny_bind (slicePart_ pu (wpAny_bind (wpAny_pure ?_)))))
  show wpAny _ _ (match Builtin.Slice.sliceAdjust lo hi 1 (n : Int) with | (lo, hi) => pure (lo, (1 : Int), Builtin.Slice.slicePlaces lo hi 1)) _ _ s
  rw [adjust_gen lo hi n]
  show wpAny _ _ (pure (((sIx n 0 lo : Nat) : Int), (1 : Int), Builtin.Slice.slicePlaces ((sIx n 0 lo : Nat) : Int) ((sIx n n hi : Nat) : Int) 1)) _ _ s
  rw [places_gen]
  exact wpAny_pure h
theorem pick_gen (xs : Array Value) (i k : Nat) : ((List.range k).filterMap fun (m : Nat) => xs[((i : Int) + (m : Int) * 1).toNat]?).toArray = ((xs.toList.drop i).take k).toArray := by
  have e : (fun (m : Nat) => xs[((i : Int) + (m : Int) * 1).toNat]?) = fun m => xs[i + m]? := by
    funext m
    have : ((i : Int) + (m : Int) * 1).toNat = i + m := by omega
    rw [this]
  rw [e]
  have := pick_run xs i k
  rw [List.filterMap_map] at this
  have e2 : ((fun x => xs[x]?) ∘ fun x => i + x) = fun m => xs[i + m]? := rfl
  rw [e2] at this
  rw [this]

theorem getItem_tuple_cut {t sl : Addr} {items : Array Value} {vl vu : Value} {lo hi : Option Int} {Q : Value → Shared → Prop} (ht : IsTup s.heap t items) (hs : s.heap.IsSliceOf sl vl vu .none) (pl : IsPart vl lo) (pu : IsPart vu hi)
    (hw : ¬ (sIx items.size 0 lo = 0 ∧ sIx items.size items.size hi = items.size))
    (h : Q (.ref s.heap.objs.size) { s with heap := s.heap.push { cls := .type "tuple", data := .seq ((items.toList.drop (sIx items.size 0 lo)).take (sIx items.size items.size hi - sIx items.size 0 lo)).toArray } })
    (hsz : items.size ≤ sizeLine) : wpAny (model prog w) A (getItem (.ref t) (.ref sl)) Q E s := by
  have htake : sizeOk (.seq ((items.toList.drop (sIx items.size 0 lo)).take (sIx items.size items.size hi - sIx items.size 0 lo)).toArray) := by
    show ((items.toList.drop (sIx items.size 0 lo)).take (sIx items.size items.size hi - sIx items.size 0 lo)).toArray.size ≤ sizeLine
    rw [List.size_toArray, List.length_take, List.length_drop, Array.length_toList]
    omega
  have hj : sIx items.size items.size hi ≤ items.size := sIx_le _ _ (Nat.le_refl _) hi
  obtain ⟨os, hos, hcs, hds⟩ := id hs
  have hTs : s.TypeIs (.ref sl) "slice" := ⟨os, hos, hcs⟩
  unfold getItem
  try with_reducible refine wpAny_holding ?_
  first | refine wpAny_bind (wpAny_pure ?_) | skip
  refine wpAny_bind (wpAny_sequenceKey ht.typeIs (by decide) ?_)
  refine wpAny_bind (wpAny_callSpecial?_slot (name := Str.ofString "__getitem__") ht.typeIs PyProof.Rows.slot_tuple_getitem
    (wpAny_call_entry PyProof.Rows.slot_tuple_getitem ht.typeIs entry_tuple_getitem ?_ (args_tuple_getitem _ _)))
  show wpAny _ _ (Builtin.Tuple.tupleItemsOf (.ref t) >>= _) _ _ s
  refine wpAny_bind (tupleItemsOf_ ht ?_)
  refine wpAny_bind (wpAny_typeOf hTs ?_)
  rw [if_pos (by decide)]
  refine wpAny_bind (sliceApplied_gen hs pl pu ?_)
  have hno : ¬ ((((sIx items.size 0 lo : Nat) : Int) == 0 && (1 : Int) == 1 && (sIx items.size items.size hi - sIx items.size 0 lo) == items.size) = true) := by
    intro q
    rw [Bool.and_eq_true, Bool.and_eq_true] at q
    have q1 : ((sIx items.size 0 lo : Nat) : Int) = 0 := eq_of_beq q.1.1
    have q2 : sIx items.size items.size hi - sIx items.size 0 lo = items.size := eq_of_beq q.2
    exact hw ⟨by omega, by omega⟩
  show wpAny _ _ (if (((sIx items.size 0 lo : Nat) : Int) == 0 && (1 : Int) == 1 && (sIx items.size items.size hi - sIx items.size 0 lo) == items.size) = true then _ else _) _ _ s
  rw [if_neg hno, pick_gen]
  first
    | exact wpAny_bind (m := Builtin.Tuple.tupleExact _) (wpAny_newObj_type (wpAny_pure ⟨_, rfl, wpAny_pure h⟩) htake)
    | exact wpAny_bind (m := Builtin.Tuple.tupleExact _) (wpAny_newObj_type (wpAny_bind (wpAny_pure (wpAny_pure ⟨_, rfl, wpAny_pure h⟩))) htake)
    | exact wpAny_bind (wpAny_bind (m := Builtin.Tuple.tupleExact _) (wpAny_newObj_type (wpAny_pure (wpAny_pure ⟨_, rfl, wpAny_pure h⟩)) htake))
    | exact wpAny_bind (wpAny_bind (m := Builtin.Tuple.tupleExact _) (wpAny_newObj_type (wpAny_pure ⟨_, rfl, wpAny_pure h⟩) htake))
end
end HT

namespace L2
open PySem PySem.Spec PyProof.Rows

abbrev TO := St → Hp → (Option Int → Hp → Prop) → Prop
def PO (X : Cx) (e : Option Expr) (t : TO) : Prop :=
  ∀ (pins : List (Addr × Obj)) (s : Shared) (σ : St) (H : Hp) (Q : Option Int → Hp → Prop), Inv X pins σ H s → t σ H Q →
    wpAny (model X.prog X.w) X.A (evalPart e X.env) (fun u s' => ∃ o H', Inv X pins σ H' s' ∧ IsPart u o ∧ Q o H') X.xe s
def tNoPart : TO := fun _ H Q => Q none H
def tPart (t : TE) : TO := fun σ H Q => t σ H fun x H1 => ∃ i, x = .int i ∧ Q (some i) H1

section
variable {X : Cx} {e : Expr} {te : TE} {lo hi : Option Expr} {tl th : TO} {pos p2 : Pos}

theorem po_none : PO X none tNoPart := by
  intro pins s σ H Q I h
  rw [evalPart_none]
  exact wpAny_pure ⟨none, H, I, .none, h⟩
theorem po_some (h : PE X e te) : PO X (some e) (tPart te) := by
  intro pins s σ H Q I hw
  rw [evalPart_some]
  refine thn (h pins s σ H _ I hw) fun u s1 ⟨x, H1, I1, r1, q1⟩ => ?_
  obtain ⟨i, rfl, q⟩ := q1
  obtain ⟨t, rfl⟩ := r1
  exact ⟨some i, H1, I1, .int i t, q⟩

def SlR (X : Cx) (r : V → Option Int → Option Int → Hp → VK → Prop) : Prop :=
  ∀ (pins : List (Addr × Obj)) (s : Shared) (σ : St) (H : Hp) (x : V) (v vl vu : Value) (lo hi : Option Int) (sl : Addr) (Q : VK), Inv X pins σ H s → RelV x v → s.heap.IsSliceOf sl vl vu .none → IsPart vl lo → IsPart vu hi → r x lo hi H Q →
    ∃ T id, typeLookup (.type T) "__getitem__" = pure (some (.builtin id)) ∧ s.TypeIs v T ∧ wpAny (model X.prog X.w) X.A (getItem v (.ref sl)) (EP X pins σ Q) X.xe s
theorem SlR.or {r r' : V → Option Int → Option Int → Hp → VK → Prop} (h : SlR X r) (h' : SlR X r') : SlR X (fun x lo hi H Q => r x lo hi H Q ∨ r' x lo hi H Q) := by
  intro pins s σ H x v vl vu lo hi sl Q I rx hs pl pu q
  rcases q with q | q
  · exact h pins s σ H x v vl vu lo hi sl Q I rx hs pl pu q
  · exact h' pins s σ H x v vl vu lo hi sl Q I rx hs pl pu q
def tSl (r : V → Option Int → Option Int → Hp → VK → Prop) (te : TE) (tl th : TO) : TE := fun σ H Q => te σ H fun x H1 => tl σ H1 fun l H2 => th σ H2 fun u H3 => r x l u H3 Q
theorem pe_slice {r : V → Option Int → Option Int → Hp → VK → Prop} (hr : SlR X r) (he : PE X e te) (hl : PO X lo tl) (hu : PO X hi th) : PE X (.Subscript e (.Slice lo hi none p2) pos) (tSl r te tl th) := by
  intro pins s σ H Q I h
  refine Subscript_ (thn (he pins s σ H _ I h) fun v s1 ⟨x, H1, I1, r1, q1⟩ => ?_)
  refine wpAny_Slice (thn (hl pins s1 σ H1 _ I1 q1) fun vl s2 ⟨l, H2, I2, pl, q2⟩ => thn (hu pins s2 σ H2 _ I2 q2) fun vu s3 ⟨u, H3, I3, pu, q3⟩ => ?_)
  rw [evalPart_none]
  refine wpAny_pure ?_
  have I4 : Inv X pins σ H3 { s3 with heap := s3.heap.push { cls := .type "slice", data := .fields #[vl, vu, .none] } } := I3.kept (t' := s3.toks) fun b ob q => Heap.get?_push_of_some _ q
  obtain ⟨T, id, hT, ht, hg⟩ := hr pins { s3 with heap := s3.heap.push { cls := .type "slice", data := .fields #[vl, vu, .none] } } σ H3 x v vl vu l u s3.heap.objs.size Q I4 r1 (Heap.IsSliceOf.new ..) pl pu q3
  show wpAny (model X.prog X.w) X.A (subscriptTail e (.Slice lo hi none p2) v (.ref s3.heap.objs.size)) (EP X pins σ Q) X.xe { s3 with heap := s3.heap.push { cls := .type "slice", data := .fields #[vl, vu, .none] } }
  exact tail_any (ops := [.ref s3.heap.objs.size, v]) ht hT hg (by with_unfolding_all rfl)

def cutV (xs : List V) (lo hi : Option Int) : List V := (xs.drop (HT.sIx xs.length 0 lo)).take (HT.sIx xs.length xs.length hi - HT.sIx xs.length 0 lo)
theorem cutV_length (xs : List V) (lo hi : Option Int) : (cutV xs lo hi).length ≤ xs.length := by
  unfold cutV
  rw [List.length_take, List.length_drop]
  omega
def rSlT (K : PySem.W.Frag) : V → Option Int → Option Int → Hp → VK → Prop := fun x lo hi H Q => ∃ a xs, x = .ref a ∧ SqT K H a xs ∧
  ¬ (HT.sIx xs.length 0 lo = 0 ∧ HT.sIx xs.length xs.length hi = xs.length) ∧ ∀ p, H p = none → Q (.ref p) (upd H p (.tup (cutV xs lo hi)))
theorem sl_tup : SlR X (rSlT X.K) := by
  intro pins s σ H x v vl vu lo hi sl Q I rx hs pl pu h
  obtain ⟨a, xs, rfl, hx, hw, q⟩ := h
  cases rx
  obtain ⟨its, r, ht, hz⟩ := I.tuple hx
  have hlen : its.toArray.size = xs.length := by rw [List.size_toArray]; exact r.length.symm
  refine ⟨"tuple", _, PyProof.Rows.slot_tuple_getitem.lookup, ht.typeIs, ?_⟩
  refine HT.getItem_tuple_cut ht hs pl pu (by rw [hlen]; exact hw) ?_ (by rw [hlen]; exact hz)
  rw [hlen]
  refine ⟨.ref s.heap.objs.size, _, I.laid (t' := s.toks) (o := .tup (cutV xs lo hi)) (fun b ob q => Heap.get?_push_of_some _ q) (Nat.le_refl _) ?_, rfl, q _ (I.hok.fresh (Nat.le_refl _))⟩
  exact ⟨Nat.le_trans (cutV_length xs lo hi) hz, _, (r.drop (HT.sIx xs.length 0 lo)).take (HT.sIx xs.length xs.length hi - HT.sIx xs.length 0 lo), IsTup.new _ _⟩

def rCatT (K : PySem.W.Frag) : R2 := fun x y H Q => ∃ a b xs ys, x = .ref a ∧ y = .ref b ∧ SqT K H a xs ∧ SqT K H b ys ∧ xs ≠ [] ∧ xs.length + ys.length ≤ sizeLine ∧
  (ys = [] → Q (.ref a) H) ∧ (ys ≠ [] → ∀ p, H p = none → Q (.ref p) (upd H p (.tup (xs ++ ys))))
theorem Vals.nil_iff {xs : List V} {us : List Value} (r : Vals xs us) : us = [] ↔ xs = [] := by
  cases r with
  | nil => simp
  | cons _ _ => simp
theorem op_catT : OpR X (binaryOp .Add) (rCatT X.K) := by
  intro pins s σ H x y v u Q I rx ry h
  obtain ⟨a, b, xs, ys, rfl, rfl, ha, hb, hx, hz, q1, q2⟩ := h
  cases rx
  cases ry
  obtain ⟨its, r1, p1, _⟩ := I.tuple ha
  obtain ⟨its2, r2, p2, _⟩ := I.tuple hb
  refine HT.cat_tup p1 p2 (fun z => hx (r1.nil_iff.mp z)) (fun z => ⟨.ref a, H, I, rfl, q1 (r2.nil_iff.mp z)⟩) (fun z => ?_) (by rw [← r1.length, ← r2.length]; exact hz)
  refine ⟨.ref s.heap.objs.size, _, I.laid (t' := s.toks) (o := .tup (xs ++ ys)) (fun b ob q => Heap.get?_push_of_some _ q) (Nat.le_refl _) ?_, rfl, q2 (fun w => z (r2.nil_iff.mpr w)) _ (I.hok.fresh (Nat.le_refl _))⟩
  exact ⟨by rw [List.length_append]; exact hz, _, r1.append r2, IsTup.new _ _⟩
end
end L2

namespace L2
open PySem PySem.Spec PyProof.Rows

def ixN (n : Nat) (i : Int) : Option Nat := if 0 ≤ i then (if i < n then some i.toNat else none) else if -(n : Int) ≤ i then some (i + n).toNat else none
def atI {α : Type} (xs : List α) (i : Int) : Option α := (ixN xs.length i).bind fun j => xs[j]?
theorem ixN_seq {n : Nat} {i : Int} {j : Nat} (h : ixN n i = some j) : seqIndex? i n = some j ∧ j < n ∧ -(n : Int) ≤ i ∧ i < n := by
  unfold ixN at h
  by_cases h0 : 0 ≤ i
  · rw [if_pos h0] at h
    by_cases h1 : i < n
    · rw [if_pos h1] at h
      have e : i.toNat = j := Option.some.inj h
      exact ⟨by rw [seqIndex_of h0 h1, e], by omega, by omega, h1⟩
    · rw [if_neg h1] at h; cases h
  · rw [if_neg h0] at h
    by_cases h1 : -(n : Int) ≤ i
    · rw [if_pos h1] at h
      have e : (i + n).toNat = j := Option.some.inj h
      exact ⟨by rw [seqIndex_neg (by omega) h1, e], by omega, h1, by omega⟩
    · rw [if_neg h1] at h; cases h
theorem atI_get {α : Type} {xs : List α} {i : Int} {v : α} (h : atI xs i = some v) : ∃ j, seqIndex? i xs.length = some j ∧ xs[j]? = some v ∧ j < xs.length ∧ -(xs.length : Int) ≤ i ∧ i < xs.length := by
  unfold atI at h
  cases e : ixN xs.length i with
  | none => rw [e] at h; cases h
  | some j =>
    rw [e] at h
    obtain ⟨h1, h2, h3, h4⟩ := ixN_seq e
    exact ⟨j, h1, h, h2, h3, h4⟩
theorem atI_nat {α : Type} {xs : List α} {j : Nat} {v : α} (h : xs[j]? = some v) : atI xs (j : Int) = some v := by
  have hj : j < xs.length := (List.getElem?_eq_some_iff.mp h).1
  have e : ixN xs.length (j : Int) = some j := by
    unfold ixN
    rw [if_pos (by omega), if_pos (by omega)]; simp
  unfold atI; rw [e]; exact h
theorem atI_last {α : Type} (xs : List α) (v : α) : atI (xs ++ [v]) (-1) = some v := by
  have hl : (xs ++ [v]).length = xs.length + 1 := by simp
  have e : ixN (xs ++ [v]).length (-1) = some xs.length := by
    unfold ixN
    rw [hl, if_neg (by decide), if_pos (by omega)]
    congr 1
    omega
  unfold atI
  rw [e]
  show (xs ++ [v])[xs.length]? = some v
  simp

def PlainIx (b : Expr) : Prop := ∀ o i, subscripted b false o i = operate [o, i] (getItem o i)
def IxR (X : Cx) (r : R2) : Prop :=
  ∀ (value slice : Expr) (pins : List (Addr × Obj)) (s : Shared) (σ : St) (H : Hp) (x y : V) (v u : Value) (Q : VK), Inv X pins σ H s → RelV x v → RelV y u → r x y H Q →
    subscripted slice false v u = operate [v, u] (getItem v u) → wpAny (model X.prog X.w) X.A (subscriptTail value slice v u) (EP X pins σ Q) X.xe s
def MtR (X : Cx) (id : String) (r : V → List V → Hp → VK → Prop) : Prop :=
  ∀ (pins : List (Addr × Obj)) (s : Shared) (σ : St) (H : Hp) (x : V) (xs : List V) (v : Value) (us : List Value) (Q : VK), Inv X pins σ H s → RelV x v → Vals xs us → r x xs H Q →
    wpAny (model X.prog X.w) X.A (call (.builtin id) (v :: us)) (EP X pins σ Q) X.xe s
section
variable {X : Cx} {a b : Expr} {ta tb : TE} {pos : Pos}
theorem IxR.or {r r' : R2} (h : IxR X r) (h' : IxR X r') : IxR X (fun x y H Q => r x y H Q ∨ r' x y H Q) := by
  intro value slice pins s σ H x y v u Q I rx ry q hs
  rcases q with q | q
  · exact h value slice pins s σ H x y v u Q I rx ry q hs
  · exact h' value slice pins s σ H x y v u Q I rx ry q hs
theorem MtR.or {id : String} {r r' : V → List V → Hp → VK → Prop} (h : MtR X id r) (h' : MtR X id r') : MtR X id (fun x xs H Q => r x xs H Q ∨ r' x xs H Q) := by
  intro pins s σ H x xs v us Q I rx rs q
  rcases q with q | q
  · exact h pins s σ H x xs v us Q I rx rs q
  · exact h' pins s σ H x xs v us Q I rx rs q
theorem pe_ix {r : R2} (hr : IxR X r) (ha : PE X a ta) (hb : PE X b tb) (hs : PlainIx b) : PE X (.Subscript a b pos) (tOp r ta tb) := by
  intro pins s σ H Q I h
  exact Subscript_ (binT ha hb I h fun v u s2 x y H2 I2 rx ry q => hr a b pins s2 σ H2 x y v u Q I2 rx ry q (hs _ _))

def rIxL (K : PySem.W.Frag) : R2 := fun x y H Q => ∃ p xs i v, x = .ref p ∧ y = .int i ∧ SqL K H p xs ∧ atI xs i = some v ∧ Q v H
def rIxT (K : PySem.W.Frag) : R2 := fun x y H Q => ∃ p xs i v, x = .ref p ∧ y = .int i ∧ SqT K H p xs ∧ atI xs i = some v ∧ Q v H
def rIxS : R2 := fun x y H Q => ∃ z i c, x = .str z ∧ y = .int i ∧ z.length ≤ sizeLine ∧ atI z.cps.toList i = some c ∧ Q (.str ⟨#[c]⟩) H
theorem ix_list : IxR X (rIxL X.K) := by
  intro value slice pins s σ H x y v u Q I rx ry h hs
  obtain ⟨p, xs, i, z, rfl, rfl, hq, he, q⟩ := h
  cases rx
  obtain ⟨t, rfl⟩ := ry
  obtain ⟨its, r, pl, hz⟩ := I.list hq
  obtain ⟨j, h1, h2, h3, h4, h5⟩ := atI_get he
  obtain ⟨w, ew, rw'⟩ := r.get h2
  have hl := r.length
  have hn := line63
  have fin : EP X pins σ Q w s := ⟨z, H, I, rw', q⟩
  by_cases h0 : 0 ≤ i
  · have hj : i.toNat = j := by
      rw [seqIndex_of h0 h5] at h1
      exact Option.some.inj h1
    exact item_listR pl.isList h0 (by omega) (by rw [hj]; simpa using ew) fin hs
  · have hj : (i + (its.toArray.size : Int)).toNat = j := by
      rw [seqIndex_neg (by omega) h4] at h1
      rw [List.size_toArray, ← hl]
      exact Option.some.inj h1
    exact subscriptTail_builtinR (x := w) pl.isList.typeIs slot_list_getitem.lookup
      (wpAny_getItem_list_neg (Q := fun r s' => r = w ∧ EP X pins σ Q r s') pl.isList (by omega) (by rw [List.size_toArray] <;> omega) (by omega) (by rw [hj]; simpa using ew) ⟨rfl, fin⟩) hs
theorem ix_tup : IxR X (rIxT X.K) := by
  intro value slice pins s σ H x y v u Q I rx ry h hs
  obtain ⟨p, xs, i, z, rfl, rfl, hq, he, q⟩ := h
  cases rx
  obtain ⟨t, rfl⟩ := ry
  obtain ⟨its, r, pl, hz⟩ := I.tuple hq
  obtain ⟨j, h1, h2, h3, h4, h5⟩ := atI_get he
  obtain ⟨w, ew, rw'⟩ := r.get h2
  have hl := r.length
  have hn := line63
  have fin : EP X pins σ Q w s := ⟨z, H, I, rw', q⟩
  exact subscriptTail_builtinR (x := w) pl.typeIs slot_tuple_getitem.lookup
    (getItem_tuple (j := j) (Q := fun r s' => r = w ∧ EP X pins σ Q r s') pl (by omega) (by omega) (by rw [List.size_toArray, ← hl]; exact h1) (by simpa using ew) ⟨rfl, fin⟩) hs
theorem ix_str : IxR X rIxS := by
  intro value slice pins s σ H x y v u Q I rx ry h hs
  obtain ⟨z, i, c, rfl, rfl, hz, he, q⟩ := h
  obtain ⟨t, rfl⟩ := rx
  obtain ⟨t', rfl⟩ := ry
  obtain ⟨j, h1, h2, h3, h4, h5⟩ := atI_get he
  have hl : z.cps.toList.length = z.length := by simp [Str.length]
  rw [hl] at h1 h4 h5
  have hn := line63
  exact tail_any (typeIs_str s z t) slot_str_getitem.lookup (getItem_str (c := c) (by
    have e1 : decide (i < -(2 ^ 63 : Int)) = false := decide_eq_false (by omega)
    have e2 : decide (i ≥ 2 ^ 63) = false := decide_eq_false (by omega)
    rw [e1, e2, Bool.or_false]) (by rw [h1]; simpa using h2) ⟨.str ⟨#[c]⟩, H, I.tok _, ⟨_, rfl⟩, q⟩) hs
def rIx (K : PySem.W.Frag) : R2 := fun x y H Q => rIxL K x y H Q ∨ rIxT K x y H Q ∨ rIxS x y H Q
theorem ix_seq : IxR X (rIx X.K) := ix_list.or (ix_tup.or ix_str)

theorem Inv.lst {pins : List (Addr × Obj)} {σ : St} {H : Hp} {s : Shared} {p : Addr} {xs : List V} (I : Inv X pins σ H s) (h : H p = some (.lst xs)) :
    ∃ (its : List Value) (n : Nat), Vals xs its ∧ s.heap.get? p = some { cls := .type "list", data := .seq its.toArray n } ∧ xs.length ≤ sizeLine := by
  obtain ⟨z, its, n, r, e⟩ := I.hok p _ h
  exact ⟨its, n, r, e, z⟩
theorem slice_bounds (lo hi : Option Int) (n : Nat) : (sliceBounds lo hi none n).1 = ((HT.sIx n 0 lo : Nat) : Int) ∧ (sliceBounds lo hi none n).2.1 = ((HT.sIx n n hi : Nat) : Int) ∧ (sliceBounds lo hi none n).2.2 = 1 := by
  refine ⟨?_, ?_, rfl⟩
  · cases lo with
    | none => simp [sliceBounds, HT.sIx]
    | some i =>
      simp only [sliceBounds, HT.sIx, Option.getD_none, show (1 : Int) > 0 by decide, if_true]
      by_cases h : i < 0
      · simp only [h, if_true] <;> omega
      · simp only [h, if_false] <;> omega
  · cases hi with
    | none => simp [sliceBounds, HT.sIx]
    | some i =>
      simp only [sliceBounds, HT.sIx, Option.getD_none, show (1 : Int) > 0 by decide, if_true]
      by_cases h : i < 0
      · simp only [h, if_true] <;> omega
      · simp only [h, if_false] <;> omega
theorem slicePick_cut (its : List Value) (lo hi : Option Int) : slicePick its.toArray lo hi none = ((its.drop (HT.sIx its.length 0 lo)).take (HT.sIx its.length its.length hi - HT.sIx its.length 0 lo)).toArray := by
  obtain ⟨h1, h2, h3⟩ := slice_bounds lo hi its.toArray.size
  unfold slicePick
  rw [h1, h2, h3]
  simp only [sliceRange_one, pick_run, List.size_toArray] <;> rfl
def rSlL (K : PySem.W.Frag) : V → Option Int → Option Int → Hp → VK → Prop := fun x lo hi H Q => ∃ a xs, x = .ref a ∧ SqL K H a xs ∧ ∀ p, H p = none → Q (.ref p) (upd H p (.lst (cutV xs lo hi)))
theorem sl_list : SlR X (rSlL X.K) := by
  intro pins s σ H x v vl vu lo hi sl Q I rx hs pl pu h
  obtain ⟨a, xs, rfl, hx, q⟩ := h
  cases rx
  obtain ⟨its, r, ht, hz⟩ := I.list hx
  have hlen := r.length
  refine ⟨"list", _, slot_list_getitem.lookup, ht.isList.typeIs, ?_⟩
  refine wpAny_getItem_list_slice ht.isList hs pl pu .none (by simp) ?_ (by rw [List.size_toArray] <;> omega)
  rw [slicePick_cut, ← hlen]
  refine ⟨.ref s.heap.objs.size, _, I.laid (t' := s.toks) (o := .lst (cutV xs lo hi)) (fun b ob q => Heap.get?_push_of_some _ q) (Nat.le_refl _) ?_, rfl, q _ (I.hok.fresh (Nat.le_refl _))⟩
  exact ⟨Nat.le_trans (cutV_length xs lo hi) hz, _, 0, (r.drop (HT.sIx xs.length 0 lo)).take (HT.sIx xs.length xs.length hi - HT.sIx xs.length 0 lo), Heap.get?_push_size _ rfl⟩

def flatV : V → Bool
  | .non => true
  | .bl _ => true
  | .int _ => true
  | .str _ => true
  | _ => false
def eqV : V → V → Bool
  | .non, .non => true
  | .bl a, .bl b => a == b
  | .bl a, .int b => (if a then 1 else 0) == b
  | .int a, .bl b => a == (if b then 1 else 0)
  | .int a, .int b => a == b
  | .str a, .str b => a == b
  | _, _ => false
theorem eqAt_V {A : Around} {s : Shared} {y x : V} {u v : Value} (ry : RelV y u) (rx : RelV x v) (fy : flatV y = true) (fx : flatV x = true) : SeqAt.EqAt A s u v (eqV y x) := by
  cases y with
  | non =>
    cases ry
    cases x with
    | non => cases rx; exact SeqAt.EqAt.same _
    | bl b => cases rx; exact SeqAt.EqAt.none_bool b
    | int b => obtain ⟨t, rfl⟩ := rx; exact SeqAt.EqAt.none_int b t
    | str b => obtain ⟨t, rfl⟩ := rx; exact SeqAt.EqAt.none_str b t
    | _ => exact absurd (show false = true from fx) Bool.false_ne_true
  | bl a =>
    cases ry
    cases x with
    | non => cases rx; exact SeqAt.EqAt.bool_none a
    | bl b => cases rx; exact SeqAt.EqAt.bool_bool a b
    | int b => obtain ⟨t, rfl⟩ := rx; exact SeqAt.EqAt.bool_int a b t
    | str b => obtain ⟨t, rfl⟩ := rx; exact SeqAt.EqAt.bool_str a b t
    | _ => exact absurd (show false = true from fx) Bool.false_ne_true
  | int a =>
    obtain ⟨t', rfl⟩ := ry
    cases x with
    | non => cases rx; exact SeqAt.EqAt.int_none a t'
    | bl b => cases rx; exact SeqAt.EqAt.int_bool a t' b
    | int b => obtain ⟨t, rfl⟩ := rx; exact SeqAt.EqAt.int_int a t' b t
    | str b => obtain ⟨t, rfl⟩ := rx; exact SeqAt.EqAt.int_str a t' b t
    | _ => exact absurd (show false = true from fx) Bool.false_ne_true
  | str a =>
    obtain ⟨t', rfl⟩ := ry
    cases x with
    | non => cases rx; exact SeqAt.EqAt.str_none a t'
    | bl b => cases rx; exact SeqAt.EqAt.str_bool a t' b
    | int b => obtain ⟨t, rfl⟩ := rx; exact SeqAt.EqAt.str_int a t' b t
    | str b => obtain ⟨t, rfl⟩ := rx; exact SeqAt.EqAt.str_str a t' b t
    | _ => exact absurd (show false = true from fx) Bool.false_ne_true
  | _ => exact absurd (show false = true from fy) Bool.false_ne_true
def eqU (x : V) (u : Value) : Bool := match u with
  | .none => eqV .non x
  | .bool b => eqV (.bl b) x
  | .int i _ => eqV (.int i) x
  | .str z _ => eqV (.str z) x
  | _ => false
theorem eqU_of {x y : V} {u : Value} (r : RelV y u) (f : flatV y = true) : eqU x u = eqV y x := by
  cases y with
  | non => cases r; rfl
  | bl b => cases r; rfl
  | int i => obtain ⟨t, rfl⟩ := r; rfl
  | str z => obtain ⟨t, rfl⟩ := r; rfl
  | _ => exact absurd (show false = true from f) Bool.false_ne_true
theorem any_eqU {x : V} : ∀ {xs : List V} {us : List Value}, Vals xs us → xs.all flatV = true → us.any (eqU x) = xs.any fun y => eqV y x
  | _, _, .nil, _ => rfl
  | y :: xs, u :: us, .cons r t, f => by
    rw [List.all_cons, Bool.and_eq_true] at f
    rw [List.any_cons, List.any_cons, eqU_of r f.1, any_eqU t f.2]
theorem mem_eqAt {A : Around} {s : Shared} {x : V} {v : Value} (rx : RelV x v) (fx : flatV x = true) : ∀ {xs : List V} {us : List Value}, Vals xs us → xs.all flatV = true → ∀ u ∈ us, SeqAt.EqAt A s u v (eqU x u)
  | _, _, .nil, _ => fun u hu => by cases hu
  | y :: xs, u :: us, .cons r t, f => fun u' hu => by
    rw [List.all_cons, Bool.and_eq_true] at f
    rcases List.mem_cons.mp hu with rfl | hu
    · rw [eqU_of r f.1]; exact eqAt_V r rx f.1 fx
    · exact mem_eqAt rx fx t f.2 u' hu
def inV (x : V) (xs : List V) : Bool := xs.any fun y => eqV y x
def rIn (K : PySem.W.Frag) (neg : Bool) : R2 := fun x y H Q => ∃ p xs, y = .ref p ∧ (SqL K H p xs ∨ SqT K H p xs) ∧ flatV x = true ∧ xs.all flatV = true ∧ Q (.bl (if neg then !inV x xs else inV x xs)) H
theorem op_in_seq : OpR X (compareOp .In) (rIn X.K false) := by
  intro pins s σ H x y v u Q I rx ry h
  obtain ⟨p, xs, rfl, hq, fx, fs, q⟩ := h
  cases ry
  rcases hq with hq | hq
  · obtain ⟨its, r, pl, hz⟩ := I.list hq
    refine SeqAt.in_listAt (eqU x) pl.isList (fun w hw => mem_eqAt rx fx r fs w (by simpa using hw)) ⟨.bl _, H, I, rfl, ?_⟩
    rw [show its.toArray.any (eqU x) = its.any (eqU x) by simp, any_eqU r fs]
    exact q
  · obtain ⟨its, r, pl, hz⟩ := I.tuple hq
    refine SeqAt.in_tupleAt (eqU x) pl (fun w hw => mem_eqAt rx fx r fs w (by simpa using hw)) ⟨.bl _, H, I, rfl, ?_⟩
    rw [show its.toArray.any (eqU x) = its.any (eqU x) by simp, any_eqU r fs]
    exact q
theorem CallR.or {f : Value} {r r' : List V → Hp → VK → Prop} (h : CallR X f r) (h' : CallR X f r') : CallR X f (fun xs H Q => r xs H Q ∨ r' xs H Q) := by
  intro pins s σ H xs us Q I rs q
  rcases q with q | q
  · exact h pins s σ H xs us Q I rs q
  · exact h' pins s σ H xs us Q I rs q
theorem call_list_of : CallR X (.type "list") (fun xs H Q => ∃ p ys, xs = [.ref p] ∧ (SqL X.K H p ys ∨ SqT X.K H p ys) ∧ ∀ l, H l = none → Q (.ref l) (upd H l (.lst ys))) := by
  intro pins s σ H xs us Q I r h
  obtain ⟨p, ys, rfl, hq, q⟩ := h
  obtain ⟨u, rfl, rx⟩ := vals1 r
  cases rx
  have fin : ∀ (its : List Value), Vals ys its → ys.length ≤ sizeLine → ∀ (h' : Heap) (c' : Nat), (∀ b o', s.heap.get? b = some o' → h'.get? b = some o') →
      h'.get? s.heap.objs.size = some { cls := .type "list", dict := none, data := .seq its.toArray c', slots := #[] } → EP X pins σ Q (.ref s.heap.objs.size) { s with heap := h' } := fun its r' hz h' c' kp e =>
    ⟨.ref s.heap.objs.size, _, I.laid (t' := s.toks) kp (Nat.le_refl _) (show ObjOk X.prog X.w _ h' _ (.lst ys) from ⟨hz, its, c', r', e⟩), rfl, q _ (I.hok.fresh (Nat.le_refl _))⟩
  rcases hq with hq | hq
  · obtain ⟨its, r', pl, hz⟩ := I.list hq
    have hlen := r'.length
    obtain ⟨o, ho, hc, n, hd⟩ := pl.isList
    exact call_list_seq p (.inl rfl) ho hc hd (fun h' c' kp e => fin its r' hz h' c' kp e) (by simp only [List.size_toArray] <;> omega)
  · obtain ⟨its, r', pl, hz⟩ := I.tuple hq
    have hlen := r'.length
    obtain ⟨o, ho, hc, n, hd⟩ := pl
    exact call_list_seq p (.inr rfl) ho hc hd (fun h' c' kp e => fin its r' hz h' c' kp e) (by simp only [List.size_toArray] <;> omega)
theorem call_tuple_of : CallR X (.type "tuple") (fun xs H Q => ∃ p ys, xs = [.ref p] ∧ ((SqL X.K H p ys ∧ ∀ l, H l = none → Q (.ref l) (upd H l (.tup ys))) ∨ (SqT X.K H p ys ∧ Q (.ref p) H))) := by
  intro pins s σ H xs us Q I r h
  obtain ⟨p, ys, rfl, h⟩ := h
  obtain ⟨u, rfl, rx⟩ := vals1 r
  cases rx
  rcases h with ⟨hq, q⟩ | ⟨hq, q⟩
  · obtain ⟨its, r', pl, hz⟩ := I.list hq
    have hlen := r'.length
    refine call_tuple_list pl.isList (fun h' kp => ?_) (by simp only [List.size_toArray] <;> omega)
    have I1 : Inv X pins σ H { s with heap := h' } := I.kept (t' := s.toks) kp
    have I2 : Inv X pins σ (upd H h'.objs.size (.tup ys)) { s with heap := h'.push { cls := .type "tuple", data := .seq its.toArray } } :=
      I1.laid (t' := s.toks) (fun b o e => Heap.get?_push_of_some _ e) (Nat.le_refl _) (show ObjOk X.prog X.w _ _ _ (.tup ys) from ⟨hz, its, r', IsTup.new _ _⟩)
    exact ⟨.ref h'.objs.size, _, I2, rfl, q _ (I1.hok.fresh (Nat.le_refl _))⟩
  · obtain ⟨its, r', pl, hz⟩ := I.tuple hq
    exact call_tuple_same pl ⟨.ref p, H, I, rfl, q⟩

def tyV (K : PySem.W.Frag) (T : String) (x : V) (H : Hp) : Prop := match x with
  | .str _ => T = "str"
  | .int _ => T = "int"
  | .ref p => (T = "list" ∧ ∃ xs, SqL K H p xs) ∨ (T = "tuple" ∧ ∃ o, K.lookup p = some o ∧ o.cls = .type "tuple" ∧ o.dict = none) ∨
      (T = "dict" ∧ ((∃ kvs, H p = some (.dK kvs)) ∨ ∃ kvs, H p = some (.dT kvs))) ∨ (T = "set" ∧ ∃ S n, H p = some (.set S n))
  | _ => False
theorem tyV_is {pins : List (Addr × Obj)} {σ : St} {H : Hp} {s : Shared} {T : String} {x : V} {v : Value} (I : Inv X pins σ H s) (r : RelV x v) (ty : tyV X.K T x H) :
    s.TypeIs v T ∧ ∀ a, v = .ref a → ∃ ob, s.heap.get? a = some ob ∧ ob.dict = none := by
  cases x with
  | str z =>
    obtain ⟨t, rfl⟩ := r
    cases (show T = "str" from ty)
    exact ⟨typeIs_str s z t, fun _ e => nomatch e⟩
  | int i =>
    obtain ⟨t, rfl⟩ := r
    cases (show T = "int" from ty)
    exact ⟨typeIs_int s i t, fun _ e => nomatch e⟩
  | ref p =>
    cases r
    rcases ty with ⟨rfl, xs, hq⟩ | ⟨rfl, o, hk, hc, hd⟩ | ⟨rfl, hk⟩ | ⟨rfl, S, n, hk⟩
    · obtain ⟨its, _, pl, _⟩ := I.list hq
      refine ⟨pl.isList.typeIs, fun a e => ?_⟩
      cases e
      obtain ⟨o, n, e, c, hd, _⟩ := pl
      exact ⟨o, e, hd⟩
    · refine ⟨⟨o, I.kIn p o hk, hc⟩, fun a e => ?_⟩
      cases e
      exact ⟨o, I.kIn _ o hk, hd⟩
    · have z : ∃ o, s.heap.get? p = some o ∧ o.ExactDict := by
        rcases hk with ⟨kvs, hk⟩ | ⟨kvs, hk⟩
        · obtain ⟨_, _, _, _, o, _, _, e, ex, _⟩ := I.hok p _ hk
          exact ⟨o, e, ex⟩
        · obtain ⟨_, _, _, _, o, _, _, e, ex, _⟩ := I.hok p _ hk
          exact ⟨o, e, ex⟩
      obtain ⟨o, e, ex⟩ := z
      refine ⟨⟨o, e, ex.1⟩, fun a e2 => ?_⟩
      cases e2
      exact ⟨o, e, ex.2.1⟩
    · obtain ⟨o, _, _, _, e, ex, _⟩ := I.hok p _ hk
      refine ⟨⟨o, e, ex.1⟩, fun a e2 => ?_⟩
      cases e2
      exact ⟨o, e, ex.2.1⟩
  | _ => exact False.elim ty
def tBM (K : PySem.W.Frag) (T : String) (r : V → List V → Hp → VK → Prop) (to : TE) (t : TA) : TE := fun σ H Q => to σ H fun x H1 => tyV K T x H1 ∧ t σ H1 fun xs H2 => r x xs H2 Q
variable {o e : Expr} {es : List Expr} {to : TE} {t : TA} {name : Str} {apos cpos : Pos} {T id : String} {r : V → List V → Hp → VK → Prop}
theorem pe_bm (pa : PlainAttrs T) (slot : Slot T name id) (hty : typeOf (.builtin id) = pure (.type "method_descriptor")) (hm : MtR X id r) (ho : PE X o to) (ha : PA X (e :: es) t)
    (hbase : attributeBase o name X.env (eval o X.env) = eval o X.env := by rfl)
    (hfew : ((backTo cpos (starEach (e :: es) X.env)).all (fun x => !x.1) && (backToKw cpos (keywordEach [] X.env)).all (fun x => x.1.isSome)
      && decide ((e :: es).length + ([] : List Keyword).length + (if ([] : List Keyword).isEmpty then 0 else 1) < 30)) = true := by rfl)
    (hline : (apos.endLine == cpos.line) = true := by rfl) (hs : starEach (e :: es) X.env = (false, eval e X.env) :: starEach es X.env := by rfl) (hplain : (backTo cpos (starEach es X.env)).any (·.1) = false := by rfl) :
    PE X (.Call (.Attribute o name apos) (e :: es) [] cpos) (tBM X.K T r to t) := by
  intro pins s σ H Q I h
  refine wpAny_Call_method_late hbase hfew hline rfl (thn (ho pins s σ H _ I h) fun v s1 ⟨x, H1, I1, r1, ty, q1⟩ => ?_)
  obtain ⟨h1, h2⟩ := tyV_is I1 r1 ty
  refine ⟨T, id, pa, slot, hty, h1, h2, ?_⟩
  have hA := ha cpos pins s1 σ H1 _ I1 q1
  rw [hs] at hA ⊢
  refine Calls.callWith_builtin (by show (false || (backTo cpos (starEach es X.env)).any (·.1)) = false; rw [hplain] <;> rfl) (Calls.evalArgs_plain ?_)
  exact thn hA fun us s2 ⟨vs, H2, I2, r2, q2⟩ => hm pins s2 σ H2 x vs v us Q I2 r1 r2 q2
end
end L2

namespace L2
open PySem PySem.Spec PyProof.Rows

def MtM (X : Cx) (id : String) (r : V → List V → Hp → VK → Prop) : Prop :=
  ∀ (pins : List (Addr × Obj)) (s : Shared) (σ : St) (H : Hp) (x : V) (xs : List V) (v : Value) (us : List Value) (Q : VK), Inv X pins σ H s → RelV x v → Vals xs us → r x xs H Q →
    wpAny (model X.prog X.w) X.A (call (.builtin id) (v :: us)) (EP X pins σ Q) X.xe s

theorem Vals.one : ∀ {x : V} {us : List Value}, Vals [x] us → ∃ u, us = [u] ∧ RelV x u
  | _, _, .cons r .nil => ⟨_, rfl, r⟩
theorem Vals.two : ∀ {x y : V} {us : List Value}, Vals [x, y] us → ∃ u v, us = [u, v] ∧ RelV x u ∧ RelV y v
  | _, _, _, .cons r (.cons q .nil) => ⟨_, _, rfl, r, q⟩
theorem Vals.zero : ∀ {us : List Value}, Vals [] us → us = []
  | _, .nil => rfl
theorem Vals.dropLast {xs : List V} {us : List Value} (h : Vals xs us) : Vals xs.dropLast us.dropLast := by
  induction h with
  | nil => exact .nil
  | cons r t ih =>
    cases t with
    | nil => exact .nil
    | cons q t' => exact .cons r ih
theorem Vals.reverse {xs : List V} {us : List Value} (h : Vals xs us) : Vals xs.reverse us.reverse := by
  induction h with
  | nil => exact .nil
  | cons r t ih => rw [List.reverse_cons, List.reverse_cons]; exact Vals.append ih (.cons r .nil)
theorem Vals.rep {xs : List V} {us : List Value} (h : Vals xs us) : ∀ k : Nat, Vals (List.replicate k xs).flatten (List.replicate k us).flatten
  | 0 => .nil
  | k + 1 => by
    rw [List.replicate_succ, List.replicate_succ, List.flatten_cons, List.flatten_cons]
    exact Vals.append h (Vals.rep h k)
section
variable {X : Cx} {pins : List (Addr × Obj)} {σ : St} {H : Hp} {s : Shared} {l b : Addr} {xs ys zs : List V}

theorem Inv.lset {its its' : List Value} {n : Nat} {f : Array Value → Array Value} {t' : Nat} (I : Inv X pins σ H s) (hH : H l = some (.lst xs))
    (e : s.heap.get? l = some { cls := .type "list", data := .seq its.toArray n }) (hf : f its.toArray = its'.toArray) (hv : Vals ys its') (hz : ys.length ≤ sizeLine) :
    Inv X pins σ (upd H l (.lst ys)) { s with heap := s.heap.update l (Obj.mapSeq f), toks := t' } := by
  have q := PySem.IsL.update e f
  rw [hf] at q
  refine I.write (x := l) (e := l) (by rw [hH]; exact trivial) (.inl rfl) (fun b' u hb hu => (Heap.get?_update_other s.heap (Obj.mapSeq f) (Ne.symm hb)).trans hu) ⟨_, q⟩ ?_
  exact ⟨hz, its', _, hv, q⟩
theorem Inv.lnew {its : List Value} {t' : Nat} (I : Inv X pins σ H s) (hv : Vals ys its) (hz : ys.length ≤ sizeLine) :
    Inv X pins σ (upd H s.heap.objs.size (.lst ys)) { s with heap := s.heap.push { cls := .type "list", data := .seq its.toArray }, toks := t' } :=
  I.laid (fun _ _ q => Heap.get?_push_of_some _ q) (Nat.le_refl _) ⟨hz, its, 0, hv, Heap.get?_push_size _ rfl⟩
theorem Inv.fresh (I : Inv X pins σ H s) : H s.heap.objs.size = none := I.hok.fresh (Nat.le_refl _)
theorem Inv.lstM (I : Inv X pins σ H s) (hH : H l = some (.lst xs)) : xs.length ≤ sizeLine ∧ ∃ (its : List Value) (n : Nat), Vals xs its ∧ xs.length = its.length ∧ s.heap.get? l = some { cls := .type "list", data := .seq its.toArray n } := by
  obtain ⟨z, its, n, r, e⟩ := I.hok l _ hH
  exact ⟨z, its, n, r, r.length, e⟩

end

section
variable {X : Cx}

def rAppend : V → List V → Hp → VK → Prop := fun x vs H Q => ∃ l xs y, x = .ref l ∧ vs = [y] ∧ H l = some (.lst xs) ∧ xs.length < sizeLine ∧ Q .non (upd H l (.lst (xs ++ [y])))
theorem mt_append : MtM X "list.append" rAppend := by
  intro pins s σ H x vs v us Q I rx rv h
  obtain ⟨l, xs, y, rfl, rfl, hH, hz, q⟩ := h
  cases rx
  obtain ⟨u, rfl, ru⟩ := rv.one
  obtain ⟨z, its, n, r, hl, e⟩ := I.lstM hH
  refine call_meets F.slot_list_append ⟨_, e, rfl⟩ F.entry_list_append (F.args_list_append_2 _ _) (PySem.list_append l its.toArray n u (by rw [List.size_toArray]; omega)) ⟨e, ?_⟩
  refine ⟨.non, _, I.lset (its' := its ++ [u]) hH e (by simp) (r.append (.cons ru .nil)) ?_, rfl, q⟩
  rw [List.length_append, List.length_singleton]
  omega

theorem len_rep {α : Type} (xs : List α) (k : Nat) : (List.replicate k xs).flatten.length = k * xs.length := by
  induction k with
  | zero => simp
  | succ k ih => rw [List.replicate_succ, List.flatten_cons, List.length_append, ih, Nat.succ_mul, Nat.add_comm]
end

section
variable {prog : Program} {w : World} {A : Around} {E : Value → Shared → Prop} {s : Shared}
set_option maxRecDepth 100000 in
end

section
variable {X : Cx}
end
end L2

namespace L2
open PySem PySem.Spec PyProof.Rows

section
variable {κ : Type} [DecidableEq κ]
def valV (kvs : List (κ × V)) (k : κ) : Option V := (kvs.find? fun kv => decide (kv.1 = k)).map (·.2)
def putK (kvs : List (κ × V)) (k : κ) (v : V) : List (κ × V) :=
  if (kvs.any fun kv => decide (kv.1 = k)) = true then kvs.map (fun kv => if kv.1 = k then (kv.1, v) else kv) else kvs ++ [(k, v)]
def dropK (kvs : List (κ × V)) (k : κ) : List (κ × V) := kvs.filter fun kv => decide (kv.1 ≠ k)

theorem valV_pos {p : κ × V} {r : List (κ × V)} {k : κ} (e : p.1 = k) : valV (p :: r) k = some p.2 := by simp [valV, List.find?_cons, e]
theorem valV_neg {p : κ × V} {r : List (κ × V)} {k : κ} (e : ¬ p.1 = k) : valV (p :: r) k = valV r k := by simp [valV, List.find?_cons, e]
theorem valV_any (k : κ) : ∀ kvs : List (κ × V), (kvs.any fun kv => decide (kv.1 = k)) = (valV kvs k).isSome
  | [] => rfl
  | p :: r => by
    rw [List.any_cons]
    by_cases e : p.1 = k
    · simp only [valV_pos e, decide_eq_true e, Bool.true_or, Option.isSome_some]
    · rw [valV_neg e, decide_eq_false e, Bool.false_or]; exact valV_any k r
theorem RelO.isSome_eq {o : Option V} {u : Option Value} (r : RelO o u) : o.isSome = u.isSome := by
  cases o with
  | none => cases u with
    | none => rfl
    | some _ => exact (show False from r).elim
  | some _ => cases u with
    | none => exact (show False from r).elim
    | some _ => rfl
theorem RelO.getD {o : Option V} {u : Option Value} {d : V} {d' : Value} (r : RelO o u) (rd : RelV d d') : RelV (o.getD d) (u.getD d') := by
  cases o with
  | none => cases u with
    | none => exact rd
    | some _ => exact (show False from r).elim
  | some _ => cases u with
    | none => exact (show False from r).elim
    | some _ => exact r

theorem KV.val {kvs : List (κ × V)} {vs : List (κ × Value)} (r : KV kvs vs) (k : κ) : RelO (valV kvs k) (valueAt vs k) := by
  unfold KV at r
  induction r with
  | nil => exact True.intro
  | @cons p q ps qs h t ih =>
    obtain ⟨h1, h2⟩ := h
    by_cases e : p.1 = k
    · have e' : q.1 = k := h1.symm.trans e
      have b : valueAt (q :: qs) k = some q.2 := by simp [valueAt, List.find?_cons, e']
      rw [valV_pos e, b]; exact h2
    · have e' : ¬ q.1 = k := fun z => e (h1.trans z)
      have b : valueAt (q :: qs) k = valueAt qs k := by simp [valueAt, List.find?_cons, e']
      rw [valV_neg e, b]; exact ih
theorem KV.any {kvs : List (κ × V)} {vs : List (κ × Value)} (r : KV kvs vs) (k : κ) : (kvs.any fun kv => decide (kv.1 = k)) = vs.any fun kv => decide (kv.1 = k) := by
  unfold KV at r
  induction r with
  | nil => rfl
  | cons h t ih => rw [List.any_cons, List.any_cons, ih, h.1]
theorem KV.repl {kvs : List (κ × V)} {vs : List (κ × Value)} (r : KV kvs vs) (k : κ) {y : V} {u : Value} (ry : RelV y u) :
    KV (kvs.map fun kv => if kv.1 = k then (kv.1, y) else kv) (vs.map fun kv => if kv.1 = k then (kv.1, u) else kv) := by
  unfold KV at r ⊢
  induction r with
  | nil => exact .nil
  | @cons p q ps qs h t ih =>
    rw [List.map_cons, List.map_cons]
    refine .cons ?_ ih
    obtain ⟨h1, h2⟩ := h
    by_cases e : p.1 = k
    · rw [if_pos e, if_pos (h1.symm.trans e)]; exact ⟨h1, ry⟩
    · rw [if_neg e, if_neg (fun z => e (h1.trans z))]; exact ⟨h1, h2⟩
theorem KV.put {kvs : List (κ × V)} {vs : List (κ × Value)} (r : KV kvs vs) (k : κ) {y : V} {u : Value} (ry : RelV y u) : KV (putK kvs k y) (stored vs k u) := by
  unfold putK stored
  rw [r.any k]
  by_cases e : (vs.any fun kv => decide (kv.1 = k)) = true
  · rw [if_pos e, if_pos e]; exact r.repl k ry
  · rw [if_neg e, if_neg e]; exact Paired.snoc r ⟨rfl, ry⟩
theorem KV.drop {kvs : List (κ × V)} {vs : List (κ × Value)} (r : KV kvs vs) (k : κ) : KV (dropK kvs k) (without vs k) := by
  unfold KV at r ⊢
  unfold dropK without
  induction r with
  | nil => exact .nil
  | @cons p q ps qs h t ih =>
    obtain ⟨h1, h2⟩ := h
    rw [List.filter_cons, List.filter_cons]
    by_cases e : p.1 = k
    · have a : ¬ decide (p.1 ≠ k) = true := by simp [e]
      have b : ¬ decide (q.1 ≠ k) = true := by simp [h1.symm.trans e]
      rw [if_neg a, if_neg b]; exact ih
    · have e' : ¬ q.1 = k := fun z => e (h1.trans z)
      have a : decide (p.1 ≠ k) = true := by simp [e]
      have b : decide (q.1 ≠ k) = true := by simp [e']
      rw [if_pos a, if_pos b]; exact .cons ⟨h1, h2⟩ ih
theorem KV.keys {kvs : List (κ × V)} {vs : List (κ × Value)} (r : KV kvs vs) : kvs.map (·.1) = vs.map (·.1) := by
  unfold KV at r
  induction r with
  | nil => rfl
  | cons h t ih => rw [List.map_cons, List.map_cons, ih, h.1]
theorem KV.length {kvs : List (κ × V)} {vs : List (κ × Value)} (r : KV kvs vs) : kvs.length = vs.length := Paired.length r
end


theorem kV_is {P : Program} {w : World} {k : Key} {u : Value} (r : RelV (kV k) u) : (mixKind P w).is k u = true := by
  cases k with
  | inl i => obtain ⟨t, e⟩ := (show ∃ t, u = Value.int i t from r); subst e; exact mixKind_int P w i t
  | inr x => obtain ⟨t, e⟩ := (show ∃ t, u = Value.str x t from r); subst e; exact mixKind_str P w x t
theorem items_are {P : Program} {w : World} : ∀ {ks : List Key} {us : List Value}, Vals (ks.map kV) us → ItemsAre (mixKind P w) ks us
  | [], _, r => by rw [List.map_nil] at r; cases r; exact .nil
  | k :: ks, _, r => by
    rw [List.map_cons] at r
    cases r with
    | cons h t => exact .cons (kV_is h) (items_are t)

abbrev KT (H : Hp) : List (List Key × V) → List (List Key × Addr × Value) → Prop := Paired fun p q => p.1 = q.1 ∧ H q.2.1 = some (.tup (p.1.map kV)) ∧ RelV p.2 q.2.2
theorem KT.val {H : Hp} {kvs : List (List Key × V)} {xs : List (List Key × Addr × Value)} (r : KT H kvs xs) (k : List Key) : RelO (valV kvs k) ((atKey xs k).map (·.2)) := by
  induction r with
  | nil => exact True.intro
  | @cons p q ps qs h t ih =>
    obtain ⟨h1, _, h2⟩ := h
    by_cases e : p.1 = k
    · have e' : q.1 = k := h1.symm.trans e
      have b : atKey (q :: qs) k = some q.2 := by simp [atKey, List.find?_cons, e']
      rw [valV_pos e, b]; exact h2
    · have e' : ¬ q.1 = k := fun z => e (h1.trans z)
      have b : atKey (q :: qs) k = atKey qs k := by simp [atKey, List.find?_cons, e']
      rw [valV_neg e, b]; exact ih
theorem KT.repl {H : Hp} {kvs : List (List Key × V)} {xs : List (List Key × Addr × Value)} (r : KT H kvs xs) (k : List Key) {y : V} {u : Value} (ry : RelV y u) :
    KT H (kvs.map fun kv => if kv.1 = k then (kv.1, y) else kv) (xs.map (putAt k u)) := by
  induction r with
  | nil => exact .nil
  | @cons p q ps qs h t ih =>
    rw [List.map_cons, List.map_cons]
    refine .cons ?_ ih
    obtain ⟨h1, h2, h3⟩ := h
    unfold putAt
    by_cases e : p.1 = k
    · rw [if_pos e, if_pos (h1.symm.trans e)]; exact ⟨h1, h2, ry⟩
    · rw [if_neg e, if_neg (fun z => e (h1.trans z))]; exact ⟨h1, h2, h3⟩
theorem KT.put {H : Hp} {kvs : List (List Key × V)} {xs : List (List Key × Addr × Value)} (r : KT H kvs xs) (k : List Key) {b : Addr} {y : V} {u : Value} (hb : H b = some (.tup (k.map kV))) (ry : RelV y u) :
    KT H (putK kvs k y) (storedH xs k b u) := by
  have e : (kvs.any fun kv => decide (kv.1 = k)) = (atKey xs k).isSome := by
    rw [valV_any, (r.val k).isSome_eq, Option.isSome_map]
  unfold putK storedH
  rw [e]
  by_cases q : (atKey xs k).isSome = true
  · rw [if_pos q, if_pos q]; exact r.repl k ry
  · rw [if_neg q, if_neg q]; exact Paired.snoc r ⟨rfl, hb, ry⟩
theorem KT.keeps {H H' : Hp} {kvs : List (List Key × V)} {xs : List (List Key × Addr × Value)} (r : KT H kvs xs) (ht : ∀ b ys, H b = some (.tup ys) → H' b = some (.tup ys)) : KT H' kvs xs :=
  Paired.mapP r fun _ _ z => ⟨z.1, ht _ _ z.2.1, z.2.2⟩

section
variable {P : Program} {w : World} {H : Hp} {h : Heap} {a : Addr}
theorem rd_of {u : HO} (ok : HOk P w H h) (e : Rd H a u) : ObjOk P w H h a u := e.ok ok
theorem dk_rd {kvs : List (Key × V)} (ok : HOk P w H h) (e : Rd H a (.dK kvs)) : kvs.length ≤ sizeLine ∧ (a == sysModules) = false ∧ ∃ vs, KV kvs vs ∧ h.DictOf (mixKind P w) a vs :=
  show ObjOk P w H h a (.dK kvs) from rd_of ok e
theorem key_of {ks : List Key} (ok : HOk P w H h) (e : H a = some (.tup (ks.map kV))) : (tupleKind (mixKind P w)).is h ks a := by
  obtain ⟨_, its, r, o, h1, h2, n, h3⟩ := (show ObjOk P w H h a (.tup (ks.map kV)) from ok a _ e)
  exact ⟨o, its.toArray, n, h1, h2, h3, by simpa using items_are r⟩
theorem dt_rd {kvs : List (List Key × V)} (ok : HOk P w H h) (e : Rd H a (.dT kvs)) : kvs.length ≤ sizeLine ∧ (a == sysModules) = false ∧
    ∃ xs, KT H kvs xs ∧ h.DictOfH (tupleKind (mixKind P w)) a xs := by
  obtain ⟨z, y, xs, r, o, es, ep, h1, h2, h3, h4, h5⟩ := (show ObjOk P w H h a (.dT kvs) from rd_of ok e)
  refine ⟨z, y, xs, r, o, es, ep, h1, h2, h3, h4, fun x hx => ?_, h5⟩
  have all : ∀ {l : List (List Key × V)} {m : List (List Key × Addr × Value)}, KT H l m → ∀ x ∈ m, (tupleKind (mixKind P w)).is h x.1 x.2.1 := by
    intro l m q
    induction q with
    | nil => intro x hx; exact nomatch hx
    | @cons p q ps qs hq t ih =>
      intro x hx
      rcases List.mem_cons.mp hx with e | hx
      · subst e
        exact key_of ok (by rw [← hq.1]; exact hq.2.1)
      · exact ih x hx
  exact all r x hx
end

def DGet (H : Hp) (a : Addr) (y : V) (r : Option V) : Prop :=
  (∃ kvs k, Rd H a (.dK kvs) ∧ y = kV k ∧ r = valV kvs k) ∨ ∃ kvs k b, Rd H a (.dT kvs) ∧ y = .ref b ∧ H b = some (.tup (k.map kV)) ∧ r = valV kvs k
def DPut (H : Hp) (a : Addr) (y v : V) (H' : Hp) : Prop :=
  (∃ kvs k, H a = some (.dK kvs) ∧ y = kV k ∧ kvs.length < sizeLine ∧ H' = upd H a (.dK (putK kvs k v))) ∨
  ∃ kvs k b, H a = some (.dT kvs) ∧ y = .ref b ∧ H b = some (.tup (k.map kV)) ∧ kvs.length < sizeLine ∧ H' = upd H a (.dT (putK kvs k v))
theorem DGet.k {H : Hp} {a : Addr} {kvs : List (Key × V)} {k : Key} (e : H a = some (.dK kvs)) : DGet H a (kV k) (valV kvs k) := .inl ⟨kvs, k, .inl e, rfl, rfl⟩
theorem DGet.t {H : Hp} {a b : Addr} {kvs : List (List Key × V)} {k : List Key} (e : H a = some (.dT kvs)) (eb : H b = some (.tup (k.map kV))) : DGet H a (.ref b) (valV kvs k) := .inr ⟨kvs, k, b, .inl e, rfl, eb, rfl⟩
theorem DPut.k {H : Hp} {a : Addr} {kvs : List (Key × V)} {k : Key} {v : V} (e : H a = some (.dK kvs)) (hl : kvs.length < sizeLine) : DPut H a (kV k) v (upd H a (.dK (putK kvs k v))) := .inl ⟨kvs, k, e, rfl, hl, rfl⟩
theorem DPut.t {H : Hp} {a b : Addr} {kvs : List (List Key × V)} {k : List Key} {v : V} (e : H a = some (.dT kvs)) (eb : H b = some (.tup (k.map kV))) (hl : kvs.length < sizeLine) :
    DPut H a (.ref b) v (upd H a (.dT (putK kvs k v))) := .inr ⟨kvs, k, b, e, rfl, eb, hl, rfl⟩


section
variable {X : Cx} {pins : List (Addr × Obj)} {σ : St} {H : Hp} {s : Shared} {a : Addr} {y v : V} {u r : Value} {o : Option V} {A : Around} {E : Value → Shared → Prop}

theorem d_getItem {Q : Value → Shared → Prop} (hu : A.units + 1 < cLine) (I : Inv X pins σ H s) (g : DGet H a y (some v)) (ry : RelV y u) (h : ∀ w' s', Inv X pins σ H s' → RelV v w' → Q w' s') :
    wpAny (model X.prog X.w) A (getItem (.ref a) u) Q E s := by
  rcases g with ⟨kvs, k, e, ey, l⟩ | ⟨kvs, k, b, e, ey, eb, l⟩
  · subst ey
    obtain ⟨z, hd, vs, rel, dd⟩ := dk_rd I.hok e
    obtain ⟨w', hw, rw'⟩ := RelO.some_of (v := v) (o := valueAt vs k) (by rw [l]; exact rel.val k)
    exact wpAny_getItem_of (kV_is ry) dd.mapOf hw (h w' _ (I.tok _) rw')
  · subst ey
    cases (show u = Value.ref b from ry)
    obtain ⟨z, hd, xs, rel, dd⟩ := dt_rd I.hok e
    obtain ⟨w', hw, rw'⟩ := RelO.some_of (v := v) (o := (atKey xs k).map (·.2)) (by rw [l]; exact rel.val k)
    obtain ⟨p, hp, hp2⟩ := Option.map_eq_some_iff.mp hw
    refine wpAny_getItem_heap (tupleKind_room_in1 hu) (key_of I.hok eb) dd hp ?_
    rw [hp2]
    exact h w' _ (I.tok _) rw'
theorem d_in {Q : Value → Shared → Prop} (hu : A.units + 1 < cLine) (I : Inv X pins σ H s) (g : DGet H a y o) (ry : RelV y u) (h : ∀ s', Inv X pins σ H s' → Q (.bool o.isSome) s') :
    wpAny (model X.prog X.w) A (compareOp .In u (.ref a)) Q E s := by
  rcases g with ⟨kvs, k, e, ey, l⟩ | ⟨kvs, k, b, e, ey, eb, l⟩
  · subst ey
    obtain ⟨z, hd, vs, rel, dd⟩ := dk_rd I.hok e
    refine wpAny_in_of (kV_is ry) hd dd.mapOf ?_
    rw [← (rel.val k).isSome_eq, ← l]
    exact h _ (I.tok _)
  · subst ey
    cases (show u = Value.ref b from ry)
    obtain ⟨z, hd, xs, rel, dd⟩ := dt_rd I.hok e
    refine wpAny_in_heap (tupleKind_room_in1 hu) (key_of I.hok eb) hd dd ?_
    have q := (rel.val k).isSome_eq
    rw [Option.isSome_map] at q
    rw [← q, ← l]
    exact h _ (I.tok _)
end

section
variable {X : Cx} {pins : List (Addr × Obj)} {σ : St} {H : Hp} {s : Shared} {a : Addr} {kvs : List (Key × V)} {k : Key} {u : Value} {A : Around} {E : Value → Shared → Prop}
theorem d_len {Q : Value → Shared → Prop} (I : Inv X pins σ H s) (e : Rd H a (.dK kvs)) (h : ∀ t s', Inv X pins σ H s' → Q (.int kvs.length t) s') : wpAny (model X.prog X.w) A (call (.builtin "len") [.ref a]) Q E s := by
  obtain ⟨z, hd, vs, rel, dd⟩ := dk_rd I.hok e
  refine call_len_dict hd dd (by rw [← rel.length]; rw [sizeLine_eq] at z; omega) ?_
  rw [← rel.length]
  exact h _ _ (I.tok _)
end


theorem dict_typeIs {X : Cx} {pins : List (Addr × Obj)} {σ : St} {H : Hp} {s : Shared} {a : Addr} {y : V} {o : Option V} (I : Inv X pins σ H s) (g : DGet H a y o) : s.TypeIs (.ref a) "dict" := by
  rcases g with ⟨kvs, k, e, _, _⟩ | ⟨kvs, k, b, e, _, _, _⟩
  · obtain ⟨_, _, vs, _, dd⟩ := dk_rd I.hok e
    exact dd.typeIs
  · obtain ⟨_, _, xs, _, dd⟩ := dt_rd I.hok e
    exact dd.typeIs
section
variable {X : Cx} {o i e value : Expr} {pos pos' tpos : Pos} {td ty tv : TE}
end


section
variable {X : Cx} {pos : Pos}
end

structure M1 (X : Cx) (o : Expr) (m : Str) (apos : Pos) (e : Expr) (cpos : Pos) : Prop where
  base : attributeBase o m X.env (eval o X.env) = eval o X.env
  few : ((backTo cpos (starEach [e] X.env)).all (fun x => !x.1) && (backToKw cpos (keywordEach [] X.env)).all (fun x => x.1.isSome)
    && decide (([e] : List Expr).length + ([] : List Keyword).length + (if ([] : List Keyword).isEmpty then 0 else 1) < 30)) = true
  line : (apos.endLine == cpos.line) = true
  trees : backTo cpos (starEach [e] X.env) = [(false, eval e X.env)]
structure M2 (X : Cx) (o : Expr) (m : Str) (apos : Pos) (e f : Expr) (cpos : Pos) : Prop where
  base : attributeBase o m X.env (eval o X.env) = eval o X.env
  few : ((backTo cpos (starEach [e, f] X.env)).all (fun x => !x.1) && (backToKw cpos (keywordEach [] X.env)).all (fun x => x.1.isSome)
    && decide (([e, f] : List Expr).length + ([] : List Keyword).length + (if ([] : List Keyword).isEmpty then 0 else 1) < 30)) = true
  line : (apos.endLine == cpos.line) = true
  trees : backTo cpos (starEach [e, f] X.env) = [(false, eval e X.env), (false, eval f X.env)]

section
variable {X : Cx} {pins : List (Addr × Obj)} {σ : St} {H : Hp} {s : Shared} {a : Addr} {y d : V} {u r : Value} {o : Option V} {A : Around} {E : Value → Shared → Prop}
end

section
variable {X : Cx} {o e f : Expr} {apos cpos : Pos} {td ty tx : TE}
end

section
variable {X : Cx} {pins : List (Addr × Obj)} {σ : St} {H : Hp} {s : Shared} {a : Addr} {kvs : List (Key × V)} {A : Around} {E : Value → Shared → Prop}
end


section
variable {X : Cx} {pins : List (Addr × Obj)} {σ : St} {H : Hp} {s : Shared} {a : Addr} {y : V} {u : Value} {A : Around} {E : Value → Shared → Prop}
end
end L2

namespace Att
open PySem PySem.W PySem.Calls PyProof.Rows

theorem ints_of_wellAll {P : Params} {h : Heap} : ∀ (ns : List Int) (vs : List Value), WellAll P h vs (ns.map WData.int) → IntsAre vs ns := by
  intro ns
  induction ns with
  | nil =>
    intro vs w
    rw [List.map_nil] at w
    cases w
    exact .nil
  | cons n ns ih =>
    intro vs w
    rw [List.map_cons] at w
    cases w with
    | cons a b =>
      cases a
      exact .cons _ _ (ih _ b)

theorem script_of {l : OpenLaw} {n : Nat} (hn : l.most = some n) {P : Params} {h : Heap} {args : List WData} {vals : List Value}
    (hpre : l.row.toRowW.claim.pre args = true) (hwl : WellAll P h vals args) :
    ∃ a vs ns, vals = [Value.ref a] ∧ args = [WData.list (ns.map WData.int)] ∧ h.get? a = some { cls := .type "list", data := .seq vs.toArray } ∧ IntsAre vs ns ∧ ns.length ≤ n := by
  have hsh : WShape.hasAll [] args [.list .int] = true := (pre_splitW hpre).1
  have hc : l.pre.holds [] { args := args } = true := (pre_splitW hpre).2
  obtain ⟨d, r, rfl, h1, h2⟩ := hasAllW_cons hsh
  obtain rfl := hasAllW_nil h2
  obtain ⟨xs, rfl, h3⟩ := hasW_list h1
  obtain ⟨ns, rfl⟩ := items_int h3
  have hlen : ns.length ≤ n := by
    unfold OpenLaw.pre at hc
    have h4 : (WTm.not (.lt (.lit (.int (n : Int))) (.len (.arg 0)))).holds [] { args := [.list (ns.map .int)] } = true := by
      have h4 := (holds_andW hc).1
      rw [hn] at h4
      exact h4
    have h5 := condW_of h4 (w_not (w_lt w_lit (w_len_list (w_arg rfl))))
    rw [List.length_map] at h5
    refine Nat.le_of_not_lt fun q => ?_
    have q' : (n : Int) < ((ns.length : Nat) : Int) := by omega
    first
      | (rw [decide_eq_true q'] at h5; exact absurd h5 (by decide))
      | (simp at h5; omega)
  cases hwl with
  | cons w1 w2 =>
    cases w2
    cases w1 with
    | list ho hall => exact ⟨_, _, ns, rfl, rfl, ho, ints_of_wellAll ns _ hall, hlen⟩

theorem post_true (l : OpenLaw) (args : List WData) : l.row.toRowW.claim.post args (.bool true) args = true :=
  postW_of (r := l.row.toRowW) (X := (true == true))
    (show WShape.has [] (.bool true) .bool = true by first | rfl | decide | simp [WShape.has, WShape.arms, WShape.armsAll])
    (show (WTm.eq .res (.lit (.bool true))).value [] { args := args, res := some (.bool true), after := args } = some (.bool (true == true)) from w_eq_bool (w_res rfl) w_lit) rfl

theorem attach_call {l : OpenLaw} {n : Nat} {q : Program} {loose : List Str} {XP : (Str → Option Value) → Heap → Prop} {YP : World → Heap → Prop} {d : DefRec}
    (hn : l.most = some n) (hdf : d.params.defaults = [])
    (call : ∀ (w : World) (s₀ s₁ : Shared) (mg mb : Str → Option Value) (fa : Addr) (o : Obj) (pm cd doc : Value) (a : Addr) (vs : List Value) (ns : List Int),
      Ground q loose [] XP w s₀ mg mb s₁.heap → YP w s₁.heap →
      s₁.heap.get? fa = some o → o.data = .func (docDef d.name d.params d.body d.scope pm cd doc) → s₁.heap.CodeRec cd d.name → mg d.name = some (.ref fa) →
      s₁.heap.get? a = some { cls := .type "list", data := .seq vs.toArray } → IntsAre vs ns → ns.length ≤ n → s₁.gens = #[] →
      codeAny (model l.prog w) callerA (.call (.ref fa) ⟨[.ref a], []⟩) (fun r s' => r = .ok (.ret (.bool true)) ∧ OldK s₁.heap s'.heap ∧ s'.os = s₁.os ∧ AllBare s'.gens) s₁) :
    WalkO q loose XP YP l.row.toRowW d [] (fun f vs => PySem.call f vs) := by
  intro w s₀ s₁ mg mb G Y fa o pm cd doc dV kV ho hd hcd hD hmg hg args vals as hpre hlay hrd hwl hlo
  obtain rfl : dV = .none := Dflts.none hD hdf
  obtain rfl : kV = .none := Dflts.noKw hD
  obtain ⟨a, vs, ns, rfl, rfl, hobj, hints, hlen⟩ := script_of hn hpre hwl
  refine enter_call (codeAny_mono (call w s₀ s₁ mg mb fa o pm cd doc a vs ns G Y ho (fd_plain hd) hcd hmg hobj hints hlen hg) fun r s' hq => ?_)
  obtain ⟨rfl, h2, h3, h4⟩ := hq
  exact ⟨.inl ⟨.bool true, .bool true, [], rfl, fun _ => rfl, .bool true, post_true l _, fun _ => ⟨List.Pairwise.nil, fun _ hm => (nomatch hm)⟩⟩, h2, h3, h4⟩

section
variable {prog : Program} {w : World} {A : Around} {E : Value → Shared → Prop} {s : Shared} {K : Frag}

end
end Att

namespace L2
open PySem PySem.Spec PyProof.Rows

theorem vals_ints : ∀ {vs : List Value} {ns : List Int}, IntsAre vs ns → Vals (ns.map V.int) vs
  | _, _, .nil => .nil
  | _, _, .cons n t h => .cons ⟨t, rfl⟩ (vals_ints h)

def Only (H : Hp) : Prop := ∀ b, H b = none ∨ ∃ o xs, H b = some (.frz o (.lst xs))

theorem law_call {P : Program} {w : World} {K : PySem.W.Frag} {mg mb : Str → Option Value} {CX : CXT} {k : Nat} {fa a : Addr} {fd : FuncData} {x : Str} {sp : Sp} {s₁ : Shared} {vs : List Value} {ns : List Int}
    (KX : K.In s₁.heap) (hns : s₁.heap.Ns mainGlobals mg) (hb : s₁.heap.Ns builtinsNs mb) (hbb : ∀ x : Str, x ≠ "__name__" → mb x = bootBuiltins x) (hlim : s₁.heap.NoLimit) (hg : s₁.gens = #[])
    (ha : s₁.heap.get? a = some { cls := .type "list", data := .seq vs.toArray }) (hi : IntsAre vs ns) (hl : ns.length ≤ sizeLine) (hr : Room k callerA)
    (F : ∀ base : Heap, K.In base → base.Ns mainGlobals mg → FnOk P w K mg base CX k fa fd [x] sp) (hbind : ∀ (s : Shared) (u : Value), BindsTo s fd ⟨[u], []⟩ [(x, u)])
    (hsp : ∀ H : Hp, Only H → SqL K H a (ns.map V.int) → sp [.ref a] H (fun v _ => v = .bl true) fun _ _ _ => False)
    (hCX : ∀ H e s', CX [] H s₁ (fun _ _ _ => False) e s' → False) :
    codeAny (model P w) callerA (.call (.ref fa) ⟨[.ref a], []⟩) (fun r s' => r = .ok (.ret (.bool true)) ∧ OldK s₁.heap s'.heap ∧ s'.os = s₁.os ∧ AllBare s'.gens) s₁ := by
  have rv := vals_ints hi
  have lenV := hi.length
  -- from an abstract heap in which nothing but the script may be tracked
  have core : ∀ H : Hp, Only H → SqL K H a (ns.map V.int) → HOk P w H s₁.heap → (∀ b, H b ≠ none → b = a) → (H a ≠ none → K.lookup a = none) →
      codeAny (model P w) callerA (.call (.ref fa) ⟨[.ref a], []⟩) (fun r s' => r = .ok (.ret (.bool true)) ∧ OldK s₁.heap s'.heap ∧ s'.os = s₁.os ∧ AllBare s'.gens) s₁ := by
    intro H hO hS hok hA hK
    have base_of : ∀ {b : Addr} {o : Obj}, s₁.heap.get? b = some o → H b = none → (hidT s₁.heap H).get? b = some o := fun e n => hidT_get e n
    have noA : ∀ {b : Addr} {o : Obj} {es : Array DictEntry} {ep : Nat}, s₁.heap.get? b = some o → o.data = .dict es ep → H b = none := fun {b o es ep} e d => by
      cases q : H b with
      | none => rfl
      | some u =>
        have e' : b = a := hA b (by rw [q]; simp)
        subst e'
        rw [ha] at e; cases e
        have d' : Data.seq vs.toArray _ = Data.dict es ep := d
        cases d'
    have nsK : ∀ {b : Addr} {m : Str → Option Value}, s₁.heap.Ns b m → (hidT s₁.heap H).Ns b m := fun {b m} ⟨o, es, ep, e, d, r⟩ => ⟨o, es, ep, base_of e (noA e d), d, r⟩
    have hKb : K.In (hidT s₁.heap H) := fun b o e => base_of (KX b o e) (by
      cases q : H b with
      | none => rfl
      | some u =>
        have e' : b = a := hA b (by rw [q]; simp)
        subst e'
        rw [hK (by rw [q]; simp)] at e; cases e)
    have hM : Mod K mg (hidT s₁.heap H) := ⟨hKb, nsK hns, ⟨mb, nsK hb, hbb⟩, let ⟨mc, h1, h2⟩ := hlim; ⟨mc, nsK h1, h2⟩⟩
    have e0 : Env0 P w K mg (hidT s₁.heap H) callerA [] s₁ H := ⟨rfl, hM, fun b o e => of_hidT e, Nat.le_of_eq (hidT_size _ _), trivial, fun b hb => absurd (show b ∈ ([] : List Addr) from hb) (by simp), hok, .of_eq hg⟩
    refine codeAny_mono ((F _ hKb (nsK hns)).run callerA [] s₁ H ⟨[.ref a], []⟩ [.ref a] [.ref a] _ _ hr e0 (hbind s₁ (.ref a)) (.cons rfl .nil) (hsp H hO hS)) fun r s' h => ?_
    cases r with
    | error e => exact (hCX H e s' h).elim
    | ok fl =>
      cases fl with
      | next => exact False.elim h
      | brk => exact False.elim h
      | cont => exact False.elim h
      | ret u =>
        obtain ⟨v, H', os, bare, un, hok', r', q⟩ := h
        have q' : v = .bl true := q
        subst q'
        obtain rfl : u = Value.bool true := r'
        refine ⟨rfl, OldK.of_keep fun b o e => ?_, os, bare⟩
        cases q : H b with
        | none => exact un.keep b o e q (by intro z; exact absurd (show b ∈ ([] : List Addr) from z) (by simp)) (by simp)
        | some u =>
          rcases hO b with z | ⟨ob, xs, z⟩
          · rw [q] at z; cases z
          · have z2 := un.frzs b ob _ z
            obtain ⟨e1, _⟩ := hok b _ z
            obtain ⟨e2, _⟩ := hok' b _ z2
            rw [e] at e1; cases e1
            exact e2
  cases hk : K.lookup a with
  | some o =>
    -- the script is one of the module's own objects
    have e := KX a o hk
    rw [ha] at e
    cases e
    refine core (fun _ => none) (fun _ => .inl rfl) (.inr ⟨_, vs.toArray, _, hk, rfl, rfl, rfl, by rw [List.size_toArray, lenV]; exact hl, by simpa using rv⟩) (fun b u z => by have z' : (none : Option HO) = some u := z; cases z') (fun b z => absurd rfl z) fun z => absurd rfl z
  | none =>
    refine core (fun b => if b = a then some (.frz { cls := .type "list", data := .seq vs.toArray } (.lst (ns.map V.int))) else none) (fun b => ?_) (.inl (.inr ⟨{ cls := .type "list", data := .seq vs.toArray }, if_pos rfl⟩)) (fun b u z => ?_) (fun b z => ?_) fun _ => hk
    · by_cases hb : b = a
      · exact .inr ⟨_, _, if_pos hb⟩
      · exact .inl (if_neg hb)
    · by_cases hb : b = a
      · have z' := (if_pos hb).symm.trans z
        cases z'
        subst hb
        exact ⟨ha, by rw [List.length_map]; exact hl, vs, _, rv, ha⟩
      · have z' := (if_neg hb).symm.trans z
        cases z'
    · by_cases hb : b = a
      · exact hb
      · exact absurd (if_neg hb) z
end L2

namespace L2
open PySem PySem.Spec PyProof.Rows

theorem walk_of {l : PySem.W.OpenLaw} {n k : Nat} {q : Program} {loose : List Str} {XP : (Str → Option Value) → Heap → Prop} {YP : World → Heap → Prop} {d : DefRec} {K : Params → PySem.W.Frag} {CX : World → CXT} {sp : World → Sp} {x : Str}
    (hn : l.most = some n) (hn2 : n ≤ sizeLine) (hdf : d.params.defaults = []) (hr : Room k callerA)
    (hY : ∀ (w : World) (h : Heap), YP w h → (K w.params).In h)
    (F : ∀ (w : World) (mg : Str → Option Value) (fa : Addr) (h : Heap), (K w.params).In h → h.Ns mainGlobals mg → mg d.name = some (.ref fa) →
      ∃ fd : FuncData, (∀ (s : Shared) (u : Value), BindsTo s fd ⟨[u], []⟩ [(x, u)]) ∧
        ∀ base : Heap, (K w.params).In base → base.Ns mainGlobals mg → FnOk l.prog w (K w.params) mg base (CX w) k fa fd [x] (sp w))
    (hsp : ∀ (w : World) (H : Hp) (a : Addr) (ns : List Int), ns.length ≤ n → Only H → SqL (K w.params) H a (ns.map V.int) → sp w [.ref a] H (fun v _ => v = .bl true) fun _ _ _ => False)
    (hCX : ∀ (w : World) (H : Hp) (s : Shared) (e : Value) (s' : Shared), CX w [] H s (fun _ _ _ => False) e s' → False) :
    PySem.W.WalkO q loose XP YP l.row.toRowW d [] (fun f vs => PySem.call f vs) := by
  refine Att.attach_call hn hdf fun w s₀ s₁ mg mb fa o pm cd doc a vs ns G Y ho hd hcd hmg hobj hints hlen hg => ?_
  have KX := hY w _ Y
  obtain ⟨fd, hb, hF⟩ := F w mg fa _ KX G.T.g hmg
  exact law_call KX G.T.g G.T.b G.T.builtins G.T.nolimit hg hobj hints (Nat.le_trans hlen hn2) hr hF hb (fun H hO hS => hsp w H a ns hlen hO hS) fun H e s' => hCX w H s₁ e s'
end L2


namespace L2
open PySem PySem.Spec PyProof.Rows

def defArgs (s : Stmt) : Arguments := match s with
  | .FunctionDef _ a _ _ _ _ _ _ _ _ => a
  | _ => { posonlyargs := [], args := [], vararg := none, kwonlyargs := [], kw_defaults := [], kwarg := none, defaults := [] }
def defBody (s : Stmt) : List Stmt := match s with
  | .FunctionDef _ _ b _ _ _ _ _ _ _ => b
  | _ => []
def defScope (s : Stmt) : Scope := match s with
  | .FunctionDef _ _ _ _ _ _ sc _ _ _ => sc
  | _ => { kind := .function, names := [], isGenerator := false, isCoroutine := false }

abbrev CX0 : CXT := fun _ _ _ _ _ _ => False
abbrev E0 : XK := fun _ _ _ => False
theorem pass0 {X : Cx} : Passes CX0 X E0 := fun _ _ _ _ _ _ _ h => h.elim

structure Fun (K : PySem.W.Frag) (x qual : Str) (st : Stmt) (f : Addr) (fd : FuncData) : Prop where
  ex : ∃ (oc : Value) (od : Option Addr) (kV doc pm : Value) (an : Option Addr) (cdv ct : Value) (osl : Array (Option Value)),
    fd = PySem.W.fnOf x qual (defArgs st) (defBody st) (defScope st) .none kV doc pm an cdv ct ∧ K.lookup f = some ⟨oc, od, .func fd, osl⟩ ∧ PySem.W.codeIn K cdv qual = true
  kp : PySem.W.keepIn K (.ref f) = true
section
variable {P : Program} {w : World} {K : PySem.W.Frag} {mg : Str → Option Value} {base : Heap}
theorem Fun.ok {x qual : Str} {st : Stmt} {f : Addr} {fd : FuncData} {N ps : List Str} {k : Nat} {sp : Sp} (F : Fun K x qual st f fd) (S : FnScope N ps (defScope st)) (len : ∀ vs H Q E, sp vs H Q E → vs.length = ps.length)
    (hbody : ∀ (cdv : Value) (A : Around) (outer : List Env) (s : Shared) (H : Hp) (vs : List V) (Q : VK) (E : XK), Room k (A.deeper (envOfC qual (defScope st) s.heap.objs.size f cdv)) → sp vs H Q E →
      ∃ t, PSs (cxOf CX0 P w K mg base N qual (defScope st) f cdv A outer s H E).nox (defBody st) t ∧ t { nx := fun _ H' => Q .non H', rt := Q } (start N vs) H) : FnOk P w K mg base CX0 (k + 1) f fd ps sp := by
  obtain ⟨oc, od, kV, doc, pm, an, cdv, ct, osl, rfl, lk, hcd⟩ := F.ex
  refine fn_of lk hcd S len fun A outer s H vs Q E hr hsp => ?_
  obtain ⟨t, h, q⟩ := hbody cdv A outer s H vs Q E hr hsp
  exact ⟨t, h.nox, q⟩
theorem Fun.binds {x qual : Str} {st : Stmt} {f : Addr} {fd : FuncData} {ps : List Str} (F : Fun K x qual st f fd)
    (h : ∀ (kV doc pm : Value) (an : Option Addr) (cdv ct : Value) (us : List Value), us.length = ps.length → bindArgs (PySem.W.fnOf x qual (defArgs st) (defBody st) (defScope st) .none kV doc pm an cdv ct) ⟨us, []⟩ = pure (ps.zip us)) : Binds K fd ps [] := by
  obtain ⟨oc, od, kV, doc, pm, an, cdv, ct, osl, rfl, lk, hcd⟩ := F.ex
  exact .all (h kV doc pm an cdv ct)
theorem fun_mk {x qual : Str} {st : Stmt} {f : Addr} {oc : Value} {od an : Option Addr} {osl : Array (Option Value)} {kV doc pm cdv ct : Value} (l : K.lookup f = some ⟨oc, od, .func (PySem.W.fnOf x qual (defArgs st) (defBody st) (defScope st) .none kV doc pm an cdv ct), osl⟩)
    (c : PySem.W.codeIn K cdv qual = true) (k : PySem.W.keepIn K (.ref f) = true) : Fun K x qual st f (PySem.W.fnOf x qual (defArgs st) (defBody st) (defScope st) .none kV doc pm an cdv ct) := ⟨⟨oc, od, kV, doc, pm, an, cdv, ct, osl, rfl, l, c⟩, k⟩
end
section
variable {X : Cx}
theorem pv (i : Nat) {x : Str} {pos : Pos} (hN : X.N[i]? = some x := by rfl) (hv : Vis X.env.scope x := by first | exact Or.inl rfl | exact Or.inr (Or.inl rfl) | exact Or.inr (Or.inr rfl)) (hd : (x == ("__debug__" : Str)) = false := by decide)
    (hcd : (x == ("__classdict__" : Str)) = false := by decide) : PE X (.Name x pos) (tVar i) := pe_var hN hv hd hcd
theorem call_lenD : CallR X (.builtin "len") (fun xs H Q => ∃ a kvs, xs = [V.ref a] ∧ H a = some (.dK kvs) ∧ Q (.int kvs.length) H) := by
  intro pins s σ H xs us Q I r h
  obtain ⟨a, kvs, rfl, ha, q⟩ := h
  obtain ⟨u, rfl, ru⟩ := vals1 r
  cases ru
  exact d_len I (.inl ha) fun t s' I' => ⟨.int kvs.length, H, I', ⟨t, rfl⟩, q⟩
end

def Same (H H' : Hp) : Prop := ∀ b o, H b = some o → H' b = some o
theorem Same.refl (H : Hp) : Same H H := fun _ _ h => h
theorem Same.trans {H H1 H2 : Hp} (a : Same H H1) (b : Same H1 H2) : Same H H2 := fun c o h => b c o (a c o h)
theorem Same.free {H H' : Hp} (e : Same H H') {l : Addr} (h : H' l = Option.none) : H l = Option.none := by
  cases q : H l with
  | none => rfl
  | some o =>
    rw [e l o q] at h
    cases h
theorem Same.seq {K : PySem.W.Frag} {H H' : Hp} {a : Addr} {xs : List V} (e : Same H H') (h : SqL K H a xs) : SqL K H' a xs := by
  rcases h with (h | ⟨o, h⟩) | h
  · exact .inl (.inl (e _ _ h))
  · exact .inl (.inr ⟨o, e _ _ h⟩)
  · exact .inr h

section
variable {κ : Type} [DecidableEq κ]
end
end L2

set_option Elab.async false
set_option linter.all false
set_option maxRecDepth 100000
set_option maxHeartbeats 4000000

namespace L2
open PySem PySem.Spec PyProof.Rows

def clOf (env : Env) : List (Str × NameKind) → List (Str × Addr) → List (Str × Addr)
  | [], cs => cs
  | (n, k) :: r, cs => clOf env r (if k == NameKind.free then (n, (env.cells.lookup n).getD 0) :: cs else cs)

theorem closure_forIn (env : Env) : ∀ (names : List (Str × NameKind)) (cs : List (Str × Addr)), (∀ y ∈ names, y.2 = .free → ∃ c, env.cells.lookup y.1 = some c) →
    (forIn names cs fun x r => match x with
      | (name, kind) => if (kind == NameKind.free) = true then do let a ← cellOf env name; pure (ForInStep.yield ((name, a) :: r)) else pure (ForInStep.yield r) : Sem (List (Str × Addr))) = pure (clOf env names cs)
  | [], cs, _ => rfl
  | (n, k) :: r, cs, h => by
    rw [List.forIn_cons]
    have ih := closure_forIn env r
    by_cases hk : k = .free
    · subst hk
      obtain ⟨c, e⟩ := h (n, .free) List.mem_cons_self rfl
      have e : env.cells.lookup n = some c := e
      have e2 : cellOf env n = pure c := by unfold cellOf; rw [e]
      have e3 : clOf env ((n, .free) :: r) cs = clOf env r ((n, c) :: cs) := by
        show clOf env r (if (NameKind.free == NameKind.free) = true then (n, (env.cells.lookup n).getD 0) :: cs else cs) = _
        rw [e]; rfl
      rw [e3, ← ih ((n, c) :: cs) fun y hy => h y (List.mem_cons_of_mem _ hy)]
      simp only [beq_self_eq_true, if_true, e2]
      rfl
    · have hb : (k == NameKind.free) = false := by simpa using hk
      have e3 : clOf env ((n, k) :: r) cs = clOf env r cs := by
        show clOf env r (if (k == NameKind.free) = true then _ else cs) = _
        rw [hb]; rfl
      rw [e3, ← ih cs fun y hy => h y (List.mem_cons_of_mem _ hy)]
      simp only [hb, Bool.false_eq_true, if_false]
      rfl
theorem closureFor_cl {scope : Scope} {env : Env} (h : ∀ y ∈ scope.names, y.2 = .free → ∃ c, env.cells.lookup y.1 = some c) : closureFor scope env = pure (clOf env scope.names []) := by
  have := closure_forIn env scope.names [] h
  unfold closureFor
  rw [← bind_pure (forIn scope.names [] _)] at this
  exact this

theorem clOf_sub {env : Env} {x : Str} {c : Addr} : ∀ {names : List (Str × NameKind)} {cs : List (Str × Addr)}, (∀ y ∈ names, y.2 = .free → ∃ c, env.cells.lookup y.1 = some c) → (∀ y d, cs.lookup y = some d → env.cells.lookup y = some d) →
    (clOf env names cs).lookup x = some c → env.cells.lookup x = some c
  | [], cs, _, h, e => h x c e
  | (n, k) :: r, cs, hf, h, e => by
    refine clOf_sub (names := r) (fun y hy => hf y (List.mem_cons_of_mem _ hy)) ?_ e
    intro y d hd
    by_cases hk : k = .free
    · subst hk
      obtain ⟨c', e'⟩ := hf (n, .free) List.mem_cons_self rfl
      have e' : env.cells.lookup n = some c' := e'
      simp only [beq_self_eq_true, if_true, e', Option.getD_some, List.lookup_cons] at hd
      cases hb : y == n with
      | true => rw [hb] at hd; have : y = n := eq_of_beq hb; subst this; rw [e']; exact hd
      | false => rw [hb] at hd; exact h y d hd
    · have hb : (k == NameKind.free) = false := by simpa using hk
      simp only [hb, Bool.false_eq_true, if_false] at hd
      exact h y d hd
theorem clOf_some {env : Env} {x : Str} : ∀ {names : List (Str × NameKind)} {cs : List (Str × Addr)}, ((x, NameKind.free) ∈ names ∨ ∃ c, cs.lookup x = some c) → ∃ c, (clOf env names cs).lookup x = some c
  | [], cs, h => by
    rcases h with h | h
    · exact nomatch h
    · exact h
  | (n, k) :: r, cs, h => by
    refine clOf_some (names := r) ?_
    rcases h with h | ⟨c, h⟩
    · rcases List.mem_cons.mp h with e | h
      · cases e
        refine .inr ⟨(env.cells.lookup x).getD 0, ?_⟩
        simp only [beq_self_eq_true, if_true, List.lookup_cons]
      · exact .inl h
    · refine .inr ?_
      by_cases hk : (k == NameKind.free) = true
      · simp only [hk, if_true, List.lookup_cons]
        cases hb : x == n with
        | true => exact ⟨_, rfl⟩
        | false => exact ⟨c, h⟩
      · simp only [hk, if_false]
        exact ⟨c, h⟩

def cxComp (X : Cx) (scope : Scope) (C : Addr) (N : List Str) (fp : List Addr) (s₃ : Shared) (H₃ : Hp) : Cx :=
  { X with N := N, s₀ := s₃, H₀ := H₃, env := compEnvC scope (clOf X.env scope.names []) C X.env, outer := X.stack, stack := X.stack, ex := fp, fn := fun _ => false, pn := [], xe := fun _ _ => False }

def PTs (X : Cx) (ifs : List Expr) (t : TT) : Prop :=
  ∀ (pins : List (Addr × Obj)) (s : Shared) (σ : St) (H : Hp) (Q : Bool → Hp → Prop), Inv X pins σ H s → t σ H Q →
    wpAny (model X.prog X.w) X.A (forIn ifs true fun c r => if r = true then do let ok ← isTrue c X.env (eval c X.env); pure (ForInStep.yield ok) else pure (ForInStep.yield r)) (TP X pins σ Q) X.xe s
def tYes : TT := fun _ H Q => Q true H
theorem pts_nil {X : Cx} : PTs X [] tYes := fun _ _ _ H _ I h => wpAny_tests_nil ⟨H, I, h⟩
theorem codeAny_compLoop_all {prog : Program} {w : World} {A : Around} {R : Result → Shared → Prop} {s : Shared} {elt target iter : Expr} {ifs : List Expr} {scope : Scope} {pos : Pos} {it acc : Value} {env : Env} (I : Nat → Shared → Prop) (E : Value → Shared → Prop)
    (turn : ∀ n s, I n s → wpAny (model prog w) A (pyNext it) (fun r s₁ => match r with
      | none => R (.ok .next) s₁
      | some v => wpAny (model prog w) A (letOwnedTupleGo target it v) (fun _ s₀ => wpAny (model prog w) A (assign target env v) (fun _ s₂ =>
          wpAny (model prog w) A (forIn ifs true fun c r => if r = true then do let ok ← isTrue c env (eval c env); pure (ForInStep.yield ok) else pure (ForInStep.yield r)) (fun ok s₃ =>
            if ok = true then wpAny (model prog w) A (eval elt env) (fun x s₄ =>
              wpAny (model prog w) A (call (.builtin "list.append") [acc, x]) (fun _ s₅ => ∃ m, m < n ∧ I m s₅) E s₄) E s₃
            else ∃ m, m < n ∧ I m s₃) E s₂) E s₀) E s₁) E s)
    (hE : ∀ e s', E e s' → notedBy (model prog w) A env (fun e s' => R (.error e) s') e s')
    (n : Nat) (h : I n s) :
    codeAny (model prog w) A (.compLoop (.ListComp elt [⟨target, iter, ifs, 0⟩] scope pos) 0 it acc env) R s := by
  refine codeAny_loop rfl I (fun n s hI => ?_) n h
  show wpAny _ A ((compTurn (.ListComp elt [⟨target, iter, ifs, 0⟩] scope pos) 0 it acc env).onRaise (fun x => do noteFrame x env; theTreesLotGoes x)) _ _ s
  refine wpAny_noted ?_
  rw [compTurn_list]
  refine wpAny_mono (Q := _) (E := E) ?_ (fun _ _ q => q) hE
  refine wpAny_bind (wpAny_standAt (wpAny_bind (wpAny_mono (turn n s hI) (fun r s₁ h₁ => ?_) fun _ _ h' => h')))
  cases r with
  | none => exact wpAny_pure h₁
  | some v =>
    refine wpAny_bind (wpAny_mono h₁ (fun _ s₀ h₀ => ?_) fun _ _ h' => h')
    refine wpAny_bind (wpAny_mono h₀ (fun _ s₂ h₂ => wpAny_bind (wpAny_mono h₂ (fun ok s₃ h₃ => ?_) fun _ _ h' => h')) fun _ _ h' => h')
    cases ok with
    | false => exact wpAny_pure ⟨rfl, h₃⟩
    | true =>
      exact wpAny_bind (wpAny_bind (wpAny_mono h₃ (fun x s₄ h₄ => wpAny_bind (wpAny_mono h₄ (fun _ s₅ h₅ => wpAny_pure (wpAny_pure ⟨rfl, h₅⟩)) fun _ _ h' => h')) fun _ _ h' => h'))

def compσ (tn : Nat) (ix : List Nat) (σ : St) : St := List.replicate tn none ++ ix.map fun j => (σ[j]?).join
def tComp (wi : TI) (g : TG) (tc : TT) (te : TE) (tn : Nat) (ix : List Nat) : TE := fun σ H Q => wi σ H fun J H1 => ∀ D, H1 D = none →
  ∃ W : Nat → Nat → St → Hp → Prop, (∃ m, W 0 m (compσ tn ix σ) (upd H1 D (.lst []))) ∧ ∀ i m τ H, W i m τ H →
    (J.stop i H ∧ Q (.ref D) H) ∨ (J.go i H ∧ ∃ (N1 : St → V → Hp → Prop) (N2 : St → Hp → Prop),
      (∀ τ2 v H4, N1 τ2 v H4 → ∃ ys m', H4 D = some (.lst ys) ∧ ys.length < sizeLine ∧ m' < m ∧ W (i + 1) m' τ2 (upd H4 D (.lst (ys ++ [v])))) ∧
      (∀ τ2 H3, N2 τ2 H3 → ∃ m', m' < m ∧ W (i + 1) m' τ2 H3) ∧
      ∀ x H', J.yld i H x H' → g x τ H' fun τ2 H2 => tc τ2 H2 fun b H3 => if b = true then te τ2 H3 (N1 τ2) else N2 τ2 H3)

section
variable {X : Cx} {tg iter elt : Expr} {ifs : List Expr} {scope : Scope} {pos : Pos} {wi : TI} {g : TG} {tc : TT} {te : TE} {tn cn : List Str} {ix : List Nat}

structure CompOk (X : Cx) (scope : Scope) (tn cn : List Str) (ix : List Nat) : Prop where
  kind : scope.kind = .function
  nocell : ∀ y ∈ scope.names, y.2 ≠ .cell
  free : ∀ y ∈ scope.names, y.2 = .free → X.env.scope.names.lookup y.1 = some .cell ∨ X.env.scope.names.lookup y.1 = some .free
  names : ∀ y ∈ scope.names, y.2 = .local → scope.names.lookup y.1 = some .local
  len : ix.length = cn.length
  cap : ∀ (k j : Nat), ix[k]? = some j → ∃ y, cn[k]? = some y ∧ X.N[j]? = some y ∧ (X.env.scope.names.lookup y = some .cell ∨ X.env.scope.names.lookup y = some .free) ∧ (y, NameKind.free) ∈ scope.names ∧
    ((relabel scope X.env).names.lookup y = some .cell ∨ (relabel scope X.env).names.lookup y = some .free)
  all : ∀ x, (relabel scope X.env).names.lookup x = some .cell ∨ (relabel scope X.env).names.lookup x = some .free → (x, NameKind.free) ∈ scope.names

theorem comp_cxOk {pins : List (Addr × Obj)} {σ : St} {H : Hp} {s : Shared} {fp : List Addr} {C : Addr} (O : CompOk X scope tn cn ix) (I : Inv X pins σ H s) (hf : ∀ b ∈ fp, FpOk X pins H b) (hfs : ∀ b ∈ fp, b < s.heap.objs.size) (hC : s.heap.objs.size ≤ C) :
    (cxComp X scope C (tn ++ cn) fp s H).Ok := by
  have hcl : ∀ y ∈ scope.names, y.2 = .free → ∃ c, X.env.cells.lookup y.1 = some c := fun y hy hk => I.ok.has y.1 (O.free y hy hk)
  have sub : ∀ x c, (clOf X.env scope.names []).lookup x = some c → X.env.cells.lookup x = some c := fun x c e => clOf_sub hcl (fun y d h => by simp at h) e
  refine ⟨I.ok.mod, O.kind, I.ok.glob, I.ok.blt, hC, fun x y c h1 h2 => I.ok.inj x y c (sub x c h1) (sub y c h2), fun x hx => clOf_some (.inl (O.all x hx)), (fun x c h _ => nomatch h), I.ok.hd, I.ok.frames, .inl rfl, fun b hb => ⟨?_, fun x c e => ?_⟩,
    I.bs, Nat.le_trans I.ok.bsz I.sz, fun b o e hb => ?_, fun b hb => ?_, I.stack, I.stkFree⟩
  · exact Nat.ne_of_lt (Nat.lt_of_lt_of_le (hfs b hb) hC)
  · exact (hf b hb).2.2.2.2.1 x c (sub x c e)
  · rcases (hf b hb).2.2.2.1 with z | z
    · exact I.ok.noex b o e z
    · exact absurd (Nat.lt_of_lt_of_le (Heap.lt_size e) (Nat.le_trans I.ok.bsz z)) (Nat.lt_irrefl _)
  · intro hz
    rcases List.mem_cons.mp (I.stkSub b hz) with e | e
    · exact (hf b hb).2.1 e
    · exact (hf b hb).2.2.1 e

theorem comp_gen {pos1 : Pos} {use : Option (Value → Sem Unit)} {P : Value → Shared → Prop} (hc : X.calm = true) (hi : PI X tg iter wi) (O : CompOk X scope tn cn ix)
    (hg : ∀ C fp s₃ H₃, PG (cxComp X scope C (tn ++ cn) fp s₃ H₃) tg g) (hcs : ∀ C fp s₃ H₃, PTs (cxComp X scope C (tn ++ cn) fp s₃ H₃) ifs tc) (he : ∀ C fp s₃ H₃, PE (cxComp X scope C (tn ++ cn) fp s₃ H₃) elt te)
    (hs : ∀ x, foldedSetIterable iter X.env x = pure x) {pins : List (Addr × Obj)} {s : Shared} {σ : St} {H : Hp} {Q : V → Hp → Prop} (I : Inv X pins σ H s) (h : tComp wi g tc te tn.length ix σ H Q)
    (fin : ∀ (C D : Addr) (m : Str → Option Value) (H5 : Hp) (s6 : Shared) (r : Flow), Inv X pins σ H5 s6 → s6.heap.Ns C m → H5 C = none → FpOk X pins H5 C → Q (.ref D) H5 → compPost (model X.prog X.w) X.A X.xe use P (.ref D) C (.ok r) s6) :
    wpAny (model X.prog X.w) X.A (comprehension (.ListComp elt [⟨tg, iter, ifs, 0⟩] scope pos) scope X.env pos1 (newList []) false (eval iter X.env) use) P X.xe s := by
  have hcl : ∀ y ∈ scope.names, y.2 = .free → ∃ c, X.env.cells.lookup y.1 = some c := fun y hy hk => I.ok.has y.1 (O.free y hy hk)
  have sub : ∀ x c, (clOf X.env scope.names []).lookup x = some c → X.env.cells.lookup x = some c := fun x c e => clOf_sub hcl (fun y d h => by simp at h) e
  refine wpAny_comprehension_free (use := use) rfl hs (closureFor_cl hcl) O.kind O.names (thn (hi pins s σ H _ I h) fun v s1 h1 => thn h1 fun itv s2 h2 => ?_)
  obtain ⟨it, fp, tnn, J, H2, e, I2, T, st2, f2, h2⟩ := h2
  subst e
  obtain ⟨W, ⟨m0, w0⟩, turn⟩ := h2 s2.heap.objs.size (I2.hok.fresh (Nat.le_refl _))
  refine wpAny_newObj_type ?_
  have I3 : Inv X pins σ (upd H2 s2.heap.objs.size (.lst [])) { s2 with heap := s2.heap.push { cls := .type "list", data := .seq ([] : List Value).toArray } } := I2.lnew (its := []) (t' := s2.toks) .nil (Nat.zero_le _)
  generalize hD : s2.heap.objs.size = D at *
  generalize hs3 : ({ s2 with heap := s2.heap.push { cls := .type "list", data := .seq ([] : List Value).toArray } } : Shared) = s3 at *
  have k23 : ∀ b o, s2.heap.get? b = some o → s3.heap.get? b = some o := fun b o e => by rw [← hs3]; exact Heap.get?_push_of_some _ e
  have sz3 : s3.heap.objs.size = D + 1 := by rw [← hs3, ← hD]; exact Heap.size_push ..
  have f3 : ∀ b ∈ fp, FpOk X pins (upd H2 D (.lst [])) b := fun b hb => by
    obtain ⟨f0, fr⟩ := f2 b hb
    obtain ⟨o, ho, _⟩ := T.obj _ _ st2 b hb
    refine ⟨?_, fr⟩
    rw [upd_ne (Nat.ne_of_lt (by rw [← hD]; exact Heap.lt_size ho))]
    exact f0
  have st3 : tnn 0 s3.heap := T.keep _ _ _ st2 fun b hb o e => k23 b o e
  have lt3 : ∀ b ∈ fp, b < s3.heap.objs.size := fun b hb => by
    obtain ⟨o, ho, _⟩ := T.obj _ _ st3 b hb
    exact Heap.lt_size ho
  refine wpAny_newFunctionEnv O.nocell (by intro y hy; simp at hy) (fun h₁ hns₁ hsb₁ => ?_) O.kind
  have k34 : ∀ b o, s3.heap.get? b = some o → h₁.get? b = some o := fun b o e => hsb₁.extBut b o (Nat.ne_of_lt (Heap.lt_size e)) (Heap.get?_push_of_some _ e)
  -- the block's context
  have ok' := comp_cxOk (C := s3.heap.objs.size) O I3 f3 lt3 (Nat.le_refl _)
  have I4 : Inv (cxComp X scope s3.heap.objs.size (tn ++ cn) fp s3 (upd H2 D (.lst []))) [] (compσ tn.length ix σ) (upd H2 D (.lst [])) { s3 with heap := h₁, toks := s3.toks + ([] : List (Str × Value)).length } := by
    refine ⟨ok', rfl, I3.bare, Un.kept k34, ⟨_, hns₁, fun i x v e1 e2 e3 => ?_⟩, fun x c e => ?_, I3.hok.fresh (Nat.le_refl _), fun x c e => I3.freeC x c (sub x c e), fun p hp => absurd hp (by simp [cxComp]), I3.hok.kept k34, ?_⟩
    · have hi' : tn.length ≤ i := by
        by_cases q : i < tn.length
        · unfold compσ at e2
          rw [List.getElem?_append_left (by simpa using q), List.getElem?_replicate] at e2
          simp [q] at e2
        · omega
      unfold compσ at e2
      rw [List.getElem?_append_right (by simpa using hi'), List.length_replicate, List.getElem?_map] at e2
      have e1 : (tn ++ cn)[i]? = some x := e1
      rw [List.getElem?_append_right hi'] at e1
      cases q : ix[i - tn.length]? with
      | none => rw [q] at e2; cases e2
      | some j =>
        rw [q] at e2
        obtain ⟨y, c1, c2, c3, c4, c5⟩ := O.cap _ _ q
        rw [c1] at e1; cases e1
        have e2 : σ[j]?.join = some v := Option.some.inj e2
        have ej : σ[j]? = some (some v) := by
          cases z : σ[j]? with
          | none => rw [z] at e2; cases e2
          | some o => rw [z] at e2; exact congrArg some e2
        obtain ⟨m, hn, hl⟩ := I3.loc
        obtain ⟨u, r, l⟩ := hl j x v c2 ej (c3.elim (fun z => .inr (.inl z)) fun z => .inr (.inr z))
        refine ⟨u, r, .inr ⟨c5, ?_⟩⟩
        rcases l with ⟨hk, _⟩ | ⟨hk, c, hcc, hce⟩
        · have hk : X.env.scope.names.lookup x = some .local := hk
          rcases c3 with z | z
          · rw [z] at hk; cases hk
          · rw [z] at hk; cases hk
        · obtain ⟨c', hc'⟩ := clOf_some (env := X.env) (cs := []) (Or.inl c4)
          have := sub x c' hc'
          rw [hcc] at this; cases this
          obtain ⟨o, ho, hd⟩ := hce
          exact ⟨c, hc', o, k34 _ _ ho, hd⟩
    · obtain ⟨v, o, ho, hd⟩ := I3.cell x c (sub x c e)
      exact ⟨v, o, k34 _ _ ho, hd⟩
    · show (compσ tn.length ix σ).length = (tn ++ cn).length
      unfold compσ
      simp [O.len]
  -- from the block back to the body
  have back : ∀ {τ : St} {H' : Hp} {s' : Shared}, Inv (cxComp X scope s3.heap.objs.size (tn ++ cn) fp s3 (upd H2 D (.lst []))) [] τ H' s' → Inv X pins σ H' s' := fun {τ H' s'} I' =>
    Inv.call' (ch := fp) I3 I'.os I'.base I'.hok I'.bare fun b hb => by
      obtain ⟨_, f1, _, f3', f4, f5⟩ := f3 b hb
      exact ⟨f3', f1, f4, f5⟩
  have fpC : ∀ {H' : Hp}, (∀ b ∈ fp, H' b = none) → ∀ b ∈ fp, FpOk (cxComp X scope s3.heap.objs.size (tn ++ cn) fp s3 (upd H2 D (.lst []))) [] H' b := fun hn b hb =>
    ⟨hn b hb, (ok'.exf b hb).1, ok'.exfs b hb, .inl hb, (ok'.exf b hb).2, fun p hp => absurd hp (by simp [cxComp])⟩
  have loop : ∀ s4 : Shared, Inv (cxComp X scope s3.heap.objs.size (tn ++ cn) fp s3 (upd H2 D (.lst []))) [] (compσ tn.length ix σ) (upd H2 D (.lst [])) s4 → tnn 0 s4.heap →
      codeAny (model X.prog X.w) X.A (.compLoop (.ListComp elt [⟨tg, iter, ifs, 0⟩] scope pos) 0 (.ref it) (.ref D) (compEnvC scope (clOf X.env scope.names []) s3.heap.objs.size X.env))
        (compPost (model X.prog X.w) X.A X.xe use P (.ref D) s3.heap.objs.size) s4 := by
    intro s4 I4 st4
    refine codeAny_compLoop_all (fun n s' => ∃ i τ H', Inv (cxComp X scope s3.heap.objs.size (tn ++ cn) fp s3 (upd H2 D (.lst []))) [] τ H' s' ∧ tnn i s'.heap ∧ (∀ b ∈ fp, H' b = none) ∧ W i n τ H') (fun _ _ => False) ?_ (fun _ _ z => z.elim) m0
      ⟨0, _, _, I4, st4, fun b hb => (f3 b hb).1, w0⟩
    rintro n s5 ⟨i, τ, H5, I5, st5, fr5, w5⟩
    rcases turn i n τ H5 w5 with ⟨stop, qn⟩ | ⟨go, N1, N2, hN1, hN2, step⟩
    · refine thn (T.done (cxComp X scope s3.heap.objs.size (tn ++ cn) fp s3 (upd H2 D (.lst []))) rfl rfl rfl hc i [] s5 τ H5 (fun _ _ => False) I5 (fpC fr5) st5 stop) fun r s6 ⟨hr, I6⟩ => ?_
      subst hr
      have J6 := back I6
      obtain ⟨m, hn, _⟩ := I6.loc
      exact fin _ D m H5 s6 _ J6 hn I6.free (I3.fpOk (b := s3.heap.objs.size) (H' := H5) (Nat.le_refl _) I6.free) qn
    · refine thn (T.item (cxComp X scope s3.heap.objs.size (tn ++ cn) fp s3 (upd H2 D (.lst []))) rfl rfl rfl hc i [] s5 τ H5 (fun _ _ => False) I5 (fpC fr5) st5 go) fun r s6 ⟨u, hr, h6⟩ => ?_
      subst hr
      refine thn h6 fun _ s7 ⟨x, H7, I7, r7, y7, st7, fr7⟩ => ?_
      have I7' := I7.pinned (fpC fr7) (T.obj _ _ st7)
      refine thn (hg _ _ _ _ _ s7 τ H7 x u _ I7' r7 (step x H7 y7)) fun _ s8 ⟨τ8, H8, I8, q8⟩ => ?_
      refine thn (hcs _ _ _ _ _ s8 τ8 H8 _ I8 q8) fun ok s9 ⟨H9, I9, q9⟩ => ?_
      have again : ∀ {s' : Shared} {H' : Hp} {m' : Nat}, Inv (cxComp X scope s3.heap.objs.size (tn ++ cn) fp s3 (upd H2 D (.lst []))) ([] ++ pinsAt fp s7.heap) τ8 H' s' → m' < n → W (i + 1) m' τ8 H' →
          ∃ m, m < n ∧ ∃ i τ H', Inv (cxComp X scope s3.heap.objs.size (tn ++ cn) fp s3 (upd H2 D (.lst []))) [] τ H' s' ∧ tnn i s'.heap ∧ (∀ b ∈ fp, H' b = none) ∧ W i m τ H' := fun {s' H' m'} J hm w' => by
        refine ⟨m', hm, i + 1, τ8, H', J.unpinned, T.keep _ _ _ st7 fun b hb o e => (J.pin (b, o) (List.mem_append_right _ (List.mem_append_right _ (mem_pinsAt hb e)))).1, fun b hb => ?_, w'⟩
        obtain ⟨o, e, d⟩ := T.obj _ _ st7 b hb
        exact (J.pin (b, o) (List.mem_append_right _ (List.mem_append_right _ (mem_pinsAt hb e)))).2.1
      cases ok with
      | false =>
        rw [if_neg Bool.false_ne_true] at q9 ⊢
        obtain ⟨m', hm, w'⟩ := hN2 _ _ q9
        exact again I9 hm w'
      | true =>
        rw [if_pos rfl] at q9 ⊢
        refine thn (he _ _ _ _ _ s9 τ8 H9 _ I9 q9) fun x9 s10 ⟨v10, H10, I10, r10, q10⟩ => ?_
        obtain ⟨ys, m', hH, hz, hm, w'⟩ := hN1 _ _ _ q10
        refine thn (mt_append _ s10 τ8 H10 (.ref D) [v10] (.ref D) [x9] (fun _ H' => H' = upd H10 D (.lst (ys ++ [v10]))) I10 rfl (.cons r10 .nil) ⟨D, ys, v10, rfl, rfl, hH, hz, rfl⟩) fun _ s11 ⟨_, H11, I11, _, q11⟩ => ?_
        subst q11
        exact again I11 hm w'
  exact codeAny_compStart_list (loop _ I4 (T.keep _ _ _ st3 fun b hb o e => k34 b o e)) (T.self _ 0 _ _ _ (T.keep _ _ _ st3 fun b hb o e => k34 b o e) (loop _ I4 (T.keep _ _ _ st3 fun b hb o e => k34 b o e)))
theorem pe_comp (hc : X.calm = true) (hi : PI X tg iter wi) (O : CompOk X scope tn cn ix)
    (hg : ∀ C fp s₃ H₃, PG (cxComp X scope C (tn ++ cn) fp s₃ H₃) tg g) (hcs : ∀ C fp s₃ H₃, PTs (cxComp X scope C (tn ++ cn) fp s₃ H₃) ifs tc) (he : ∀ C fp s₃ H₃, PE (cxComp X scope C (tn ++ cn) fp s₃ H₃) elt te)
    (hs : ∀ x, foldedSetIterable iter X.env x = pure x := by intro _; rfl) : PE X (.ListComp elt [⟨tg, iter, ifs, 0⟩] scope pos) (tComp wi g tc te tn.length ix) := by
  intro pins s σ H Q I h
  rw [eval_ListComp]
  refine comp_gen (use := none) (P := EP X pins σ Q) hc hi O hg hcs he hs I h fun C D m H5 s6 r J6 hn hf ⟨_, g1, _, g3, g4, g5⟩ qn => ⟨m, hn, fun h' hsb => ⟨.ref D, H5, ?_, rfl, qn⟩⟩
  exact J6.turned (t' := s6.toks) (fun b o hb e => hsb.extBut b o hb e) hf g1 g3 g4 g5
end
end L2

set_option Elab.async false
set_option linter.all false
set_option maxRecDepth 100000
set_option maxHeartbeats 4000000

namespace L2
open PySem PySem.Spec PyProof.Rows
section
variable {X : Cx} {tg iter elt : Expr} {ifs : List Expr} {scope : Scope} {pos : Pos} {wi : TI} {g : TG} {tc : TT} {te : TE} {tn cn : List Str} {ix : List Nat}
end
end L2

set_option Elab.async false
set_option linter.all false
set_option maxRecDepth 100000
set_option maxHeartbeats 4000000

namespace L2
open PySem PySem.Spec PyProof.Rows

def isiT (a b : String) : Bool := a == b || (a == "bool" && b == "int")
def okTy (b : String) : Bool := ["str", "int", "bool", "list", "tuple", "dict"].contains b
theorem kit_ok (K : PySem.W.Frag) (a b : String) (ha : a ∈ ["NoneType", "bool", "int", "str", "list", "tuple", "dict"]) (hb : b ∈ ["str", "int", "bool", "list", "tuple", "dict"]) : PySem.W.kitOne K (.type a) (.type b) = some (isiT a b) := by
  simp only [List.mem_cons, List.not_mem_nil, or_false] at ha hb
  rcases ha with rfl | rfl | rfl | rfl | rfl | rfl | rfl <;> rcases hb with rfl | rfl | rfl | rfl | rfl | rfl <;> kernel_rfl
section
variable {X : Cx}
theorem OpR.imp {f : Value → Value → Sem Value} {r r' : R2} (h : OpR X f r) (hi : ∀ x y H Q, r' x y H Q → r x y H Q) : OpR X f r' :=
  fun pins s σ H x y v u Q I rx ry q => h pins s σ H x y v u Q I rx ry (hi x y H Q q)
def rCatL (K : PySem.W.Frag) : R2 := fun x y H Q => ∃ l b xs zs, x = .ref l ∧ y = .ref b ∧ SqL K H l xs ∧ SqL K H b zs ∧ xs.length + zs.length ≤ sizeLine ∧ ∀ p, H p = none → Q (.ref p) (upd H p (.lst (xs ++ zs)))
theorem op_catL : OpR X (binaryOp .Add) (rCatL X.K) := by
  intro pins s σ H x y v u Q I rx ry h
  obtain ⟨l, b, xs, zs, rfl, rfl, hH, hB, hz, q⟩ := h
  cases rx
  cases ry
  obtain ⟨its, r, pl, z⟩ := I.list hH
  obtain ⟨its2, r2, pl2, z2⟩ := I.list hB
  have hl := r.length
  have hl2 := r2.length
  obtain ⟨⟨cls, dd, data, sl⟩, ho, hc, n, hd⟩ := id pl.isList
  obtain ⟨⟨cls2, dd2, data2, sl2⟩, ho2, hc2, n2, hd2⟩ := id pl2.isList
  simp only at hc hd hc2 hd2
  subst hc hd hc2 hd2
  have ea : its.toArray ++ its2.toArray = (its ++ its2).toArray := by simp
  refine concat_meets ⟨_, ho, rfl⟩ ⟨_, ho2, rfl⟩ noFill_list_add seq_list_add PySem.F.slot_list_add PySem.F.entry_list_add (PySem.F.args_list_add_2 _ _) (list_addW l b its.toArray its2.toArray n n2 dd dd2 sl sl2 (by simp only [List.size_toArray]; omega)) ⟨ho, ho2, ?_⟩
  rw [ea]
  exact ⟨.ref _, _, I.lnew (t' := s.toks) (r.append r2) (by rw [List.length_append]; omega), rfl, q _ I.fresh⟩
def rAddU (K : PySem.W.Frag) : R2 := fun x y H Q => match x, y with
  | .int i, .int j => Q (.int (i + j)) H
  | .str i, .str j => i.length + j.length ≤ sizeLine ∧ Q (.str (i ++ j)) H
  | .ref a, .ref b => ∃ xs zs, SqL K H a xs ∧ SqL K H b zs ∧ xs.length + zs.length ≤ sizeLine ∧ ∀ p, H p = none → Q (.ref p) (upd H p (.lst (xs ++ zs)))
  | _, _ => False
theorem op_addU : OpR X (binaryOp .Add) (rAddU X.K) := by
  refine (op_add.or (op_add_str.or op_catL)).imp fun x y H Q h => ?_
  unfold rAddU at h
  split at h
  · exact .inl ⟨_, _, rfl, rfl, h⟩
  · exact .inr (.inl ⟨_, _, rfl, rfl, h.1, h.2⟩)
  · obtain ⟨xs, zs, h1, h2, h3, h4⟩ := h
    exact .inr (.inr ⟨_, _, xs, zs, rfl, rfl, h1, h2, h3, h4⟩)
  · exact h.elim
def rSubU : R2 := fun x y H Q => match x, y with
  | .int i, .int j => Q (.int (i - j)) H
  | _, _ => False
theorem op_subU : OpR X (binaryOp .Sub) rSubU := op_sub.imp fun x y H Q h => by
  unfold rSubU at h
  split at h
  · exact ⟨_, _, rfl, rfl, h⟩
  · exact h.elim
def rMulU : R2 := fun x y H Q => match x, y with
  | .int i, .int j => CMul i j ∧ Q (.int (i * j)) H
  | _, _ => False
theorem op_mulU : OpR X (binaryOp .Mult) rMulU := op_mul.imp fun x y H Q h => by
  unfold rMulU at h
  split at h
  · exact ⟨_, _, rfl, rfl, h.1, h.2⟩
  · exact h.elim
def rDivU : R2 := fun x y H Q => match x, y with
  | .int i, .int j => (0 < j ∧ j < 1073741824) ∧ Q (.int (i / j)) H
  | _, _ => False
theorem op_divU : OpR X (binaryOp .FloorDiv) rDivU := op_fdiv.imp fun x y H Q h => by
  unfold rDivU at h
  split at h
  · exact ⟨_, _, rfl, rfl, h.1, h.2⟩
  · exact h.elim
def rModU : R2 := fun x y H Q => match x, y with
  | .int i, .int j => 0 < j ∧ Q (.int (i % j)) H
  | _, _ => False
theorem op_modU : OpR X (binaryOp .Mod) rModU := op_mod.imp fun x y H Q h => by
  unfold rModU at h
  split at h
  · exact ⟨_, _, rfl, rfl, h.1, h.2⟩
  · exact h.elim
def ltS (x y : Str) : Bool := decide (x.cps.toList < y.cps.toList)
def rLtU : R2 := fun x y H Q => match x, y with
  | .int i, .int j => Q (.bl (decide (i < j))) H
  | .str i, .str j => Q (.bl (ltS i j)) H
  | _, _ => False
theorem op_ltU : OpR X (compareOp .Lt) rLtU := (op_lt.or op_lt_str).imp fun x y H Q h => by
  unfold rLtU at h
  split at h
  · exact .inl ⟨_, _, rfl, rfl, h⟩
  · exact .inr ⟨_, _, rfl, rfl, h⟩
  · exact h.elim
theorem op_le_str : OpR X (compareOp .LtE) (fun x y H Q => ∃ i j, x = .str i ∧ y = .str j ∧ Q (.bl (!ltS j i)) H) := by
  intro pins s σ H x y v u Q I rx ry h
  obtain ⟨i, j, rfl, rfl, q⟩ := h
  obtain ⟨t, rfl⟩ := rx
  obtain ⟨t', rfl⟩ := ry
  exact PySem.P.le_str ⟨.bl _, H, I, rfl, q⟩
def rLeU : R2 := fun x y H Q => match x, y with
  | .int i, .int j => Q (.bl (decide (i ≤ j))) H
  | .str i, .str j => Q (.bl (!ltS j i)) H
  | _, _ => False
theorem op_leU : OpR X (compareOp .LtE) rLeU := (op_le.or op_le_str).imp fun x y H Q h => by
  unfold rLeU at h
  split at h
  · exact .inl ⟨_, _, rfl, rfl, h⟩
  · exact .inr ⟨_, _, rfl, rfl, h⟩
  · exact h.elim
def rGtU : R2 := fun x y H Q => match x, y with
  | .int i, .int j => Q (.bl (decide (j < i))) H
  | _, _ => False
theorem op_gtU : OpR X (compareOp .Gt) rGtU := op_gt.imp fun x y H Q h => by
  unfold rGtU at h
  split at h
  · exact ⟨_, _, rfl, rfl, h⟩
  · exact h.elim
def rLen (K : PySem.W.Frag) : List V → Hp → VK → Prop := fun xs H Q => match xs with
  | [.str y] => y.length ≤ sizeLine ∧ Q (.int y.length) H
  | [.ref p] => (∃ ys, SqL K H p ys ∧ Q (.int ys.length) H) ∨ (∃ ys, SqT K H p ys ∧ Q (.int ys.length) H) ∨ ∃ kvs, H p = some (.dK kvs) ∧ Q (.int kvs.length) H
  | _ => False
theorem call_lenU : CallR X (.builtin "len") (rLen X.K) := by
  intro pins s σ H xs us Q I r h
  unfold rLen at h
  split at h
  · exact call_len pins s σ H _ us Q I r ⟨_, _, rfl, ⟨h.1, rfl⟩, h.2⟩
  · rcases h with ⟨ys, h1, h2⟩ | ⟨ys, h1, h2⟩ | ⟨kvs, h1, h2⟩
    · exact call_len pins s σ H _ us Q I r ⟨_, _, rfl, .inl ⟨ys, h1, rfl⟩, h2⟩
    · exact call_len pins s σ H _ us Q I r ⟨_, _, rfl, .inr ⟨ys, h1, rfl⟩, h2⟩
    · exact call_lenD pins s σ H _ us Q I r ⟨_, kvs, rfl, h1, h2⟩
  · exact h.elim

def rIxU (K : PySem.W.Frag) : R2 := fun x y H Q => match x, y with
  | .ref p, .int i => (∃ xs v, SqL K H p xs ∧ atI xs i = some v ∧ Q v H) ∨ ∃ xs v, SqT K H p xs ∧ atI xs i = some v ∧ Q v H
  | .str z, .int i => z.length ≤ sizeLine ∧ ∃ c, atI z.cps.toList i = some c ∧ Q (.str ⟨#[c]⟩) H
  | _, _ => False
theorem ix_all : IxR X (rIxU X.K) := by
  intro value slice pins s σ H x y v u Q I rx ry h hs
  refine ix_seq value slice pins s σ H x y v u Q I rx ry ?_ hs
  unfold rIxU at h
  split at h
  · rcases h with ⟨xs, w, h1, h2, h3⟩ | ⟨xs, w, h1, h2, h3⟩
    · exact .inl ⟨_, xs, _, w, rfl, rfl, h1, h2, h3⟩
    · exact .inr (.inl ⟨_, xs, _, w, rfl, rfl, h1, h2, h3⟩)
  · obtain ⟨h1, c, h2, h3⟩ := h
    exact .inr (.inr ⟨_, _, c, rfl, rfl, h1, h2, h3⟩)
  · exact h.elim

def cutS (z : Str) (lo hi : Option Int) : Str := ⟨((z.cps.toList.drop (HT.sIx z.length 0 lo)).take (HT.sIx z.length z.length hi - HT.sIx z.length 0 lo)).toArray⟩
end
end L2

namespace L2
open PySem PySem.Spec PyProof.Rows
theorem cut_whole (l : List Nat) (lo hi : Option Int) (h : ((l.drop (HT.sIx l.length 0 lo)).take (HT.sIx l.length l.length hi - HT.sIx l.length 0 lo)).length = l.length) :
    (l.drop (HT.sIx l.length 0 lo)).take (HT.sIx l.length l.length hi - HT.sIx l.length 0 lo) = l := by
  generalize HT.sIx l.length 0 lo = a at *
  generalize HT.sIx l.length l.length hi = b at *
  by_cases hl : l.length = 0
  · have : l = [] := List.length_eq_zero_iff.mp hl
    subst this; simp
  · rw [List.length_take, List.length_drop] at h
    have h1 : a = 0 := by omega
    subst h1
    rw [List.drop_zero]
    exact List.take_of_length_le (by omega)
theorem slice_idx (lo hi : Option Int) (n : Nat) : Builtin.Str.strSliceIndices lo hi 1 n = (List.range (HT.sIx n n hi - HT.sIx n 0 lo)).map (HT.sIx n 0 lo + ·) := by
  unfold Builtin.Str.strSliceIndices
  have e1 : (match lo with | none => (0 : Int) | some i => max 0 (min (if i < 0 then i + n else i) n)) = ((HT.sIx n 0 lo : Nat) : Int) := by
    cases lo with
    | none => simp [HT.sIx]
    | some i =>
      simp only [HT.sIx]
      by_cases h : i < 0
      · simp only [h, if_true] <;> omega
      · simp only [h, if_false] <;> omega
  have e2 : (match hi with | none => (n : Int) | some i => max 0 (min (if i < 0 then i + n else i) n)) = ((HT.sIx n n hi : Nat) : Int) := by
    cases hi with
    | none => simp [HT.sIx]
    | some i =>
      simp only [HT.sIx]
      by_cases h : i < 0
      · simp only [h, if_true] <;> omega
      · simp only [h, if_false] <;> omega
  rw [← sliceRange_one, ← e1, ← e2]
  simp only [show (1 : Int) > 0 by decide, if_true]
  cases lo <;> cases hi <;> rfl
section
variable {X : Cx}
theorem part_of {v : Value} {o : Option Int} (h : IsPart v o) : ∃ p : Option (Int × Tok), v = partValue p ∧ p.map (·.1) = o := by
  cases h with
  | none => exact ⟨none, rfl, rfl⟩
  | int i t => exact ⟨some (i, t), rfl, rfl⟩
def rSlS (K : PySem.W.Frag) : V → Option Int → Option Int → Hp → VK → Prop := fun x lo hi H Q => match x with
  | .str z => z.length ≤ sizeLine ∧ Q (.str (cutS z lo hi)) H
  | .ref a => ∃ xs, SqL K H a xs ∧ ∀ p, H p = none → Q (.ref p) (upd H p (.lst (cutV xs lo hi)))
  | _ => False
theorem sl_str : SlR X (fun x lo hi H Q => ∃ z, x = .str z ∧ z.length ≤ sizeLine ∧ Q (.str (cutS z lo hi)) H) := by
  intro pins s σ H x v vl vu lo hi sl Q I rx hs pl pu h
  obtain ⟨z, rfl, hz, q⟩ := h
  obtain ⟨t, rfl⟩ := rx
  obtain ⟨p1, rfl, e1⟩ := part_of pl
  obtain ⟨p2, rfl, e2⟩ := part_of pu
  refine ⟨"str", _, F.slot_str_getitem.lookup, typeIs_str s z t, wpAny_getItem_str_slice (l := p1) (u := p2) (st := none) hs rfl ?_⟩
  have hl : z.cps.toList.length = z.length := by simp [Str.length]
  have ep : slicePicked z p1 p2 none = (List.range (HT.sIx z.length z.length hi - HT.sIx z.length 0 lo)).map (HT.sIx z.length 0 lo + ·) := by
    unfold slicePicked
    rw [e1, e2]
    exact slice_idx lo hi z.length
  have ef : (slicePicked z p1 p2 none).filterMap (z.cps[·]?) = (z.cps.toList.drop (HT.sIx z.length 0 lo)).take (HT.sIx z.length z.length hi - HT.sIx z.length 0 lo) := by
    rw [ep]; exact pick_run z.cps _ _
  unfold sliceMade
  split
  · rename_i hc
    have hw : (slicePicked z p1 p2 none).length = z.length := by simpa using hc
    have : cutS z lo hi = z := by
      unfold cutS
      have e3 : ((z.cps.toList.drop (HT.sIx z.cps.toList.length 0 lo)).take (HT.sIx z.cps.toList.length z.cps.toList.length hi - HT.sIx z.cps.toList.length 0 lo)).length = z.cps.toList.length := by
        rw [hl, List.length_take, List.length_drop, hl]
        rw [ep, List.length_map, List.length_range] at hw
        have h0 : HT.sIx z.length 0 lo ≤ z.length := by
          cases lo with
          | none => simp [HT.sIx]
          | some i => simp only [HT.sIx]; split <;> omega
        have h1 : HT.sIx z.length z.length hi ≤ z.length := by
          cases hi with
          | none => simp [HT.sIx]
          | some i => simp only [HT.sIx]; split <;> omega
        omega
      have := cut_whole z.cps.toList lo hi e3
      rw [hl] at this
      rw [this]
    rw [this] at q
    exact ⟨.str z, H, I, ⟨t, rfl⟩, q⟩
  · rw [ef]
    exact ⟨by
      show (cutS z lo hi).length ≤ sizeLine
      unfold cutS Str.length
      simp only [List.size_toArray, List.length_take, List.length_drop, hl]
      have : z.cps.toList.length = z.length := hl
      omega, ⟨.str (cutS z lo hi), H, I.tok _, ⟨_, rfl⟩, q⟩⟩
theorem sl_all : SlR X (rSlS X.K) := by
  intro pins s σ H x v vl vu lo hi sl Q I rx hs pl pu h
  unfold rSlS at h
  split at h
  · exact sl_str pins s σ H _ v vl vu lo hi sl Q I rx hs pl pu ⟨_, rfl, h.1, h.2⟩
  · obtain ⟨xs, h1, h2⟩ := h
    exact sl_list pins s σ H _ v vl vu lo hi sl Q I rx hs pl pu ⟨_, xs, rfl, h1, h2⟩
  · exact h.elim

def Its (z : Str) : It := ⟨fun i _ => i < z.cps.size, fun i H x H' => H' = H ∧ ∃ c, z.cps[i]? = some c ∧ x = .str ⟨#[c]⟩, fun i _ => z.cps.size ≤ i⟩
theorem turn_str {P : Program} {w : World} {K : PySem.W.Frag} {tg : Expr} {it : Addr} {z : Str} {t : Tok} {ty : String} (hty : ty = "str_ascii_iterator" ∨ ty = "str_iterator") :
    Turn P w K tg (Its z) [it] it (fun i h => h.IsStrIter it ty z t i ∧ i ≤ z.cps.size) where
  mem := by simp
  obj := fun i h st b hb => by
    have e : b = it := by simpa using hb
    subst e
    obtain ⟨⟨o, e, c, d⟩, _⟩ := st
    exact ⟨o, e, fun v z => by rw [d] at z; cases z⟩
  keep := fun i h h' st k => let ⟨⟨o, e, c, d⟩, l⟩ := st; ⟨⟨o, k it (by simp) o e, c, d⟩, l⟩
  item := by
    intro X hP hw hK hc i pins s σ H E I hf st hg
    subst hP hw hK
    obtain ⟨f0, f1, f2, f3, f4, f5⟩ := hf it (by simp)
    obtain ⟨st, _⟩ := st
    have hg : i < z.cps.size := hg
    have W : Walks X.prog X.w X.A it [it] [it] z.cps.size (SignAt z) (fun i h => h.IsStrIter it ty z t i) := by
      rcases hty with rfl | rfl
      · exact Walks.strAscii (I.ok.hd hc) it z t
      · exact Walks.strWide (I.ok.hd hc) it z t
    refine W.item i s _ _ hg st fun v h' tk hv st' kk => ?_
    obtain ⟨c, u, ec, rfl⟩ := hv
    have I1 : Inv X pins σ H { s with heap := h', toks := tk } := I.turned (fun b o hb e => kk b o (by simpa using hb) e) f0 f1 f3 f4 f5
    obtain ⟨o, e, c', d⟩ := id st'
    exact ⟨_, rfl, go_of (s := { s with heap := h', toks := tk }) e c' d (by rcases hty with rfl | rfl <;> decide) ⟨.str ⟨#[c]⟩, H, I1, ⟨u, rfl⟩, ⟨rfl, c, ec, rfl⟩, ⟨st', hg⟩, fun b hb => (hf b hb).1⟩⟩
  done := by
    intro X hP hw hK hc i pins s σ H E I hf st hg
    subst hP hw hK
    obtain ⟨f0, f1, f2, f3, f4, f5⟩ := hf it (by simp)
    obtain ⟨st, hle⟩ := st
    have hg : z.cps.size ≤ i := hg
    have e : i = z.cps.size := Nat.le_antisymm hle hg
    subst e
    have W : Walks X.prog X.w X.A it [it] [it] z.cps.size (SignAt z) (fun i h => h.IsStrIter it ty z t i) := by
      rcases hty with rfl | rfl
      · exact Walks.strAscii (I.ok.hd hc) it z t
      · exact Walks.strWide (I.ok.hd hc) it z t
    exact W.done s _ _ st fun h' tk kk => ⟨rfl, I.turned (fun b o hb e => kk b o (by simpa using hb) e) f0 f1 f3 f4 f5⟩
  self := fun A i s Q E st h => by
    rcases hty with rfl | rfl
    · exact wpAny_pyIter_striter_ascii st.1 h
    · exact wpAny_pyIter_striter_wide st.1 h
theorem pi_str {tg l : Expr} {tl : TE} (hl : PE X l tl) : PI X tg l (fun σ H R => tl σ H fun x H1 => ∃ z, x = .str z ∧ R (Its z) H1) := by
  intro pins s σ H R I h
  refine thn (hl pins s σ H _ I h) fun v s1 ⟨x, H1, I1, r1, q1⟩ => ?_
  obtain ⟨z, rfl, q⟩ := q1
  obtain ⟨t, rfl⟩ := r1
  have fp : ∀ b ∈ [s1.heap.objs.size], FpOk X pins H1 b := fun b hb => by
    have e : b = s1.heap.objs.size := by simpa using hb
    subst e
    exact I1.fpOk (Nat.le_refl _) (I1.hok.fresh (Nat.le_refl _))
  cases ha : z.cps.all (· < 128)
  · exact wpAny_pyIter_wide ha ⟨s1.heap.objs.size, [s1.heap.objs.size], _, _, H1, rfl, I1.kept (t' := s1.toks) fun b o e => Heap.get?_push_of_some _ e, turn_str (.inr rfl), ⟨⟨_, Heap.get?_push_size _ rfl, rfl, rfl⟩, Nat.zero_le _⟩, fp, q⟩
  · exact wpAny_pyIter_ascii ha ⟨s1.heap.objs.size, [s1.heap.objs.size], _, _, H1, rfl, I1.kept (t' := s1.toks) fun b o e => Heap.get?_push_of_some _ e, turn_str (.inl rfl), ⟨⟨_, Heap.get?_push_size _ rfl, rfl, rfl⟩, Nat.zero_le _⟩, fp, q⟩
end
end L2

set_option Elab.async false
set_option linter.all false
set_option maxRecDepth 100000
set_option maxHeartbeats 4000000

namespace L2
open PySem PySem.Spec PyProof.Rows

structure SeqIt (J : It) (its : List V) (cond : Hp → Prop) : Prop where
  go : ∀ i H, cond H → i < its.length → J.go i H
  yld : ∀ i H x H', cond H → i < its.length → J.yld i H x H' → H' = H ∧ its[i]? = some x
  stop : ∀ H, cond H → J.stop its.length H
def sgnV (z : Str) : List V := z.cps.toList.map fun c => .str ⟨#[c]⟩
theorem seq_str (z : Str) : SeqIt (Its z) (sgnV z) (fun _ => True) where
  go := fun i H _ h => by simpa [sgnV, Its] using h
  yld := fun i H x H' _ _ h => by
    obtain ⟨rfl, c, e, rfl⟩ := h
    refine ⟨rfl, ?_⟩
    unfold sgnV
    rw [List.getElem?_map, Array.getElem?_toList, e]
    rfl
  stop := fun H _ => by simp [sgnV, Its]
theorem seq_list (K : PySem.W.Frag) (a : Addr) (xs : List V) : SeqIt (Itl K a) xs (fun H => SqL K H a xs) where
  go := fun i H h hi => ⟨xs, xs[i], h, by simp [hi]⟩
  yld := fun i H x H' h _ y => ⟨y.1, y.2 xs h⟩
  stop := fun H h => ⟨xs, h, Nat.le_refl _⟩
theorem seq_tup (K : PySem.W.Frag) (a : Addr) (xs : List V) : SeqIt (Itt K a) xs (fun H => SqT K H a xs) where
  go := fun i H h hi => ⟨xs, xs[i], h, by simp [hi]⟩
  yld := fun i H x H' h _ y => ⟨y.1, y.2 xs h⟩
  stop := fun H h => ⟨xs, h, Nat.le_refl _⟩
def intsR (lo : Int) (n : Nat) : List V := (List.range n).map fun i => .int (lo + (i : Nat))
theorem seq_rng (lo : Int) (n : Nat) : SeqIt (Itr lo n) (intsR lo n) (fun _ => True) where
  go := fun i H _ h => by simpa [intsR, Itr] using h
  yld := fun i H x H' _ hi h => by
    have hi : i < n := by simpa [intsR] using hi
    obtain ⟨rfl, rfl⟩ := h
    refine ⟨rfl, ?_⟩
    simp [intsR, hi]
  stop := fun H _ => by simp [intsR, Itr]

def ForW (J : It) (g : TG) (tb : TS) (D : Ends) (σ : St) (H : Hp) : Prop :=
  ∃ W : Nat → Nat → St → Hp → Prop, (∃ m, W 0 m σ H) ∧ ∀ i m σ H, W i m σ H →
      (J.stop i H ∧ D.nx σ H) ∨ (J.go i H ∧ ∃ N : St → Hp → Prop, (∀ σ' H', N σ' H' → ∃ m', m' < m ∧ W (i + 1) m' σ' H') ∧ ∀ x H', J.yld i H x H' → g x σ H' fun σ2 H2 => tb { D with nx := N, ct := N, bk := D.nx } σ2 H2)
theorem tFor_eq (wi : TI) (g : TG) (tb : TS) (D : Ends) (σ : St) (H : Hp) : tFor wi g tb D σ H = wi σ H fun J H1 => ForW J g tb D σ H1 := rfl
def CompW (J : It) (g : TG) (tc : TT) (te : TE) (τ0 : St) (H1 : Hp) (D : Addr) (Q : VK) : Prop :=
  ∃ W : Nat → Nat → St → Hp → Prop, (∃ m, W 0 m τ0 (upd H1 D (.lst []))) ∧ ∀ i m τ H, W i m τ H →
    (J.stop i H ∧ Q (.ref D) H) ∨ (J.go i H ∧ ∃ (N1 : St → V → Hp → Prop) (N2 : St → Hp → Prop),
      (∀ τ2 v H4, N1 τ2 v H4 → ∃ ys m', H4 D = some (.lst ys) ∧ ys.length < sizeLine ∧ m' < m ∧ W (i + 1) m' τ2 (upd H4 D (.lst (ys ++ [v])))) ∧
      (∀ τ2 H3, N2 τ2 H3 → ∃ m', m' < m ∧ W (i + 1) m' τ2 H3) ∧
      ∀ x H', J.yld i H x H' → g x τ H' fun τ2 H2 => tc τ2 H2 fun b H3 => if b = true then te τ2 H3 (N1 τ2) else N2 τ2 H3)
theorem tComp_eq (wi : TI) (g : TG) (tc : TT) (te : TE) (tn : Nat) (ix : List Nat) (σ : St) (H : Hp) (Q : VK) : tComp wi g tc te tn ix σ H Q = wi σ H fun J H1 => ∀ D, H1 D = none → CompW J g tc te (compσ tn ix σ) H1 D Q := rfl
mutual
inductive Rep (K : PySem.W.Frag) (H : Hp) : PyData → V → Prop
  | none : Rep K H .none .non
  | bool (b : Bool) : Rep K H (.bool b) (.bl b)
  | int (i : Int) : Rep K H (.int i) (.int i)
  | str (x : Str) : Rep K H (.str x) (.str x)
  | list {a : Addr} {vs : List V} {ds : List PyData} : SqL K H a vs → Reps K H ds vs → Rep K H (.list ds) (.ref a)
  | tuple {a : Addr} {vs : List V} {ds : List PyData} : SqT K H a vs → Reps K H ds vs → Rep K H (.tuple ds) (.ref a)
inductive Reps (K : PySem.W.Frag) (H : Hp) : List PyData → List V → Prop
  | nil : Reps K H [] []
  | cons {d : PyData} {v : V} {ds : List PyData} {vs : List V} : Rep K H d v → Reps K H ds vs → Reps K H (d :: ds) (v :: vs)
end
section
variable {X : Cx} {pins : List (Addr × Obj)} {σ : St} {H : Hp} {s : Shared}
mutual
theorem Rep.reads (I : Inv X pins σ H s) : ∀ {d : PyData} {v : V} {u : Value}, Rep X.K H d v → RelV v u → ∃ as, Reads s.heap u d as
  | _, _, _, .none, r => by cases (show _ = Value.none from r); exact ⟨_, .none⟩
  | _, _, _, .bool b, r => by cases (show _ = Value.bool b from r); exact ⟨_, .bool b⟩
  | _, _, _, .int i, r => by obtain ⟨t, e⟩ := r; subst e; exact ⟨_, .int i t⟩
  | _, _, _, .str x, r => by obtain ⟨t, e⟩ := r; subst e; exact ⟨_, .str x t⟩
  | _, _, _, .list h hs, r => by
    cases r
    obtain ⟨its, rv, pl, _⟩ := I.list h
    obtain ⟨o, e, c, n, d⟩ := pl.isList
    obtain ⟨as, q⟩ := Reps.reads I hs rv
    exact ⟨_, .list e c d q⟩
  | _, _, _, .tuple h hs, r => by
    cases r
    obtain ⟨its, rv, ⟨o, e, c, n, d⟩, _⟩ := I.tuple h
    obtain ⟨as, q⟩ := Reps.reads I hs rv
    exact ⟨_, .tuple e c d q⟩
theorem Reps.reads (I : Inv X pins σ H s) : ∀ {ds : List PyData} {vs : List V} {us : List Value}, Reps X.K H ds vs → Vals vs us → ∃ as, ReadsAll s.heap us ds as
  | _, _, _, .nil, .nil => ⟨_, .nil⟩
  | _, _, _, .cons h hs, .cons r rs => by
    obtain ⟨as, q⟩ := Rep.reads I h r
    obtain ⟨bs, q'⟩ := Reps.reads I hs rs
    exact ⟨_, .cons q q'⟩
end
def rEqD (K : PySem.W.Frag) : R2 := fun x y H Q => ∃ d e, Rep K H d x ∧ Rep K H e y ∧ d.canLay0 = true ∧ e.canLay0 = true ∧ d.depth ≤ 60 ∧ Q (.bl (PyData.eqv d e)) H
def rNeD (K : PySem.W.Frag) : R2 := fun x y H Q => ∃ d e, Rep K H d x ∧ Rep K H e y ∧ d.canLay0 = true ∧ e.canLay0 = true ∧ d.depth ≤ 60 ∧ Q (.bl (!PyData.eqv d e)) H
theorem op_eqD (hu : X.A.units + 64 < cLine) : OpR X (compareOp .Eq) (rEqD X.K) := by
  intro pins s σ H x y v u Q I rx ry h
  obtain ⟨d, e, h1, h2, h3, h4, h5, q⟩ := h
  obtain ⟨as, r1⟩ := h1.reads I rx
  obtain ⟨bs, r2⟩ := h2.reads I ry
  exact PySem.SeqAt.rcAt_reads r1 r2 h3 h4 (by omega) X.prog X.w X.xe _ ⟨.bl _, H, I, rfl, q⟩
theorem op_neD (hu : X.A.units + 64 < cLine) : OpR X (compareOp .NotEq) (rNeD X.K) := by
  intro pins s σ H x y v u Q I rx ry h
  obtain ⟨d, e, h1, h2, h3, h4, h5, q⟩ := h
  obtain ⟨as, r1⟩ := h1.reads I rx
  obtain ⟨bs, r2⟩ := h2.reads I ry
  exact PySem.SeqAt.rcNeAt_reads r1 r2 h3 h4 (by omega) X.prog X.w X.xe _ ⟨.bl _, H, I, rfl, q⟩
def rEqU (K : PySem.W.Frag) : R2 := fun x y H Q => match x, y with
  | .int i, .int j => Q (.bl (decide (i = j))) H
  | .str i, .str j => Q (.bl (decide (i = j))) H
  | .bl i, .bl j => Q (.bl (decide (i = j))) H
  | _, _ => rEqD K x y H Q
theorem op_eqU (hu : X.A.units + 64 < cLine) : OpR X (compareOp .Eq) (rEqU X.K) := (op_eq.or (op_eqD hu)).imp fun x y H Q h => by
  unfold rEqU at h
  split at h
  · refine .inl ⟨rfl, ?_⟩; simpa using h
  · refine .inl ⟨rfl, ?_⟩; simpa using h
  · refine .inl ⟨rfl, ?_⟩; simpa using h
  · exact .inr h
def rNeU (K : PySem.W.Frag) : R2 := fun x y H Q => match x, y with
  | .int i, .int j => Q (.bl (!decide (i = j))) H
  | .str i, .str j => Q (.bl (!decide (i = j))) H
  | .bl i, .bl j => Q (.bl (!decide (i = j))) H
  | _, _ => rNeD K x y H Q
theorem op_neU (hu : X.A.units + 64 < cLine) : OpR X (compareOp .NotEq) (rNeU X.K) := (op_ne.or (op_neD hu)).imp fun x y H Q h => by
  unfold rNeU at h
  split at h
  · refine .inl ⟨rfl, ?_⟩; simpa using h
  · refine .inl ⟨rfl, ?_⟩; simpa using h
  · refine .inl ⟨rfl, ?_⟩; simpa using h
  · exact .inr h

def rAll (K : PySem.W.Frag) : List V → Hp → VK → Prop := fun xs H Q => match xs with
  | [.ref a] => ∃ bs : List Bool, SqL K H a (bs.map V.bl) ∧ Q (.bl (bs.all id)) H
  | _ => False
theorem call_allU (hc : X.calm = true) : CallR X (.builtin "all") (rAll X.K) := by
  intro pins s σ H xs us Q I r h
  unfold rAll at h
  split at h
  · rename_i a
    obtain ⟨bs, e, q⟩ := h
    obtain ⟨u, rfl, ru⟩ := Vals.one r
    cases ru
    obtain ⟨its, rv, pl, hz⟩ := I.list e
    have hl : s.heap.IsList a its.toArray := pl.isList
    obtain ⟨o, ho, hoc, n, hod⟩ := id hl
    have hlen := rv.length
    rw [List.length_map] at hlen
    refine call_all_walk (wpAny_pyIter_list hl ?_)
    have hne : a ≠ s.heap.objs.size := Nat.ne_of_lt (Heap.lt_size ho)
    have hhd : X.A.in1.handled = none := I.ok.hd hc
    refine ⟨s.heap.objs.size, _, _, _, _, _, fun i => bs.getD i true, rfl, Walks.list hhd s.heap.objs.size a hne its.toArray, ⟨⟨_, Heap.get?_push_size _ rfl, rfl, rfl⟩, ⟨_, Heap.get?_push_of_some _ ho, hoc, n, hod⟩⟩, ?_, fun h' tk hk => ?_⟩
    · intro i v s' Q' E' hv hq
      have hv : its.toArray[i]? = some v := hv
      have hv' : its[i]? = some v := by simpa using hv
      have hi : i < bs.length := by
        have := (List.getElem?_eq_some_iff.mp hv').1
        omega
      obtain ⟨w', e1, r1⟩ := rv.get (i := i) (x := V.bl bs[i]) (by simp [hi])
      rw [hv'] at e1
      cases e1
      cases (show v = Value.bool bs[i] from r1)
      have e2 : bs.getD i true = bs[i] := by simp [List.getD, hi]
      have hq : Q' (bs.getD i true) s' := hq
      rw [e2] at hq
      exact wpAny_truthy_bool hq
    · have e3 : ((List.range its.toArray.size).all fun i => bs.getD i true) = bs.all id := by
        rw [List.size_toArray, ← hlen]
        apply Bool.eq_iff_iff.mpr
        simp only [List.all_eq_true, List.mem_range, id]
        constructor
        · intro h b hb
          obtain ⟨i, hi, rfl⟩ := List.mem_iff_getElem.mp hb
          have := h i hi
          simpa [List.getD, hi] using this
        · intro h i hi
          have := h bs[i] (List.getElem_mem hi)
          simpa [List.getD, hi] using this
      rw [e3]
      refine ⟨.bl (bs.all id), H, ?_, rfl, q⟩
      exact I.kept (t' := tk) fun b o e => hk b o (by simp; exact Nat.ne_of_lt (Heap.lt_size e)) (Heap.get?_push_of_some _ e)
  · exact h.elim
end
end L2

set_option Elab.async false
set_option linter.all false
set_option maxRecDepth 100000
set_option maxHeartbeats 4000000

namespace L2
open PySem PySem.Spec PyProof.Rows
section
variable {X : Cx} {pins : List (Addr × Obj)} {σ : St} {H : Hp} {s : Shared} {h' : Heap}
theorem Inv.turnN {t' : Nat} {fp : List Addr} (I : Inv X pins σ H s) (hf : ∀ b ∈ fp, FpOk X pins H b) (k : ∀ b o, b ∉ fp → s.heap.get? b = some o → h'.get? b = some o) : Inv X pins σ H { s with heap := h', toks := t' } := by
  have nit : ∀ b u, H b = some u → b ∉ fp := fun b u e z => by rw [(hf b z).1] at e; cases e
  refine I.step (g' := s.gens) (d' := s.drawn) (ch := fp) (fun b hb => ?_) (fun b o _ _ hc e _ => k b o hc e) (fun b o _ _ hc e _ => ⟨o.slots, k b o hc e⟩) (fun _ _ _ _ n => n)
    (fun b o hc e => ⟨o, k b o hc e⟩) (fun _ _ e => e) (fun _ _ _ e => e) (fun b ps e => ⟨#[], by rw [e]; simp⟩) (fun m hm => ?_) (fun b u e => ?_) I.bare
  · obtain ⟨f0, f1, f2, f3, f4, f5⟩ := hf b hb
    exact ⟨f3, f1, f4, f5⟩
  · obtain ⟨o, es, ep, ho, r⟩ := hm
    exact ⟨o, es, ep, k _ o (fun z => (hf _ z).2.1 rfl) ho, r⟩
  · refine (I.hok b u e).stay (fun c v hc q => k c v ?_ q) (fun _ q => q) fun _ _ q => q
    rcases hc with z | z
    · rw [z]; exact nit b u e
    · exact nit c _ z
theorem Inv.turnT {t' : Nat} {fp : List Addr} {p : Addr} {xs : List V} (I : Inv X pins σ H s) (hf : ∀ b ∈ fp, FpOk X pins H b) (k : ∀ b o, b ∉ fp → s.heap.get? b = some o → h'.get? b = some o) (hp : s.heap.objs.size ≤ p)
    (new : ObjOk X.prog X.w (upd H p (.tup xs)) h' p (.tup xs)) : Inv X pins σ (upd H p (.tup xs)) { s with heap := h', toks := t' } := by
  have hn := I.hok.fresh hp
  have nit : ∀ b u, H b = some u → b ∉ fp := fun b u e z => by rw [(hf b z).1] at e; cases e
  have lt : ∀ b o, s.heap.get? b = some o → b ≠ p := fun b o e => Nat.ne_of_lt (Nat.lt_of_lt_of_le (Heap.lt_size e) hp)
  refine I.step (g' := s.gens) (d' := s.drawn) (ch := fp) (fun b hb => ?_) (fun b o _ _ hc e _ => k b o hc e) (fun b o _ _ hc e _ => ⟨o.slots, k b o hc e⟩) (fun b o _ e n => by rw [upd_ne (lt b o e)]; exact n)
    (fun b o hc e => ⟨o, k b o hc e⟩) (fun _ _ e => by rw [upd_ne (ne_of_none e hn)]; exact e) (fun _ _ _ e => by rw [upd_ne (ne_of_none e hn)]; exact e) (fun b ps e => ⟨#[], by rw [upd_ne (ne_of_none e hn), e]; simp⟩) (fun m hm => ?_) (fun b u e => ?_) I.bare
  · obtain ⟨f0, f1, f2, f3, f4, f5⟩ := hf b hb
    exact ⟨f3, f1, f4, f5⟩
  · obtain ⟨o, es, ep, ho, r⟩ := hm
    exact ⟨o, es, ep, k _ o (fun z => (hf _ z).2.1 rfl) ho, r⟩
  · by_cases hb : b = p
    · subst hb; rw [upd_same] at e; cases e; exact new
    · rw [upd_ne hb] at e
      refine (I.hok b u e).stay (fun c v hc q => k c v ?_ q) (fun c q => by rw [upd_ne (ne_of_none q hn)]; exact q) fun c xs q => by rw [upd_ne (ne_of_none q hn)]; exact q
      rcases hc with z | z
      · rw [z]; exact nit b u e
      · exact nit c _ z
end
def Ite (K : PySem.W.Frag) (a : Addr) : It :=
  ⟨fun i H => ∃ xs x, SqL K H a xs ∧ xs[i]? = some x, fun i H x H' => ∃ p v, x = .ref p ∧ H p = none ∧ H' = upd H p (.tup [.int i, v]) ∧ ∀ xs, SqL K H a xs → xs[i]? = some v, fun i H => ∃ xs, SqL K H a xs ∧ xs.length ≤ i⟩
theorem two_le : (2 : Nat) ≤ sizeLine := by rw [sizeLine_eq]; decide
theorem turn_enum {P : Program} {w : World} {K : PySem.W.Frag} {elts : List Expr} {k : Nat} {pos : Pos} (a e it : Addr) (hei : e ≠ it) : Turn P w K (.Tuple elts k pos) (Ite K a) [e, it] e (fun i h => (∃ old, IsEnum h e it i old) ∧ h.IsListIter it a i) where
  mem := by simp
  obj := fun i h ⟨⟨old, he⟩, st⟩ b hb => by
    rcases List.mem_cons.mp hb with rfl | hb
    · exact ⟨_, he, fun v z => nomatch z⟩
    · have e : b = it := by simpa using hb
      subst e
      obtain ⟨o, e, c, d⟩ := st
      exact ⟨o, e, fun v z => by rw [d] at z; cases z⟩
  keep := fun i h h' ⟨⟨old, he⟩, st⟩ k => ⟨⟨old, k e (by simp) _ he⟩, st.at fun o e => k it (by simp) o e⟩
  item := by
    intro X hP hw hK hc i pins s σ H E I hf st hg
    subst hP hw hK
    obtain ⟨xs, x, hq, hx⟩ := hg
    obtain ⟨its, rv, p, hz⟩ := I.list hq
    obtain ⟨u, hu, ru⟩ := rv.get hx
    obtain ⟨⟨old, he⟩, hit⟩ := st
    refine wpAny_pyNext_enum_item he hit p.isList (x := u) (by simpa using hu) hei fun h1 ho hit1 hT hsz hk => ⟨_, rfl, ?_⟩
    refine wpAny_letOwnedTupleGo_enum (s := { s with heap := h1, toks := s.toks + 1 }) ho fun h2 he2 hs2 => ?_
    have ke : ∀ b o, b ∉ [e, it] → s.heap.get? b = some o → h2.get? b = some o := fun b o hb q => (hs2.2 b fun z => hb (by simp [z])).trans (hk b o (fun z => hb (by simp [z])) (fun z => hb (by simp [z])) q)
    have hlt : e < s.heap.objs.size := Heap.lt_size he
    have hT2 : h2.get? s.heap.objs.size = some { cls := .type "tuple", data := .seq #[.int i s.toks, u] } := (hs2.2 _ (Nat.ne_of_gt hlt)).trans hT
    have I1 : Inv X pins σ (upd H s.heap.objs.size (.tup [.int i, x])) { s with heap := h2, toks := s.toks + 1 } :=
      I.turnT hf ke (Nat.le_refl _) ⟨two_le, [.int i s.toks, u], .cons ⟨s.toks, rfl⟩ (.cons ru .nil), _, hT2, rfl, _, rfl⟩
    refine ⟨.ref s.heap.objs.size, _, I1, rfl, ⟨_, x, rfl, I.fresh, rfl, fun ys hy => by rw [I.list_inj hy hq]; exact hx⟩, ⟨⟨u, by simpa using he2⟩, hit1.at fun o q => (hs2.2 it hei.symm).trans q⟩, fun b hb => ?_⟩
    rw [upd_ne]
    · exact (hf b hb).1
    · rcases List.mem_cons.mp hb with rfl | hb
      · exact Nat.ne_of_lt hlt
      · have e : b = it := by simpa using hb
        subst e
        obtain ⟨o, q, _⟩ := hit
        exact Nat.ne_of_lt (Heap.lt_size q)
  done := by
    intro X hP hw hK hc i pins s σ H E I hf st hg
    subst hP hw hK
    obtain ⟨xs, hq, hx⟩ := hg
    obtain ⟨its, rv, p, hz⟩ := I.list hq
    obtain ⟨⟨old, he⟩, hit⟩ := st
    have hl := rv.length
    exact wpAny_pyNext_enum_end (I.ok.hd hc) he hit p.isList (by simp; omega) fun h' eb => ⟨rfl, I.turnN (t' := s.toks) hf fun b o hb q => eb b o (fun z => hb (by simp [z])) q⟩
  self := fun _ _ _ _ _ ⟨⟨old, he⟩, _⟩ h => wpAny_pyIter_enum he h
def Itz (K : PySem.W.Frag) (a b : Addr) : It :=
  ⟨fun i H => ∃ xs ys x y, SqL K H a xs ∧ SqL K H b ys ∧ xs[i]? = some x ∧ ys[i]? = some y, fun i H x H' => ∃ p u v, x = .ref p ∧ H p = none ∧ H' = upd H p (.tup [u, v]) ∧ (∀ xs, SqL K H a xs → xs[i]? = some u) ∧ ∀ ys, SqL K H b ys → ys[i]? = some v,
   fun i H => ∃ xs ys, SqL K H a xs ∧ SqL K H b ys ∧ (xs.length ≤ i ∨ ys.length ≤ i)⟩
theorem two_in {n b : Nat} (h : b ∈ [n + 1, n]) : n ≤ b := by simp at h; omega
section
variable {X : Cx}
def iEnum (K : PySem.W.Frag) (ta : TA) : TI := fun σ H R => ta σ H fun vs H1 => ∃ a, vs = [.ref a] ∧ (∃ xs, SqL K H1 a xs) ∧ R (Ite K a) H1
theorem pi_enum {elts : List Expr} {k : Nat} {tp : Pos} {a : Expr} {ta : TA} {p pos : Pos} (hg : Gl X "enumerate") (hm : X.mg "enumerate" = none) (ha : PA X [a] ta) (hs : starEach [a] X.env = [(false, eval a X.env)] := by rfl) :
    PI X (.Tuple elts k tp) (.Call (.Name "enumerate" p) [a] [] pos) (iEnum X.K ta) := by
  intro pins s σ H R I h
  refine Call_ (ld_blt I hg hm boot_enumerate (PyProof.Rows.callWith_type1 (thn (ha pos pins s σ H _ I h) fun us s1 ⟨vs, H1, I1, r1, q1⟩ => ?_) hs rfl))
  obtain ⟨l, e, ⟨xs, hq⟩, q⟩ := q1
  subst e
  cases r1 with
  | cons r rr =>
    cases rr
    cases r
    obtain ⟨its, rv, pl, hz⟩ := I1.list hq
    refine call_enumerate_list pl.isList fun h2 he hit hsz hk => ?_
    refine wpAny_pyIter_enum (s := { s1 with heap := h2 }) he ?_
    refine ⟨s1.heap.objs.size + 1, [s1.heap.objs.size + 1, s1.heap.objs.size], _, _, H1, rfl, I1.kept (t' := s1.toks) hk, turn_enum l _ _ (Nat.succ_ne_self _), ⟨⟨_, he⟩, hit⟩, fun b hb => ?_, q⟩
    have e : s1.heap.objs.size ≤ b := two_in hb
    exact I1.fpOk e (I1.hok.fresh e)
end
end L2

set_option Elab.async false
set_option linter.all false
set_option maxRecDepth 100000
set_option maxHeartbeats 4000000

namespace L2
open PySem PySem.Spec PyProof.Rows

def rlN (sc : Scope) (names : List (Str × NameKind)) : List (Str × NameKind) := names.map fun y => if (y.2 == NameKind.free && sc.kind == .function && sc.names.lookup y.1 == some .cell) = true then (y.1, NameKind.cell) else (y.1, y.2)
def vis2 (o : Option NameKind) : Bool := o == some .cell || o == some .free
def compB (sc scope : Scope) (N cn : List Str) (ix : List Nat) : Bool :=
  scope.kind == .function && scope.names.all (fun y => y.2 != .cell) && scope.names.all (fun y => y.2 != .free || vis2 (sc.names.lookup y.1)) && scope.names.all (fun y => y.2 != .local || scope.names.lookup y.1 == some .local) &&
  ix.length == cn.length && (List.range ix.length).all (fun k => match ix[k]?, cn[k]? with
    | some j, some y => N[j]? == some y && vis2 (sc.names.lookup y) && scope.names.contains (y, NameKind.free) && vis2 ((rlN sc scope.names).lookup y)
    | _, _ => false) &&
  (rlN sc scope.names).all (fun y => !(y.2 == .cell || y.2 == .free) || scope.names.contains (y.1, NameKind.free))
theorem vis2_or {o : Option NameKind} (h : vis2 o = true) : o = some .cell ∨ o = some .free := by
  unfold vis2 at h
  simpa using h
theorem CompOk.of {X : Cx} {sc scope : Scope} {N tn cn : List Str} {ix : List Nat} (hsc : X.env.scope = sc) (hN : X.N = N) (h : compB sc scope N cn ix = true) : CompOk X scope tn cn ix := by
  unfold compB at h
  simp only [Bool.and_eq_true] at h
  obtain ⟨⟨⟨⟨⟨⟨h1, h2⟩, h3⟩, h4⟩, h5⟩, h6⟩, h7⟩ := h
  rw [List.all_eq_true] at h2 h3 h4 h6 h7
  have erl : (relabel scope X.env).names = rlN sc scope.names := by
    unfold relabel rlN
    rw [← hsc]
    rfl
  refine ⟨by simpa using h1, fun y hy => by simpa using h2 y hy, fun y hy hk => ?_, fun y hy hk => ?_, by simpa using h5, fun k j hk => ?_, fun x hx => ?_⟩
  · have := h3 y hy
    rw [hk] at this
    rw [hsc]
    exact vis2_or (by simpa using this)
  · have := h4 y hy
    rw [hk] at this
    simpa using this
  · have hk' : k < ix.length := (List.getElem?_eq_some_iff.mp hk).1
    have := h6 k (List.mem_range.mpr hk')
    rw [hk] at this
    cases e : cn[k]? with
    | none => rw [e] at this; cases this
    | some y =>
      rw [e] at this
      simp only [Bool.and_eq_true] at this
      obtain ⟨⟨⟨a1, a2⟩, a3⟩, a4⟩ := this
      refine ⟨y, rfl, by rw [hN]; simpa using a1, by rw [hsc]; exact vis2_or a2, by simpa using a3, by rw [erl]; exact vis2_or a4⟩
  · rw [erl] at hx
    have mem : ∃ k, (x, k) ∈ rlN sc scope.names ∧ (k = .cell ∨ k = .free) := by
      rcases hx with hx | hx
      · exact ⟨_, PySem.mem_of_lookup hx, .inl rfl⟩
      · exact ⟨_, PySem.mem_of_lookup hx, .inr rfl⟩
    obtain ⟨k, hm, hk⟩ := mem
    have := h7 _ hm
    rcases hk with rfl | rfl <;> simpa using this

structure Cal (P : Program) (w : World) (K : PySem.W.Frag) (mg : Str → Option Value) (base : Heap) (k : Nat) (x : Str) (ps : List Str) (sp : Sp) : Prop where
  ex : ∃ (g : Addr) (fd : FuncData), mg x = some (.ref g) ∧ PySem.W.keepIn K (.ref g) = true ∧ Binds K fd ps [] ∧ FnOk P w K mg base CX0 k g fd ps sp
section
variable {X : Cx} {k : Nat} {x : Str} {ps : List Str} {sp : Sp} {p pos : Pos} {e : Expr} {es : List Expr} {t : TA}
theorem pe_own (C : Cal X.prog X.w X.K X.mg X.base k x ps sp) (hr : Room k X.A) (ha : PA X (e :: es) t) (hg : Gl X x := by rfl) (hdb : (x == ("__debug__" : Str)) = false := by decide) (he : starEach (e :: es) X.env = (false, eval e X.env) :: starEach es X.env := by rfl)
    (hpl : (backTo pos (starEach es X.env)).any (·.1) = false := by rfl) : PE X (.Call (.Name x p) (e :: es) [] pos) (tCall sp [] E0 t) := by
  obtain ⟨g, fd, hm, hk, hb, F⟩ := C.ex
  exact pe_call F hr hg hm hk hb .nil pass0 ha hdb he hpl
end
theorem Fun.cal {P : Program} {w : World} {K : PySem.W.Frag} {mg : Str → Option Value} {base : Heap} {k : Nat} {x qual : Str} {st : Stmt} {f : Addr} {fd : FuncData} {ps : List Str} {sp : Sp} (F : Fun K x qual st f fd) (hm : mg x = some (.ref f))
    (G : FnOk P w K mg base CX0 k f fd ps sp)
    (h : ∀ (kV doc pm : Value) (an : Option Addr) (cdv ct : Value) (us : List Value), us.length = ps.length → bindArgs (PySem.W.fnOf x qual (defArgs st) (defBody st) (defScope st) .none kV doc pm an cdv ct) ⟨us, []⟩ = pure (ps.zip us)) : Cal P w K mg base k x ps sp :=
  ⟨f, fd, hm, F.kp, F.binds h, G⟩
def GlS (mg : Str → Option Value) (x : Str) (z : Str) : Prop := ∃ t, mg x = some (.str z t)
def GlI (mg : Str → Option Value) (x : Str) (i : Int) : Prop := ∃ t, mg x = some (.int i t)
theorem pe_gs {X : Cx} {x z : Str} {pos : Pos} (h : GlS X.mg x z) (hg : Gl X x := by rfl) (hd : (x == ("__debug__" : Str)) = false := by decide) : PE X (.Name x pos) (tC (.str z)) := by
  obtain ⟨t, e⟩ := h
  exact pe_glob hg e ⟨t, rfl⟩ hd
theorem pe_gi {X : Cx} {x : Str} {i : Int} {pos : Pos} (h : GlI X.mg x i) (hg : Gl X x := by rfl) (hd : (x == ("__debug__" : Str)) = false := by decide) : PE X (.Name x pos) (tC (.int i)) := by
  obtain ⟨t, e⟩ := h
  exact pe_glob hg e ⟨t, rfl⟩ hd
theorem kb_str : bootBuiltins "str" = some (.type "str") := by decide +kernel
theorem kb_int : bootBuiltins "int" = some (.type "int") := by decide +kernel
theorem kb_bool : bootBuiltins "bool" = some (.type "bool") := by decide +kernel
theorem kb_list : bootBuiltins "list" = some (.type "list") := by decide +kernel
theorem kb_tuple : bootBuiltins "tuple" = some (.type "tuple") := by decide +kernel
theorem kb_isinstance : bootBuiltins "isinstance" = some (.builtin "isinstance") := by decide +kernel
theorem kb_all : bootBuiltins "all" = some (.builtin "all") := by decide +kernel
theorem kb_len : bootBuiltins "len" = some (.builtin "len") := by decide +kernel
theorem pe_ty {X : Cx} {x : Str} {T : String} {pos : Pos} (hm : X.mg x = none) (hv : bootBuiltins x = some (.type T)) (hg : Gl X x := by rfl) (hn : x ≠ "__name__" := by decide) (hd : (x == ("__debug__" : Str)) = false := by decide) : PE X (.Name x pos) (tC (.ty T)) :=
  pe_bltn hg hm hv rfl hn hd

def inS (i j : Str) : Bool := !(Builtin.Str.occurrences j i 0 j.length 1).isEmpty
theorem inS_one (c : Nat) (j : Str) : inS ⟨#[c]⟩ j = decide (c ∈ j.cps.toList) := PySem.StrLaws.found_one j c
def rInU (K : PySem.W.Frag) (neg : Bool) : R2 := fun x y H Q => match x, y with
  | .str i, .str j => Q (.bl (if neg then !inS i j else inS i j)) H
  | _, .ref p => (∃ o, DGet H p x o ∧ Q (.bl (if neg then !o.isSome else o.isSome)) H) ∨ rIn K neg x y H Q
  | _, _ => False
theorem op_inU {X : Cx} (hu : X.A.units + 64 < cLine) : OpR X (compareOp .In) (rInU X.K false) := by
  intro pins s σ H x y v u Q I rx ry h
  unfold rInU at h
  split at h
  · exact op_in_str pins s σ H _ _ v u Q I rx ry ⟨_, _, rfl, rfl, h⟩
  · rcases h with ⟨o, g, q⟩ | h
    · cases ry
      exact d_in (by omega) I g rx fun s3 I3 => ⟨.bl o.isSome, H, I3, rfl, q⟩
    · exact op_in_seq pins s σ H _ _ v u Q I rx ry h
  · exact h.elim
theorem Same.upd {H H' : Hp} {p : Addr} {o : HO} (h : Same H H') (hp : H' p = none) : Same H (upd H' p o) := fun b u e => by
  have e' := h b u e
  rw [upd_ne (ne_of_none e' hp)]
  exact e'
theorem Same.lst {K : PySem.W.Frag} {H H' : Hp} {a : Addr} {xs : List V} (e : Same H H') (h : SqL K H a xs) : SqL K H' a xs := e.seq h
theorem Same.tup {K : PySem.W.Frag} {H H' : Hp} {a : Addr} {xs : List V} (e : Same H H') (h : SqT K H a xs) : SqT K H' a xs := by
  rcases h with (h | ⟨o, h⟩) | h
  · exact .inl (.inl (e _ _ h))
  · exact .inl (.inr ⟨o, e _ _ h⟩)
  · exact .inr h
mutual
theorem Rep.same {K : PySem.W.Frag} {H H' : Hp} (s : Same H H') : ∀ {d : PyData} {v : V}, Rep K H d v → Rep K H' d v
  | _, _, .none => .none
  | _, _, .bool b => .bool b
  | _, _, .int i => .int i
  | _, _, .str x => .str x
  | _, _, .list h hs => .list (s.lst h) (Reps.same s hs)
  | _, _, .tuple h hs => .tuple (s.tup h) (Reps.same s hs)
theorem Reps.same {K : PySem.W.Frag} {H H' : Hp} (s : Same H H') : ∀ {ds : List PyData} {vs : List V}, Reps K H ds vs → Reps K H' ds vs
  | _, _, .nil => .nil
  | _, _, .cons h hs => .cons (Rep.same s h) (Reps.same s hs)
end
theorem SqL.new {K : PySem.W.Frag} {H : Hp} {p : Addr} {xs : List V} : SqL K (upd H p (.lst xs)) p xs := .inl (.inl upd_same)
theorem SqT.new {K : PySem.W.Frag} {H : Hp} {p : Addr} {xs : List V} : SqT K (upd H p (.tup xs)) p xs := .inl (.inl upd_same)
section
variable {X : Cx} {K : PySem.W.Frag}
theorem kEq (hu : X.A.units + 64 < cLine) (hK : X.K = K := by rfl) : OpR X (compareOp .Eq) (rEqU K) := by subst hK; exact op_eqU hu
theorem kNe (hu : X.A.units + 64 < cLine) (hK : X.K = K := by rfl) : OpR X (compareOp .NotEq) (rNeU K) := by subst hK; exact op_neU hu
theorem kIn (hu : X.A.units + 64 < cLine) (hK : X.K = K := by rfl) : OpR X (compareOp .In) (rInU K false) := by subst hK; exact op_inU hu
theorem kAll (hc : X.calm = true := by rfl) (hK : X.K = K := by rfl) : CallR X (.builtin "all") (rAll K) := by subst hK; exact call_allU hc
variable {tg l : Expr} {tl : TE}
end

theorem ex_eq {α : Type} {a : α} {p : α → Prop} : (∃ v, a = v ∧ p v) ↔ p a := ⟨fun ⟨_, e, h⟩ => e ▸ h, fun h => ⟨a, rfl, h⟩⟩
end L2

set_option Elab.async false
set_option linter.all false
set_option maxRecDepth 100000
set_option maxHeartbeats 4000000

namespace L2
open PySem PySem.Spec PyProof.Rows

abbrev Ents := Array DictEntry
def RawD (h : Heap) (d : Addr) (es : Ents) (ep : Nat) : Prop := ∃ o, h.get? d = some o ∧ o.ExactDict ∧ o.data = .dict es ep
theorem RawD.typ {s : Shared} {d : Addr} {es : Ents} {ep : Nat} (x : RawD s.heap d es ep) : s.TypeIs (.ref d) "dict" := let ⟨o, e, c, _⟩ := x; ⟨o, e, c.1⟩
section
variable {prog : Program} {w : World} {A : Around} {E : Value → Shared → Prop} {s : Shared} {d it : Addr} {es : Ents} {ep i : Nat}
theorem raw_iter {Q : Value → Shared → Prop} (lo : (d == sysModules) = false) (x : RawD s.heap d es ep)
    (q : Q (.ref s.heap.objs.size) { s with heap := s.heap.push { cls := .type "dict_keyiterator", data := .fields #[.ref d, .int 0 0, .int es.size 0, .int ep 0] } }) : wpAny (model prog w) A (pyIter (.ref d)) Q E s := by
  obtain ⟨o, ho, hc, hdat⟩ := id x
  refine wpAny_pyIter_slot x.typ F.slot_dict_iter (wpAny_call_entry F.slot_dict_iter x.typ F.entry_dict_iter ?_ (F.args_dict_iter_1 _))
  unfold Builtin.«dict.__iter__»
  refine wpAny_bind ?_
  unfold Builtin.Dict.dictSlotNone
  refine wpAny_bind (wpAny_notOrdered_dict x.typ ?_)
  refine (show wpAny _ _ (pure (Value.ref d)) _ _ s from wpAny_pure ?_)
  refine (show wpAny _ _ (Builtin.Dict.showsAll d >>= _) _ _ s from ?_)
  unfold Builtin.Dict.showsAll
  rw [if_neg (by rw [lo]; decide)]
  refine wpAny_bind (wpAny_pure (wpAny_bind (wpAny_dictEntries ho hdat (wpAny_bind (wpAny_dictEpoch ho hdat (wpAny_bind (wpAny_newObj_type (wpAny_pure ⟨_, rfl, "dict_keyiterator", _, ⟨_, Heap.get?_push_size _ rfl, rfl⟩, F.slot_dict_keyiterator_next.lookup, ?_⟩))))))))
  simpa [rawInt] using q
theorem raw_item {Q : Option Value → Shared → Prop} (hit : s.heap.IsKeyIter it d i es.size ep) (x : RawD s.heap d es ep) (hx : i < es.size)
    (q : ∀ h', h'.IsKeyIter it d (i + 1) es.size ep → Heap.SameBut it s.heap h' → Q (some es[i].key) { s with heap := h' }) : wpAny (model prog w) A (pyNext (.ref it)) Q E s := by
  obtain ⟨o, ho, hc, hd⟩ := id hit
  obtain ⟨od, hod, hcd, hdd⟩ := id x
  have ty := hit.typeIs
  unfold pyNext
  refine wpAny_bind (wpAny_attempt (wpAny_callSpecial?_slot (name := Str.ofString "__next__") ty F.slot_dict_keyiterator_next (wpAny_call_entry F.slot_dict_keyiterator_next ty F.entry_dict_keyiterator_next ?_ (F.args_dict_keyiterator_next_1 _))))
  refine wpAny_bind (wpAny_pure (wpAny_bind (wpAny_bind ?_)))
  first | refine wpAny_bind (wpAny_typeNameOfWhole_keyiter ty (wpAny_pure ?_)) | refine wpAny_bind (wpAny_typeNameOf_keyiter ty (wpAny_pure ?_))
  refine wpAny_bind (wpAny_fieldsOf ho hd ?_)
  simp only [show Builtin.Dict_items.ownsTuple "dict_keyiterator" = false by decide, Bool.false_eq_true, if_false]
  refine (show wpAny _ _ (if (Value.ref d == Value.none) = true then _ else _) _ _ s from ?_)
  rw [if_neg (show ¬ ((Value.ref d == Value.none) = true) by intro h; cases h)]
  refine wpAny_bind (wpAny_pure (wpAny_bind (wpAny_dictEntries hod hdd ?_)))
  rw [if_neg (by intro h; simp at h)]
  refine wpAny_bind (wpAny_pure (wpAny_bind (wpAny_dictEpoch hod hdd ?_)))
  rw [if_neg (by intro h; simp at h)]
  refine wpAny_pure ?_
  simp only [show ¬ ((i : Int) < 0) by omega, if_false, Int.toNat_natCast, Array.getElem?_eq_getElem hx]
  refine wpAny_bind ?_
  first | refine wpAny_bind (wpAny_typeNameOfWhole_keyiter ty (wpAny_pure ?_)) | refine wpAny_bind (wpAny_typeNameOf_keyiter ty (wpAny_pure ?_))
  refine wpAny_bind (wpAny_isOneOf_keyiter ty ?_)
  refine (show wpAny _ _ (setField (.ref it) 1 (rawInt ((i : Int) + 1)) >>= _) _ _ s from wpAny_bind (wpAny_setField ho hd (by simp) ?_))
  have hit' : (s.heap.update it (Obj.mapFields (·.setIfInBounds 1 (rawInt ((i : Int) + 1))))).IsKeyIter it d (i + 1) es.size ep :=
    ⟨_, Heap.get?_update_self _ ho (Obj.isFreed_of_fields (Obj.data_mapFields hd _)), (Obj.cls_mapFields ..).trans hc, by rw [Obj.data_mapFields hd]; simp [rawInt]⟩
  refine wpAny_bind (wpAny_holding (wpAny_bind (wpAny_isOneOf_keyiter (s := { s with heap := s.heap.update it (Obj.mapFields (·.setIfInBounds 1 (rawInt ((i : Int) + 1)))) }) hit'.typeIs ?_)))
  refine (show wpAny _ _ (pure es[i].key) _ _ _ from wpAny_pure (wpAny_pure ⟨_, rfl, wpAny_pure (q _ hit' (Heap.SameBut.update ..))⟩))
theorem raw_done {Q : Option Value → Shared → Prop} (hh : A.handled = none) (hit : s.heap.IsKeyIter it d es.size es.size ep) (x : RawD s.heap d es ep) (q : ∀ h', Heap.ExtBut it s.heap h' → Q none { s with heap := h' }) :
    wpAny (model prog w) A (pyNext (.ref it)) Q E s := by
  obtain ⟨o, ho, hc, hd⟩ := id hit
  obtain ⟨od, hod, hcd, hdd⟩ := id x
  have ty := hit.typeIs
  unfold pyNext
  refine wpAny_bind (wpAny_attempt (wpAny_callSpecial?_slot (name := Str.ofString "__next__") ty F.slot_dict_keyiterator_next (wpAny_call_entry F.slot_dict_keyiterator_next ty F.entry_dict_keyiterator_next ?_ (F.args_dict_keyiterator_next_1 _))))
  refine wpAny_bind (wpAny_pure (wpAny_bind (wpAny_bind ?_)))
  first | refine wpAny_bind (wpAny_typeNameOfWhole_keyiter ty (wpAny_pure ?_)) | refine wpAny_bind (wpAny_typeNameOf_keyiter ty (wpAny_pure ?_))
  refine wpAny_bind (wpAny_fieldsOf ho hd ?_)
  simp only [show Builtin.Dict_items.ownsTuple "dict_keyiterator" = false by decide, Bool.false_eq_true, if_false]
  refine (show wpAny _ _ (if (Value.ref d == Value.none) = true then _ else _) _ _ s from ?_)
  rw [if_neg (show ¬ ((Value.ref d == Value.none) = true) by intro h; cases h)]
  refine wpAny_bind (wpAny_pure (wpAny_bind (wpAny_dictEntries hod hdd ?_)))
  rw [if_neg (by intro h; simp at h)]
  refine wpAny_bind (wpAny_pure (wpAny_bind (wpAny_dictEpoch hod hdd ?_)))
  rw [if_neg (by intro h; simp at h)]
  refine wpAny_pure ?_
  simp only [show ¬ ((es.size : Int) < 0) by omega, if_false, Int.toNat_natCast, Array.getElem?_eq_none (Nat.le_refl es.size)]
  refine wpAny_bind ?_
  first | refine wpAny_bind (wpAny_typeNameOfWhole_keyiter ty (wpAny_pure ?_)) | refine wpAny_bind (wpAny_typeNameOf_keyiter ty (wpAny_pure ?_))
  refine (show wpAny _ _ (setField (.ref it) 0 .none >>= _) _ _ s from wpAny_bind (wpAny_setField ho hd (by simp) ?_))
  refine (show wpAny _ _ (newExc (.type "StopIteration") [] >>= _) _ _ _ from wpAny_bind ?_)
  simp only [newExc, newTuple]
  refine wpAny_bind (wpAny_newObj_type ?_ (by size_fits))
  refine wpAny_bind (m := firstArgMember _ _) (wpAny_of_eq (a := Value.none) (by first | rfl | (simp only [firstArgMember]; rfl)) (wpAny_newObj_type ?_ (by size_fits)))
  simp only [raiseNew]
  refine wpAny_bind (wpAny_handled ?_)
  rw [show A.in1.handled = none from hh]
  refine wpAny_bind (wpAny_pure (wpAny_throw ?_))
  refine wpAny_bind (wpAny_isInstance (b := true) (T := "StopIteration") ⟨_, Heap.get?_push_size _ rfl, rfl⟩ isSubtype_stop ?_)
  exact wpAny_pure (q _ (((Heap.SameBut.update ..).extBut.push _).push _))
theorem RawD.at {h h' : Heap} (x : RawD h d es ep) (e : ∀ o, h.get? d = some o → h'.get? d = some o) : RawD h' d es ep := let ⟨o, ho, r⟩ := x; ⟨o, e o ho, r⟩
theorem RawD.lt {h : Heap} (x : RawD h d es ep) : d < h.objs.size := let ⟨_, e, _⟩ := x; Heap.lt_size e
theorem raw_walks (hh : A.handled = none) (I : Addr) (hne : d ≠ I) : Walks prog w A I [I, d] [I] es.size (fun i v => ∃ e, es[i]? = some e ∧ v = e.key) (fun i h => h.IsKeyIter I d i es.size ep ∧ RawD h d es ep) where
  sub := fun b hb => by simp at hb; simp [hb]
  frame := fun _ _ _ st hk => ⟨st.1.at fun o e => hk I (by simp) o e, st.2.at fun o e => hk d (by simp) o e⟩
  item := fun i s Q E hi st hQ => raw_item st.1 st.2 hi fun h' a b => hQ _ h' s.toks ⟨es[i], by simp [hi], rfl⟩ ⟨a, st.2.at fun o e => b.extBut d o hne e⟩ fun c o hb e => b.extBut c o (fun h => hb (by simp [h])) e
  done := fun s Q E st hQ => raw_done hh st.1 st.2 fun h' he' => hQ h' s.toks fun b o hb e => he' b o (fun h => hb (by simp [h])) e
  self := fun _ _ _ _ st hQ => wpAny_pyIter_keyiter st.1 hQ
theorem raw_src (lo : (d == sysModules) = false) : PySem.W.KdlSrc prog w "dict" d d es.size (fun i v => ∃ e, es[i]? = some e ∧ v = e.key) (fun h => RawD h d es ep) where
  type := fun _ x => x.typ
  there := fun _ x => ⟨x.lt, x.lt⟩
  keep := fun _ _ x hk => x.at fun o e => hk d (.inl rfl) o e
  notList := by decide
  notTuple := by decide
  hint := fun _ _ _ _ x hq => PySem.W.kdl_hint_dict x.typ hq
  iter := fun _ _ hh x => ⟨_, _, (fun _ _ hq => raw_iter lo x hq), raw_walks hh _ (Nat.ne_of_lt x.lt), ⟨⟨_, Heap.get?_push_size _ rfl, rfl, rfl⟩, x.at fun o e => Heap.get?_push_of_some _ e⟩⟩
end

def TupsAt (H : Hp) (ys : List V) (ks : List (List Key)) : Prop := Paired (fun (v : V) (k : List Key) => ∃ b, v = .ref b ∧ H b = some (.tup (k.map kV))) ys ks
section
variable {X : Cx}
def rListD : List V → Hp → VK → Prop := fun xs H Q => match xs with
  | [.ref p] => ∃ kvs, H p = some (.dT kvs) ∧ ∀ ys l, TupsAt H ys (kvs.map (·.1)) → H l = none → Q (.ref l) (upd H l (.lst ys))
  | _ => False
theorem tups_of {prog : Program} {w : World} {H : Hp} : ∀ {kvs : List (List Key × V)} {xs : List (List Key × Addr × Value)},
    Paired (fun (p : List Key × V) (q : List Key × Addr × Value) => p.1 = q.1 ∧ H q.2.1 = some (.tup (p.1.map kV)) ∧ RelV p.2 q.2.2) kvs xs →
    TupsAt H (xs.map fun q => .ref q.2.1) (kvs.map (·.1)) ∧ Vals (xs.map fun q => .ref q.2.1) ((xs.map (entryOfKey (tupleKind (mixKind prog w)))).map (·.key))
  | _, _, .nil => ⟨.nil, .nil⟩
  | _, _, .cons r t => by
    obtain ⟨a, b⟩ := tups_of (prog := prog) (w := w) t
    exact ⟨.cons ⟨_, rfl, r.2.1⟩ a, .cons rfl b⟩
theorem call_listD (hc : X.calm = true) : CallR X (.type "list") rListD := by
  intro pins s σ H xs us Q I r h
  unfold rListD at h
  split at h
  · rename_i p
    obtain ⟨kvs, e, q⟩ := h
    obtain ⟨u, rfl, ru⟩ := Vals.one r
    cases ru
    obtain ⟨z, y, ps, rel, o, es, ep, h1, h2, h3, h4, h5⟩ := (show ObjOk X.prog X.w H s.heap p (.dT kvs) from I.hok p _ e)
    obtain ⟨ta, va⟩ := tups_of (prog := X.prog) (w := X.w) rel
    have hlen : es.size = kvs.length := by
      have := congrArg List.length h4
      rw [Array.length_toList, List.length_map] at this
      rw [this]; exact rel.length.symm
    refine PySem.W.kdl_call (raw_src (es := es) (ep := ep) y) (I.ok.hd hc) ⟨o, h1, h2, h3⟩ (by omega) fun h' tk acc c kp eo hacc => ?_
    have hv : acc.toList = (ps.map (entryOfKey (tupleKind (mixKind X.prog X.w)))).map (·.key) := by
      apply List.ext_getElem?
      intro i
      by_cases hi : i < es.size
      · have hi2 : i < acc.size := by rw [hacc.1]; exact hi
        obtain ⟨en, e1, e2⟩ := hacc.2 i acc[i] (by simp [hi2])
        rw [← h4, List.getElem?_map, Array.getElem?_toList, Array.getElem?_toList, e1]
        simp [hi2, e2]
      · rw [← h4, List.getElem?_map, Array.getElem?_toList, Array.getElem?_toList, Array.getElem?_eq_none (by rw [hacc.1]; omega), Array.getElem?_eq_none (by omega)]
        rfl
    refine ⟨.ref s.heap.objs.size, _, I.laid (t' := tk) kp (Nat.le_refl _) (show ObjOk X.prog X.w _ h' _ (.lst (ps.map fun q => .ref q.2.1)) from ⟨?_, acc.toList, c, ?_, ?_⟩), rfl, q _ _ ta (I.hok.fresh (Nat.le_refl _))⟩
    · rw [List.length_map, ← rel.length]; exact z
    · rw [hv]; exact va
    · rw [Array.toArray_toList]; exact eo
  · exact h.elim
end
end L2

set_option Elab.async false
set_option linter.all false
set_option maxRecDepth 100000
set_option maxHeartbeats 4000000
namespace Tim
open PySem PyProof.Rows

def R (r : Value → Int) (xs : Array Keyed) (i : Nat) : Int := match xs[i]? with
  | some p => r p.1
  | none => 0
theorem R_congr {r : Value → Int} {xs ys : Array Keyed} {i j : Nat} (h : xs[i]? = ys[j]?) : R r xs i = R r ys j := by unfold R; rw [h]
def AllP (P : Value → Prop) (xs : Array Keyed) : Prop := ∀ p ∈ xs.toList, P p.1
theorem AllP.perm {P : Value → Prop} {xs ys : Array Keyed} (h : AllP P xs) (hp : ys.Perm xs) : AllP P ys := fun p hm => h p ((Array.perm_iff_toList_perm.mp hp).mem_iff.mp hm)
theorem AllP.at {P : Value → Prop} {xs : Array Keyed} (h : AllP P xs) {i : Nat} {p : Keyed} (e : xs[i]? = some p) : P p.1 := h p (by
  obtain ⟨hi, rfl⟩ := Array.getElem?_eq_some_iff.mp e
  simp)
structure Win (lo hi : Nat) (st st' : SortSt) : Prop where
  kind : kindOf st' = kindOf st
  failed : failedOf st' = failedOf st
  pend : pendingOf st' = pendingOf st
  perm : (arrOf st').Perm (arrOf st)
  out : ∀ k, k < lo ∨ hi ≤ k → (arrOf st')[k]? = (arrOf st)[k]?
theorem Win.refl (lo hi : Nat) (st : SortSt) : Win lo hi st st := ⟨rfl, rfl, rfl, Array.Perm.refl _, fun _ _ => rfl⟩
theorem Win.trans {lo hi : Nat} {a b c : SortSt} (h : Win lo hi a b) (g : Win lo hi b c) : Win lo hi a c :=
  ⟨g.kind.trans h.kind, g.failed.trans h.failed, g.pend.trans h.pend, g.perm.trans h.perm, fun k hk => (g.out k hk).trans (h.out k hk)⟩
theorem Win.mono {lo hi lo' hi' : Nat} {a b : SortSt} (h : Win lo hi a b) (h1 : lo' ≤ lo) (h2 : hi ≤ hi') : Win lo' hi' a b :=
  ⟨h.kind, h.failed, h.pend, h.perm, fun k hk => h.out k (by omega)⟩
theorem Win.size {lo hi : Nat} {a b : SortSt} (h : Win lo hi a b) : (arrOf b).size = (arrOf a).size := h.perm.size_eq
def Up (r : Value → Int) (xs : Array Keyed) (lo hi : Nat) : Prop := ∀ i j, lo ≤ i → i ≤ j → j < hi → R r xs i ≤ R r xs j
section
variable {prog : Program} {w : World} {A : Around} {E : Value → Shared → Prop} {s : Shared} {κ : SortKind} {r : Value → Int} {P : Value → Prop}

end

section
variable {prog : Program} {w : World} {A : Around} {E : Value → Shared → Prop} {s : Shared} {κ : SortKind} {r : Value → Int} {P : Value → Prop}

end
end Tim

set_option Elab.async false
set_option linter.all false
set_option maxRecDepth 100000
set_option maxHeartbeats 4000000
namespace Tim
open PySem PyProof.Rows

section
variable {prog : Program} {w : World} {A : Around} {E : Value → Shared → Prop} {s : Shared} {κ : SortKind} {r : Value → Int} {P : Value → Prop}
end
end Tim

set_option Elab.async false
set_option linter.all false
set_option maxRecDepth 100000
set_option maxHeartbeats 4000000
namespace Tim
open PySem PyProof.Rows

abbrev Le (r : Value → Int) (x y : Keyed) : Prop := r x.1 ≤ r y.1
structure MI (r : Value → Int) (a b out : Array Keyed) (ia ib : Nat) : Prop where
  ha : ia ≤ a.size
  hb : ib ≤ b.size
  perm : out.toList.Perm (a.toList.take ia ++ b.toList.take ib)
  up : out.toList.Pairwise (Le r)
  la : ∀ x ∈ out.toList, ∀ i, ia ≤ i → i < a.size → r x.1 ≤ R r a i
  lb : ∀ x ∈ out.toList, ∀ j, ib ≤ j → j < b.size → r x.1 ≤ R r b j
section
variable {r : Value → Int} {a b out : Array Keyed} {ia ib : Nat}
def Merged (r : Value → Int) (a b out : Array Keyed) : Prop := out.toList.Perm (a.toList ++ b.toList) ∧ out.toList.Pairwise (Le r)
theorem MI.whole (M : MI r a b out a.size b.size) : Merged r a b out := by
  refine ⟨?_, M.up⟩
  have h := M.perm
  rw [List.take_of_length_le (by simp), List.take_of_length_le (by simp)] at h
  exact h
theorem MI.start (hA : Up r a 0 a.size) (hB : Up r b 0 b.size) : MI r a b #[] 0 0 := ⟨Nat.zero_le _, Nat.zero_le _, by simp, by simp, fun x hx => by simp at hx, fun x hx => by simp at hx⟩
end

def Mg (st st' : SortSt) : Prop := ∃ g, st' = SortSt.mk' (kindOf st) (arrOf st) (pendingOf st) g (failedOf st)
theorem Mg.refl (st : SortSt) : Mg st st := ⟨gallopOf st, rfl⟩
theorem Mg.kind {st st' : SortSt} (h : Mg st st') : kindOf st' = kindOf st := by obtain ⟨g, rfl⟩ := h; rfl
theorem Mg.set {st st' : SortSt} (h : Mg st st') (g : Nat) : Mg st (SortSt.mk' (kindOf st') (arrOf st') (pendingOf st') g (failedOf st')) := by obtain ⟨g', rfl⟩ := h; exact ⟨g, rfl⟩

section
variable {prog : Program} {w : World} {A : Around} {E : Value → Shared → Prop} {s : Shared} {κ : SortKind} {r : Value → Int} {P : Value → Prop}
end
end Tim

set_option Elab.async false
set_option linter.all false
set_option maxRecDepth 100000
set_option maxHeartbeats 4000000
namespace Tim
open PySem PyProof.Rows

abbrev Ge (r : Value → Int) (x y : Keyed) : Prop := r y.1 ≤ r x.1
structure MH (r : Value → Int) (a b out : Array Keyed) (na nb : Nat) : Prop where
  ha : na ≤ a.size
  hb : nb ≤ b.size
  perm : out.toList.Perm (a.toList.drop na ++ b.toList.drop nb)
  down : out.toList.Pairwise (Ge r)
  ga : ∀ x ∈ out.toList, ∀ i, i < na → R r a i ≤ r x.1
  gb : ∀ x ∈ out.toList, ∀ j, j < nb → R r b j ≤ r x.1
section
variable {r : Value → Int} {a b out : Array Keyed} {na nb : Nat}
theorem MH.whole (M : MH r a b out 0 0) : Merged r a b out.reverse := by
  refine ⟨?_, ?_⟩
  · have h := M.perm
    rw [List.drop_zero, List.drop_zero] at h
    rw [Array.toList_reverse]
    exact (List.reverse_perm _).trans h
  · rw [Array.toList_reverse, List.pairwise_reverse]
    exact M.down
theorem MH.start : MH r a b #[] a.size b.size := ⟨Nat.le_refl _, Nat.le_refl _, by simp, by simp, fun x hx => by simp at hx, fun x hx => by simp at hx⟩
end

section
variable {prog : Program} {w : World} {A : Around} {E : Value → Shared → Prop} {s : Shared} {κ : SortKind} {r : Value → Int} {P : Value → Prop}
end
end Tim

set_option Elab.async false
set_option linter.all false
set_option maxRecDepth 100000
set_option maxHeartbeats 4000000
namespace Tim
open PySem PyProof.Rows

def wr (p : Nat) (m : List Keyed) (n : Nat) (xs : Array Keyed) : Array Keyed := (m.zipIdx n).foldl (fun a (q : Keyed × Nat) => a.setIfInBounds (p + q.2) q.1) xs
def Runs (r : Value → Int) (xs : Array Keyed) : List (Nat × Nat × Nat) → Nat → Nat → Prop
  | [], a, b => a = b
  | (s, n, _) :: rest, a, b => s = a ∧ 1 ≤ n ∧ Up r xs s (s + n) ∧ Runs r xs rest (s + n) b
section
variable {r : Value → Int} {xs ys : Array Keyed}
theorem Runs.le : ∀ {ps : List (Nat × Nat × Nat)} {a b : Nat}, Runs r xs ps a b → a + ps.length ≤ b
  | [], a, b, h => by simp only [Runs] at h; simp; omega
  | (s, n, p) :: rest, a, b, h => by
    obtain ⟨rfl, h1, _, h3⟩ := h
    have := Runs.le h3
    simp only [List.length_cons]; omega
theorem Runs.append : ∀ {ps qs : List (Nat × Nat × Nat)} {a b : Nat}, Runs r xs (ps ++ qs) a b ↔ ∃ c, Runs r xs ps a c ∧ Runs r xs qs c b
  | [], qs, a, b => by simp [Runs]
  | (s, n, p) :: rest, qs, a, b => by
    simp only [List.cons_append, Runs]
    constructor
    · rintro ⟨h1, h2, h3, h4⟩
      obtain ⟨c, h5, h6⟩ := Runs.append.mp h4
      exact ⟨c, ⟨h1, h2, h3, h5⟩, h6⟩
    · rintro ⟨c, ⟨h1, h2, h3, h5⟩, h6⟩
      exact ⟨h1, h2, h3, Runs.append.mpr ⟨c, h5, h6⟩⟩
theorem Up.congr {a b : Nat} (h : Up r xs a b) (e : ∀ k, a ≤ k → k < b → ys[k]? = xs[k]?) : Up r ys a b := fun i j h1 h2 h3 => by
  rw [R_congr (e i h1 (by omega)), R_congr (e j (by omega) h3)]; exact h i j h1 h2 h3
theorem Runs.congr : ∀ {ps : List (Nat × Nat × Nat)} {a b : Nat}, Runs r xs ps a b → (∀ k, a ≤ k → k < b → ys[k]? = xs[k]?) → Runs r ys ps a b
  | [], a, b, h, _ => h
  | (s, n, p) :: rest, a, b, h, e => by
    obtain ⟨rfl, h1, h2, h3⟩ := h
    have l := h3.le
    exact ⟨rfl, h1, h2.congr fun k u v => e k u (by omega), Runs.congr h3 fun k u v => e k (by omega) v⟩
end
end Tim

set_option Elab.async false
set_option linter.all false
set_option maxRecDepth 100000
set_option maxHeartbeats 4000000
namespace Tim
open PySem PyProof.Rows
section
variable {prog : Program} {w : World} {A : Around} {E : Value → Shared → Prop} {s : Shared} {κ : SortKind} {r : Value → Int} {P : Value → Prop}

structure St (r : Value → Int) (κ : SortKind) (a₀ : Array Keyed) (st : SortSt) (ps : List (Nat × Nat × Nat)) (lo : Nat) : Prop where
  kind : kindOf st = κ
  failed : failedOf st = none
  perm : (arrOf st).Perm a₀
  pend : pendingOf st = ps.toArray
  runs : Runs r (arrOf st) ps 0 lo
theorem St.size {a₀ : Array Keyed} {st : SortSt} {ps : List (Nat × Nat × Nat)} {lo : Nat} (h : St r κ a₀ st ps lo) : (arrOf st).size = a₀.size := h.perm.size_eq

end
end Tim

set_option Elab.async false
set_option linter.all false
set_option maxRecDepth 100000
set_option maxHeartbeats 4000000
namespace Tim
open PySem PyProof.Rows
section
variable {prog : Program} {w : World} {A : Around} {E : Value → Shared → Prop} {s : Shared} {κ : SortKind} {r : Value → Int} {P : Value → Prop}

end
end Tim

set_option Elab.async false
set_option linter.all false
set_option maxRecDepth 100000
set_option maxHeartbeats 4000000
namespace Tim
open PySem PyProof.Rows
section
variable {prog : Program} {w : World} {A : Around} {E : Value → Shared → Prop} {s : Shared} {κ : SortKind} {r : Value → Int} {P : Value → Prop}

end
end Tim

set_option Elab.async false
set_option linter.all false
set_option maxRecDepth 100000
set_option maxHeartbeats 4000000

namespace L2
open PySem PySem.Spec PyProof.Rows

def lt1 : Key → Key → Bool
  | .inl i, .inl j => decide (i < j)
  | .inr x, .inr y => ltS x y
  | _, _ => false
def ltK : List Key → List Key → Bool
  | a :: as, b :: bs => if a = b then ltK as bs else lt1 a b
  | _, _ => false
def isI : Key → Bool
  | .inl _ => true
  | .inr _ => false
def shOf (k : List Key) : List Bool := k.map isI
theorem str_ext {x y : Str} (h : x.cps.toList = y.cps.toList) : x = y := by
  cases x; cases y
  simp only at h
  rw [Array.toList_inj.mp h]
def unV : V → Option Key
  | .int i => some (.inl i)
  | .str x => some (.inr x)
  | _ => none
theorem un_kV (k : Key) : unV (kV k) = some k := by cases k <;> rfl
theorem un_map : ∀ k : List Key, (k.map kV).filterMap unV = k
  | [] => rfl
  | a :: as => by rw [List.map_cons, List.filterMap_cons, un_kV, un_map as]
def keyAt (H : Hp) : Value → List Key
  | .ref b => match H b with
    | some (.tup xs) => xs.filterMap unV
    | _ => []
  | _ => []
theorem keyAt_of {H : Hp} {b : Addr} {k : List Key} (h : H b = some (.tup (k.map kV))) : keyAt H (.ref b) = k := by
  simp only [keyAt, h]; exact un_map k
section
variable {prog : Program} {w : World} {A : Around} {E : Value → Shared → Prop} {s : Shared} {Q : Bool → Shared → Prop}
end
section
variable {X : Cx} {pins : List (Addr × Obj)} {σ : St} {H : Hp} {s : Shared}
theorem Inv.tup {b : Addr} {xs : List V} (I : Inv X pins σ H s) (h : H b = some (.tup xs)) : ∃ its : List Value, Vals xs its ∧ IsTup s.heap b its.toArray := (I.hok b _ h).2
end
theorem TupsAt.mem {H : Hp} : ∀ {ys : List V} {ks : List (List Key)}, TupsAt H ys ks → ∀ y ∈ ys, ∃ b k, y = .ref b ∧ H b = some (.tup (k.map kV)) ∧ k ∈ ks
  | _, _, .nil, y, hy => by cases hy
  | _, _, .cons h t, y, hy => by
    rcases List.mem_cons.mp hy with rfl | hy
    · obtain ⟨b, e, g⟩ := h
      exact ⟨b, _, e, g, List.mem_cons_self⟩
    · obtain ⟨b, k, e, g, m⟩ := TupsAt.mem t y hy
      exact ⟨b, k, e, g, List.mem_cons_of_mem _ m⟩
theorem TupsAt.keys {H : Hp} : ∀ {ys : List V} {ks : List (List Key)} {vs : List Value}, TupsAt H ys ks → Vals ys vs → vs.map (keyAt H) = ks ∧ ∀ v ∈ vs, ∃ b k, v = .ref b ∧ H b = some (.tup (k.map kV)) ∧ k ∈ ks
  | _, _, _, .nil, .nil => ⟨rfl, by simp⟩
  | _ :: ys, k :: ks, _ :: vs, .cons h t, .cons r rs => by
    obtain ⟨b, rfl, g⟩ := h
    cases r
    obtain ⟨e, m⟩ := TupsAt.keys t rs
    refine ⟨by rw [List.map_cons, keyAt_of g, e], fun v hv => ?_⟩
    rcases List.mem_cons.mp hv with rfl | hv
    · exact ⟨b, k, rfl, g, List.mem_cons_self⟩
    · obtain ⟨b', k', e1, e2, e3⟩ := m v hv
      exact ⟨b', k', e1, e2, List.mem_cons_of_mem _ e3⟩
theorem TupsAt.of {H : Hp} {ks : List (List Key)} : ∀ (vs : List Value), (∀ v ∈ vs, ∃ b k, v = Value.ref b ∧ H b = some (.tup (k.map kV)) ∧ k ∈ ks) → ∃ zs, TupsAt H zs (vs.map (keyAt H)) ∧ Vals zs vs
  | [], _ => ⟨[], .nil, .nil⟩
  | v :: vs, h => by
    obtain ⟨zs, a, c⟩ := TupsAt.of vs fun u hu => h u (List.mem_cons_of_mem _ hu)
    obtain ⟨b, k, rfl, e, _⟩ := h v List.mem_cons_self
    exact ⟨.ref b :: zs, .cons ⟨b, rfl, by rw [keyAt_of e]; exact e⟩ a, .cons rfl c⟩
section
variable {X : Cx}
end
end L2

set_option Elab.async false
set_option linter.all false
set_option maxRecDepth 100000
set_option maxHeartbeats 4000000

namespace Tim
open PySem PyProof.Rows
section
variable {prog : Program} {w : World} {A : Around} {E : Value → Shared → Prop} {s : Shared} {κ : SortKind} {r : Value → Int} {P : Value → Prop}
end
end Tim

namespace L2
open PySem PySem.Spec PyProof.Rows
section
variable {X : Cx}
end
end L2

set_option Elab.async false
set_option linter.all false
set_option maxRecDepth 100000
set_option maxHeartbeats 4000000

namespace L2.Q
open PySem PySem.Spec PyProof.Rows

inductive D where
  | non | bl (b : Bool) | int (i : Int) | str (x : Str)
  | list (xs : List D) | tup (xs : List D) | dK (kvs : List (Key × D)) | dT (kvs : List (List Key × D))

mutual
/-- nothing in it can be changed -/
def D.flat : D → Bool
  | .list _ => false
  | .dK _ => false
  | .dT _ => false
  | .tup xs => flats xs
  | _ => true
def flats : List D → Bool
  | [] => true
  | x :: xs => x.flat && flats xs
end
theorem flats_iff : ∀ {xs : List D}, flats xs = true ↔ ∀ x ∈ xs, x.flat = true
  | [] => by simp [flats]
  | x :: xs => by simp [flats, flats_iff (xs := xs)]
theorem flats_append {xs ys : List D} : flats (xs ++ ys) = (flats xs && flats ys) := by
  induction xs with
  | nil => simp [flats]
  | cons x xs ih => simp [flats, ih, Bool.and_assoc]

def kOk : Key → Bool
  | .inl _ => true
  | .inr x => decide (x.length ≤ sizeLine)
def KsOk (kvs : List (Key × D)) : Prop := kvs.length ≤ sizeLine ∧ ∀ p ∈ kvs, kOk p.1 = true
def KtOk (kvs : List (List Key × D)) : Prop := kvs.length ≤ sizeLine ∧ ∀ p ∈ kvs, p.1.length ≤ sizeLine ∧ ∀ k ∈ p.1, kOk k = true
mutual
inductive Rep (K : PySem.W.Frag) (H : Hp) : D → V → Prop
  | non : Rep K H .non .non
  | bl (b : Bool) : Rep K H (.bl b) (.bl b)
  | int (i : Int) : Rep K H (.int i) (.int i)
  | str {x : Str} : x.length ≤ sizeLine → Rep K H (.str x) (.str x)
  | list {a : Addr} {vs : List V} {ds : List D} : vs.length ≤ sizeLine → SqL K H a vs → Reps K H ds vs → Rep K H (.list ds) (.ref a)
  | tup {a : Addr} {vs : List V} {ds : List D} : vs.length ≤ sizeLine → H a = some (.tup vs) → Reps K H ds vs → Rep K H (.tup ds) (.ref a)
  | dK {a : Addr} {vs : List V} {kvs : List (Key × D)} : KsOk kvs → H a = some (.dK ((kvs.map (·.1)).zip vs)) → Reps K H (kvs.map (·.2)) vs → Rep K H (.dK kvs) (.ref a)
  | dT {a : Addr} {vs : List V} {kvs : List (List Key × D)} : KtOk kvs → H a = some (.dT ((kvs.map (·.1)).zip vs)) → Reps K H (kvs.map (·.2)) vs → Rep K H (.dT kvs) (.ref a)
inductive Reps (K : PySem.W.Frag) (H : Hp) : List D → List V → Prop
  | nil : Reps K H [] []
  | cons {d : D} {v : V} {ds : List D} {vs : List V} : Rep K H d v → Reps K H ds vs → Reps K H (d :: ds) (v :: vs)
end
mutual
theorem Rep.same {K : PySem.W.Frag} {H H' : Hp} (s : Same H H') : ∀ {d : D} {v : V}, Rep K H d v → Rep K H' d v
  | _, _, .non => .non
  | _, _, .bl b => .bl b
  | _, _, .int i => .int i
  | _, _, .str x => .str x
  | _, _, .list z h hs => .list z (s.lst h) (Reps.same s hs)
  | _, _, .tup z h hs => .tup z (s _ _ h) (Reps.same s hs)
  | _, _, .dK kk h hs => .dK kk (s _ _ h) (Reps.same s hs)
  | _, _, .dT kk h hs => .dT kk (s _ _ h) (Reps.same s hs)
theorem Reps.same {K : PySem.W.Frag} {H H' : Hp} (s : Same H H') : ∀ {ds : List D} {vs : List V}, Reps K H ds vs → Reps K H' ds vs
  | _, _, .nil => .nil
  | _, _, .cons h hs => .cons (Rep.same s h) (Reps.same s hs)
end
theorem Reps.length {K : PySem.W.Frag} {H : Hp} : ∀ {ds : List D} {vs : List V}, Reps K H ds vs → ds.length = vs.length
  | _, _, .nil => rfl
  | _, _, .cons _ hs => by rw [List.length_cons, List.length_cons, Reps.length hs]
theorem Reps.append {K : PySem.W.Frag} {H : Hp} : ∀ {ds es : List D} {vs ws : List V}, Reps K H ds vs → Reps K H es ws → Reps K H (ds ++ es) (vs ++ ws)
  | _, _, _, _, .nil, t => t
  | _, _, _, _, .cons h hs, t => .cons h (Reps.append hs t)
theorem Reps.get {K : PySem.W.Frag} {H : Hp} : ∀ {ds : List D} {vs : List V} {i : Nat} {d : D}, Reps K H ds vs → ds[i]? = some d → ∃ v, vs[i]? = some v ∧ Rep K H d v
  | _, _, _, _, .nil, e => by simp at e
  | _, _, 0, _, .cons h _, e => by simp at e; subst e; exact ⟨_, rfl, h⟩
  | _, _, i + 1, _, .cons _ hs, e => by
    obtain ⟨v, e1, r⟩ := Reps.get (i := i) hs (by simpa using e)
    exact ⟨v, by simpa using e1, r⟩
theorem Reps.getV {K : PySem.W.Frag} {H : Hp} : ∀ {ds : List D} {vs : List V} {i : Nat} {v : V}, Reps K H ds vs → vs[i]? = some v → ∃ d, ds[i]? = some d ∧ Rep K H d v
  | _, _, _, _, .nil, e => by simp at e
  | _, _, 0, _, .cons h _, e => by simp at e; subst e; exact ⟨_, rfl, h⟩
  | _, _, i + 1, _, .cons _ hs, e => by
    obtain ⟨v, e1, r⟩ := Reps.getV (i := i) hs (by simpa using e)
    exact ⟨v, by simpa using e1, r⟩
theorem Reps.drop {K : PySem.W.Frag} {H : Hp} : ∀ {ds : List D} {vs : List V} (n : Nat), Reps K H ds vs → Reps K H (ds.drop n) (vs.drop n)
  | _, _, 0, r => r
  | _, _, _ + 1, .nil => .nil
  | _, _, n + 1, .cons _ t => Reps.drop n t
theorem Reps.take {K : PySem.W.Frag} {H : Hp} : ∀ {ds : List D} {vs : List V} (n : Nat), Reps K H ds vs → Reps K H (ds.take n) (vs.take n)
  | _, _, 0, _ => .nil
  | _, _, _ + 1, .nil => .nil
  | _, _, n + 1, .cons r t => .cons r (Reps.take n t)

mutual
/-- what is owned: a tree whose lists and dicts stand at As, nobody else's; its leaves shared (fl: and flat) -/
inductive RepO (K : PySem.W.Frag) (Hs H : Hp) (fl : Bool) : D → V → List Addr → Prop
  | sh {d : D} {v : V} : (fl = true → d.flat = true) → Rep K Hs d v → RepO K Hs H fl d v []
  | list {a : Addr} {vs : List V} {ds : List D} {As : List Addr} : vs.length ≤ sizeLine → H a = some (.lst vs) → RepOs K Hs H fl ds vs As → RepO K Hs H fl (.list ds) (.ref a) (a :: As)
  | tup {a : Addr} {vs : List V} {ds : List D} {As : List Addr} : vs.length ≤ sizeLine → Hs a = some (.tup vs) → flats ds = false → RepOs K Hs H fl ds vs As → RepO K Hs H fl (.tup ds) (.ref a) As
  | dK {a : Addr} {vs : List V} {kvs : List (Key × D)} {As : List Addr} : KsOk kvs → H a = some (.dK ((kvs.map (·.1)).zip vs)) → RepOs K Hs H fl (kvs.map (·.2)) vs As → RepO K Hs H fl (.dK kvs) (.ref a) (a :: As)
  | dT {a : Addr} {vs : List V} {kvs : List (List Key × D)} {As : List Addr} : KtOk kvs → H a = some (.dT ((kvs.map (·.1)).zip vs)) → RepOs K Hs H fl (kvs.map (·.2)) vs As → RepO K Hs H fl (.dT kvs) (.ref a) (a :: As)
inductive RepOs (K : PySem.W.Frag) (Hs H : Hp) (fl : Bool) : List D → List V → List Addr → Prop
  | nil : RepOs K Hs H fl [] [] []
  | cons {d : D} {v : V} {ds : List D} {vs : List V} {As Bs : List Addr} : RepO K Hs H fl d v As → RepOs K Hs H fl ds vs Bs → RepOs K Hs H fl (d :: ds) (v :: vs) (As ++ Bs)
end
def Own (H : Hp) (a : Addr) : Prop := (∃ vs, H a = some (.lst vs)) ∨ (∃ kvs, H a = some (.dK kvs)) ∨ ∃ kvs, H a = some (.dT kvs)
section
variable {K : PySem.W.Frag} {Hs Hs' H H' : Hp} {fl : Bool}
theorem Own.ne {a : Addr} (h : Own H a) : H a ≠ none := by
  rcases h with ⟨_, e⟩ | ⟨_, e⟩ | ⟨_, e⟩ <;> rw [e] <;> exact fun z => nomatch z
theorem Own.notTup {a : Addr} {vs : List V} (h : Own H a) : H a ≠ some (.tup vs) := by
  rcases h with ⟨_, e⟩ | ⟨_, e⟩ | ⟨_, e⟩ <;> rw [e] <;> exact fun z => nomatch z
mutual
theorem RepO.own : ∀ {d : D} {v : V} {As : List Addr}, RepO K Hs H fl d v As → ∀ a ∈ As, Own H a
  | _, _, _, .sh _ _, a, h => nomatch h
  | _, _, _, .list _ e hs, a, h => by
    rcases List.mem_cons.mp h with rfl | h
    · exact .inl ⟨_, e⟩
    · exact RepOs.own hs a h
  | _, _, _, .tup _ _ _ hs, a, h => RepOs.own hs a h
  | _, _, _, .dK _ e hs, a, h => by
    rcases List.mem_cons.mp h with rfl | h
    · exact .inr (.inl ⟨_, e⟩)
    · exact RepOs.own hs a h
  | _, _, _, .dT _ e hs, a, h => by
    rcases List.mem_cons.mp h with rfl | h
    · exact .inr (.inr ⟨_, e⟩)
    · exact RepOs.own hs a h
theorem RepOs.own : ∀ {ds : List D} {vs : List V} {As : List Addr}, RepOs K Hs H fl ds vs As → ∀ a ∈ As, Own H a
  | _, _, _, .nil, a, h => nomatch h
  | _, _, _, .cons h1 h2, a, h => by
    rcases List.mem_append.mp h with h | h
    · exact RepO.own h1 a h
    · exact RepOs.own h2 a h
end
mutual
/-- the shared heap grows; at As the heap stays -/
theorem RepO.stay (s : Same Hs Hs') : ∀ {d : D} {v : V} {As : List Addr}, RepO K Hs H fl d v As → (∀ a ∈ As, H' a = H a) → RepO K Hs' H' fl d v As
  | _, _, _, .sh f r, _ => .sh f (r.same s)
  | _, _, _, .list z e hs, k => .list z ((k _ List.mem_cons_self).trans e) (RepOs.stay s hs fun a h => k a (List.mem_cons_of_mem _ h))
  | _, _, _, .tup z e n hs, k => .tup z (s _ _ e) n (RepOs.stay s hs k)
  | _, _, _, .dK kk e hs, k => .dK kk ((k _ List.mem_cons_self).trans e) (RepOs.stay s hs fun a h => k a (List.mem_cons_of_mem _ h))
  | _, _, _, .dT kk e hs, k => .dT kk ((k _ List.mem_cons_self).trans e) (RepOs.stay s hs fun a h => k a (List.mem_cons_of_mem _ h))
theorem RepOs.stay (s : Same Hs Hs') : ∀ {ds : List D} {vs : List V} {As : List Addr}, RepOs K Hs H fl ds vs As → (∀ a ∈ As, H' a = H a) → RepOs K Hs' H' fl ds vs As
  | _, _, _, .nil, _ => .nil
  | _, _, _, .cons h1 h2, k => .cons (RepO.stay s h1 fun a h => k a (List.mem_append_left _ h)) (RepOs.stay s h2 fun a h => k a (List.mem_append_right _ h))
end
theorem RepO.grow {d : D} {v : V} {As : List Addr} (s : Same Hs Hs') (t : Same H H') (r : RepO K Hs H fl d v As) : RepO K Hs' H' fl d v As :=
  r.stay s fun a h => by
    cases e : H a with
    | none => exact absurd e (r.own a h).ne
    | some o => exact t a o e
theorem RepOs.grow {ds : List D} {vs : List V} {As : List Addr} (s : Same Hs Hs') (t : Same H H') (r : RepOs K Hs H fl ds vs As) : RepOs K Hs' H' fl ds vs As :=
  r.stay s fun a h => by
    cases e : H a with
    | none => exact absurd e (r.own a h).ne
    | some o => exact t a o e
mutual
/-- a heap that knows all of it -/
theorem RepO.rep {G : Hp} (s : Same Hs G) : ∀ {d : D} {v : V} {As : List Addr}, RepO K Hs H fl d v As → (∀ a ∈ As, G a = H a) → Rep K G d v
  | _, _, _, .sh _ r, _ => r.same s
  | _, _, _, .list z e hs, k => .list z (.inl (.inl ((k _ List.mem_cons_self).trans e))) (RepOs.reps s hs fun a h => k a (List.mem_cons_of_mem _ h))
  | _, _, _, .tup z e n hs, k => .tup z (s _ _ e) (RepOs.reps s hs k)
  | _, _, _, .dK kk e hs, k => .dK kk ((k _ List.mem_cons_self).trans e) (RepOs.reps s hs fun a h => k a (List.mem_cons_of_mem _ h))
  | _, _, _, .dT kk e hs, k => .dT kk ((k _ List.mem_cons_self).trans e) (RepOs.reps s hs fun a h => k a (List.mem_cons_of_mem _ h))
theorem RepOs.reps {G : Hp} (s : Same Hs G) : ∀ {ds : List D} {vs : List V} {As : List Addr}, RepOs K Hs H fl ds vs As → (∀ a ∈ As, G a = H a) → Reps K G ds vs
  | _, _, _, .nil, _ => .nil
  | _, _, _, .cons h1 h2, k => .cons (RepO.rep s h1 fun a h => k a (List.mem_append_left _ h)) (RepOs.reps s h2 fun a h => k a (List.mem_append_right _ h))
end
mutual
/-- what is flat stands in any heap that has the tuples -/
theorem Rep.flatIn {G : Hp} (t : ∀ a vs, H a = some (.tup vs) → G a = some (.tup vs)) : ∀ {d : D} {v : V}, Rep K H d v → d.flat = true → Rep K G d v
  | _, _, .non, _ => .non
  | _, _, .bl b, _ => .bl b
  | _, _, .int i, _ => .int i
  | _, _, .str x, _ => .str x
  | _, _, .list _ _ _, f => by simp [D.flat] at f
  | _, _, .tup z e hs, f => .tup z (t _ _ e) (Reps.flatIn t hs (by simpa [D.flat] using f))
  | _, _, .dK _ _ _, f => by simp [D.flat] at f
  | _, _, .dT _ _ _, f => by simp [D.flat] at f
theorem Reps.flatIn {G : Hp} (t : ∀ a vs, H a = some (.tup vs) → G a = some (.tup vs)) : ∀ {ds : List D} {vs : List V}, Reps K H ds vs → flats ds = true → Reps K G ds vs
  | _, _, .nil, _ => .nil
  | _, _, .cons h hs, f => by
    simp only [flats, Bool.and_eq_true] at f
    exact .cons (Rep.flatIn t h f.1) (Reps.flatIn t hs f.2)
end
theorem Reps.owned : ∀ {ds : List D} {vs : List V}, Reps K Hs ds vs → flats ds = true → RepOs K Hs H fl ds vs []
  | _, _, .nil, _ => .nil
  | _, _, .cons h hs, f => by
    simp only [flats, Bool.and_eq_true] at f
    exact .cons (As := []) (.sh (fun _ => f.1) h) (Reps.owned hs f.2)
theorem Reps.ownedF : ∀ {ds : List D} {vs : List V}, Reps K Hs ds vs → RepOs K Hs H false ds vs []
  | _, _, .nil => .nil
  | _, _, .cons h hs => .cons (As := []) (.sh (fun z => nomatch z) h) (Reps.ownedF hs)
mutual
theorem RepO.fls : ∀ {d : D} {v : V} {As : List Addr}, RepO K Hs H fl d v As → RepO K Hs H false d v As
  | _, _, _, .sh _ r => .sh (fun z => nomatch z) r
  | _, _, _, .list z e hs => .list z e (RepOs.fls hs)
  | _, _, _, .tup z e n hs => .tup z e n (RepOs.fls hs)
  | _, _, _, .dK kk e hs => .dK kk e (RepOs.fls hs)
  | _, _, _, .dT kk e hs => .dT kk e (RepOs.fls hs)
theorem RepOs.fls : ∀ {ds : List D} {vs : List V} {As : List Addr}, RepOs K Hs H fl ds vs As → RepOs K Hs H false ds vs As
  | _, _, _, .nil => .nil
  | _, _, _, .cons h hs => .cons (RepO.fls h) (RepOs.fls hs)
end
mutual
/-- flat leaves: the shared heap may be another one that has the tuples -/
theorem RepO.leaves {G : Hp} (t : ∀ a vs, Hs a = some (.tup vs) → G a = some (.tup vs)) : ∀ {d : D} {v : V} {As : List Addr}, RepO K Hs H true d v As → RepO K G H true d v As
  | _, _, _, .sh f r => .sh f (r.flatIn t (f rfl))
  | _, _, _, .list z e hs => .list z e (RepOs.leaves t hs)
  | _, _, _, .tup z e n hs => .tup z (t _ _ e) n (RepOs.leaves t hs)
  | _, _, _, .dK kk e hs => .dK kk e (RepOs.leaves t hs)
  | _, _, _, .dT kk e hs => .dT kk e (RepOs.leaves t hs)
theorem RepOs.leaves {G : Hp} (t : ∀ a vs, Hs a = some (.tup vs) → G a = some (.tup vs)) : ∀ {ds : List D} {vs : List V} {As : List Addr}, RepOs K Hs H true ds vs As → RepOs K G H true ds vs As
  | _, _, _, .nil => .nil
  | _, _, _, .cons h hs => .cons (RepO.leaves t h) (RepOs.leaves t hs)
end
theorem RepOs.append : ∀ {ds es : List D} {vs ws : List V} {As Bs : List Addr}, RepOs K Hs H fl ds vs As → RepOs K Hs H fl es ws Bs → RepOs K Hs H fl (ds ++ es) (vs ++ ws) (As ++ Bs)
  | _, _, _, _, _, _, .nil, t => t
  | _, _, _, _, _, _, .cons h hs, t => by
    rw [List.append_assoc]
    exact .cons h (RepOs.append hs t)
theorem RepOs.length : ∀ {ds : List D} {vs : List V} {As : List Addr}, RepOs K Hs H fl ds vs As → ds.length = vs.length
  | _, _, _, .nil => rfl
  | _, _, _, .cons _ hs => by rw [List.length_cons, List.length_cons, RepOs.length hs]
end

inductive Sl where
  /-- shared; owned; owned and walked by a loop just now (at a) -/
  | sh (d : D) | ow (fl : Bool) (d : D) | lk (a : Addr) (fl : Bool) (d : D)
abbrev Env := List (Option Sl)
inductive SR (K : PySem.W.Frag) (Hs H : Hp) : Env → St → List Addr → Prop
  | nil : SR K Hs H [] [] []
  | non {ρ : Env} {σ : St} {tot : List Addr} {o : Option V} : SR K Hs H ρ σ tot → SR K Hs H (none :: ρ) (o :: σ) tot
  | sh {ρ : Env} {σ : St} {tot : List Addr} {d : D} {v : V} : Rep K Hs d v → SR K Hs H ρ σ tot → SR K Hs H (some (.sh d) :: ρ) (some v :: σ) tot
  | ow {ρ : Env} {σ : St} {tot As : List Addr} {fl : Bool} {d : D} {v : V} : As ≠ [] → RepO K Hs H fl d v As → SR K Hs H ρ σ tot → SR K Hs H (some (.ow fl d) :: ρ) (some v :: σ) (As ++ tot)
  | lk {ρ : Env} {σ : St} {tot As : List Addr} {a : Addr} {fl : Bool} {d : D} : As ≠ [] → RepO K Hs H fl d (.ref a) As → SR K Hs H ρ σ tot → SR K Hs H (some (.lk a fl d) :: ρ) (some (.ref a) :: σ) (As ++ tot)
structure Wf (Hs H : Hp) : Prop where
  sub : Same Hs H
  tups : ∀ a vs, H a = some (.tup vs) → Hs a = some (.tup vs)
structure SRel (K : PySem.W.Frag) (Hs : Hp) (ρ : Env) (σ : St) (H : Hp) (tot : List Addr) : Prop where
  sr : SR K Hs H ρ σ tot
  wf : Wf Hs H
  nod : tot.Nodup
  own : ∀ a ∈ tot, Hs a = none
structure Grow (Hs H Hs' H' : Hp) : Prop where
  all : Same H H'
  sh : Same Hs Hs'
  wf : Wf Hs' H'
  new : ∀ a, Hs' a ≠ none → Hs a ≠ none ∨ H a = none
section
variable {K : PySem.W.Frag} {Hs H Hs' H' Hs'' H'' : Hp}
theorem Grow.refl (w : Wf Hs H) : Grow Hs H Hs H := ⟨Same.refl _, Same.refl _, w, fun _ h => .inl h⟩
theorem Grow.trans (a : Grow Hs H Hs' H') (b : Grow Hs' H' Hs'' H'') : Grow Hs H Hs'' H'' :=
  ⟨a.all.trans b.all, a.sh.trans b.sh, b.wf, fun c h => by
    rcases b.new c h with h | h
    · exact a.new c h
    · exact .inr (a.all.free h)⟩
theorem Grow.hsn (g : Grow Hs H Hs' H') {a : Addr} (h : Hs a = none) (h' : H a ≠ none) : Hs' a = none := by
  cases e : Hs' a with
  | none => rfl
  | some o =>
    rcases g.new a (by rw [e]; exact fun z => nomatch z) with z | z
    · exact absurd h z
    · exact absurd z h'
theorem SR.own : ∀ {ρ : Env} {σ : St} {tot : List Addr}, SR K Hs H ρ σ tot → ∀ a ∈ tot, Own H a
  | _, _, _, .nil, a, h => nomatch h
  | _, _, _, .non s, a, h => SR.own s a h
  | _, _, _, .sh _ s, a, h => SR.own s a h
  | _, _, _, .ow _ r s, a, h => by
    rcases List.mem_append.mp h with h | h
    · exact r.own a h
    · exact SR.own s a h
  | _, _, _, .lk _ r s, a, h => by
    rcases List.mem_append.mp h with h | h
    · exact r.own a h
    · exact SR.own s a h
theorem SR.stay (s : Same Hs Hs') : ∀ {ρ : Env} {σ : St} {tot : List Addr}, SR K Hs H ρ σ tot → (∀ a ∈ tot, H' a = H a) → SR K Hs' H' ρ σ tot
  | _, _, _, .nil, _ => .nil
  | _, _, _, .non r, k => .non (SR.stay s r k)
  | _, _, _, .sh h r, k => .sh (h.same s) (SR.stay s r k)
  | _, _, _, .ow ne h r, k => .ow ne (h.stay s fun a m => k a (List.mem_append_left _ m)) (SR.stay s r fun a m => k a (List.mem_append_right _ m))
  | _, _, _, .lk ne h r, k => .lk ne (h.stay s fun a m => k a (List.mem_append_left _ m)) (SR.stay s r fun a m => k a (List.mem_append_right _ m))
theorem SRel.grow {ρ : Env} {σ : St} {tot : List Addr} (r : SRel K Hs ρ σ H tot) (g : Grow Hs H Hs' H') : SRel K Hs' ρ σ H' tot :=
  ⟨r.sr.stay g.sh fun a h => by
    cases e : H a with
    | none => exact absurd e (r.sr.own a h).ne
    | some o => exact g.all a o e, g.wf, r.nod, fun a h => g.hsn (r.own a h) (r.sr.own a h).ne⟩
theorem SR.length : ∀ {ρ : Env} {σ : St} {tot : List Addr}, SR K Hs H ρ σ tot → ρ.length = σ.length
  | _, _, _, .nil => rfl
  | _, _, _, .non s => by simp [SR.length s]
  | _, _, _, .sh _ s => by simp [SR.length s]
  | _, _, _, .ow _ _ s => by simp [SR.length s]
  | _, _, _, .lk _ _ s => by simp [SR.length s]
theorem SR.get : ∀ {ρ : Env} {σ : St} {tot : List Addr} {i : Nat} {sl : Sl}, SR K Hs H ρ σ tot → ρ[i]? = some (some sl) → ∃ v, σ[i]? = some (some v) ∧ match sl with
    | .sh d => Rep K Hs d v
    | .ow fl d => ∃ As, As ≠ [] ∧ RepO K Hs H fl d v As ∧ ∀ a ∈ As, a ∈ tot
    | .lk a fl d => ∃ As, As ≠ [] ∧ RepO K Hs H fl d v As ∧ v = .ref a ∧ ∀ a ∈ As, a ∈ tot
  | _, _, _, _, _, .nil, e => by simp at e
  | _, _, _, 0, _, .non s, e => by simp at e
  | _, _, _, 0, _, .sh r s, e => by simp at e; subst e; exact ⟨_, rfl, r⟩
  | _, _, _, 0, _, .ow ne r s, e => by simp at e; subst e; exact ⟨_, rfl, _, ne, r, fun a m => List.mem_append_left _ m⟩
  | _, _, _, 0, _, .lk ne r s, e => by simp at e; subst e; exact ⟨_, rfl, _, ne, r, rfl, fun a m => List.mem_append_left _ m⟩
  | _, _, _, i + 1, _, .non s, e => by
    obtain ⟨v, e1, h⟩ := SR.get (i := i) s (by simpa using e)
    exact ⟨v, by simpa using e1, h⟩
  | _, _, _, i + 1, _, .sh _ s, e => by
    obtain ⟨v, e1, h⟩ := SR.get (i := i) s (by simpa using e)
    exact ⟨v, by simpa using e1, h⟩
  | _, _, _, i + 1, sl, .ow _ _ s, e => by
    obtain ⟨v, e1, h⟩ := SR.get (i := i) s (by simpa using e)
    refine ⟨v, by simpa using e1, ?_⟩
    cases sl with
    | sh d => exact h
    | ow fl d =>
      obtain ⟨As, ne, r, m⟩ := h
      exact ⟨As, ne, r, fun a ha => List.mem_append_right _ (m a ha)⟩
    | lk a fl d =>
      obtain ⟨As, ne, r, q, m⟩ := h
      exact ⟨As, ne, r, q, fun a ha => List.mem_append_right _ (m a ha)⟩
  | _, _, _, i + 1, sl, .lk _ _ s, e => by
    obtain ⟨v, e1, h⟩ := SR.get (i := i) s (by simpa using e)
    refine ⟨v, by simpa using e1, ?_⟩
    cases sl with
    | sh d => exact h
    | ow fl d =>
      obtain ⟨As, ne, r, m⟩ := h
      exact ⟨As, ne, r, fun a ha => List.mem_append_right _ (m a ha)⟩
    | lk a fl d =>
      obtain ⟨As, ne, r, q, m⟩ := h
      exact ⟨As, ne, r, q, fun a ha => List.mem_append_right _ (m a ha)⟩
end

inductive Md where
  | sh | ow (fl : Bool) | bo
def RM (K : PySem.W.Frag) (Hs H : Hp) : Md → D → V → List Addr → Prop
  | .sh, d, v, As => As = [] ∧ Rep K Hs d v
  | .ow fl, d, v, As => RepO K Hs H fl d v As ∧ As ≠ []
  | .bo, d, v, As => As = [] ∧ Rep K H d v
inductive RMs (K : PySem.W.Frag) (Hs H : Hp) : List (Md × D) → List V → List Addr → Prop
  | nil : RMs K Hs H [] [] []
  | cons {m : Md} {d : D} {v : V} {ps : List (Md × D)} {vs : List V} {As Bs : List Addr} : RM K Hs H m d v As → RMs K Hs H ps vs Bs → RMs K Hs H ((m, d) :: ps) (v :: vs) (As ++ Bs)
section
variable {K : PySem.W.Frag} {Hs H Hs' H' : Hp}
theorem RM.own {m : Md} {d : D} {v : V} {As : List Addr} (r : RM K Hs H m d v As) : ∀ a ∈ As, Own H a := by
  cases m with
  | sh => obtain ⟨rfl, _⟩ := r; exact fun a h => nomatch h
  | ow fl => exact RepO.own r.1
  | bo => obtain ⟨rfl, _⟩ := r; exact fun a h => nomatch h
theorem RM.grow {m : Md} {d : D} {v : V} {As : List Addr} (r : RM K Hs H m d v As) (g : Grow Hs H Hs' H') : RM K Hs' H' m d v As := by
  cases m with
  | sh => exact ⟨r.1, r.2.same g.sh⟩
  | ow fl => exact ⟨RepO.grow g.sh g.all r.1, r.2⟩
  | bo => exact ⟨r.1, r.2.same g.all⟩
theorem RM.rep {m : Md} {d : D} {v : V} {As : List Addr} (w : Wf Hs H) (r : RM K Hs H m d v As) : Rep K H d v := by
  cases m with
  | sh => exact r.2.same w.sub
  | ow fl => exact RepO.rep w.sub r.1 fun _ _ => rfl
  | bo => exact r.2
theorem RM.flat {m : Md} {d : D} {v : V} {As : List Addr} (w : Wf Hs H) (r : RM K Hs H m d v As) (f : d.flat = true) : Rep K Hs d v := (r.rep w).flatIn w.tups f
theorem RMs.own : ∀ {ps : List (Md × D)} {vs : List V} {As : List Addr}, RMs K Hs H ps vs As → ∀ a ∈ As, Own H a
  | _, _, _, .nil, a, h => nomatch h
  | _, _, _, .cons r s, a, h => by
    rcases List.mem_append.mp h with h | h
    · exact r.own a h
    · exact RMs.own s a h
theorem RMs.grow (g : Grow Hs H Hs' H') : ∀ {ps : List (Md × D)} {vs : List V} {As : List Addr}, RMs K Hs H ps vs As → RMs K Hs' H' ps vs As
  | _, _, _, .nil => .nil
  | _, _, _, .cons r s => .cons (r.grow g) (RMs.grow g s)
theorem RMs.reps (w : Wf Hs H) : ∀ {ps : List (Md × D)} {vs : List V} {As : List Addr}, RMs K Hs H ps vs As → Reps K H (ps.map (·.2)) vs
  | _, _, _, .nil => .nil
  | _, _, _, .cons r s => .cons (r.rep w) (RMs.reps w s)
end

abbrev WE := Env → (Md → D → Prop) → Prop
abbrev WT := Env → (Bool → Prop) → Prop
abbrev WA := Env → (List (Md × D) → Prop) → Prop
structure WEnds where
  nx : Env → Prop
  rt : Md → D → Prop
  bk : Env → Prop := fun _ => False
  ct : Env → Prop := fun _ => False
abbrev WS := WEnds → Env → Prop

def Fresh (Hs' H : Hp) (As : List Addr) : Prop := As.Nodup ∧ ∀ a ∈ As, Hs' a = none ∧ H a = none
def tpE (K : PySem.W.Frag) (t : WE) : TE := fun σ H Qv => ∃ Hs ρ tot Q, SRel K Hs ρ σ H tot ∧ t ρ Q ∧
  ∀ v H' Hs' m d As, Grow Hs H Hs' H' → RM K Hs' H' m d v As → Fresh Hs' H As → Q m d → Qv v H'
def tpT (K : PySem.W.Frag) (t : WT) : TT := fun σ H Qv => ∃ Hs ρ tot Q, SRel K Hs ρ σ H tot ∧ t ρ Q ∧ ∀ b H' Hs', Grow Hs H Hs' H' → Q b → Qv b H'
def tpA (K : PySem.W.Frag) (t : WA) : TA := fun σ H Qv => ∃ Hs ρ tot Q, SRel K Hs ρ σ H tot ∧ t ρ Q ∧
  ∀ vs H' Hs' ps As, Grow Hs H Hs' H' → RMs K Hs' H' ps vs As → Fresh Hs' H As → Q ps → Qv vs H'
def tpS (K : PySem.W.Frag) (t : WS) : TS := fun D σ H => ∃ Hs ρ tot E, SRel K Hs ρ σ H tot ∧ t E ρ ∧
  (∀ σ' H' Hs' ρ' tot', Same Hs Hs' → SRel K Hs' ρ' σ' H' tot' → E.nx ρ' → D.nx σ' H') ∧
  (∀ σ' H' Hs' ρ' tot', Same Hs Hs' → SRel K Hs' ρ' σ' H' tot' → E.bk ρ' → D.bk σ' H') ∧
  (∀ σ' H' Hs' ρ' tot', Same Hs Hs' → SRel K Hs' ρ' σ' H' tot' → E.ct ρ' → D.ct σ' H') ∧
  ∀ v H' Hs' m d As, Same Hs Hs' → Wf Hs' H' → RM K Hs' H' m d v As → As.Nodup → (∀ a ∈ As, Hs' a = none) → E.rt m d → D.rt v H'
abbrev QE (X : Cx) (K : PySem.W.Frag) (e : Expr) (t : WE) : Prop := PE X e (tpE K t)
abbrev QT (X : Cx) (K : PySem.W.Frag) (e : Expr) (t : WT) : Prop := PT X e (tpT K t)
abbrev QW (X : Cx) (K : PySem.W.Frag) (e : Expr) (t : WT) : Prop := PW X e (tpT K t)
abbrev QA (X : Cx) (K : PySem.W.Frag) (es : List Expr) (t : WA) : Prop := PA X es (tpA K t)
abbrev QS (X : Cx) (K : PySem.W.Frag) (st : Stmt) (t : WS) : Prop := PS X st (tpS K t)
abbrev QSs (X : Cx) (K : PySem.W.Frag) (st : List Stmt) (t : WS) : Prop := PSs X st (tpS K t)
end L2.Q

set_option Elab.async false
set_option linter.all false
set_option maxRecDepth 100000
set_option maxHeartbeats 4000000

namespace L2.Q
open PySem PySem.Spec PyProof.Rows

structure Kt {α : Type} (f : α → Prop) : Type where
def onK {α : Type} (a : α) {f : α → Prop} (_ : Kt f) : Prop := f a
mutual
def D.py : D → PyData
  | .non => .none
  | .bl b => .bool b
  | .int i => .int i
  | .str x => .str x
  | .list xs => .list (pys xs)
  | .tup xs => .tuple (pys xs)
  | .dK _ => .none
  | .dT _ => .none
def pys : List D → List PyData
  | [] => []
  | x :: xs => x.py :: pys xs
end
def okD : Nat → D → Bool
  | _, .non => true
  | _, .bl _ => true
  | _, .int _ => true
  | _, .str x => PyData.strOk x
  | n + 1, .list xs => xs.all (okD n)
  | n + 1, .tup xs => xs.all (okD n)
  | _, _ => false
def eqD (x y : D) : Bool := PyData.eqv x.py y.py
def D.ty : D → String
  | .non => "NoneType"
  | .bl _ => "bool"
  | .int _ => "int"
  | .str _ => "str"
  | .list _ => "list"
  | .tup _ => "tuple"
  | .dK _ => "dict"
  | .dT _ => "dict"
def D.key1 : D → Option Key
  | .int i => some (.inl i)
  | .str x => some (.inr x)
  | _ => none
def keys1 : List D → Option (List Key)
  | [] => some []
  | x :: xs => match x.key1, keys1 xs with
    | some k, some ks => some (k :: ks)
    | _, _ => none
section
variable {κ : Type} [DecidableEq κ] {β : Type}
def getG (kvs : List (κ × β)) (k : κ) : Option β := (kvs.find? fun kv => decide (kv.1 = k)).map (·.2)
end
mutual
theorem Rep.l2 {K : PySem.W.Frag} {H : Hp} : ∀ {n : Nat} {d : D} {v : V}, Rep K H d v → okD n d = true → L2.Rep K H d.py v
  | _, _, _, .non, _ => .none
  | _, _, _, .bl b, _ => .bool b
  | _, _, _, .int i, _ => .int i
  | _, _, _, .str _, _ => .str _
  | n + 1, _, _, .list _ h hs, o => .list h (Reps.l2 (n := n) hs (by simpa [okD] using o))
  | n + 1, _, _, .tup _ h hs, o => .tuple (.inl (.inl h)) (Reps.l2 (n := n) hs (by simpa [okD] using o))
  | 0, _, _, .list _ h hs, o => by simp [okD] at o
  | 0, _, _, .tup _ h hs, o => by simp [okD] at o
  | 0, _, _, .dK _ _ _, o => by simp [okD] at o
  | n + 1, _, _, .dK _ _ _, o => by simp [okD] at o
  | 0, _, _, .dT _ _ _, o => by simp [okD] at o
  | n + 1, _, _, .dT _ _ _, o => by simp [okD] at o
theorem Reps.l2 {K : PySem.W.Frag} {H : Hp} : ∀ {n : Nat} {ds : List D} {vs : List V}, Reps K H ds vs → (∀ d ∈ ds, okD n d = true) → L2.Reps K H (pys ds) vs
  | _, _, _, .nil, _ => .nil
  | n, _, _, .cons h hs, o => .cons (Rep.l2 (n := n) h (o _ List.mem_cons_self)) (Reps.l2 (n := n) hs fun d m => o d (List.mem_cons_of_mem _ m))
end
theorem ok_lay : ∀ (n : Nat) (d : D), okD n d = true → d.py.canLay0 = true ∧ d.py.depth ≤ n
  | n, .non, _ => ⟨rfl, Nat.zero_le _⟩
  | n, .bl _, _ => ⟨rfl, Nat.zero_le _⟩
  | n, .int _, _ => ⟨rfl, Nat.zero_le _⟩
  | n, .str x, h => by
    have h : PyData.strOk x = true := by cases n <;> simpa [okD] using h
    exact ⟨by simpa [D.py, PyData.canLay0] using h, Nat.zero_le _⟩
  | 0, .list _, h => by simp [okD] at h
  | 0, .tup _, h => by simp [okD] at h
  | 0, .dK _, h => by simp [okD] at h
  | 0, .dT _, h => by simp [okD] at h
  | n + 1, .dK _, h => by simp [okD] at h
  | n + 1, .dT _, h => by simp [okD] at h
  | n + 1, .list xs, h => by
    have h : ∀ x ∈ xs, okD n x = true := by simpa [okD] using h
    have := go xs h
    simp only [D.py, PyData.canLay0, PyData.depth]
    exact ⟨this.1, by omega⟩
  | n + 1, .tup xs, h => by
    have h : ∀ x ∈ xs, okD n x = true := by simpa [okD] using h
    have := go xs h
    simp only [D.py, PyData.canLay0, PyData.depth]
    exact ⟨this.1, by omega⟩
where go {n : Nat} : ∀ (xs : List D), (∀ x ∈ xs, okD n x = true) → PyData.canLayAll0 (pys xs) = true ∧ PyData.depthAll (pys xs) ≤ n
  | [], _ => ⟨rfl, Nat.zero_le _⟩
  | x :: xs, h => by
    have h1 := ok_lay n x (h x List.mem_cons_self)
    have h2 := go xs fun y hy => h y (List.mem_cons_of_mem _ hy)
    simp only [pys, PyData.canLayAll0, PyData.depthAll, h1.1, h2.1, Bool.and_self, true_and]
    omega
mutual
def D.nb : D → Bool
  | .bl _ => false
  | .list xs => nbs xs
  | .tup xs => nbs xs
  | .dK _ => false
  | .dT _ => false
  | _ => true
def nbs : List D → Bool
  | [] => true
  | x :: xs => x.nb && nbs xs
end
mutual
theorem eqD_iff : ∀ (x y : D), x.nb = true → y.nb = true → (eqD x y = true ↔ x = y)
  | .non, y, _, hy => by cases y <;> simp_all [eqD, D.py, PyData.eqv, D.nb]
  | .bl _, y, hx, _ => by simp [D.nb] at hx
  | .int i, y, _, hy => by cases y <;> simp_all [eqD, D.py, PyData.eqv, D.nb]
  | .str i, y, _, hy => by cases y <;> simp_all [eqD, D.py, PyData.eqv, D.nb]
  | .dK _, y, hx, _ => by simp [D.nb] at hx
  | .dT _, y, hx, _ => by simp [D.nb] at hx
  | .list xs, y, hx, hy => by
    cases y with
    | list ys =>
      have := eqDs_iff xs ys (by simpa [D.nb] using hx) (by simpa [D.nb] using hy)
      simp only [eqD, D.py, PyData.eqv, D.list.injEq]
      exact this
    | _ => simp_all [eqD, D.py, PyData.eqv, D.nb]
  | .tup xs, y, hx, hy => by
    cases y with
    | tup ys =>
      have := eqDs_iff xs ys (by simpa [D.nb] using hx) (by simpa [D.nb] using hy)
      simp only [eqD, D.py, PyData.eqv, D.tup.injEq]
      exact this
    | _ => simp_all [eqD, D.py, PyData.eqv, D.nb]
theorem eqDs_iff : ∀ (xs ys : List D), nbs xs = true → nbs ys = true → (PyData.eqvAll (pys xs) (pys ys) = true ↔ xs = ys)
  | [], [], _, _ => by simp [pys, PyData.eqvAll]
  | [], _ :: _, _, _ => by simp [pys, PyData.eqvAll]
  | _ :: _, [], _, _ => by simp [pys, PyData.eqvAll]
  | x :: xs, y :: ys, hx, hy => by
    simp only [nbs, Bool.and_eq_true] at hx hy
    have h1 := eqD_iff x y hx.1 hy.1
    have h2 := eqDs_iff xs ys hx.2 hy.2
    simp only [pys, PyData.eqvAll, Bool.and_eq_true, List.cons.injEq]
    exact and_congr h1 h2
end
section
variable {K : PySem.W.Frag} {H : Hp}
theorem Rep.key {d : D} {v : V} {k : Key} (r : Rep K H d v) (h : d.key1 = some k) : v = kV k := by
  cases r <;> simp [D.key1] at h <;> subst h <;> rfl
theorem Reps.keys : ∀ {ds : List D} {vs : List V} {ks : List Key}, Reps K H ds vs → keys1 ds = some ks → vs = ks.map kV
  | _, _, _, .nil, h => by simp [keys1] at h; subst h; rfl
  | d :: ds, _, ks, .cons r rs, h => by
    unfold keys1 at h
    cases e1 : d.key1 with
    | none => rw [e1] at h; simp at h
    | some k =>
      cases e2 : keys1 ds with
      | none => rw [e1, e2] at h; simp at h
      | some ks' =>
        rw [e1, e2] at h
        simp at h
        subst h
        rw [List.map_cons, r.key e1, Reps.keys rs e2]
theorem Rep.keyT {ds : List D} {v : V} {ks : List Key} (r : Rep K H (.tup ds) v) (h : keys1 ds = some ks) : ∃ b, v = .ref b ∧ H b = some (.tup (ks.map kV)) := by
  cases r with
  | tup _ e rs => exact ⟨_, rfl, by rw [e, rs.keys h]⟩
end
section
variable {κ : Type} [DecidableEq κ] {K : PySem.W.Frag} {H : Hp}
theorem zip_get {k : κ} : ∀ {kvs : List (κ × D)} {vs : List V}, Reps K H (kvs.map (·.2)) vs → match getG kvs k with
    | some d => ∃ v, valV ((kvs.map (·.1)).zip vs) k = some v ∧ Rep K H d v
    | none => valV ((kvs.map (·.1)).zip vs) k = none
  | [], _, .nil => rfl
  | p :: kvs, _ :: vs, .cons r rs => by
    by_cases e : p.1 = k
    · have e1 : getG (p :: kvs) k = some p.2 := by simp [getG, e]
      rw [e1]
      exact ⟨_, by simp only [List.map_cons, List.zip_cons_cons]; exact valV_pos e, r⟩
    · have e1 : getG (p :: kvs) k = getG kvs k := by simp [getG, e]
      rw [e1]
      have := zip_get (k := k) rs
      simp only [List.map_cons, List.zip_cons_cons, valV_neg (p := (p.1, _)) e]
      exact this
end

section
variable {K : PySem.W.Frag} {Hs H : Hp}
theorem newL {p : Addr} {o : HO} (w : Wf Hs H) (hp : H p = none) (ho : ∀ vs, o ≠ .tup vs) : Grow Hs H Hs (upd H p o) :=
  ⟨(Same.refl H).upd hp, Same.refl _, ⟨w.sub.upd hp, fun a vs e => by
    by_cases h : a = p
    · subst h; rw [upd_same] at e; exact absurd (Option.some.inj e) (ho vs)
    · rw [upd_ne h] at e; exact w.tups a vs e⟩, fun _ h => .inl h⟩
theorem newT {p : Addr} {vs : List V} (w : Wf Hs H) (hp : H p = none) : Grow Hs H (upd Hs p (.tup vs)) (upd H p (.tup vs)) :=
  ⟨(Same.refl H).upd hp, (Same.refl Hs).upd (w.sub.free hp), ⟨fun a o e => by
    by_cases h : a = p
    · subst h; rw [upd_same] at e ⊢; exact e
    · rw [upd_ne h] at e ⊢; exact w.sub a o e, fun a vs e => by
    by_cases h : a = p
    · subst h; rw [upd_same] at e ⊢; exact e
    · rw [upd_ne h] at e ⊢; exact w.tups a vs e⟩, fun a h => by
    by_cases e : a = p
    · subst e; exact .inr hp
    · rw [upd_ne e] at h; exact .inl h⟩
theorem Fresh.nil : Fresh Hs H [] := ⟨List.nodup_nil, fun a h => nomatch h⟩
theorem Fresh.of {H' : Hp} {As : List Addr} (s : Same H H') (f : Fresh Hs H' As) : Fresh Hs H As := ⟨f.1, fun a h => ⟨(f.2 a h).1, s.free (f.2 a h).2⟩⟩
abbrev Fin (K : PySem.W.Frag) (Hs H : Hp) (Qd : Md → D → Prop) (Qv : VK) : Prop := ∀ v H' Hs' m d As, Grow Hs H Hs' H' → RM K Hs' H' m d v As → Fresh Hs' H As → Qd m d → Qv v H'
theorem Fin.after {Hs' H' : Hp} {Qd : Md → D → Prop} {Qv : VK} (f : Fin K Hs H Qd Qv) (g : Grow Hs H Hs' H') : Fin K Hs' H' Qd Qv := fun v H2 Hs2 m d As g2 r fr q => f v H2 Hs2 m d As (g.trans g2) r (fr.of g.all) q
theorem Fin.sh {Qd : Md → D → Prop} {Qv : VK} {d : D} {v : V} (f : Fin K Hs H Qd Qv) (w : Wf Hs H) (r : Rep K Hs d v) (q : Qd .sh d) : Qv v H := f v H Hs .sh d [] (Grow.refl w) ⟨rfl, r⟩ Fresh.nil q
theorem Fin.flat {Qd : Md → D → Prop} {Qv : VK} {d : D} {v : V} (f : Fin K Hs H Qd Qv) (w : Wf Hs H) (r : Rep K H d v) (hf : d.flat = true) (q : Qd .sh d) : Qv v H := f.sh w (r.flatIn w.tups hf) q
theorem Fin.bo {Qd : Md → D → Prop} {Qv : VK} {d : D} {v : V} (f : Fin K Hs H Qd Qv) (w : Wf Hs H) (r : Rep K H d v) (q : Qd .bo d) : Qv v H := f v H Hs .bo d [] (Grow.refl w) ⟨rfl, r⟩ Fresh.nil q
def itm (m : Md) (d : D) : Md := match m with
  | .sh => .sh
  | _ => bif d.flat then .sh else .bo
theorem Fin.itm {Qd : Md → D → Prop} {Qv : VK} {m : Md} {d : D} {v : V} (f : Fin K Hs H Qd Qv) (w : Wf Hs H) (r : Rep K H d v) (rs : m = .sh → Rep K Hs d v) (q : Qd (itm m d) d) : Qv v H := by
  cases m with
  | sh => exact f.sh w (rs rfl) q
  | ow fl =>
    cases hf : d.flat with
    | true => exact f.flat w r hf (by simpa [Q.itm, hf] using q)
    | false => exact f.bo w r (by simpa [Q.itm, hf] using q)
  | bo =>
    cases hf : d.flat with
    | true => exact f.flat w r hf (by simpa [Q.itm, hf] using q)
    | false => exact f.bo w r (by simpa [Q.itm, hf] using q)
theorem Fin.lst {Qd : Md → D → Prop} {Qv : VK} {ds : List D} {vs : List V} (f : Fin K Hs H Qd Qv) (w : Wf Hs H) (hz : ds.length ≤ sizeLine) (r : Reps K H ds vs) (hf : flats ds = true) (q : Qd (.ow true) (.list ds)) : ∀ p, H p = none → Qv (.ref p) (upd H p (.lst vs)) := fun p hp =>
  f _ _ Hs (.ow true) (.list ds) [p] (newL w hp fun _ z => nomatch z) ⟨.list (by rw [← r.length]; exact hz) upd_same ((r.flatIn w.tups hf).owned hf), by simp⟩ ⟨by simp, fun a h => by
    obtain rfl : a = p := by simpa using h
    exact ⟨w.sub.free hp, hp⟩⟩ q
theorem Fin.lstS {Qd : Md → D → Prop} {Qv : VK} {ds : List D} {vs : List V} (f : Fin K Hs H Qd Qv) (w : Wf Hs H) (hz : ds.length ≤ sizeLine) (r : Reps K Hs ds vs) (q : Qd (.ow false) (.list ds)) : ∀ p, H p = none → Qv (.ref p) (upd H p (.lst vs)) := fun p hp =>
  f _ _ Hs (.ow false) (.list ds) [p] (newL w hp fun _ z => nomatch z) ⟨.list (by rw [← r.length]; exact hz) upd_same r.ownedF, by simp⟩ ⟨by simp, fun a h => by
    obtain rfl : a = p := by simpa using h
    exact ⟨w.sub.free hp, hp⟩⟩ q
theorem Fin.tup {Qd : Md → D → Prop} {Qv : VK} {ds : List D} {vs : List V} (f : Fin K Hs H Qd Qv) (w : Wf Hs H) (hz : ds.length ≤ sizeLine) (r : Reps K H ds vs) (hf : flats ds = true) (q : Qd .sh (.tup ds)) : ∀ p, H p = none → Qv (.ref p) (upd H p (.tup vs)) := fun p hp =>
  f _ _ (upd Hs p (.tup vs)) .sh (.tup ds) [] (newT w hp) ⟨rfl, .tup (by rw [← r.length]; exact hz) upd_same ((r.flatIn w.tups hf).same ((Same.refl Hs).upd (w.sub.free hp)))⟩ Fresh.nil q
end

section
variable {X : Cx} {K : PySem.W.Frag}
theorem PE.imp {e : Expr} {te te' : TE} (h : PE X e te) (i : ∀ σ H Q, te' σ H Q → te σ H Q) : PE X e te' := fun pins s σ H Q I q => h pins s σ H Q I (i σ H Q q)
theorem PT.imp {e : Expr} {te te' : TT} (h : PT X e te) (i : ∀ σ H Q, te' σ H Q → te σ H Q) : PT X e te' := fun pins s σ H Q I q => h pins s σ H Q I (i σ H Q q)
theorem PW.imp {e : Expr} {te te' : TT} (h : PW X e te) (i : ∀ σ H Q, te' σ H Q → te σ H Q) : PW X e te' := fun wh pins s σ H Q I q => h wh pins s σ H Q I (i σ H Q q)
theorem PA.imp {e : List Expr} {te te' : TA} (h : PA X e te) (i : ∀ σ H Q, te' σ H Q → te σ H Q) : PA X e te' := fun p pins s σ H Q I q => h p pins s σ H Q I (i σ H Q q)

def useS : Option (Option Sl) → (Md → D → Prop) → Prop
  | some (some (.sh d)), Q => Q .sh d
  | some (some (.ow _ d)), Q => Q .bo d
  | some (some (.lk _ _ d)), Q => Q .bo d
  | _, _ => False
def wVar (i : Nat) : WE := fun ρ Q => useS ρ[i]? Q
theorem q_var {i : Nat} {e : Expr} (h : PE X e (tVar i)) : QE X K e (wVar i) := by
  refine PE.imp h fun σ H Qv ⟨Hs, ρ, tot, Q, sr, h, f⟩ => ?_
  unfold wVar at h
  cases e : ρ[i]? with
  | none => rw [e] at h; exact h.elim
  | some o =>
    cases o with
    | none => rw [e] at h; exact h.elim
    | some sl =>
      obtain ⟨v, e1, r⟩ := sr.sr.get e
      rw [e] at h
      cases sl with
      | sh d => exact ⟨v, e1, Fin.sh f sr.wf r h⟩
      | ow fl d =>
        obtain ⟨As, _, r, _⟩ := r
        exact ⟨v, e1, Fin.bo f sr.wf (r.rep sr.wf.sub fun _ _ => rfl) h⟩
      | lk a fl d =>
        obtain ⟨As, _, r, _⟩ := r
        exact ⟨v, e1, Fin.bo f sr.wf (r.rep sr.wf.sub fun _ _ => rfl) h⟩
theorem qv (i : Nat) {x : Str} {pos : Pos} (hN : X.N[i]? = some x := by rfl) (hv : Vis X.env.scope x := by first | exact Or.inl rfl | exact Or.inr (Or.inl rfl) | exact Or.inr (Or.inr rfl)) (hd : (x == ("__debug__" : Str)) = false := by decide)
    (hcd : (x == ("__classdict__" : Str)) = false := by decide) : QE X K (.Name x pos) (wVar i) := q_var (pe_var hN hv hd hcd)
def wC (d : D) : WE := fun _ Q => Q .sh d
theorem q_con {e : Expr} {v : V} {d : D} (h : PE X e (tC v)) (r : ∀ H, Rep K H d v) : QE X K e (wC d) :=
  PE.imp h fun σ H Qv ⟨Hs, ρ, tot, Q, sr, h, f⟩ => Fin.sh f sr.wf (r _) h
theorem q_int {i j pos} : QE X K (.Constant (.int i) j pos) (wC (.int i)) := q_con pe_int fun _ => .int i
theorem q_str {i j pos} (h : i.length ≤ sizeLine := by decide) : QE X K (.Constant (.str i) j pos) (wC (.str i)) := q_con pe_str fun _ => .str h
theorem q_bl {i j pos} : QE X K (.Constant (.bool i) j pos) (wC (.bl i)) := q_con pe_bl fun _ => .bl i
theorem q_gs {x z : Str} {pos : Pos} (h : GlS X.mg x z) (hg : Gl X x := by rfl) (hd : (x == ("__debug__" : Str)) = false := by decide) (hz : z.length ≤ sizeLine := by decide) : QE X K (.Name x pos) (wC (.str z)) := q_con (pe_gs h hg hd) fun _ => .str hz
theorem q_gi {x : Str} {i : Int} {pos : Pos} (h : GlI X.mg x i) (hg : Gl X x := by rfl) (hd : (x == ("__debug__" : Str)) = false := by decide) : QE X K (.Name x pos) (wC (.int i)) := q_con (pe_gi h hg hd) fun _ => .int i

abbrev W2 := Md → D → Md → D → (Md → D → Prop) → Prop
abbrev W1 := Md → D → (Md → D → Prop) → Prop
def Br2 (K : PySem.W.Frag) (r : R2) (f : W2) : Prop := ∀ Hs H m x v As n y u Bs Qd Qv, Wf Hs H → RM K Hs H m x v As → RM K Hs H n y u Bs → f m x n y Qd → Fin K Hs H Qd Qv → r v u H Qv
def Br1 (K : PySem.W.Frag) (r : V → Hp → VK → Prop) (f : W1) : Prop := ∀ Hs H m x v As Qd Qv, Wf Hs H → RM K Hs H m x v As → f m x Qd → Fin K Hs H Qd Qv → r v H Qv
def wOp (f : W2) (ta tb : WE) : WE := fun ρ Q => ta ρ fun m x => tb ρ fun n y => f m x n y Q
def wUn (f : W1) (ta : WE) : WE := fun ρ Q => ta ρ fun m x => f m x Q
variable {a b c : Expr} {ta tb tc : WE} {pos : Pos}
theorem op_lift {r : R2} {f : W2} (br : Br2 K r f) (σ : St) (H : Hp) (Qv : VK) (h : tpE K (wOp f ta tb) σ H Qv) : tOp r (tpE K ta) (tpE K tb) σ H Qv := by
  obtain ⟨Hs, ρ, tot, Q, sr, h, fin⟩ := h
  refine ⟨Hs, ρ, tot, _, sr, h, fun v H1 Hs1 m x As g1 r1 f1 q1 => ⟨Hs1, ρ, tot, _, sr.grow g1, q1, fun u H2 Hs2 n y Bs g2 r2 f2 q2 => ?_⟩⟩
  exact br Hs2 H2 m x v As n y u Bs Q Qv g2.wf (r1.grow g2) r2 q2 (Fin.after fin (g1.trans g2))
theorem q_op {op : Operator} {r : R2} {f : W2} (ho : OpR X (binaryOp op) r) (br : Br2 K r f) (ha : QE X K a ta) (hb : QE X K b tb) : QE X K (.BinOp a op b pos) (wOp f ta tb) := PE.imp (pe_op ho ha hb) (op_lift br)
theorem q_un {op : UnaryOp} {r : V → Hp → VK → Prop} {f : W1} (ho : UnR X (unaryOp op) r) (br : Br1 K r f) (ha : QE X K a ta) : QE X K (.UnaryOp op a pos) (wUn f ta) := by
  refine PE.imp (pe_un ho ha) fun σ H Qv ⟨Hs, ρ, tot, Q, sr, h, fin⟩ => ?_
  exact ⟨Hs, ρ, tot, _, sr, h, fun v H1 Hs1 m x As g1 r1 f1 q1 => br Hs1 H1 m x v As Q Qv g1.wf r1 q1 (Fin.after fin g1)⟩
theorem q_cmp {op : CmpOp} {r : R2} {f : W2} (ho : OpR X (compareOp op) r) (br : Br2 K r f) (ha : QE X K a ta) (hb : QE X K b tb) (hm : behindInMarks op b = false) : QE X K (.Compare a [op] [b] pos) (wOp f ta tb) := PE.imp (pe_cmpR ho ha hb hm) (op_lift br)
def wB (t : WE) : WT := fun ρ Q => t ρ fun _ x => match x with
  | .bl b => Q b
  | _ => False
theorem tst_lift {t : WE} (σ : St) (H : Hp) (Qv : Bool → Hp → Prop) (h : tpT K (wB t) σ H Qv) : tTest (tpE K t) σ H Qv := by
  obtain ⟨Hs, ρ, tot, Q, sr, h, fin⟩ := h
  refine ⟨Hs, ρ, tot, _, sr, h, fun v H1 Hs1 m x As g1 r1 f1 q1 => ?_⟩
  have r := r1.rep g1.wf
  cases r with
  | bl b => exact ⟨b, rfl, fin b H1 Hs1 g1 q1⟩
  | _ => exact q1.elim
theorem q_tcmp {op : CmpOp} {r : R2} {f : W2} (ho : OpR X (compareOp op) r) (br : Br2 K r f) (ha : QE X K a ta) (hb : QE X K b tb) (hm : behindInMarks op b = false) : QT X K (.Compare a [op] [b] pos) (wB (wOp f ta tb)) := by
  refine PT.imp (pt_cmpR ho ha hb hm) fun σ H Qv h => ?_
  obtain ⟨Hs, ρ, tot, Q, sr, h, fin⟩ := h
  refine op_lift br σ H _ ⟨Hs, ρ, tot, _, sr, h, fun v H1 Hs1 m x As g1 r1 f1 q1 => ?_⟩
  have r := r1.rep g1.wf
  cases r with
  | bl b => exact ⟨b, rfl, fin b H1 Hs1 g1 q1⟩
  | _ => exact q1.elim
theorem q_tval {t : WE} (h : QE X K a t) (he : ∀ whole, isTrue a X.env whole = (do let v ← whole; standAt a.pos; holding [v] (truthy v)) := by intro _; rfl) : QT X K a (wB t) := PT.imp (pt_val h he) tst_lift
def wChain (f g : W2) (ta tb tc : WE) : WE := fun ρ Q => ta ρ fun m x => tb ρ fun n y => f m x n y fun _ z => match z with
  | .bl k => if k = true then tc ρ fun l w => g n y l w Q else Q .sh (.bl false)
  | _ => False
end
end L2.Q

set_option Elab.async false
set_option linter.all false
set_option maxRecDepth 100000
set_option maxHeartbeats 4000000

namespace L2.Q
open PySem PySem.Spec PyProof.Rows

section
variable {X : Cx} {K : PySem.W.Frag} {a b c : Expr} {ta tb tc : WE} {pos : Pos}

theorem chain_lift {r r' : R2} {f g : W2} (br : Br2 K r f) (br' : Br2 K r' g) (σ : St) (H : Hp) (Qv : VK) (h : tpE K (wChain f g ta tb tc) σ H Qv) : tChain r r' (tpE K ta) (tpE K tb) (tpE K tc) σ H Qv := by
  obtain ⟨Hs, ρ, tot, Q, sr, h, fin⟩ := h
  refine ⟨Hs, ρ, tot, _, sr, h, fun v H1 Hs1 m x As g1 r1 f1 q1 => ⟨Hs1, ρ, tot, _, sr.grow g1, q1, fun u H2 Hs2 n y Bs g2 r2 f2 q2 => ?_⟩⟩
  refine br Hs2 H2 m x v As n y u Bs _ _ g2.wf (r1.grow g2) r2 q2 fun z H3 Hs3 m3 d3 As3 g3 r3 f3 q3 => ?_
  have rr := r3.rep g3.wf
  cases rr with
  | bl k =>
    refine ⟨k, rfl, ?_⟩
    have fin3 : Fin K Hs3 H3 Q Qv := Fin.after fin ((g1.trans g2).trans g3)
    cases k with
    | false => exact fin3.sh g3.wf (.bl false) q3
    | true =>
      refine ⟨Hs3, ρ, tot, _, ((sr.grow g1).grow g2).grow g3, q3, fun w H4 Hs4 l z As4 g4 r4 f4 q4 => ?_⟩
      exact br' Hs4 H4 n y u Bs l z w As4 Q Qv g4.wf ((r2.grow g3).grow g4) r4 q4 (Fin.after fin3 g4)
  | _ => exact q3.elim
theorem q_chain {op op' : CmpOp} {r r' : R2} {f g : W2} (ho : OpR X (compareOp op) r) (ho' : OpR X (compareOp op') r') (br : Br2 K r f) (br' : Br2 K r' g) (ha : QE X K a ta) (hb : QE X K b tb) (hc : QE X K c tc)
    (hm : lastMarks [op, op'] [b, c] = false := by with_unfolding_all rfl) : QE X K (.Compare a [op, op'] [b, c] pos) (wChain f g ta tb tc) := PE.imp (pe_chain ho ho' ha hb hc hm) (chain_lift br br')
theorem q_tchain {op op' : CmpOp} {r r' : R2} {f g : W2} (ho : OpR X (compareOp op) r) (ho' : OpR X (compareOp op') r') (br : Br2 K r f) (br' : Br2 K r' g) (ha : QE X K a ta) (hb : QE X K b tb) (hc : QE X K c tc)
    (hm : lastMarks [op, op'] [b, c] = false := by with_unfolding_all rfl) : QT X K (.Compare a [op, op'] [b, c] pos) (wB (wChain f g ta tb tc)) := by
  refine PT.imp (pt_chain ho ho' ha hb hc hm) fun σ H Qv h => ?_
  obtain ⟨Hs, ρ, tot, Q, sr, h, fin⟩ := h
  refine chain_lift br br' σ H _ ⟨Hs, ρ, tot, _, sr, h, fun v H1 Hs1 m x As g1 r1 f1 q1 => ?_⟩
  have r := r1.rep g1.wf
  cases r with
  | bl b => exact ⟨b, rfl, fin b H1 Hs1 g1 q1⟩
  | _ => exact q1.elim
def wOr (t u : WT) : WT := fun ρ Q => t ρ fun c => if c = true then Q true else u ρ Q
def wNot (t : WT) : WT := fun ρ Q => t ρ fun c => Q (!c)
variable {tA tB : WT} {rest : List Expr}
theorem tpT_bind {t u : WT} {f : Bool → TT} {σ : St} {H : Hp} {Qv : Bool → Hp → Prop} {G : Bool → (Bool → Prop) → Env → Prop}
    (h : tpT K (fun ρ Q => t ρ fun c => G c Q ρ) σ H Qv)
    (i : ∀ c H1 Hs1 ρ tot Q, SRel K Hs1 ρ σ H1 tot → G c Q ρ → (∀ b H' Hs', Grow Hs1 H1 Hs' H' → Q b → Qv b H') → f c σ H1 Qv) : tpT K t σ H fun c H1 => f c σ H1 Qv := by
  obtain ⟨Hs, ρ, tot, Q, sr, h, fin⟩ := h
  exact ⟨Hs, ρ, tot, _, sr, h, fun c H1 Hs1 g1 q1 => i c H1 Hs1 ρ tot Q (sr.grow g1) q1 fun b H' Hs' g2 => fin b H' Hs' (g1.trans g2)⟩
theorem qw_or1 (ha : QT X K a tA) : QW X K (.BoolOp .Or [a] pos) tA := pw_or1 ha
theorem qw_or (ha : QT X K a tA) (hb : QW X K (.BoolOp .Or (b :: rest) pos) tB) : QW X K (.BoolOp .Or (a :: b :: rest) pos) (wOr tA tB) := by
  refine PW.imp (pw_or ha hb) fun σ H Qv h => ?_
  refine tpT_bind (u := tB) (f := fun c σ H1 Q => if c = true then Q true H1 else tpT K tB σ H1 Q) h fun c H1 Hs1 ρ tot Q sr q fin => ?_
  cases c with
  | true => exact fin true H1 Hs1 (Grow.refl sr.wf) q
  | false => exact ⟨Hs1, ρ, tot, Q, sr, q, fin⟩
theorem qt_w (h : QW X K a tA) : QT X K a tA := h _
theorem qt_not (ha : QT X K a tA) : QT X K (.UnaryOp .Not a pos) (wNot tA) := by
  refine PT.imp (pt_not ha) fun σ H Qv h => ?_
  exact tpT_bind (u := tA) (f := fun c σ H1 Q => Q (!c) H1) h fun c H1 Hs1 ρ tot Q sr q fin => fin _ H1 Hs1 (Grow.refl sr.wf) q
def wAndV (ta tb : WE) : WE := fun ρ Q => ta ρ fun _ x => match x with
  | .bl c => if c = true then tb ρ Q else Q .sh (.bl false)
  | _ => False
def wOrV (ta tb : WE) : WE := fun ρ Q => ta ρ fun _ x => match x with
  | .bl c => if c = true then Q .sh (.bl true) else tb ρ Q
  | _ => False
def wNotV (ta : WE) : WE := fun ρ Q => ta ρ fun _ x => match x with
  | .bl c => Q .sh (.bl (!c))
  | _ => False
theorem q_one {op} (h : QE X K a ta) : QE X K (.BoolOp op [a] pos) ta := pe_one h
theorem q_and (ha : QE X K a ta) (hb : QE X K (.BoolOp .And (b :: rest) pos) tb) : QE X K (.BoolOp .And (a :: b :: rest) pos) (wAndV ta tb) := by
  refine PE.imp (pe_and ha hb) fun σ H Qv ⟨Hs, ρ, tot, Q, sr, h, fin⟩ => ?_
  refine ⟨Hs, ρ, tot, _, sr, h, fun v H1 Hs1 m x As g1 r1 f1 q1 => ?_⟩
  have r := r1.rep g1.wf
  cases r with
  | bl c =>
    refine ⟨c, rfl, ?_⟩
    cases c with
    | true => exact ⟨Hs1, ρ, tot, Q, sr.grow g1, q1, Fin.after fin g1⟩
    | false => exact Fin.sh (Fin.after fin g1) g1.wf (.bl false) q1
  | _ => exact q1.elim
theorem q_or (ha : QE X K a ta) (hb : QE X K (.BoolOp .Or (b :: rest) pos) tb) : QE X K (.BoolOp .Or (a :: b :: rest) pos) (wOrV ta tb) := by
  refine PE.imp (pe_or ha hb) fun σ H Qv ⟨Hs, ρ, tot, Q, sr, h, fin⟩ => ?_
  refine ⟨Hs, ρ, tot, _, sr, h, fun v H1 Hs1 m x As g1 r1 f1 q1 => ?_⟩
  have r := r1.rep g1.wf
  cases r with
  | bl c =>
    refine ⟨c, rfl, ?_⟩
    cases c with
    | true => exact Fin.sh (Fin.after fin g1) g1.wf (.bl true) q1
    | false => exact ⟨Hs1, ρ, tot, Q, sr.grow g1, q1, Fin.after fin g1⟩
  | _ => exact q1.elim
theorem q_not (ha : QE X K a ta) : QE X K (.UnaryOp .Not a pos) (wNotV ta) := by
  refine PE.imp (pe_not ha) fun σ H Qv ⟨Hs, ρ, tot, Q, sr, h, fin⟩ => ?_
  refine ⟨Hs, ρ, tot, _, sr, h, fun v H1 Hs1 m x As g1 r1 f1 q1 => ?_⟩
  have r := r1.rep g1.wf
  cases r with
  | bl c => exact ⟨c, rfl, Fin.sh (Fin.after fin g1) g1.wf (.bl _) q1⟩
  | _ => exact q1.elim
def wIf (t : WT) (ta tb : WE) : WE := fun ρ Q => t ρ fun c => if c = true then ta ρ Q else tb ρ Q
theorem q_if (hc : QT X K c tA) (ha : QE X K a ta) (hb : QE X K b tb) : QE X K (.IfExp c a b pos) (wIf tA ta tb) := by
  refine PE.imp (pe_ifExp hc ha hb) fun σ H Qv ⟨Hs, ρ, tot, Q, sr, h, fin⟩ => ?_
  refine ⟨Hs, ρ, tot, _, sr, h, fun k H1 Hs1 g1 q1 => ?_⟩
  cases k with
  | true => exact ⟨Hs1, ρ, tot, Q, sr.grow g1, q1, Fin.after fin g1⟩
  | false => exact ⟨Hs1, ρ, tot, Q, sr.grow g1, q1, Fin.after fin g1⟩
def truD : D → Option Bool
  | .non => some false
  | .bl b => some b
  | .int i => some (i != 0)
  | .str x => some ((x.length : Int) != 0)
  | .list xs => some !xs.isEmpty
  | .tup xs => some !xs.isEmpty
  | .dK kvs => some !kvs.isEmpty
  | .dT kvs => none
end
end L2.Q

set_option Elab.async false
set_option linter.all false
set_option maxRecDepth 100000
set_option maxHeartbeats 4000000

namespace L2.Q
open PySem PySem.Spec PyProof.Rows

def fAdd : W2 := fun m x n y Q => match x, y with
  | .int i, .int j => Q .sh (.int (i + j))
  | .str i, .str j => i.length + j.length ≤ sizeLine ∧ Q .sh (.str (i ++ j))
  | .list xs, .list ys => xs.length + ys.length ≤ sizeLine ∧ ((flats xs = true ∧ flats ys = true ∧ Q (.ow true) (.list (xs ++ ys))) ∨ (m = .sh ∧ n = .sh ∧ Q (.ow false) (.list (xs ++ ys))))
  | .tup xs, .tup ys => xs ≠ [] ∧ xs.length + ys.length ≤ sizeLine ∧ flats xs = true ∧ flats ys = true ∧ Q .sh (.tup (xs ++ ys))
  | _, _ => False
def fSub : W2 := fun _ x _ y Q => match x, y with
  | .int i, .int j => Q .sh (.int (i - j))
  | _, _ => False
def fMul : W2 := fun _ x _ y Q => match x, y with
  | .int i, .int j => CMul i j ∧ Q .sh (.int (i * j))
  | _, _ => False
def fDiv : W2 := fun _ x _ y Q => match x, y with
  | .int i, .int j => (0 < j ∧ j < 1073741824) ∧ Q .sh (.int (i / j))
  | _, _ => False
def fMod : W2 := fun _ x _ y Q => match x, y with
  | .int i, .int j => 0 < j ∧ Q .sh (.int (i % j))
  | _, _ => False
def fLt : W2 := fun _ x _ y Q => match x, y with
  | .int i, .int j => Q .sh (.bl (decide (i < j)))
  | .str i, .str j => Q .sh (.bl (ltS i j))
  | _, _ => False
def fLe : W2 := fun _ x _ y Q => match x, y with
  | .int i, .int j => Q .sh (.bl (decide (i ≤ j)))
  | .str i, .str j => Q .sh (.bl (!ltS j i))
  | _, _ => False
def fGt : W2 := fun _ x _ y Q => match x, y with
  | .int i, .int j => Q .sh (.bl (decide (j < i)))
  | _, _ => False
def fEq : W2 := fun _ x _ y Q => match x, y with
  | .int i, .int j => Q .sh (.bl (decide (i = j)))
  | .str i, .str j => Q .sh (.bl (decide (i = j)))
  | .bl i, .bl j => Q .sh (.bl (decide (i = j)))
  | _, _ => okD 12 x = true ∧ okD 12 y = true ∧ Q .sh (.bl (eqD x y))
def fNe : W2 := fun _ x _ y Q => match x, y with
  | .int i, .int j => Q .sh (.bl (!decide (i = j)))
  | .str i, .str j => Q .sh (.bl (!decide (i = j)))
  | .bl i, .bl j => Q .sh (.bl (!decide (i = j)))
  | _, _ => okD 12 x = true ∧ okD 12 y = true ∧ Q .sh (.bl (!eqD x y))
def D.isN : D → Bool
  | .non => true
  | _ => false
def scalD : D → Bool
  | .non => true
  | .bl _ => true
  | .int _ => true
  | .str _ => true
  | _ => false
def inD (x : D) (ys : List D) : Bool := ys.any fun y => eqD y x
def fIn (neg : Bool) : W2 := fun _ x _ y Q => match y with
  | .str j => match x with
    | .str i => Q .sh (.bl (if neg then !inS i j else inS i j))
    | _ => False
  | .list ys => scalD x = true ∧ ys.all scalD = true ∧ Q .sh (.bl (if neg then !inD x ys else inD x ys))
  | .tup ys => scalD x = true ∧ ys.all scalD = true ∧ Q .sh (.bl (if neg then !inD x ys else inD x ys))
  | .dK kvs => ∃ k, x.key1 = some k ∧ Q .sh (.bl (if neg then !(getG kvs k).isSome else (getG kvs k).isSome))
  | .dT kvs => match x with
    | .tup xs => ∃ ks, keys1 xs = some ks ∧ Q .sh (.bl (if neg then !(getG kvs ks).isSome else (getG kvs ks).isSome))
    | _ => False
  | _ => False

section
variable {K : PySem.W.Frag}
theorem Br2.flatV {r : R2} {f : W2} (h : ∀ Hs H m x v As n y u Bs Qd Qv, Wf Hs H → RM K Hs H m x v As → RM K Hs H n y u Bs → f m x n y Qd → Fin K Hs H Qd Qv → r v u H Qv) : Br2 K r f := h
theorem rep_str {Hs H : Hp} {Qd : Md → D → Prop} {Qv : VK} (f : Fin K Hs H Qd Qv) (w : Wf Hs H) {x : Str} (h : x.length ≤ sizeLine) (q : Qd .sh (.str x)) : Qv (.str x) H := f.sh w (.str h) q
theorem str_app_len (i j : Str) : (i ++ j).length = i.length + j.length := by
  show ((i ++ j).cps.size) = _
  show (i.cps ++ j.cps).size = _
  simp [Str.length]
theorem br_add : Br2 K (fun x y H Q => rAddU K x y H Q ∨ rCatT K x y H Q) fAdd := by
  intro Hs H m x v As n y u Bs Qd Qv w rx ry h f
  have r1 := rx.rep w
  have r2 := ry.rep w
  unfold fAdd at h
  cases r1 with
  | int i => cases r2 with
    | int j => exact .inl (f.sh w (.int _) h)
    | _ => exact h.elim
  | str hi => cases r2 with
    | str hj => exact .inl ⟨h.1, rep_str f w (by rw [str_app_len]; exact h.1) h.2⟩
    | _ => exact h.elim
  | list z1 s1 q1 => cases r2 with
    | list z2 s2 q2 =>
      have l1 := q1.length
      have l2 := q2.length
      have hz := h.1
      rcases h.2 with ⟨f1, f2, q⟩ | ⟨rfl, rfl, q⟩
      · refine .inl ⟨_, _, s1, s2, by omega, ?_⟩
        exact f.lst w (by rw [List.length_append]; exact hz) (q1.append q2) (by rw [flats_append, f1, f2]; rfl) q
      · obtain ⟨_, rx⟩ := rx
        obtain ⟨_, ry⟩ := ry
        cases rx with
        | list z1' s1' q1' => cases ry with
          | list z2' s2' q2' =>
            have l1 := q1'.length
            have l2 := q2'.length
            refine .inl ⟨_, _, Same.seq w.sub s1', Same.seq w.sub s2', by omega, ?_⟩
            exact f.lstS w (by rw [List.length_append]; exact hz) (q1'.append q2') q
    | _ => exact h.elim
  | tup t1 s1 q1 => cases r2 with
    | tup t2 s2 q2 =>
      have l1 := q1.length
      have l2 := q2.length
      obtain ⟨hne, hz, f1, f2, q⟩ := h
      refine .inr ⟨_, _, _, _, rfl, rfl, .inl (.inl s1), .inl (.inl s2), ?_, by omega, ?_⟩
      · intro e
        subst e
        exact hne (List.length_eq_zero_iff.mp l1)
      · refine ⟨fun e => ?_, fun _ => f.tup w (by rw [List.length_append]; exact hz) (q1.append q2) (by rw [flats_append, f1, f2]; rfl) q⟩
        subst e
        cases q2
        rw [List.append_nil] at q
        exact f.flat w (.tup t1 s1 q1) (by simpa [D.flat] using f1) q
    | _ => exact h.elim
  | _ => exact h.elim

theorem br_sub : Br2 K rSubU fSub := by
  intro Hs H m x v As n y u Bs Qd Qv w rx ry h f
  have r1 := rx.rep w
  have r2 := ry.rep w
  cases r1 with
  | int i => cases r2 with
    | int j => exact f.sh w (.int _) h
    | _ => exact h.elim
  | _ => cases r2 <;> exact h.elim
theorem br_mul : Br2 K rMulU fMul := by
  intro Hs H m x v As n y u Bs Qd Qv w rx ry h f
  have r1 := rx.rep w
  have r2 := ry.rep w
  cases r1 with
  | int i => cases r2 with
    | int j => exact ⟨h.1, f.sh w (.int _) h.2⟩
    | _ => exact h.elim
  | _ => cases r2 <;> exact h.elim
theorem br_div : Br2 K rDivU fDiv := by
  intro Hs H m x v As n y u Bs Qd Qv w rx ry h f
  have r1 := rx.rep w
  have r2 := ry.rep w
  cases r1 with
  | int i => cases r2 with
    | int j => exact ⟨h.1, f.sh w (.int _) h.2⟩
    | _ => exact h.elim
  | _ => cases r2 <;> exact h.elim
theorem br_mod : Br2 K rModU fMod := by
  intro Hs H m x v As n y u Bs Qd Qv w rx ry h f
  have r1 := rx.rep w
  have r2 := ry.rep w
  cases r1 with
  | int i => cases r2 with
    | int j => exact ⟨h.1, f.sh w (.int _) h.2⟩
    | _ => exact h.elim
  | _ => cases r2 <;> exact h.elim
theorem br_lt : Br2 K rLtU fLt := by
  intro Hs H m x v As n y u Bs Qd Qv w rx ry h f
  have r1 := rx.rep w
  have r2 := ry.rep w
  cases r1 with
  | int i => cases r2 with
    | int j => exact f.sh w (.bl _) h
    | _ => exact h.elim
  | str i => cases r2 with
    | str j => exact f.sh w (.bl _) h
    | _ => exact h.elim
  | _ => cases r2 <;> exact h.elim
theorem br_le : Br2 K rLeU fLe := by
  intro Hs H m x v As n y u Bs Qd Qv w rx ry h f
  have r1 := rx.rep w
  have r2 := ry.rep w
  cases r1 with
  | int i => cases r2 with
    | int j => exact f.sh w (.bl _) h
    | _ => exact h.elim
  | str i => cases r2 with
    | str j => exact f.sh w (.bl _) h
    | _ => exact h.elim
  | _ => cases r2 <;> exact h.elim
theorem br_gt : Br2 K rGtU fGt := by
  intro Hs H m x v As n y u Bs Qd Qv w rx ry h f
  have r1 := rx.rep w
  have r2 := ry.rep w
  cases r1 with
  | int i => cases r2 with
    | int j => exact f.sh w (.bl _) h
    | _ => exact h.elim
  | _ => cases r2 <;> exact h.elim
theorem eq_data {Hs H : Hp} {x y : D} {v u : V} {Qd : Md → D → Prop} {Qv : VK} (w : Wf Hs H) (rx : Rep K H x v) (ry : Rep K H y u) (f : Fin K Hs H Qd Qv) (h : okD 12 x = true ∧ okD 12 y = true ∧ Qd .sh (.bl (eqD x y))) : rEqD K v u H Qv := by
  obtain ⟨h1, h2, q⟩ := h
  have l1 := ok_lay 12 x h1
  have l2 := ok_lay 12 y h2
  exact ⟨x.py, y.py, rx.l2 h1, ry.l2 h2, l1.1, l2.1, by omega, f.sh w (.bl _) q⟩
theorem ne_data {Hs H : Hp} {x y : D} {v u : V} {Qd : Md → D → Prop} {Qv : VK} (w : Wf Hs H) (rx : Rep K H x v) (ry : Rep K H y u) (f : Fin K Hs H Qd Qv) (h : okD 12 x = true ∧ okD 12 y = true ∧ Qd .sh (.bl (!eqD x y))) : rNeD K v u H Qv := by
  obtain ⟨h1, h2, q⟩ := h
  have l1 := ok_lay 12 x h1
  have l2 := ok_lay 12 y h2
  exact ⟨x.py, y.py, rx.l2 h1, ry.l2 h2, l1.1, l2.1, by omega, f.sh w (.bl _) q⟩
theorem br_eq : Br2 K (rEqU K) fEq := by
  intro Hs H m x v As n y u Bs Qd Qv w rx ry h f
  have r1 := rx.rep w
  have r2 := ry.rep w
  have d := fun h => eq_data (Qd := Qd) (Qv := Qv) w r1 r2 f h
  cases r1 with
  | int i => cases r2 with
    | int j => exact f.sh w (.bl _) h
    | _ => exact d h
  | str i => cases r2 with
    | str j => exact f.sh w (.bl _) h
    | _ => exact d h
  | bl i => cases r2 with
    | bl j => exact f.sh w (.bl _) h
    | _ => exact d h
  | _ => cases r2 <;> exact d h
theorem br_ne : Br2 K (rNeU K) fNe := by
  intro Hs H m x v As n y u Bs Qd Qv w rx ry h f
  have r1 := rx.rep w
  have r2 := ry.rep w
  have d := fun h => ne_data (Qd := Qd) (Qv := Qv) w r1 r2 f h
  cases r1 with
  | int i => cases r2 with
    | int j => exact f.sh w (.bl _) h
    | _ => exact d h
  | str i => cases r2 with
    | str j => exact f.sh w (.bl _) h
    | _ => exact d h
  | bl i => cases r2 with
    | bl j => exact f.sh w (.bl _) h
    | _ => exact d h
  | _ => cases r2 <;> exact d h
theorem scal_flat {H : Hp} {x : D} {v : V} (r : Rep K H x v) (h : scalD x = true) : flatV v = true := by
  cases r <;> first | rfl | (simp [scalD] at h)
theorem scal_eq {H : Hp} {x y : D} {v u : V} (r : Rep K H x v) (s : Rep K H y u) (h : scalD x = true) (g : scalD y = true) : eqV v u = eqD x y := by
  cases r <;> simp [scalD] at h <;> cases s <;> simp [scalD] at g <;> rfl
theorem scals {H : Hp} {x : D} {v : V} (r : Rep K H x v) (h : scalD x = true) : ∀ {ys : List D} {us : List V}, Reps K H ys us → ys.all scalD = true → us.all flatV = true ∧ inV v us = inD x ys
  | _, _, .nil, _ => ⟨rfl, rfl⟩
  | y :: ys, _, .cons s ss, g => by
    simp only [List.all_cons, Bool.and_eq_true] at g
    obtain ⟨e1, e2⟩ := scals r h ss g.2
    refine ⟨by simp only [List.all_cons, scal_flat s g.1, e1, Bool.and_self], ?_⟩
    unfold inV inD at *
    rw [List.any_cons, List.any_cons, e2, scal_eq s r g.1 h]
theorem getG_some {κ : Type} [DecidableEq κ] {H : Hp} {k : κ} {kvs : List (κ × D)} {vs : List V} (r : Reps K H (kvs.map (·.2)) vs) : (valV ((kvs.map (·.1)).zip vs) k).isSome = (getG kvs k).isSome := by
  have := zip_get (k := k) r
  split at this
  · rename_i e
    obtain ⟨v, e1, _⟩ := this
    rw [e1, e]; rfl
  · rename_i e
    rw [this, e]; rfl
theorem br_in {neg : Bool} : Br2 K (rInU K neg) (fIn neg) := by
  intro Hs H m x v As n y u Bs Qd Qv w rx ry h f
  have r1 := rx.rep w
  have r2 := ry.rep w
  cases r2 with
  | str j => cases r1 with
    | str i => exact f.sh w (.bl _) h
    | _ => exact h.elim
  | list z s q =>
    obtain ⟨h1, h2, h3⟩ := h
    obtain ⟨e1, e2⟩ := scals r1 h1 q h2
    have h4 := scal_flat r1 h1
    have g : rIn K neg v (.ref _) H Qv := ⟨_, _, rfl, .inl s, h4, e1, by rw [e2]; exact f.sh w (.bl _) h3⟩
    cases r1 <;> exact .inr g
  | tup _ s q =>
    obtain ⟨h1, h2, h3⟩ := h
    obtain ⟨e1, e2⟩ := scals r1 h1 q h2
    have h4 := scal_flat r1 h1
    have g : rIn K neg v (.ref _) H Qv := ⟨_, _, rfl, .inr (.inl (.inl s)), h4, e1, by rw [e2]; exact f.sh w (.bl _) h3⟩
    cases r1 <;> exact .inr g
  | dK kk e q =>
    obtain ⟨k, hk, h3⟩ := h
    have ev := r1.key hk
    subst ev
    have eg := getG_some (k := k) q
    cases k <;> exact .inl ⟨_, DGet.k e, by rw [eg]; exact f.sh w (.bl _) h3⟩
  | dT kk e q =>
    cases r1 with
    | tup t1 e1 q1 =>
      obtain ⟨ks, hk, h3⟩ := h
      obtain ⟨b, eb, e2⟩ := Rep.keyT (.tup t1 e1 q1) hk
      cases eb
      have eg := getG_some (k := ks) q
      exact .inl ⟨_, DGet.t e e2, by rw [eg]; exact f.sh w (.bl _) h3⟩
    | _ => exact h.elim
  | _ => exact h.elim
end
section
variable {X : Cx} {K : PySem.W.Frag} {a b : Expr} {ta tb : WE} {pos : Pos}
theorem kAdd2 (hK : X.K = K := by rfl) : OpR X (binaryOp .Add) (fun x y H Q => rAddU K x y H Q ∨ rCatT K x y H Q) := by subst hK; exact op_addU.or op_catT
theorem q_add (ha : QE X K a ta) (hb : QE X K b tb) (hK : X.K = K := by rfl) : QE X K (.BinOp a .Add b pos) (wOp fAdd ta tb) := q_op (kAdd2 hK) br_add ha hb
theorem q_sub (ha : QE X K a ta) (hb : QE X K b tb) : QE X K (.BinOp a .Sub b pos) (wOp fSub ta tb) := q_op op_subU br_sub ha hb
theorem q_mul (ha : QE X K a ta) (hb : QE X K b tb) : QE X K (.BinOp a .Mult b pos) (wOp fMul ta tb) := q_op op_mulU br_mul ha hb
theorem q_div (ha : QE X K a ta) (hb : QE X K b tb) : QE X K (.BinOp a .FloorDiv b pos) (wOp fDiv ta tb) := q_op op_divU br_div ha hb
theorem q_mod (ha : QE X K a ta) (hb : QE X K b tb) : QE X K (.BinOp a .Mod b pos) (wOp fMod ta tb) := q_op op_modU br_mod ha hb
def fNeg : W1 := fun _ x Q => match x with
  | .int i => Q .sh (.int (-i))
  | _ => False
theorem br_neg : Br1 K (rU fun i => .int (-i)) fNeg := by
  intro Hs H m x v As Qd Qv w rx h f
  have r1 := rx.rep w
  cases r1 with
  | int i => exact ⟨i, rfl, f.sh w (.int _) h⟩
  | _ => exact h.elim
theorem q_neg (ha : QE X K a ta) : QE X K (.UnaryOp .USub a pos) (wUn fNeg ta) := q_un un_neg br_neg ha
end
end L2.Q

set_option Elab.async false
set_option linter.all false
set_option maxRecDepth 100000
set_option maxHeartbeats 4000000

namespace L2.Q
open PySem PySem.Spec PyProof.Rows

def wNil : WA := fun _ Q => Q []
def wCons (te : WE) (t : WA) : WA := fun ρ Q => te ρ fun m x => t ρ fun ps => Q ((m, x) :: ps)
def okSh : Md × D → Bool
  | (.sh, _) => true
  | (_, d) => d.flat
def okOw : Md × D → Bool
  | (.bo, d) => d.flat
  | _ => true
def okFl : Md × D → Bool
  | (.ow true, _) => true
  | (_, d) => d.flat
def tupMd (ps : List (Md × D)) : Md := bif ps.all okSh then .sh else bif ps.all okOw then .ow (ps.all okFl) else .bo
def lstMd (ps : List (Md × D)) : Md := bif ps.all okOw then .ow (ps.all okFl) else .bo
def wTup (t : WA) : WE := fun ρ Q => t ρ fun ps => ps.length ≤ sizeLine ∧ Q (tupMd ps) (.tup (ps.map (·.2)))
def wLst (t : WA) : WE := fun ρ Q => t ρ fun ps => ps.length ≤ sizeLine ∧ Q (lstMd ps) (.list (ps.map (·.2)))
section
variable {X : Cx} {K : PySem.W.Frag} {e : Expr} {es : List Expr} {te : WE} {t : WA} {pos : Pos} {Hs H : Hp}
theorem qa_nil : QA X K [] wNil := PA.imp pa_nil fun σ H Qv ⟨Hs, ρ, tot, Q, sr, h, f⟩ => f [] H Hs [] [] (Grow.refl sr.wf) .nil Fresh.nil h
theorem Fresh.app {Hs1 Hs2 H1 : Hp} {As Bs : List Addr} (f1 : Fresh Hs1 H As) (o : ∀ a ∈ As, H1 a ≠ none) (f2 : Fresh Hs2 H1 Bs) (s : Same H H1) (k : ∀ a, Hs1 a = none → H1 a ≠ none → Hs2 a = none) : Fresh Hs2 H (As ++ Bs) :=
  ⟨List.nodup_append.mpr ⟨f1.1, f2.1, fun a ha b hb e => by subst e; exact o a ha (f2.2 a hb).2⟩, fun a h => by
    rcases List.mem_append.mp h with h | h
    · exact ⟨k a (f1.2 a h).1 (o a h), (f1.2 a h).2⟩
    · exact ⟨(f2.2 a h).1, s.free (f2.2 a h).2⟩⟩
theorem qa_cons (ha : QE X K e te) (hr : QA X K es t) (hs : starEach (e :: es) X.env = (false, eval e X.env) :: starEach es X.env := by rfl) : QA X K (e :: es) (wCons te t) := by
  refine PA.imp (pa_cons ha hr hs) fun σ H Qv ⟨Hs, ρ, tot, Q, sr, h, f⟩ => ?_
  refine ⟨Hs, ρ, tot, _, sr, h, fun v H1 Hs1 m x As g1 r1 f1 q1 => ⟨Hs1, ρ, tot, _, sr.grow g1, q1, fun vs H2 Hs2 ps Bs g2 r2 f2 q2 => ?_⟩⟩
  exact f (v :: vs) H2 Hs2 _ _ (g1.trans g2) (.cons (r1.grow g2) r2) (f1.app (fun a h => (r1.own a h).ne) f2 g1.all fun a h1 h2 => g2.hsn h1 h2) q2
theorem RMs.sh (w : Wf Hs H) : ∀ {ps : List (Md × D)} {vs : List V} {As : List Addr}, RMs K Hs H ps vs As → ps.all okSh = true → Reps K Hs (ps.map (·.2)) vs
  | _, _, _, .nil, _ => .nil
  | (m, d) :: ps, _, _, .cons r rs, h => by
    simp only [List.all_cons, Bool.and_eq_true] at h
    refine .cons ?_ (RMs.sh w rs h.2)
    cases m with
    | sh => exact r.2
    | ow fl => exact r.flat w h.1
    | bo => exact r.flat w h.1
theorem RMs.ow {fl : Bool} (w : Wf Hs H) : ∀ {ps : List (Md × D)} {vs : List V} {As : List Addr}, RMs K Hs H ps vs As → ps.all okOw = true → (fl = true → ps.all okFl = true) → ∃ Bs, Bs.Sublist As ∧ (ps.all okSh = false → Bs ≠ []) ∧ RepOs K Hs H fl (ps.map (·.2)) vs Bs
  | _, _, _, .nil, _, _ => ⟨[], List.nil_sublist _, (fun z => nomatch z), .nil⟩
  | (m, d) :: ps, _, _, .cons (As := A1) r rs, h, hf => by
    simp only [List.all_cons, Bool.and_eq_true] at h hf
    obtain ⟨Bs, sb, ne, q⟩ := RMs.ow w rs h.2 fun z => (hf z).2
    cases m with
    | sh => exact ⟨[] ++ Bs, by simpa using sb.trans (List.sublist_append_right _ _), fun z => ne (by simpa [okSh] using z), .cons (.sh (fun z => (hf z).1) r.2) q⟩
    | bo => exact ⟨[] ++ Bs, by simpa using sb.trans (List.sublist_append_right _ _), fun z => ne (by rw [List.all_cons, show okSh (Md.bo, d) = true from h.1] at z; simpa using z), .cons (.sh (fun _ => h.1) (r.flat w h.1)) q⟩
    | ow b =>
      cases hd : d.flat with
      | true => exact ⟨[] ++ Bs, by simpa using sb.trans (List.sublist_append_right _ _), fun z => ne (by rw [List.all_cons, show okSh (Md.ow b, d) = true from hd] at z; simpa using z), .cons (.sh (fun _ => hd) (r.flat w hd)) q⟩
      | false =>
        refine ⟨A1 ++ Bs, sb.append_left _, fun _ z => r.2 (List.append_eq_nil_iff.mp z).1, .cons ?_ q⟩
        cases fl with
        | false => exact RepO.fls r.1
        | true =>
          have := (hf rfl).1
          cases b with
          | true => exact r.1
          | false => simp [okFl, hd] at this
theorem flats_sh : ∀ {ps : List (Md × D)}, flats (ps.map (·.2)) = true → ps.all okSh = true
  | [], _ => rfl
  | (m, d) :: ps, h => by
    simp only [List.map_cons, flats, Bool.and_eq_true] at h
    simp only [List.all_cons, Bool.and_eq_true]
    exact ⟨by cases m <;> simp [okSh, h.1], flats_sh h.2⟩
theorem q_tup {x1} (h : QA X K es t) : QE X K (.Tuple es x1 pos) (wTup t) := by
  refine PE.imp (pe_tup h) fun σ H Qv ⟨Hs, ρ, tot, Q, sr, h, f⟩ => ?_
  refine ⟨Hs, ρ, tot, _, sr, h, fun vs H1 Hs1 ps As g1 r1 f1 q1 => ?_⟩
  obtain ⟨hz, q⟩ := q1
  have rl := (r1.reps g1.wf)
  have hl := rl.length
  rw [List.length_map] at hl
  refine ⟨by omega, fun p hp => ?_⟩
  have g2 := newT (vs := vs) g1.wf hp
  have fin := Fin.after f g1
  unfold tupMd at q
  cases h1 : ps.all okSh with
  | true =>
    rw [h1] at q
    exact fin _ _ _ .sh _ [] g2 ⟨rfl, .tup (by omega) upd_same ((r1.sh g1.wf h1).same g2.sh)⟩ Fresh.nil q
  | false =>
    rw [h1] at q
    cases h2 : ps.all okOw with
    | false =>
      rw [h2] at q
      exact fin _ _ _ .bo _ [] g2 ⟨rfl, .tup (by omega) upd_same (rl.same g2.all)⟩ Fresh.nil q
    | true =>
      rw [h2] at q
      obtain ⟨Bs, sb, nz, ro⟩ := r1.ow (fl := ps.all okFl) g1.wf h2 fun z => z
      have hne : flats (ps.map (·.2)) = false := by
        cases hf : flats (ps.map (·.2)) with
        | false => rfl
        | true => rw [flats_sh hf] at h1; cases h1
      have own := ro.own
      refine f _ _ _ (.ow _) _ Bs (g1.trans g2) ⟨.tup (by omega) upd_same hne (ro.grow g2.sh g2.all), nz h1⟩ ⟨sb.nodup f1.1, fun a ha => ⟨?_, (f1.2 a (sb.subset ha)).2⟩⟩ q
      exact g2.hsn (f1.2 a (sb.subset ha)).1 (own a ha).ne
theorem q_lst (h : QA X K es t) : QE X K (.List es pos) (wLst t) := by
  refine PE.imp (pe_lst h) fun σ H Qv ⟨Hs, ρ, tot, Q, sr, h, f⟩ => ?_
  refine ⟨Hs, ρ, tot, _, sr, h, fun vs H1 Hs1 ps As g1 r1 f1 q1 => ?_⟩
  obtain ⟨hz, q⟩ := q1
  have rl := (r1.reps g1.wf)
  have hl := rl.length
  rw [List.length_map] at hl
  refine ⟨by omega, fun p hp => ?_⟩
  have g2 := newL (o := .lst vs) g1.wf hp fun _ z => nomatch z
  have fin := Fin.after f g1
  unfold lstMd at q
  cases h2 : ps.all okOw with
  | false =>
    rw [h2] at q
    exact fin _ _ _ .bo _ [] g2 ⟨rfl, .list (by omega) (.inl (.inl upd_same)) (rl.same g2.all)⟩ Fresh.nil q
  | true =>
    rw [h2] at q
    obtain ⟨Bs, sb, nz, ro⟩ := r1.ow (fl := ps.all okFl) g1.wf h2 fun z => z
    have own := ro.own
    refine f _ _ _ (.ow _) _ (p :: Bs) (g1.trans g2) ⟨.list (by omega) upd_same (ro.grow g2.sh g2.all), by simp⟩ ⟨List.nodup_cons.mpr ⟨fun m => (own p m).ne hp, sb.nodup f1.1⟩, fun a ha => ?_⟩ q
    rcases List.mem_cons.mp ha with rfl | ha
    · exact ⟨g1.wf.sub.free hp, g1.all.free hp⟩
    · exact ⟨g2.hsn (f1.2 a (sb.subset ha)).1 (own a ha).ne, (f1.2 a (sb.subset ha)).2⟩
end

theorem Reps.atI {K : PySem.W.Frag} {H : Hp} {ds : List D} {vs : List V} {i : Int} {d : D} (r : Reps K H ds vs) (h : atI ds i = some d) : ∃ v, L2.atI vs i = some v ∧ Rep K H d v := by
  unfold L2.atI at *
  rw [← r.length]
  cases e : ixN ds.length i with
  | none => rw [e] at h; cases h
  | some j =>
    rw [e] at h
    exact r.get h
def fIx : W2 := fun m x _ y Q => match x with
  | .list xs => match y with
    | .int i => ∃ d, atI xs i = some d ∧ onK d (f := fun d => Q (itm m d) d) ⟨⟩
    | _ => False
  | .tup xs => match y with
    | .int i => ∃ d, atI xs i = some d ∧ onK d (f := fun d => Q (itm m d) d) ⟨⟩
    | _ => False
  | .str z => match y with
    | .int i => ∃ c, atI z.cps.toList i = some c ∧ Q .sh (.str ⟨#[c]⟩)
    | _ => False
  | .dK kvs => ∃ k d, y.key1 = some k ∧ getG kvs k = some d ∧ onK d (f := fun d => Q (itm m d) d) ⟨⟩
  | .dT kvs => match y with
    | .tup ys => ∃ ks d, keys1 ys = some ks ∧ getG kvs ks = some d ∧ onK d (f := fun d => Q (itm m d) d) ⟨⟩
    | _ => False
  | _ => False
def rIxD (K : PySem.W.Frag) : R2 := fun x y H Q => rIxU K x y H Q ∨ ∃ a v, x = .ref a ∧ DGet H a y (some v) ∧ Q v H
theorem one_len (c : Nat) : (⟨#[c]⟩ : Str).length ≤ sizeLine := by show 1 ≤ sizeLine; decide
theorem RM.here {K : PySem.W.Frag} {Hs H : Hp} {m : Md} {d : D} {v : V} {As : List Addr} (w : Wf Hs H) (r : RM K Hs H m d v As) : (m = .sh ∧ Rep K Hs d v) ∨ (m ≠ .sh ∧ Rep K H d v) := by
  cases m with
  | sh => exact .inl ⟨rfl, r.2⟩
  | ow fl => exact .inr ⟨(fun z => nomatch z), r.rep w⟩
  | bo => exact .inr ⟨(fun z => nomatch z), r.2⟩
section
variable {X : Cx} {K : PySem.W.Frag}
theorem br_ix : Br2 K (rIxD K) fIx := by
  intro Hs H m x v As n y u Bs Qd Qv w rx ry h f
  have r2 := ry.rep w
  have core : ∀ G : Hp, Same G H → (∀ d v, Rep K G d v → Rep K H d v ∧ (m = .sh → Rep K Hs d v)) → Rep K G x v → rIxD K v u H Qv := by
    intro G sg up r1
    cases r1 with
    | list z s q =>
      cases r2 with
      | int i =>
        obtain ⟨d, e, h⟩ := h
        obtain ⟨v', e', r'⟩ := q.atI e
        obtain ⟨u1, u2⟩ := up _ _ r'
        exact .inl (.inl ⟨_, v', Same.seq sg s, e', f.itm w u1 u2 h⟩)
      | _ => exact h.elim
    | tup _ s q =>
      cases r2 with
      | int i =>
        obtain ⟨d, e, h⟩ := h
        obtain ⟨v', e', r'⟩ := q.atI e
        obtain ⟨u1, u2⟩ := up _ _ r'
        exact .inl (.inr ⟨_, v', .inl (.inl (sg _ _ s)), e', f.itm w u1 u2 h⟩)
      | _ => exact h.elim
    | str hz =>
      cases r2 with
      | int i =>
        obtain ⟨c, e, h⟩ := h
        exact .inl ⟨hz, c, e, f.sh w (.str (one_len c)) h⟩
      | _ => exact h.elim
    | dK kk s q =>
      obtain ⟨k, d, hk, hg, h⟩ := h
      have ev := r2.key hk
      subst ev
      have z := zip_get (k := k) q
      rw [hg] at z
      obtain ⟨v', e', r'⟩ := z
      obtain ⟨u1, u2⟩ := up _ _ r'
      exact .inr ⟨_, v', rfl, by rw [← e']; exact DGet.k (sg _ _ s), f.itm w u1 u2 h⟩
    | dT kk s q =>
      cases r2 with
      | tup t2 e2 q2 =>
        obtain ⟨ks, d, hk, hg, h⟩ := h
        obtain ⟨b, eb, e3⟩ := Rep.keyT (.tup t2 e2 q2) hk
        cases eb
        have z := zip_get (k := ks) q
        rw [hg] at z
        obtain ⟨v', e', r'⟩ := z
        obtain ⟨u1, u2⟩ := up _ _ r'
        exact .inr ⟨_, v', rfl, by rw [← e']; exact DGet.t (sg _ _ s) e3, f.itm w u1 u2 h⟩
      | _ => exact h.elim
    | _ => exact h.elim
  rcases rx.here w with ⟨hm, r⟩ | ⟨hm, r⟩
  · exact core Hs w.sub (fun d v q => And.intro (q.same w.sub) fun _ => q) r
  · exact core H (Same.refl H) (fun d v q => And.intro q fun z => absurd z hm) r
theorem kIxD (hu : X.A.units + 64 < cLine) (hK : X.K = K := by rfl) : IxR X (rIxD K) := by
  subst hK
  refine IxR.or ix_all ?_
  intro value slice pins s σ H x y v u Q I rx ry h hs
  obtain ⟨a, w, rfl, g, q⟩ := h
  cases rx
  exact tail_any (dict_typeIs I g) F.slot_dict_getitem.lookup (d_getItem (by omega) I g ry fun w' s3 I3 rw' => ⟨w, H, I3, rw', q⟩) hs
variable {a b : Expr} {ta tb : WE} {pos : Pos}
theorem q_ix (hu : X.A.units + 64 < cLine) (ha : QE X K a ta) (hb : QE X K b tb) (hs : PlainIx b := by exact fun _ _ => rfl) (hK : X.K = K := by rfl) : QE X K (.Subscript a b pos) (wOp fIx ta tb) := PE.imp (pe_ix (kIxD hu hK) ha hb hs) (op_lift br_ix)
end

def cutG {α : Type} (xs : List α) (lo hi : Option Int) : List α := (xs.drop (HT.sIx xs.length 0 lo)).take (HT.sIx xs.length xs.length hi - HT.sIx xs.length 0 lo)
abbrev WO := Env → (Option Int → Prop) → Prop
def wNoPart : WO := fun _ Q => Q none
def wPart (t : WE) : WO := fun ρ Q => t ρ fun _ x => match x with
  | .int i => Q (some i)
  | _ => False
def fSl (m : Md) (x : D) (lo hi : Option Int) (Q : Md → D → Prop) : Prop := match x with
  | .str z => Q .sh (.str (cutS z lo hi))
  | .list xs => (flats xs = true ∧ Q (.ow true) (.list (cutG xs lo hi))) ∨ (m = .sh ∧ Q (.ow false) (.list (cutG xs lo hi)))
  | .tup xs => flats xs = true ∧ ¬ (HT.sIx xs.length 0 lo = 0 ∧ HT.sIx xs.length xs.length hi = xs.length) ∧ Q .sh (.tup (cutG xs lo hi))
  | _ => False
def wSl (te : WE) (tl th : WO) : WE := fun ρ Q => te ρ fun m x => tl ρ fun lo => th ρ fun hi => fSl m x lo hi Q
def tpO (K : PySem.W.Frag) (t : WO) : TO := fun σ H Qv => ∃ Hs ρ tot Q, SRel K Hs ρ σ H tot ∧ t ρ Q ∧ ∀ o H' Hs', Grow Hs H Hs' H' → Q o → Qv o H'
abbrev QO (X : Cx) (K : PySem.W.Frag) (e : Option Expr) (t : WO) : Prop := PO X e (tpO K t)
theorem cutS_len (z : Str) (lo hi : Option Int) : (cutS z lo hi).length ≤ z.length := by
  unfold cutS Str.length
  simp only [List.size_toArray, List.length_take, List.length_drop, Array.length_toList]
  omega
theorem cutG_len {α : Type} (xs : List α) (lo hi : Option Int) : (cutG xs lo hi).length ≤ xs.length := by
  unfold cutG
  rw [List.length_take, List.length_drop]
  omega
theorem flats_cut {xs : List D} {lo hi : Option Int} (h : flats xs = true) : flats (cutG xs lo hi) = true := by
  rw [flats_iff] at *
  intro x hx
  exact h x (List.mem_of_mem_drop (List.mem_of_mem_take hx))
section
variable {X : Cx} {K : PySem.W.Frag} {e : Expr} {lo hi : Option Expr} {te : WE} {tl th : WO} {pos p2 : Pos}
theorem qo_none : QO X K none wNoPart := fun pins s σ H Q I h => po_none pins s σ H Q I (by
  obtain ⟨Hs, ρ, tot, Qd, sr, h, f⟩ := h
  exact f none H Hs (Grow.refl sr.wf) h)
theorem qo_some (h : QE X K e te) : QO X K (some e) (wPart te) := fun pins s σ H Q I hh => po_some h pins s σ H Q I (by
  obtain ⟨Hs, ρ, tot, Qd, sr, h, f⟩ := hh
  refine ⟨Hs, ρ, tot, _, sr, h, fun v H1 Hs1 m x As g1 r1 f1 q1 => ?_⟩
  have r := r1.rep g1.wf
  cases r with
  | int i => exact ⟨i, rfl, f _ H1 Hs1 g1 q1⟩
  | _ => exact q1.elim)
theorem cutV_reps {H : Hp} {ds : List D} {vs : List V} {lo hi : Option Int} (r : Reps K H ds vs) : Reps K H (cutG ds lo hi) (cutV vs lo hi) := by
  unfold cutG cutV
  rw [r.length]
  exact (r.drop _).take _
theorem kSl2 (hK : X.K = K := by rfl) : SlR X (fun x lo hi H Q => rSlS K x lo hi H Q ∨ rSlT K x lo hi H Q) := by
  subst hK
  intro pins s σ H x v vl vu lo hi sl Q I rx hs pl pu h
  rcases h with h | h
  · exact sl_all pins s σ H x v vl vu lo hi sl Q I rx hs pl pu h
  · exact sl_tup pins s σ H x v vl vu lo hi sl Q I rx hs pl pu h
theorem q_slice (he : QE X K e te) (hl : QO X K lo tl) (hh : QO X K hi th) (hK : X.K = K := by rfl) : QE X K (.Subscript e (.Slice lo hi none p2) pos) (wSl te tl th) := by
  refine PE.imp (pe_slice (kSl2 hK) he hl hh) fun σ H Qv ⟨Hs, ρ, tot, Q, sr, h, f⟩ => ?_
  refine ⟨Hs, ρ, tot, _, sr, h, fun v H1 Hs1 m x As g1 r1 f1 q1 => ⟨Hs1, ρ, tot, _, sr.grow g1, q1, fun l H2 Hs2 g2 q2 => ⟨Hs2, ρ, tot, _, (sr.grow g1).grow g2, q2, fun u H3 Hs3 g3 q3 => ?_⟩⟩⟩
  have r3 := (r1.grow g2).grow g3
  have fin : Fin K Hs3 H3 Q Qv := Fin.after f ((g1.trans g2).trans g3)
  have rr := r3.rep g3.wf
  cases rr with
  | str hz => exact .inl ⟨hz, fin.sh g3.wf (.str (Nat.le_trans (cutS_len _ _ _) hz)) q3⟩
  | list z s q =>
    have hz := q.length
    rcases q3 with ⟨hf, q3⟩ | ⟨rfl, q3⟩
    · exact .inl ⟨_, s, fin.lst g3.wf (Nat.le_trans (cutG_len _ _ _) (by omega)) (cutV_reps q) (flats_cut hf) q3⟩
    · obtain ⟨_, r3⟩ := r3
      cases r3 with
      | list z' s' q' =>
        have hz := q'.length
        exact .inl ⟨_, Same.seq g3.wf.sub s', fin.lstS g3.wf (Nat.le_trans (cutG_len _ _ _) (by omega)) (cutV_reps q') q3⟩
  | tup z s q =>
    have hz := q.length
    obtain ⟨hf, hn, q3⟩ := q3
    exact .inr ⟨_, _, rfl, .inl (.inl s), by rw [← hz]; exact hn, fin.tup g3.wf (Nat.le_trans (cutG_len _ _ _) (by omega)) (cutV_reps q) (flats_cut hf) q3⟩
  | _ => exact q3.elim
end

def fLen : W1 := fun _ x Q => match x with
  | .str z => Q .sh (.int z.length)
  | .list xs => Q .sh (.int xs.length)
  | .tup xs => Q .sh (.int xs.length)
  | .dK kvs => Q .sh (.int kvs.length)
  | .dT kvs => Q .sh (.int kvs.length)
  | _ => False
def fIsi (T : String) : W1 := fun _ x Q => Q .sh (.bl (isiT x.ty T))
def BrC (K : PySem.W.Frag) (r : List V → Hp → VK → Prop) (f : W1) : Prop := ∀ Hs H m x v As Qd Qv, Wf Hs H → RM K Hs H m x v As → f m x Qd → Fin K Hs H Qd Qv → r [v] H Qv
section
variable {X : Cx} {K : PySem.W.Frag} {e e2 : Expr} {te : WE} {pos p : Pos} {x : Str} {id T : String}
theorem call1_lift {r : List V → Hp → VK → Prop} {f : W1} (br : BrC K r f) (σ : St) (H : Hp) (Qv : VK) (h : tpE K (wUn f te) σ H Qv) : tCB r (tCons (tpE K te) tNil) σ H Qv := by
  obtain ⟨Hs, ρ, tot, Q, sr, h, fin⟩ := h
  exact ⟨Hs, ρ, tot, _, sr, h, fun v H1 Hs1 m x As g1 r1 f1 q1 => br Hs1 H1 m x v As Q Qv g1.wf r1 q1 (Fin.after fin g1)⟩
theorem q_callB {r : List V → Hp → VK → Prop} {f : W1} (hc : CallR X (.builtin id) r) (br : BrC K r f) (hg : Gl X x) (hm : X.mg x = none) (hv : bootBuiltins x = some (.builtin id)) (he : QE X K e te)
    (hs : starEach [e] X.env = (false, eval e X.env) :: starEach [] X.env := by rfl) (hn : x ≠ "__name__" := by decide) (hdb : (x == ("__debug__" : Str)) = false := by decide) : QE X K (.Call (.Name x p) [e] [] pos) (wUn f te) :=
  PE.imp (pe_callB hc hg hm hv (pa_cons he pa_nil hs) hn hdb hs) (call1_lift br)
theorem q_callTy {r : List V → Hp → VK → Prop} {f : W1} (hc : CallR X (.type T) r) (br : BrC K r f) (hg : Gl X x) (hm : X.mg x = none) (hv : bootBuiltins x = some (.type T)) (he : QE X K e te)
    (hs : starEach [e] X.env = (false, eval e X.env) :: starEach [] X.env := by rfl) (hn : x ≠ "__name__" := by decide) (hdb : (x == ("__debug__" : Str)) = false := by decide) : QE X K (.Call (.Name x p) [e] [] pos) (wUn f te) :=
  PE.imp (pe_callTy hc hg hm hv (pa_cons he pa_nil hs) hn hdb hs) (call1_lift br)
theorem len_raw {prog : Program} {w : World} {A : Around} {E : Value → Shared → Prop} {s : Shared} {d : Addr} {es : Ents} {ep : Nat} {Q : Value → Shared → Prop} (hd : (d == sysModules) = false) (x : RawD s.heap d es ep) (hfit : (es.size : Int) < 2 ^ 63)
    (h : ∀ t t', Q (.int es.size t) { s with toks := t' }) : wpAny (model prog w) A (call (.builtin "len") [.ref d]) Q E s := by
  refine Calls.call_function_entry kind_len plain_len entry_len (args_len1 _) ?_
  have mt : MeetsIn prog w (Builtin.«dict.__len__» ⟨[.ref d], []⟩) (fun _ R s => RawD s.heap d es ep ∧ R (.ok (.ret (.int es.size s.toks))) { s with toks := s.toks + 1 }) := .of_wp fun A R s ⟨hm, h⟩ => by
    obtain ⟨o, ho, hc, hdat⟩ := hm
    show wpAny _ _ (dictSize d >>= _) _ _ s
    unfold dictSize
    refine wpAny_bind (wpAny_bind (wpAny_dictEntries ho hdat (wpAny_pure ?_)))
    show wpAny _ _ (Builtin.Dict.pendingCount d >>= _) _ _ s
    refine wpAny_bind (wpAny_pendingCount_other hd ?_)
    refine wpAny_ret_mkInt ?_
    rw [Nat.add_zero]; exact h
  unfold Builtin.«len»
  refine wpAny_bind (m := oneArg "len" _) (wpAny_pure ?_)
  refine wpAny_bind (m := callSpecial? (.ref d) (Str.ofString "__len__")) (wpAny_callSpecial?_slot (name := Str.ofString "__len__") x.typ F.slot_dict_len
    (call_meetsIn F.slot_dict_len x.typ F.entry_dict_len (F.args_dict_len_1 _) mt ⟨x, ?_⟩))
  show wpAny _ _ _ _ _ { s with toks := s.toks + 1 }
  refine wpAny_bind (wpAny_holding (wpAny_pure ?_))
  refine wpAny_bind (wpAny_letGo ?_)
  show wpAny _ _ (if ((es.size : Nat) : Int) < 0 then _ else _) _ _ _
  rw [if_neg (by omega)]
  show wpAny _ _ (if ((es.size : Nat) : Int) ≥ 2 ^ 63 then _ else _) _ _ _
  rw [if_neg (by omega)]
  exact wpAny_bind (wpAny_mkInt (wpAny_pure ⟨_, rfl, h _ _⟩))
theorem call_lenD2 (hK : X.K = K := by rfl) : CallR X (.builtin "len") (fun xs H Q => rLen K xs H Q ∨ ∃ a kvs, xs = [.ref a] ∧ H a = some (.dT kvs) ∧ Q (.int kvs.length) H) := by
  subst hK
  intro pins s σ H xs us Q I r h
  rcases h with h | ⟨a, kvs, rfl, ha, q⟩
  · exact call_lenU pins s σ H xs us Q I r h
  · obtain ⟨u, rfl, ru⟩ := Vals.one r
    cases ru
    obtain ⟨z, hd, ys, rel, o, es, ep, h1, h2, h3, h4, h5⟩ := (show ObjOk X.prog X.w H s.heap a (.dT kvs) from I.hok a _ ha)
    have hl : es.size = kvs.length := by
      have := congrArg List.length h4
      rw [Array.length_toList, List.length_map] at this
      rw [this]; exact rel.length.symm
    exact len_raw hd ⟨o, h1, h2, h3⟩ (by rw [sizeLine_eq] at z; omega) fun t t' => ⟨.int kvs.length, H, I.tok _, ⟨t, by rw [hl]⟩, q⟩
theorem br_len : BrC K (fun xs H Q => rLen K xs H Q ∨ ∃ a kvs, xs = [.ref a] ∧ H a = some (.dT kvs) ∧ Q (.int kvs.length) H) fLen := by
  intro Hs H m x v As Qd Qv w rx h f
  have r1 := rx.rep w
  cases r1 with
  | str hz => exact .inl ⟨hz, f.sh w (.int _) h⟩
  | list z s q => exact .inl (.inl ⟨_, s, by rw [← q.length]; exact f.sh w (.int _) h⟩)
  | tup _ s q => exact .inl (.inr (.inl ⟨_, .inl (.inl s), by rw [← q.length]; exact f.sh w (.int _) h⟩))
  | dK kk s q => exact .inl (.inr (.inr ⟨_, s, by
      have := q.length
      rw [List.length_map] at this
      rw [List.length_zip, List.length_map, ← this, Nat.min_self]
      exact f.sh w (.int _) h⟩))
  | dT kk s q => exact .inr ⟨_, _, rfl, s, by
      have := q.length
      rw [List.length_map] at this
      rw [List.length_zip, List.length_map, ← this, Nat.min_self]
      exact f.sh w (.int _) h⟩
  | _ => exact h.elim
end
end L2.Q

set_option Elab.async false
set_option linter.all false
set_option maxRecDepth 100000
set_option maxHeartbeats 4000000

namespace L2.Q
open PySem PySem.Spec PyProof.Rows

section
variable {X : Cx} {K : PySem.W.Frag} {e e2 : Expr} {te : WE} {pos p : Pos} {T : String}
theorem call_isiD (hK : X.K = K := by rfl) : CallR X (.builtin "isinstance") (fun xs H Q => ∃ x d T, xs = [x, .ty T] ∧ Rep K H d x ∧ okTy T = true ∧ Q (.bl (isiT d.ty T)) H) := by
  subst hK
  intro pins s σ H xs us Q I r h
  obtain ⟨x, d, T, rfl, rd, hT, q⟩ := h
  obtain ⟨u, v, rfl, ru, rv⟩ := Vals.two r
  obtain rfl : v = Value.type T := rv
  have hb : T ∈ ["str", "int", "bool", "list", "tuple", "dict"] := by simpa [okTy] using hT
  have fin : ∀ tk, EP X pins σ Q (.bool (isiT d.ty T)) { s with toks := tk } := fun tk => ⟨.bl (isiT d.ty T), H, I.tok tk, rfl, q⟩
  cases rd with
  | non => exact isinst_ok I ru .non (kit_ok X.K _ T (by simp) hb) fin
  | bl b => exact isinst_ok I ru (.bl b) (kit_ok X.K _ T (by simp) hb) fin
  | int i => exact isinst_ok I ru (.int i) (kit_ok X.K _ T (by simp) hb) fin
  | str y => exact isinst_ok I ru (.str _) (kit_ok X.K _ T (by simp) hb) fin
  | list z s' q' =>
    cases ru
    obtain ⟨its, _, pl, _⟩ := I.list s'
    obtain ⟨o, h1, h2, _⟩ := pl.isList
    exact PySem.W.kia_one PySem.W.kitx_list I.kIn ⟨o, h1, h2⟩ (kit_ok X.K "list" T (by simp) hb) (fun z => nomatch z) fin
  | tup _ s' q' => exact isinst_ok I ru (.tup s') (kit_ok X.K _ T (by simp) hb) fin
  | dK _ s' q' => exact isinst_ok I ru (.dK s') (kit_ok X.K _ T (by simp) hb) fin
  | dT _ s' q' => exact isinst_ok I ru (.dT s') (kit_ok X.K _ T (by simp) hb) fin
theorem q_isi (hm : X.mg "isinstance" = none) (he : QE X K e te) (ht : PE X e2 (tC (.ty T))) (hT : okTy T = true := by rfl) (hg : Gl X "isinstance" := by rfl) (hK : X.K = K := by rfl)
    (hs : starEach (e :: [e2]) X.env = (false, eval e X.env) :: starEach [e2] X.env := by rfl) (hs2 : starEach (e2 :: []) X.env = (false, eval e2 X.env) :: starEach [] X.env := by rfl) (hpl : (backTo pos (starEach [e2] X.env)).any (·.1) = false := by rfl) :
    QE X K (.Call (.Name "isinstance" p) [e, e2] [] pos) (wUn (fIsi T) te) := by
  refine PE.imp (pe_callB (call_isiD hK) hg hm kb_isinstance (pa_cons he (pa_cons ht pa_nil hs2) hs) (by decide) (by decide) hs hpl) fun σ H Qv ⟨Hs, ρ, tot, Q, sr, h, f⟩ => ?_
  refine ⟨Hs, ρ, tot, _, sr, h, fun v H1 Hs1 m x As g1 r1 f1 q1 => ⟨v, x, T, rfl, r1.rep g1.wf, hT, Fin.sh (Fin.after f g1) g1.wf (.bl _) q1⟩⟩
end
def keyD : Key → D
  | .inl i => .int i
  | .inr x => .str x
def fList : W1 := fun m x Q => match x with
  | .list xs => (flats xs = true ∧ Q (.ow true) (.list xs)) ∨ (m = .sh ∧ Q (.ow false) (.list xs))
  | .tup xs => (flats xs = true ∧ Q (.ow true) (.list xs)) ∨ (m = .sh ∧ Q (.ow false) (.list xs))
  | .dT kvs => Q (.ow true) (.list (kvs.map fun kv => .tup (kv.1.map keyD)))
  | _ => False

section
variable {X : Cx} {K : PySem.W.Frag}
theorem keys_rep {H : Hp} : ∀ {ks : List Key}, (∀ k ∈ ks, kOk k = true) → Reps K H (ks.map keyD) (ks.map kV)
  | [], _ => .nil
  | k :: ks, h => by
    refine .cons ?_ (keys_rep fun j m => h j (List.mem_cons_of_mem _ m))
    have := h k List.mem_cons_self
    cases k with
    | inl i => exact .int i
    | inr x => exact .str (by simpa [kOk] using this)
theorem keys_flat : ∀ (ks : List Key), flats (ks.map keyD) = true
  | [] => rfl
  | k :: ks => by simp only [List.map_cons, flats, keys_flat ks, Bool.and_true]; cases k <;> rfl
theorem tups_rep {H : Hp} : ∀ {ks : List (List Key)} {ys : List V}, TupsAt H ys ks → (∀ l ∈ ks, l.length ≤ sizeLine ∧ ∀ k ∈ l, kOk k = true) → Reps K H (ks.map fun l => .tup (l.map keyD)) ys
  | _, _, .nil, _ => .nil
  | _ :: _, _, .cons r t, h => by
    obtain ⟨b, rfl, e⟩ := r
    exact .cons (.tup (by rw [List.length_map]; exact (h _ List.mem_cons_self).1) e (keys_rep (h _ List.mem_cons_self).2)) (tups_rep t fun l m => h l (List.mem_cons_of_mem _ m))
theorem tups_flat : ∀ (ks : List (List Key)), flats (ks.map fun l => .tup (l.map keyD)) = true
  | [] => rfl
  | l :: ks => by simp only [List.map_cons, flats, tups_flat ks, Bool.and_true, D.flat, keys_flat]
theorem call_list2 (hc : X.calm = true := by rfl) (hK : X.K = K := by rfl) : CallR X (.type "list") (fun xs H Q => (∃ p ys, xs = [.ref p] ∧ (SqL K H p ys ∨ SqT K H p ys) ∧ ∀ l, H l = none → Q (.ref l) (upd H l (.lst ys))) ∨ rListD xs H Q) := by
  subst hK; exact call_list_of.or (call_listD hc)
theorem br_list : BrC K (fun xs H Q => (∃ p ys, xs = [.ref p] ∧ (SqL K H p ys ∨ SqT K H p ys) ∧ ∀ l, H l = none → Q (.ref l) (upd H l (.lst ys))) ∨ rListD xs H Q) fList := by
  intro Hs H m x v As Qd Qv w rx h f
  have r1 := rx.rep w
  cases r1 with
  | list z s q =>
    have hl := q.length
    rcases h with ⟨hf, h⟩ | ⟨rfl, h⟩
    · exact .inl ⟨_, _, rfl, .inl s, f.lst w (by omega) q hf h⟩
    · obtain ⟨_, rx⟩ := rx
      cases rx with
      | list z' s' q' =>
        have hl := q'.length
        exact .inl ⟨_, _, rfl, .inl (Same.seq w.sub s'), f.lstS w (by omega) q' h⟩
  | tup z s q =>
    have hl := q.length
    rcases h with ⟨hf, h⟩ | ⟨rfl, h⟩
    · exact .inl ⟨_, _, rfl, .inr (.inl (.inl s)), f.lst w (by omega) q hf h⟩
    · obtain ⟨_, rx⟩ := rx
      cases rx with
      | tup z' s' q' =>
        have hl := q'.length
        exact .inl ⟨_, _, rfl, .inr (.inl (.inl (w.sub _ _ s'))), f.lstS w (by omega) q' h⟩
  | @dT _ vs kvs kk s q =>
    refine .inr ⟨_, s, fun ys l ht hl => ?_⟩
    have hlen := q.length
    rw [List.length_map] at hlen
    have e : ((kvs.map (·.1)).zip vs).map (·.1) = kvs.map (·.1) := List.map_fst_zip (by rw [List.length_map]; exact Nat.le_of_eq hlen)
    rw [e] at ht
    have rr := tups_rep (K := K) ht (fun l m => by
      obtain ⟨p, hp, rfl⟩ := List.mem_map.mp m
      exact kk.2 p hp)
    have ff := tups_flat (kvs.map (·.1))
    rw [List.map_map] at rr ff
    exact f.lst w (by rw [List.length_map]; exact kk.1) rr ff h l hl
  | _ => exact h.elim
end
end L2.Q

set_option Elab.async false
set_option linter.all false
set_option maxRecDepth 100000
set_option maxHeartbeats 4000000

namespace L2.Q
open PySem PySem.Spec PyProof.Rows

section
variable {K : PySem.W.Frag} {Hs H : Hp}
theorem SR.set_sh {d : D} {v : V} (r : Rep K Hs d v) : ∀ {ρ : Env} {σ : St} {tot : List Addr} (i : Nat), SR K Hs H ρ σ tot → ∃ tot', tot'.Sublist tot ∧ SR K Hs H (ρ.set i (some (.sh d))) (σ.set i (some v)) tot'
  | _, _, _, _, .nil => ⟨[], List.nil_sublist _, .nil⟩
  | _, _, _, 0, .non s => ⟨_, List.Sublist.refl _, .sh r s⟩
  | _, _, _, 0, .sh _ s => ⟨_, List.Sublist.refl _, .sh r s⟩
  | _, _, _, 0, .ow _ _ s => ⟨_, List.sublist_append_right _ _, .sh r s⟩
  | _, _, _, 0, .lk _ _ s => ⟨_, List.sublist_append_right _ _, .sh r s⟩
  | _, _, _, i + 1, .non s => let ⟨t, a, b⟩ := SR.set_sh r i s; ⟨t, a, .non b⟩
  | _, _, _, i + 1, .sh q s => let ⟨t, a, b⟩ := SR.set_sh r i s; ⟨t, a, .sh q b⟩
  | _, _, _, i + 1, .ow ne q s => let ⟨t, a, b⟩ := SR.set_sh r i s; ⟨_, a.append_left _, .ow ne q b⟩
  | _, _, _, i + 1, .lk ne q s => let ⟨t, a, b⟩ := SR.set_sh r i s; ⟨_, a.append_left _, .lk ne q b⟩
theorem SR.set_ow {d : D} {v : V} {fl : Bool} {As : List Addr} (ne : As ≠ []) (r : RepO K Hs H fl d v As) (nd : As.Nodup) : ∀ {ρ : Env} {σ : St} {tot : List Addr} (i : Nat), SR K Hs H ρ σ tot → tot.Nodup → (∀ a ∈ As, a ∉ tot) →
    ∃ tot', tot'.Nodup ∧ (∀ a ∈ tot', a ∈ tot ∨ a ∈ As) ∧ SR K Hs H (ρ.set i (some (.ow fl d))) (σ.set i (some v)) tot'
  | _, _, _, _, .nil, n, _ => ⟨[], List.nodup_nil, (fun a h => nomatch h), .nil⟩
  | _, _, tot, 0, .non s, n, dj => ⟨As ++ tot, List.nodup_append.mpr ⟨nd, n, fun a ha b hb e => by subst e; exact dj a ha hb⟩, fun a h => (List.mem_append.mp h).symm, .ow ne r s⟩
  | _, _, tot, 0, .sh _ s, n, dj => ⟨As ++ tot, List.nodup_append.mpr ⟨nd, n, fun a ha b hb e => by subst e; exact dj a ha hb⟩, fun a h => (List.mem_append.mp h).symm, .ow ne r s⟩
  | _, _, _, 0, .ow (tot := t2) (As := B) _ _ s, n, dj => ⟨As ++ t2, List.nodup_append.mpr ⟨nd, (List.nodup_append.mp n).2.1, fun a ha b hb e => by subst e; exact dj a ha (List.mem_append_right _ hb)⟩,
      fun a h => (List.mem_append.mp h).symm.imp (fun z => List.mem_append_right _ z) fun z => z, .ow ne r s⟩
  | _, _, _, 0, .lk (tot := t2) (As := B) _ _ s, n, dj => ⟨As ++ t2, List.nodup_append.mpr ⟨nd, (List.nodup_append.mp n).2.1, fun a ha b hb e => by subst e; exact dj a ha (List.mem_append_right _ hb)⟩,
      fun a h => (List.mem_append.mp h).symm.imp (fun z => List.mem_append_right _ z) fun z => z, .ow ne r s⟩
  | _, _, _, i + 1, .non s, n, dj => let ⟨t, a, b, c⟩ := SR.set_ow ne r nd i s n dj; ⟨t, a, b, .non c⟩
  | _, _, _, i + 1, .sh q s, n, dj => let ⟨t, a, b, c⟩ := SR.set_ow ne r nd i s n dj; ⟨t, a, b, .sh q c⟩
  | _, _, _, i + 1, .ow (tot := t2) (As := B) ne' q s, n, dj => by
    obtain ⟨n1, n2, n3⟩ := List.nodup_append.mp n
    obtain ⟨t, a, b, c⟩ := SR.set_ow ne r nd i s n2 fun a ha m => dj a ha (List.mem_append_right _ m)
    refine ⟨B ++ t, List.nodup_append.mpr ⟨n1, a, fun x hx y hy e => ?_⟩, fun x hx => ?_, .ow ne' q c⟩
    · subst e
      rcases b x hy with z | z
      · exact n3 x hx x z rfl
      · exact dj x z (List.mem_append_left _ hx)
    · rcases List.mem_append.mp hx with z | z
      · exact .inl (List.mem_append_left _ z)
      · exact (b x z).imp (fun z => List.mem_append_right _ z) fun z => z
  | _, _, _, i + 1, .lk (tot := t2) (As := B) ne' q s, n, dj => by
    obtain ⟨n1, n2, n3⟩ := List.nodup_append.mp n
    obtain ⟨t, a, b, c⟩ := SR.set_ow ne r nd i s n2 fun a ha m => dj a ha (List.mem_append_right _ m)
    refine ⟨B ++ t, List.nodup_append.mpr ⟨n1, a, fun x hx y hy e => ?_⟩, fun x hx => ?_, .lk ne' q c⟩
    · subst e
      rcases b x hy with z | z
      · exact n3 x hx x z rfl
      · exact dj x z (List.mem_append_left _ hx)
    · rcases List.mem_append.mp hx with z | z
      · exact .inl (List.mem_append_left _ z)
      · exact (b x z).imp (fun z => List.mem_append_right _ z) fun z => z
def asg : Md → D → Option Sl
  | .sh, d => some (.sh d)
  | .ow fl, d => some (.ow fl d)
  | .bo, d => bif d.flat then some (.sh d) else none
theorem SRel.set {ρ : Env} {σ : St} {tot As : List Addr} {m : Md} {d : D} {v : V} {sl : Sl} (i : Nat) (s : SRel K Hs ρ σ H tot) (r : RM K Hs H m d v As) (nd : As.Nodup) (dj : ∀ a ∈ As, Hs a = none ∧ a ∉ tot) (e : asg m d = some sl) :
    ∃ tot', SRel K Hs (ρ.set i (some sl)) (σ.set i (some v)) H tot' := by
  have shc : Rep K Hs d v → ∃ tot', SRel K Hs (ρ.set i (some (.sh d))) (σ.set i (some v)) H tot' := fun r => by
    obtain ⟨t, a, b⟩ := s.sr.set_sh r i
    exact ⟨t, b, s.wf, a.nodup s.nod, fun x hx => s.own x (a.subset hx)⟩
  cases m with
  | sh => cases e; exact shc r.2
  | ow fl =>
    cases e
    obtain ⟨t, a, b, c⟩ := SR.set_ow r.2 r.1 nd i s.sr s.nod fun a ha => (dj a ha).2
    exact ⟨t, c, s.wf, a, fun x hx => (b x hx).elim (s.own x) fun z => (dj x z).1⟩
  | bo =>
    cases hf : d.flat with
    | true =>
      simp only [asg, hf, cond_true, Option.some.injEq] at e
      subst e
      exact shc (r.flat s.wf hf)
    | false => simp [asg, hf] at e
end

section
variable {X : Cx} {K : PySem.W.Frag} {e c : Expr} {te : WE} {tc : WT} {pos : Pos} {st : Stmt} {a b rest : List Stmt} {t u : WS}
theorem PS.imp {te te' : TS} (h : PS X st te) (i : ∀ D σ H, te' D σ H → te D σ H) : PS X st te' := fun pins s σ H D I q => h pins s σ H D I (i D σ H q)
theorem PSs.imp {te te' : TS} (h : PSs X a te) (i : ∀ D σ H, te' D σ H → te D σ H) : PSs X a te' := fun pins s σ H D I q => h pins s σ H D I (i D σ H q)
def wNext : WS := fun E ρ => E.nx ρ
def wSeq (t u : WS) : WS := fun E ρ => t { E with nx := u E } ρ
def wRet (te : WE) : WS := fun E ρ => te ρ E.rt
def wDrop (te : WE) : WS := fun E ρ => te ρ fun _ _ => E.nx ρ
def wSet (i : Nat) (te : WE) : WS := fun E ρ => te ρ fun m d => match asg m d with
  | some sl => E.nx (ρ.set i (some sl))
  | none => False
def wIfS (c : WT) (t u : WS) : WS := fun E ρ => c ρ fun b => if b = true then t E ρ else u E ρ
def wNever : WS := fun _ _ => False
theorem qss_nil : QSs X K [] wNext := PSs.imp pss_nil fun D σ H ⟨Hs, ρ, tot, E, sr, h, k1, _⟩ => k1 σ H Hs ρ tot (Same.refl _) sr h
theorem seq_lift {D : Ends} {σ : St} {H : Hp} (h : tpS K (wSeq t u) D σ H) : tSeq (tpS K t) (tpS K u) D σ H := by
  obtain ⟨Hs, ρ, tot, E, sr, h, k1, k2, k3, k4⟩ := h
  refine ⟨Hs, ρ, tot, { E with nx := u E }, sr, h, fun σ' H' Hs' ρ' tot' s sr' q => ?_, k2, k3, k4⟩
  exact ⟨Hs', ρ', tot', E, sr', q, fun σ2 H2 Hs2 ρ2 tot2 s2 => k1 σ2 H2 Hs2 ρ2 tot2 (s.trans s2), fun σ2 H2 Hs2 ρ2 tot2 s2 => k2 σ2 H2 Hs2 ρ2 tot2 (s.trans s2), fun σ2 H2 Hs2 ρ2 tot2 s2 => k3 σ2 H2 Hs2 ρ2 tot2 (s.trans s2),
    fun v H2 Hs2 m d As s2 => k4 v H2 Hs2 m d As (s.trans s2)⟩
theorem qss_cons (h1 : QS X K st t) (h2 : QSs X K rest u) : QSs X K (st :: rest) (wSeq t u) := PSs.imp (pss_cons h1 h2) fun D σ H h => seq_lift h
theorem qss_one (h1 : QS X K st t) : QSs X K [st] t := pss_one h1
theorem qss_never : QSs X K a wNever := PSs.imp pss_never fun D σ H ⟨Hs, ρ, tot, E, sr, h, _⟩ => h
theorem qs_ret (he : QE X K e te) : QS X K (.Return (some e) pos) (wRet te) := PS.imp (ps_ret he) fun D σ H ⟨Hs, ρ, tot, E, sr, h, k1, k2, k3, k4⟩ =>
  ⟨Hs, ρ, tot, _, sr, h, fun v H1 Hs1 m d As g1 r1 f1 q1 => k4 v H1 Hs1 m d As g1.sh g1.wf r1 f1.1 (fun a ha => (f1.2 a ha).1) q1⟩
def wRetV (i : Nat) : WS := fun E ρ => match ρ[i]? with
  | some (some (.sh d)) => E.rt .sh d
  | some (some (.ow fl d)) => E.rt (.ow fl) d
  | _ => False
theorem SR.at : ∀ {ρ : Env} {σ : St} {tot : List Addr} {i : Nat} {fl : Bool} {d : D} {Hs H : Hp}, SR K Hs H ρ σ tot → ρ[i]? = some (some (.ow fl d)) → ∃ v As, σ[i]? = some (some v) ∧ As ≠ [] ∧ RepO K Hs H fl d v As ∧ As.Sublist tot
  | _, _, _, _, _, _, _, _, .nil, e => by simp at e
  | _, _, _, 0, _, _, _, _, .non s, e => by simp at e
  | _, _, _, 0, _, _, _, _, .sh r s, e => by simp at e
  | _, _, _, 0, _, _, _, _, .ow ne r s, e => by simp at e; obtain ⟨rfl, rfl⟩ := e; exact ⟨_, _, rfl, ne, r, List.sublist_append_left _ _⟩
  | _, _, _, 0, _, _, _, _, .lk ne r s, e => by simp at e
  | _, _, _, i + 1, _, _, _, _, .non s, e => by
    obtain ⟨v, As, a, b, c, d⟩ := SR.at (i := i) s (by simpa using e)
    exact ⟨v, As, by simpa using a, b, c, d⟩
  | _, _, _, i + 1, _, _, _, _, .sh _ s, e => by
    obtain ⟨v, As, a, b, c, d⟩ := SR.at (i := i) s (by simpa using e)
    exact ⟨v, As, by simpa using a, b, c, d⟩
  | _, _, _, i + 1, _, _, _, _, .ow _ _ s, e => by
    obtain ⟨v, As, a, b, c, d⟩ := SR.at (i := i) s (by simpa using e)
    exact ⟨v, As, by simpa using a, b, c, d.trans (List.sublist_append_right _ _)⟩
  | _, _, _, i + 1, _, _, _, _, .lk _ _ s, e => by
    obtain ⟨v, As, a, b, c, d⟩ := SR.at (i := i) s (by simpa using e)
    exact ⟨v, As, by simpa using a, b, c, d.trans (List.sublist_append_right _ _)⟩
theorem qs_retV {i : Nat} (he : PE X e (tVar i)) : QS X K (.Return (some e) pos) (wRetV i) := PS.imp (ps_ret he) fun D σ H ⟨Hs, ρ, tot, E, sr, h, k1, k2, k3, k4⟩ => by
  unfold wRetV at h
  split at h
  · rename_i d e1
    obtain ⟨v, e2, r⟩ := sr.sr.get e1
    exact ⟨v, e2, k4 v H Hs .sh d [] (Same.refl _) sr.wf ⟨rfl, r⟩ List.nodup_nil (fun a ha => nomatch ha) h⟩
  · rename_i fl d e1
    obtain ⟨v, As, e2, ne, r, sb⟩ := sr.sr.at e1
    exact ⟨v, e2, k4 v H Hs (.ow fl) d As (Same.refl _) sr.wf ⟨r, ne⟩ (sb.nodup sr.nod) (fun a ha => sr.own a (sb.subset ha)) h⟩
  · exact h.elim
theorem qs_drop (he : QE X K e te) (hs : swapsWith e none pos.line X.env = pure false := by rfl) : QS X K (.Expr e pos) (wDrop te) := PS.imp (ps_expr he hs) fun D σ H ⟨Hs, ρ, tot, E, sr, h, k1, k2, k3, k4⟩ =>
  ⟨Hs, ρ, tot, _, sr, h, fun v H1 Hs1 m d As g1 r1 f1 q1 => k1 σ H1 Hs1 ρ tot g1.sh (sr.grow g1) q1⟩
theorem qs_set {i : Nat} {x : Str} {pos' : Pos} (hN : X.N.Nodup) (hi : X.N[i]? = some x) (hx : Loc X.env.scope x) (he : QE X K e te) (hs : swapsWith e (some (.Name x pos')) pos.line X.env = pure false := by rfl)
    (hf : X.fn x = true ∨ X.env.scope.names.lookup x = some .local := by first | exact .inl rfl | exact .inr rfl | assumption) : QS X K (.Assign [.Name x pos'] e pos) (wSet i te) := PS.imp (ps_set hN hi hx he hs hf) fun D σ H ⟨Hs, ρ, tot, E, sr, h, k1, k2, k3, k4⟩ => by
  refine ⟨Hs, ρ, tot, _, sr, h, fun v H1 Hs1 m d As g1 r1 f1 q1 => ?_⟩
  have q1 : match asg m d with
    | some sl => E.nx (ρ.set i (some sl))
    | none => False := q1
  cases e : asg m d with
  | none => rw [e] at q1; exact q1.elim
  | some sl =>
    rw [e] at q1
    obtain ⟨tot', s'⟩ := (sr.grow g1).set i r1 f1.1 (fun a ha => ⟨(f1.2 a ha).1, fun m => (sr.sr.own a m).ne (f1.2 a ha).2⟩) e
    exact k1 _ H1 Hs1 _ tot' g1.sh s' q1
theorem qs_if (hc : QT X K c tc) (ha : QSs X K a t) (hb : QSs X K b u) : QS X K (.If c a b pos) (wIfS tc t u) := PS.imp (ps_if hc ha hb) fun D σ H ⟨Hs, ρ, tot, E, sr, h, k1, k2, k3, k4⟩ => by
  refine ⟨Hs, ρ, tot, _, sr, h, fun k H1 Hs1 g1 q1 => ?_⟩
  have k1' : ∀ σ' H' Hs' ρ' tot', Same Hs1 Hs' → SRel K Hs' ρ' σ' H' tot' → E.nx ρ' → D.nx σ' H' := fun σ2 H2 Hs2 ρ2 tot2 s2 => k1 σ2 H2 Hs2 ρ2 tot2 (g1.sh.trans s2)
  have k2' : ∀ σ' H' Hs' ρ' tot', Same Hs1 Hs' → SRel K Hs' ρ' σ' H' tot' → E.bk ρ' → D.bk σ' H' := fun σ2 H2 Hs2 ρ2 tot2 s2 => k2 σ2 H2 Hs2 ρ2 tot2 (g1.sh.trans s2)
  have k3' : ∀ σ' H' Hs' ρ' tot', Same Hs1 Hs' → SRel K Hs' ρ' σ' H' tot' → E.ct ρ' → D.ct σ' H' := fun σ2 H2 Hs2 ρ2 tot2 s2 => k3 σ2 H2 Hs2 ρ2 tot2 (g1.sh.trans s2)
  cases k with
  | true => exact ⟨Hs1, ρ, tot, E, sr.grow g1, q1, k1', k2', k3', fun v H2 Hs2 m d As s2 => k4 v H2 Hs2 m d As (g1.sh.trans s2)⟩
  | false => exact ⟨Hs1, ρ, tot, E, sr.grow g1, q1, k1', k2', k3', fun v H2 Hs2 m d As s2 => k4 v H2 Hs2 m d As (g1.sh.trans s2)⟩

def frzH (Hs H : Hp) (As : List Addr) : Hp := fun a => if a ∈ As then H a else Hs a
theorem frz_same {Hs H : Hp} {As : List Addr} (n : ∀ a ∈ As, Hs a = none) : Same Hs (frzH Hs H As) := fun a o e => by
  unfold frzH
  rw [if_neg fun m => by rw [n a m] at e; cases e]
  exact e
theorem frz_wf {Hs H : Hp} {As : List Addr} (w : Wf Hs H) (o : ∀ a ∈ As, Own H a) : Wf (frzH Hs H As) H := ⟨fun a u e => by
    unfold frzH at e
    by_cases m : a ∈ As
    · rw [if_pos m] at e; exact e
    · rw [if_neg m] at e; exact w.sub a u e, fun a vs e => by
    unfold frzH
    rw [if_neg fun m => (o a m).notTup e]
    exact w.tups a vs e⟩
def shS : Sl → Sl
  | .sh d => .sh d
  | .ow _ d => .sh d
  | .lk a fl d => .lk a fl d
def shC : Sl → Sl
  | .sh d => .sh d
  | .ow _ d => .sh d
  | .lk _ _ d => .sh d
def frzE (i : Nat) (ρ : Env) : Env := match ρ[i]? with
  | some (some sl) => ρ.set i (some (shS sl))
  | _ => ρ
theorem SR.frz {Hs H : Hp} : ∀ {ρ : Env} {σ : St} {tot : List Addr} (i : Nat) {fl : Bool} {d : D}, SR K Hs H ρ σ tot → ρ[i]? = some (some (.ow fl d)) → tot.Nodup →
    ∃ (As tot' : List Addr), As.Sublist tot ∧ tot'.Sublist tot ∧ (∀ a ∈ As, a ∉ tot') ∧ ∀ Hs', Same Hs Hs' → (∀ a ∈ As, Hs' a = H a) → SR K Hs' H (ρ.set i (some (.sh d))) σ tot'
  | _, _, _, _, _, _, .nil, e, _ => by simp at e
  | _, _, _, 0, _, _, .non _, e, _ => by simp at e
  | _, _, _, 0, _, _, .sh _ _, e, _ => by simp at e
  | _, _, _, 0, _, _, .lk _ _ _, e, _ => by simp at e
  | _, _, _, 0, _, _, .ow (As := B) (tot := t2) ne r q, e, n => by
    simp at e
    obtain ⟨rfl, rfl⟩ := e
    exact ⟨B, t2, List.sublist_append_left _ _, List.sublist_append_right _ _, fun a h m => (List.nodup_append.mp n).2.2 a h a m rfl, fun Hs' s k => .sh (r.rep s k) (q.stay s fun _ _ => rfl)⟩
  | _, _, _, i + 1, _, _, .non q, e, n => by
    obtain ⟨As, t, a, b, c, d⟩ := SR.frz i q (by simpa using e) n
    exact ⟨As, t, a, b, c, fun Hs' s k => .non (d Hs' s k)⟩
  | _, _, _, i + 1, _, _, .sh r q, e, n => by
    obtain ⟨As, t, a, b, c, d⟩ := SR.frz i q (by simpa using e) n
    exact ⟨As, t, a, b, c, fun Hs' s k => .sh (r.same s) (d Hs' s k)⟩
  | _, _, _, i + 1, _, _, .ow (As := B) ne r q, e, n => by
    obtain ⟨n1, n2, n3⟩ := List.nodup_append.mp n
    obtain ⟨As, t, a, b, c, d⟩ := SR.frz i q (by simpa using e) n2
    refine ⟨As, B ++ t, a.trans (List.sublist_append_right _ _), b.append_left _, fun x hx m => ?_, fun Hs' s k => .ow ne (r.stay s fun _ _ => rfl) (d Hs' s k)⟩
    rcases List.mem_append.mp m with z | z
    · exact n3 x z x (a.subset hx) rfl
    · exact c x hx z
  | _, _, _, i + 1, _, _, .lk (As := B) ne r q, e, n => by
    obtain ⟨n1, n2, n3⟩ := List.nodup_append.mp n
    obtain ⟨As, t, a, b, c, d⟩ := SR.frz i q (by simpa using e) n2
    refine ⟨As, B ++ t, a.trans (List.sublist_append_right _ _), b.append_left _, fun x hx m => ?_, fun Hs' s k => .lk ne (r.stay s fun _ _ => rfl) (d Hs' s k)⟩
    rcases List.mem_append.mp m with z | z
    · exact n3 x z x (a.subset hx) rfl
    · exact c x hx z
theorem SRel.frz {ρ : Env} {σ : St} {tot : List Addr} {Hs H : Hp} (i : Nat) (s : SRel K Hs ρ σ H tot) : ∃ Hs' tot', Same Hs Hs' ∧ SRel K Hs' (frzE i ρ) σ H tot' := by
  unfold frzE
  split
  · rename_i sl e
    have keep : shS sl = sl → ∃ Hs' tot', Same Hs Hs' ∧ SRel K Hs' (ρ.set i (some (shS sl))) σ H tot' := fun hs => by
      have e2 : ρ.set i (some (shS sl)) = ρ := by
        apply List.ext_getElem?
        intro j
        rw [List.getElem?_set]
        by_cases h : i = j
        · subst h
          rw [if_pos rfl, e]
          have : i < ρ.length := (List.getElem?_eq_some_iff.mp e).1
          simp [this, hs]
        · rw [if_neg h]
      rw [e2]
      exact ⟨Hs, tot, Same.refl _, s⟩
    cases sl with
    | sh d => exact keep rfl
    | lk a fl d => exact keep rfl
    | ow fl d =>
      obtain ⟨As, t, a, b, c, g⟩ := SR.frz i s.sr e s.nod
      have hn : ∀ a ∈ As, Hs a = none := fun x hx => s.own x (a.subset hx)
      have ho : ∀ a ∈ As, Own H a := fun x hx => s.sr.own x (a.subset hx)
      refine ⟨frzH Hs H As, t, frz_same hn, g _ (frz_same hn) fun x hx => by unfold frzH; rw [if_pos hx], frz_wf s.wf ho, b.nodup s.nod, fun x hx => ?_⟩
      unfold frzH
      rw [if_neg fun m => c x m hx]
      exact s.own x (b.subset hx)
  · exact ⟨Hs, tot, Same.refl _, s⟩
def wFrz (i : Nat) (t : WS) : WS := fun E ρ => t E (frzE i ρ)
theorem frz_lift {i : Nat} {D : Ends} {σ : St} {H : Hp} (h : tpS K (wFrz i t) D σ H) : tpS K t D σ H := by
  obtain ⟨Hs, ρ, tot, E, sr, h, k1, k2, k3, k4⟩ := h
  obtain ⟨Hs', tot', s, sr'⟩ := sr.frz i
  exact ⟨Hs', _, tot', E, sr', h, fun σ2 H2 Hs2 ρ2 tot2 s2 => k1 σ2 H2 Hs2 ρ2 tot2 (s.trans s2), fun σ2 H2 Hs2 ρ2 tot2 s2 => k2 σ2 H2 Hs2 ρ2 tot2 (s.trans s2), fun σ2 H2 Hs2 ρ2 tot2 s2 => k3 σ2 H2 Hs2 ρ2 tot2 (s.trans s2),
    fun v H2 Hs2 m d As s2 => k4 v H2 Hs2 m d As (s.trans s2)⟩
theorem qs_frz (i : Nat) (h : QS X K st t) : QS X K st (wFrz i t) := PS.imp h fun D σ H h => frz_lift h

def backH (Hs1 H1 Hs' H' : Hp) : Hp := fun a => match H' a with
  | some (.tup vs) => some (.tup vs)
  | _ => match H1 a with
    | none => Hs' a
    | some _ => Hs1 a
theorem back_grow {Hs1 H1 Hs' H' : Hp} (w : Wf Hs1 H1) (s : Same H1 Hs') (w' : Wf Hs' H') : Grow Hs1 H1 (backH Hs1 H1 Hs' H') H' := by
  have sa : Same H1 H' := s.trans w'.sub
  have tp : ∀ a vs, H' a = some (.tup vs) → backH Hs1 H1 Hs' H' a = some (.tup vs) := fun a vs e => by unfold backH; rw [e]
  have nt : ∀ a, (∀ vs, H' a ≠ some (.tup vs)) → backH Hs1 H1 Hs' H' a = match H1 a with
    | none => Hs' a
    | some _ => Hs1 a := fun a h => by
    unfold backH
    split
    · rename_i vs e; exact absurd e (h vs)
    · rfl
  refine ⟨sa, fun a o e => ?_, ⟨fun a o e => ?_, tp⟩, fun a h => ?_⟩
  · have e1 := w.sub a o e
    have e2 := sa a o e1
    by_cases ht : ∃ vs, o = .tup vs
    · obtain ⟨vs, rfl⟩ := ht
      exact tp a vs e2
    · rw [nt a fun vs z => ht ⟨vs, by rw [e2] at z; exact Option.some.inj z⟩, e1]
      exact e
  · by_cases ht : ∃ vs, H' a = some (.tup vs)
    · obtain ⟨vs, z⟩ := ht
      rw [tp a vs z] at e
      rw [z]; exact e
    · rw [nt a fun vs z => ht ⟨vs, z⟩] at e
      cases q : H1 a with
      | none => rw [q] at e; exact w'.sub a o e
      | some u =>
        rw [q] at e
        have := w.sub a o e
        exact sa a o this
  · cases q : H1 a with
    | none => exact .inr rfl
    | some u =>
      refine .inl ?_
      by_cases ht : ∃ vs, H' a = some (.tup vs)
      · obtain ⟨vs, z⟩ := ht
        have := sa a u q
        rw [z] at this
        cases this
        rw [w.tups a vs q]
        exact fun z => nomatch z
      · rw [nt a fun vs z => ht ⟨vs, z⟩, q] at h
        exact h
theorem back_none {Hs1 H1 Hs' H' : Hp} {a : Addr} (s : Same H1 Hs') (h : Hs' a = none) (o : Own H' a) : backH Hs1 H1 Hs' H' a = none ∧ H1 a = none := by
  have h1 := s.free h
  refine ⟨?_, h1⟩
  unfold backH
  split
  · rename_i vs e; exact absurd e o.notTup
  · rw [h1]; exact h
def retM : Md → D → Md
  | .ow true, _ => .ow true
  | _, d => bif d.flat then .sh else .bo
theorem back_RM {Hs1 H1 Hs' H' : Hp} {m : Md} {d : D} {v : V} {As : List Addr} (w : Wf Hs1 H1) (s : Same H1 Hs') (w' : Wf Hs' H') (r : RM K Hs' H' m d v As) (nd : As.Nodup) (own : ∀ a ∈ As, Hs' a = none) :
    ∃ As', RM K (backH Hs1 H1 Hs' H') H' (retM m d) d v As' ∧ Fresh (backH Hs1 H1 Hs' H') H1 As' := by
  have g := back_grow w s w'
  have other : ∃ As', RM K (backH Hs1 H1 Hs' H') H' (bif d.flat then .sh else .bo) d v As' ∧ Fresh (backH Hs1 H1 Hs' H') H1 As' := by
    cases hf : d.flat with
    | true => exact ⟨[], ⟨rfl, (r.rep w').flatIn g.wf.tups hf⟩, Fresh.nil⟩
    | false => exact ⟨[], ⟨rfl, r.rep w'⟩, Fresh.nil⟩
  cases m with
  | sh => exact other
  | bo => exact other
  | ow fl =>
    cases fl with
    | false => exact other
    | true => exact ⟨As, ⟨RepO.leaves (fun a vs e => g.wf.tups a vs (w'.sub _ _ e)) r.1, r.2⟩, nd, fun a h => back_none s (own a h) (r.own a h)⟩

abbrev SpD := List D → (Md → D → Prop) → Prop
def liftSp (K : PySem.W.Frag) (sp : SpD) : Sp := fun vs H Qv _ => ∃ ds Qd, Reps K H ds vs ∧ sp ds Qd ∧
  ∀ v H' Hs' m d As, Same H Hs' → Wf Hs' H' → RM K Hs' H' m d v As → As.Nodup → (∀ a ∈ As, Hs' a = none) → Qd m d → Qv v H'
def startD (n : Nat) (ds : List D) : Env := ds.map (fun d => some (.sh d)) ++ List.replicate (n - ds.length) none
theorem SR.start {H : Hp} : ∀ {ds : List D} {vs : List V} {n : Nat}, Reps K H ds vs → SR K H H (ds.map (fun d => some (.sh d)) ++ List.replicate n none) (vs.map some ++ List.replicate n none) []
  | _, _, 0, .nil => .nil
  | _, _, n + 1, .nil => .non (SR.start (n := n) .nil)
  | _, _, n, .cons r rs => .sh r (SR.start rs)
theorem body_lift {sp : SpD} {N : List Str} {vs : List V} {H : Hp} {Qv : VK} {E : XK} (h : liftSp K sp vs H Qv E) (hp : ∀ ds Q, sp ds Q → t { nx := fun _ => Q .sh .non, rt := Q } (startD N.length ds)) :
    tpS K t { nx := fun _ H' => Qv .non H', rt := Qv } (start N vs) H := by
  obtain ⟨ds, Qd, rs, hs, fin⟩ := h
  have hl := rs.length
  refine ⟨H, startD N.length ds, [], { nx := fun _ => Qd .sh .non, rt := Qd }, ⟨?_, ⟨Same.refl _, fun _ _ e => e⟩, List.nodup_nil, fun a h => nomatch h⟩, hp ds Qd hs, ?_, ?_, ?_, ?_⟩
  · unfold startD start
    rw [hl]
    exact SR.start rs
  · exact fun σ' H' Hs' ρ' tot' s sr q => fin .non H' Hs' .sh .non [] s sr.wf ⟨rfl, .non⟩ List.nodup_nil (fun a h => nomatch h) q
  · exact fun σ' H' Hs' ρ' tot' s sr q => q.elim
  · exact fun σ' H' Hs' ρ' tot' s sr q => q.elim
  · exact fun v H' Hs' m d As s w r nd own q => fin v H' Hs' m d As s w r nd own q
theorem FunQ.ok {P : Program} {w : World} {mg : Str → Option Value} {base : Heap} {x qual : Str} {st : Stmt} {f : Addr} {fd : FuncData} {N ps : List Str} {k : Nat} {sp : SpD} {t : WS} (F : Fun K x qual st f fd) (S : FnScope N ps (defScope st)) (len : ∀ ds Q, sp ds Q → ds.length = ps.length)
    (hbody : ∀ (cdv : Value) (A : Around) (outer : List PySem.Env) (s : Shared) (H : Hp) (E : XK), Room k (A.deeper (envOfC qual (defScope st) s.heap.objs.size f cdv)) → QSs (cxOf CX0 P w K mg base N qual (defScope st) f cdv A outer s H E).nox K (defBody st) t)
    (hp : ∀ ds Q, sp ds Q → t { nx := fun _ => Q .sh .non, rt := Q } (startD N.length ds)) : FnOk P w K mg base CX0 (k + 1) f fd ps (liftSp K sp) :=
  F.ok S (fun vs H Q E ⟨ds, Qd, rs, hs, _⟩ => by rw [← rs.length]; exact len ds Qd hs) fun cdv A outer s H vs Q E hr hs => ⟨_, hbody cdv A outer s H E hr, body_lift hs hp⟩
def wCall (sp : SpD) (t : WA) : WE := fun ρ Q => t ρ fun ps => sp (ps.map (·.2)) fun m d => onK (m, d) (f := fun p => Q (retM p.1 p.2) p.2) ⟨⟩
theorem call_lift {sp : SpD} {t : WA} {σ : St} {H : Hp} {Qv : VK} {E : XK} (h : tpE K (wCall sp t) σ H Qv) : tCall (liftSp K sp) [] E (tpA K t) σ H Qv := by
  obtain ⟨Hs, ρ, tot, Q, sr, h, f⟩ := h
  refine ⟨Hs, ρ, tot, _, sr, h, fun vs H1 Hs1 ps As g1 r1 f1 q1 => ?_⟩
  refine ⟨_, _, by rw [List.append_nil]; exact r1.reps g1.wf, q1, fun v H' Hs' m d As s w r nd own q => ?_⟩
  obtain ⟨As', r', fr⟩ := back_RM g1.wf s w r nd own
  exact Fin.after f g1 v H' _ (retM m d) d As' (back_grow g1.wf s w) r' fr q
theorem q_own {k : Nat} {x : Str} {ps : List Str} {sp : SpD} {p : Pos} {es : List Expr} {t : WA} (C : Cal X.prog X.w X.K X.mg X.base k x ps (liftSp K sp)) (hr : Room k X.A) (ha : QA X K (e :: es) t) (hg : Gl X x := by rfl) (hdb : (x == ("__debug__" : Str)) = false := by decide) (he : starEach (e :: es) X.env = (false, eval e X.env) :: starEach es X.env := by rfl)
    (hpl : (backTo pos (starEach es X.env)).any (·.1) = false := by rfl) : QE X K (.Call (.Name x p) (e :: es) [] pos) (wCall sp t) := PE.imp (pe_own C hr ha hg hdb he hpl) fun σ H Qv h => call_lift h
end
end L2.Q

set_option Elab.async false
set_option linter.all false
set_option maxRecDepth 100000
set_option maxHeartbeats 4000000

namespace L2.Q
open PySem PySem.Spec PyProof.Rows

abbrev WG := D → Env → (Env → Prop) → Prop
def tpG (K : PySem.W.Frag) (g : WG) : TG := fun v σ H Qv => ∃ Hs ρ tot d Q, SRel K Hs ρ σ H tot ∧ Rep K Hs d v ∧ g d ρ Q ∧ ∀ σ' ρ' tot', SRel K Hs ρ' σ' H tot' → (∀ a ∈ tot', a ∈ tot) → Q ρ' → Qv σ' H
abbrev QG (X : Cx) (K : PySem.W.Frag) (e : Expr) (g : WG) : Prop := PG X e (tpG K g)
def gN (i : Nat) : WG := fun d ρ Q => Q (ρ.set i (some (.sh d)))
abbrev WGs := List D → Env → (Env → Prop) → Prop
def tpGs (K : PySem.W.Frag) (g : WGs) : TGs := fun vs σ H Qv => ∃ Hs ρ tot ds Q, SRel K Hs ρ σ H tot ∧ Reps K Hs ds vs ∧ g ds ρ Q ∧ ∀ σ' ρ' tot', SRel K Hs ρ' σ' H tot' → (∀ a ∈ tot', a ∈ tot) → Q ρ' → Qv σ' H
abbrev QGs (X : Cx) (K : PySem.W.Frag) (es : List Expr) (g : WGs) : Prop := PGs X es (tpGs K g)
def gNil' : WGs := fun ds ρ Q => ds = [] ∧ Q ρ
def gCons' (g : WG) (gs : WGs) : WGs := fun ds ρ Q => match ds with
  | d :: ds => g d ρ fun ρ' => gs ds ρ' Q
  | [] => False
def gT (n : Nat) (gs : WGs) : WG := fun d ρ Q => match d with
  | .tup ds => ds.length = n ∧ gs ds ρ Q
  | _ => False
section
variable {X : Cx} {K : PySem.W.Frag} {e : Expr} {es : List Expr} {g : WG} {gs : WGs} {pos : Pos}
theorem PG.imp {t t' : TG} (h : PG X e t) (i : ∀ v σ H Q, t' v σ H Q → t v σ H Q) : PG X e t' := fun pins s σ H v u Q I r q => h pins s σ H v u Q I r (i v σ H Q q)
theorem PGs.imp {t t' : TGs} (h : PGs X es t) (i : ∀ v σ H Q, t' v σ H Q → t v σ H Q) : PGs X es t' := fun pins s σ H v u Q I r q => h pins s σ H v u Q I r (i v σ H Q q)
theorem SRel.setSh {ρ : Env} {σ : St} {tot : List Addr} {Hs H : Hp} {d : D} {v : V} (i : Nat) (s : SRel K Hs ρ σ H tot) (r : Rep K Hs d v) : ∃ tot', (∀ a ∈ tot', a ∈ tot) ∧ SRel K Hs (ρ.set i (some (.sh d))) (σ.set i (some v)) H tot' := by
  obtain ⟨t, a, b⟩ := s.sr.set_sh r i
  exact ⟨t, fun x hx => a.subset hx, b, s.wf, a.nodup s.nod, fun x hx => s.own x (a.subset hx)⟩
theorem qg_name {i : Nat} {x : Str} (hN : X.N.Nodup) (hi : X.N[i]? = some x) (hx : Loc X.env.scope x) (hf : X.fn x = true ∨ X.env.scope.names.lookup x = some .local := by first | exact .inl rfl | exact .inr rfl | assumption) : QG X K (.Name x pos) (gN i) :=
  PG.imp (pg_name hN hi hx hf) fun v σ H Qv ⟨Hs, ρ, tot, d, Q, sr, r, h, k⟩ => by
    obtain ⟨t, m, s⟩ := sr.setSh i r
    exact k _ _ t s m h
theorem qgs_nil : QGs X K [] gNil' := PGs.imp pgs_nil fun v σ H Qv ⟨Hs, ρ, tot, ds, Q, sr, r, h, k⟩ => by
  obtain ⟨rfl, h⟩ := h
  cases r
  exact ⟨rfl, k σ ρ tot sr (fun _ z => z) h⟩
theorem qgs_cons (h1 : QG X K e g) (h2 : QGs X K es gs) (hs : (assignEach (e :: es) X.env).map (·.2) = assign e X.env :: (assignEach es X.env).map (·.2) := by rfl) : QGs X K (e :: es) (gCons' g gs) :=
  PGs.imp (pgs_cons h1 h2 hs) fun v σ H Qv ⟨Hs, ρ, tot, ds, Q, sr, r, h, k⟩ => by
    cases r with
    | nil => exact h.elim
    | cons r rs => exact ⟨_, _, rfl, Hs, ρ, tot, _, _, sr, r, h, fun σ2 ρ2 tot2 sr2 m2 q2 => ⟨Hs, ρ2, tot2, _, Q, sr2, rs, q2, fun σ3 ρ3 tot3 sr3 m3 => k σ3 ρ3 tot3 sr3 fun a h => m2 a (m3 a h)⟩⟩
theorem qg_tup {k n : Nat} (hc : X.calm = true) (h : QGs X K es gs) (hn : (assignEach es X.env).length = n := by rfl) (hst : (assignEach es X.env).findIdx? (·.1) = none := by rfl) : QG X K (.Tuple es k pos) (gT n gs) :=
  PG.imp (pg_tup hc h hn hst) fun v σ H Qv ⟨Hs, ρ, tot, d, Q, sr, r, h, k⟩ => by
    cases r with
    | tup z e rs => exact ⟨_, _, rfl, .inl (.inl (sr.wf.sub _ _ e)), by rw [← rs.length]; exact h.1, Hs, ρ, tot, _, Q, sr, rs, h.2, k⟩
    | _ => exact h.elim
end

abbrev WI := Env → (List D → Prop) → Prop
structure WalkS (K : PySem.W.Frag) (J : It) (ds : List D) (C : Hp → Hp → Prop) : Prop where
  go : ∀ i Hs H, C Hs H → Wf Hs H → i < ds.length → J.go i H
  yld : ∀ i Hs H x H' d, C Hs H → Wf Hs H → ds[i]? = some d → J.yld i H x H' → ∃ Hs', Grow Hs H Hs' H' ∧ Rep K Hs' d x
  stop : ∀ Hs H, C Hs H → Wf Hs H → J.stop ds.length H
abbrev Walks' (K : PySem.W.Frag) (Hs : Hp) (J : It) (ds : List D) : Prop := WalkS K J ds fun G _ => Same Hs G
def enumD (xs : List D) : List D := xs.mapIdx fun i x => .tup [.int i, x]
def zipD (xs ys : List D) : List D := List.zipWith (fun x y => .tup [x, y]) xs ys
section
variable {K : PySem.W.Frag} {Hs : Hp} {J : It} {ds es : List D} {C C' : Hp → Hp → Prop} {a b : Addr}
theorem WalkS.imp (S : WalkS K J ds C) (h : ∀ Hs H, C' Hs H → C Hs H) : WalkS K J ds C' := ⟨fun i Hs H c => S.go i Hs H (h _ _ c), fun i Hs H x H' d c => S.yld i Hs H x H' d (h _ _ c), fun Hs H c => S.stop Hs H (h _ _ c)⟩
theorem WalkS.seq {vs : List V} (rs : Reps K Hs ds vs) (S : SeqIt J vs fun H => Same Hs H) : Walks' K Hs J ds where
  go := fun i G H s w h => S.go i H (s.trans w.sub) (by rw [← rs.length]; exact h)
  yld := fun i G H x H' d s w h y => by
    have hi : i < ds.length := by
      rcases Nat.lt_or_ge i ds.length with q | q
      · exact q
      · rw [List.getElem?_eq_none q] at h; cases h
    obtain ⟨e, z⟩ := S.yld i H x H' (s.trans w.sub) (by rw [← rs.length]; exact hi) y
    subst e
    obtain ⟨d', ed, rd⟩ := rs.getV z
    rw [h] at ed; cases ed
    exact ⟨G, Grow.refl w, rd.same s⟩
  stop := fun G H s w => by rw [rs.length]; exact S.stop H (s.trans w.sub)
abbrev ListAt (K : PySem.W.Frag) (a : Addr) (ds : List D) (C : Hp → Hp → Prop) : Prop := ∀ Hs H, C Hs H → Wf Hs H → ∃ vs, SqL K H a vs ∧ Reps K Hs ds vs
theorem WalkS.list (h : ListAt K a ds C) : WalkS K (Itl K a) ds C where
  go := fun i G H c w hi => by
    obtain ⟨vs, q, rs⟩ := h G H c w
    exact ⟨vs, vs[i]'(by rw [← rs.length]; exact hi), q, by simp⟩
  yld := fun i G H x H' d c w hd y => by
    obtain ⟨vs, q, rs⟩ := h G H c w
    obtain ⟨rfl, y⟩ := y
    obtain ⟨d', ed, rd⟩ := rs.getV (y vs q)
    rw [hd] at ed; cases ed
    exact ⟨G, Grow.refl w, rd⟩
  stop := fun G H c w => by
    obtain ⟨vs, q, rs⟩ := h G H c w
    exact ⟨vs, q, by rw [rs.length]; exact Nat.le_refl _⟩
theorem WalkS.enum (h : ListAt K a ds C) : WalkS K (Ite K a) (enumD ds) C where
  go := fun i G H c w hi => by
    obtain ⟨vs, q, rs⟩ := h G H c w
    have hi : i < ds.length := by simpa [enumD] using hi
    exact ⟨vs, vs[i]'(by rw [← rs.length]; exact hi), q, by simp⟩
  yld := fun i G H x H' d c w hd y => by
    obtain ⟨vs, q, rs⟩ := h G H c w
    obtain ⟨p, v, rfl, hp, rfl, y⟩ := y
    obtain ⟨d', ed, rd⟩ := rs.getV (y vs q)
    have : d = .tup [.int i, d'] := by
      simp only [enumD, List.getElem?_mapIdx, ed, Option.map_some] at hd
      cases hd; rfl
    subst this
    have g := newT (vs := [.int i, v]) w hp
    exact ⟨_, g, .tup (vs := [.int i, v]) two_le upd_same (.cons (.int _) (.cons (rd.same g.sh) .nil))⟩
  stop := fun G H c w => by
    obtain ⟨vs, q, rs⟩ := h G H c w
    exact ⟨vs, q, by rw [enumD, List.length_mapIdx, rs.length]; exact Nat.le_refl _⟩
theorem WalkS.zip (h : ListAt K a ds C) (h2 : ListAt K b es C) : WalkS K (Itz K a b) (zipD ds es) C where
  go := fun i G H c w hi => by
    obtain ⟨vs, q, rs⟩ := h G H c w
    obtain ⟨us, q2, rs2⟩ := h2 G H c w
    rw [zipD, List.length_zipWith] at hi
    have := rs.length
    have := rs2.length
    exact ⟨vs, us, vs[i]'(by omega), us[i]'(by omega), q, q2, by simp, by simp⟩
  yld := fun i G H x H' d c w hd y => by
    obtain ⟨vs, q, rs⟩ := h G H c w
    obtain ⟨us, q2, rs2⟩ := h2 G H c w
    obtain ⟨p, u, v, rfl, hp, rfl, y, y2⟩ := y
    obtain ⟨d1, ed, rd⟩ := rs.getV (y vs q)
    obtain ⟨d2, ed2, rd2⟩ := rs2.getV (y2 us q2)
    have : d = .tup [d1, d2] := by
      simp only [zipD, List.getElem?_zipWith, ed, ed2] at hd
      cases hd; rfl
    subst this
    have g := newT (vs := [u, v]) w hp
    exact ⟨_, g, .tup (vs := [u, v]) two_le upd_same (.cons (rd.same g.sh) (.cons (rd2.same g.sh) .nil))⟩
  stop := fun G H c w => by
    obtain ⟨vs, q, rs⟩ := h G H c w
    obtain ⟨us, q2, rs2⟩ := h2 G H c w
    have := rs.length
    have := rs2.length
    exact ⟨vs, us, q, q2, by rw [zipD, List.length_zipWith]; omega⟩
theorem listAt_sh {vs : List V} (s : SqL K Hs a vs) (rs : Reps K Hs ds vs) : ListAt K a ds fun G _ => Same Hs G := fun G H c w => ⟨vs, Same.seq (c.trans w.sub) s, rs.same c⟩
end
def tpI (K : PySem.W.Frag) (wi : WI) : TI := fun σ H R => ∃ Hs ρ tot Q, SRel K Hs ρ σ H tot ∧ wi ρ Q ∧ ∀ J H' Hs' ds, Grow Hs H Hs' H' → Walks' K Hs' J ds → ds.length ≤ sizeLine → Q ds → R J H'
abbrev QI (X : Cx) (K : PySem.W.Frag) (tg iter : Expr) (wi : WI) : Prop := PI X tg iter (tpI K wi)
def notBo : Md → Prop
  | .bo => False
  | _ => True
def wiList (te : WE) : WI := fun ρ Q => te ρ fun m d => notBo m ∧ match d with
  | .list xs => Q xs
  | _ => False
def wiTup (te : WE) : WI := fun ρ Q => te ρ fun m d => notBo m ∧ match d with
  | .tup xs => Q xs
  | _ => False
def sgnD (z : Str) : List D := z.cps.toList.map fun c => .str ⟨#[c]⟩
def wiStr (te : WE) : WI := fun ρ Q => te ρ fun _ d => match d with
  | .str z => Q (sgnD z)
  | _ => False
def intsD (lo : Int) (n : Nat) : List D := (List.range n).map fun i => .int (lo + (i : Nat))
def wiRng1 (te : WE) : WI := fun ρ Q => te ρ fun _ d => match d with
  | .int j => j ≤ 16777216 ∧ -(2 ^ 62) ≤ j ∧ Q (intsD 0 j.toNat)
  | _ => False
def wiRng2 (ta tb : WE) : WI := fun ρ Q => ta ρ fun _ x => tb ρ fun _ y => match x, y with
  | .int i, .int j => j - i ≤ 16777216 ∧ (-(2 ^ 62) ≤ i ∧ i < 2 ^ 62 ∧ -(2 ^ 62) ≤ j ∧ j < 2 ^ 62) ∧ Q (intsD i (j - i).toNat)
  | _, _ => False
section
variable {X : Cx} {K : PySem.W.Frag} {e e2 tg : Expr} {te te2 : WE} {pos p : Pos}
theorem PI.imp {iter : Expr} {t t' : TI} (h : PI X tg iter t) (i : ∀ σ H R, t' σ H R → t σ H R) : PI X tg iter t' := fun pins s σ H R I q => h pins s σ H R I (i σ H R q)
theorem SeqIt.imp {J : It} {vs : List V} {c c' : Hp → Prop} (s : SeqIt J vs c) (h : ∀ H, c' H → c H) : SeqIt J vs c' := ⟨fun i H q => s.go i H (h H q), fun i H x H' q => s.yld i H x H' (h H q), fun H q => s.stop H (h H q)⟩
theorem RM.publish {Hs H Hs1 H1 : Hp} {m : Md} {d : D} {v : V} {As : List Addr} (g : Grow Hs H Hs1 H1) (r : RM K Hs1 H1 m d v As) (f : Fresh Hs1 H As) (h : notBo m) : ∃ Hs2, Grow Hs H Hs2 H1 ∧ Rep K Hs2 d v := by
  cases m with
  | sh => exact ⟨Hs1, g, r.2⟩
  | bo => exact h.elim
  | ow fl =>
    have n : ∀ a ∈ As, Hs1 a = none := fun a ha => (f.2 a ha).1
    have o := r.own
    refine ⟨frzH Hs1 H1 As, ⟨g.all, g.sh.trans (frz_same n), frz_wf g.wf o, fun a h => ?_⟩, RepO.rep (frz_same n) r.1 fun a ha => by unfold frzH; rw [if_pos ha]⟩
    unfold frzH at h
    by_cases m : a ∈ As
    · exact .inr (f.2 a m).2
    · rw [if_neg m] at h; exact g.new a h
theorem qi_list (he : QE X K e te) (hK : X.K = K := by rfl) : QI X K tg e (wiList te) := by
  subst hK
  refine PI.imp (pi_list he) fun σ H R ⟨Hs, ρ, tot, Q, sr, h, k⟩ => ⟨Hs, ρ, tot, _, sr, h, fun v H1 Hs1 m d As g1 r1 f1 q1 => ?_⟩
  obtain ⟨nb, q1⟩ := q1
  obtain ⟨Hs2, g2, r2⟩ := r1.publish g1 f1 nb
  cases r2 with
  | list z s rs => exact ⟨_, rfl, ⟨_, Same.seq g2.wf.sub s⟩, k _ H1 Hs2 _ g2 (.seq rs (SeqIt.imp (seq_list X.K _ _) fun H' s' => Same.seq s' s)) (by rw [rs.length]; exact z) q1⟩
  | _ => exact q1.elim
theorem qi_tup (he : QE X K e te) (hK : X.K = K := by rfl) : QI X K tg e (wiTup te) := by
  subst hK
  refine PI.imp (pi_tup he) fun σ H R ⟨Hs, ρ, tot, Q, sr, h, k⟩ => ⟨Hs, ρ, tot, _, sr, h, fun v H1 Hs1 m d As g1 r1 f1 q1 => ?_⟩
  obtain ⟨nb, q1⟩ := q1
  obtain ⟨Hs2, g2, r2⟩ := r1.publish g1 f1 nb
  cases r2 with
  | tup z s rs => exact ⟨_, rfl, ⟨_, .inl (.inl (g2.wf.sub _ _ s))⟩, k _ H1 Hs2 _ g2 (.seq rs (SeqIt.imp (seq_tup X.K _ _) fun H' s' => .inl (.inl (s' _ _ s)))) (by rw [rs.length]; exact z) q1⟩
  | _ => exact q1.elim
theorem sgn_reps {H : Hp} : ∀ (l : List Nat), Reps K H (l.map fun c => .str ⟨#[c]⟩) (l.map fun c => V.str ⟨#[c]⟩)
  | [] => .nil
  | c :: l => .cons (.str (one_len c)) (sgn_reps l)
theorem qi_str (he : QE X K e te) : QI X K tg e (wiStr te) := by
  refine PI.imp (pi_str he) fun σ H R ⟨Hs, ρ, tot, Q, sr, h, k⟩ => ⟨Hs, ρ, tot, _, sr, h, fun v H1 Hs1 m d As g1 r1 f1 q1 => ?_⟩
  have r := r1.rep g1.wf
  cases r with
  | str hz => exact ⟨_, rfl, k _ H1 Hs1 _ g1 (.seq (sgn_reps _) (SeqIt.imp (seq_str _) fun _ _ => trivial)) (by rw [List.length_map, Array.length_toList]; exact hz) q1⟩
  | _ => exact q1.elim
theorem ints_reps {H : Hp} (lo : Int) : ∀ (l : List Nat), Reps K H (l.map fun i => .int (lo + (i : Nat))) (l.map fun i => V.int (lo + (i : Nat)))
  | [] => .nil
  | c :: l => .cons (.int _) (ints_reps lo l)
theorem qi_rng1 (hm : X.mg "range" = none) (he : QE X K e te) (hg : Gl X "range" := by rfl) (hs : starEach [e] X.env = (false, eval e X.env) :: starEach [] X.env := by rfl) (hs' : starEach [e] X.env = [(false, eval e X.env)] := by rfl) : QI X K tg (.Call (.Name "range" p) [e] [] pos) (wiRng1 te) := by
  refine PI.imp (pi_range1 hg hm (pa_cons he pa_nil hs) hs') fun σ H R ⟨Hs, ρ, tot, Q, sr, h, k⟩ => ⟨Hs, ρ, tot, _, sr, h, fun v H1 Hs1 m d As g1 r1 f1 q1 => ?_⟩
  have r := r1.rep g1.wf
  cases r with
  | int j =>
    obtain ⟨h1, h2, q1⟩ := q1
    exact ⟨j, rfl, h2, by omega, k _ H1 Hs1 _ g1 (.seq (ints_reps 0 _) (SeqIt.imp (seq_rng _ _) fun _ _ => trivial)) (by rw [List.length_map, List.length_range, sizeLine_eq]; omega) q1⟩
  | _ => exact q1.elim
theorem qi_rng2 (hm : X.mg "range" = none) (he : QE X K e te) (he2 : QE X K e2 te2) (hg : Gl X "range" := by rfl) (hs : starEach (e :: [e2]) X.env = (false, eval e X.env) :: starEach [e2] X.env := by rfl) (hs2 : starEach (e2 :: []) X.env = (false, eval e2 X.env) :: starEach [] X.env := by rfl)
    (hs' : starEach [e, e2] X.env = [(false, eval e X.env), (false, eval e2 X.env)] := by rfl) (hs'' : starEach [e2] X.env = [(false, eval e2 X.env)] := by rfl) : QI X K tg (.Call (.Name "range" p) [e, e2] [] pos) (wiRng2 te te2) := by
  refine PI.imp (pi_range2 hg hm (pa_cons he (pa_cons he2 pa_nil hs2) hs) hs' hs'') fun σ H R ⟨Hs, ρ, tot, Q, sr, h, k⟩ => ⟨Hs, ρ, tot, _, sr, h, fun v H1 Hs1 m d As g1 r1 f1 q1 => ⟨Hs1, ρ, tot, _, sr.grow g1, q1, fun u H2 Hs2 n y Bs g2 r2 f2 q2 => ?_⟩⟩
  have r := (r1.grow g2).rep g2.wf
  have r' := r2.rep g2.wf
  cases r with
  | int i => cases r' with
    | int j =>
      obtain ⟨h1, h2, q2⟩ := q2
      exact ⟨i, j, rfl, h2, k _ H2 Hs2 _ (g1.trans g2) (.seq (ints_reps i _) (SeqIt.imp (seq_rng _ _) fun _ _ => trivial)) (by rw [List.length_map, List.length_range, sizeLine_eq]; omega) q2⟩
    | _ => exact q2.elim
  | _ => cases r' <;> exact q2.elim

section
variable {X : Cx} {K : PySem.W.Frag} {e e2 tg : Expr} {te te2 : WE} {pos p : Pos}
def wiEnum (te : WE) : WI := fun ρ Q => te ρ fun m d => notBo m ∧ match d with
  | .list xs => Q (enumD xs)
  | _ => False
def tpIb (K : PySem.W.Frag) (wi : WI) : TI := fun σ H R => ∃ Hs ρ tot Q, SRel K Hs ρ σ H tot ∧ wi ρ Q ∧ ∀ J H' Hs' ds, Grow Hs H Hs' H' → Walks' K H' J ds → ds.length ≤ sizeLine → Q ds → R J H'
abbrev QIb (X : Cx) (K : PySem.W.Frag) (tg iter : Expr) (wi : WI) : Prop := PI X tg iter (tpIb K wi)
theorem qib_of {iter : Expr} {wi : WI} (h : QI X K tg iter wi) : QIb X K tg iter wi := PI.imp h fun σ H R ⟨Hs, ρ, tot, Q, sr, h, k⟩ => ⟨Hs, ρ, tot, Q, sr, h, fun J H' Hs' ds g w z q => k J H' Hs' ds g (w.imp fun G H s => g.wf.sub.trans s) z q⟩
def wbList (te : WE) : WI := fun ρ Q => te ρ fun _ d => match d with
  | .list xs => Q xs
  | _ => False
def wbTup (te : WE) : WI := fun ρ Q => te ρ fun _ d => match d with
  | .tup xs => Q xs
  | _ => False
def wbEnum (te : WE) : WI := fun ρ Q => te ρ fun _ d => match d with
  | .list xs => Q (enumD xs)
  | _ => False
def wbZip (te te2 : WE) : WI := fun ρ Q => te ρ fun _ d => te2 ρ fun _ d2 => match d, d2 with
  | .list xs, .list ys => Q (zipD xs ys)
  | _, _ => False
theorem qb_list (he : QE X K e te) (hK : X.K = K := by rfl) : QIb X K tg e (wbList te) := by
  subst hK
  refine PI.imp (pi_list he) fun σ H R ⟨Hs, ρ, tot, Q, sr, h, k⟩ => ⟨Hs, ρ, tot, _, sr, h, fun v H1 Hs1 m d As g1 r1 f1 q1 => ?_⟩
  have r := r1.rep g1.wf
  cases r with
  | list z s rs => exact ⟨_, rfl, ⟨_, s⟩, k _ H1 Hs1 _ g1 (.list (listAt_sh s rs)) (by rw [rs.length]; exact z) q1⟩
  | _ => exact q1.elim
theorem qb_tup (he : QE X K e te) (hK : X.K = K := by rfl) : QIb X K tg e (wbTup te) := by
  subst hK
  refine PI.imp (pi_tup he) fun σ H R ⟨Hs, ρ, tot, Q, sr, h, k⟩ => ⟨Hs, ρ, tot, _, sr, h, fun v H1 Hs1 m d As g1 r1 f1 q1 => ?_⟩
  have r := r1.rep g1.wf
  cases r with
  | tup z s rs => exact ⟨_, rfl, ⟨_, .inl (.inl s)⟩, k _ H1 Hs1 _ g1 (.seq rs (SeqIt.imp (seq_tup X.K _ _) fun H' s' => .inl (.inl (s' _ _ s)))) (by rw [rs.length]; exact z) q1⟩
  | _ => exact q1.elim
theorem qb_enum {elts : List Expr} {kk : Nat} {tp : Pos} (hm : X.mg "enumerate" = none) (he : QE X K e te) (hK : X.K = K := by rfl) (hg : Gl X "enumerate" := by rfl) (hs : starEach [e] X.env = (false, eval e X.env) :: starEach [] X.env := by rfl) (hs' : starEach [e] X.env = [(false, eval e X.env)] := by rfl) :
    QIb X K (.Tuple elts kk tp) (.Call (.Name "enumerate" p) [e] [] pos) (wbEnum te) := by
  subst hK
  refine PI.imp (pi_enum hg hm (pa_cons he pa_nil hs) hs') fun σ H R ⟨Hs, ρ, tot, Q, sr, h, k⟩ => ⟨Hs, ρ, tot, _, sr, h, fun v H1 Hs1 m d As g1 r1 f1 q1 => ?_⟩
  have r := r1.rep g1.wf
  cases r with
  | list z s rs => exact ⟨_, rfl, ⟨_, s⟩, k _ H1 Hs1 _ g1 (.enum (listAt_sh s rs)) (by rw [enumD, List.length_mapIdx, rs.length]; exact z) q1⟩
  | _ => exact q1.elim
end
section
variable {X : Cx} {K : PySem.W.Frag} {e e2 tg : Expr} {te te2 : WE} {pos p : Pos}
def wiZip (te te2 : WE) : WI := fun ρ Q => te ρ fun m d => notBo m ∧ te2 ρ fun m2 d2 => notBo m2 ∧ match d, d2 with
  | .list xs, .list ys => Q (zipD xs ys)
  | _, _ => False
end
def wForL (g : WG) (b : WS) (E : WEnds) : List D → Env → Prop
  | [], ρ => E.nx ρ
  | x :: xs, ρ => g x ρ fun ρ1 => b { E with nx := wForL g b E xs, ct := wForL g b E xs, bk := E.nx } ρ1
def wFor (wi : WI) (g : WG) (b : WS) : WS := fun E ρ => wi ρ fun ds => wForL g b E ds ρ
variable {wi : WI} {g : WG} {b : WS} {body : List Stmt}
theorem qs_for {iter : Expr} (hp : PassesOwn (model X.prog X.w) X.A X.env X.xe) (hc : X.calm = true) (hi : QI X K tg iter wi) (hg : QG X K tg g) (hb : QSs X K body b) (hs : ∀ x, foldedSetIterable iter X.env x = pure x := by intro _; rfl) :
    QS X K (.For tg iter body [] pos) (wFor wi g b) := by
  refine PS.imp (ps_for hp hc hi hg hb hs) fun D σ H ⟨Hs, ρ, tot, E, sr, h, k1, k2, k3, k4⟩ => ?_
  rw [tFor_eq]
  refine ⟨Hs, ρ, tot, _, sr, h, fun J H1 Hs1 ds g1 S hz q1 => ?_⟩
  refine ⟨fun i m σ H => m = ds.length - i ∧ i ≤ ds.length ∧ ∃ Hs' ρ' tot', Same Hs1 Hs' ∧ SRel K Hs' ρ' σ H tot' ∧ wForL g b E (ds.drop i) ρ', ⟨ds.length, by simp, Nat.zero_le _, Hs1, ρ, tot, Same.refl _, sr.grow g1, by simpa using q1⟩, ?_⟩
  rintro i m σ2 H2 ⟨rfl, hi, Hs2, ρ2, tot2, s2, sr2, q2⟩
  by_cases hlt : i < ds.length
  · refine .inr ⟨S.go i Hs2 H2 s2 sr2.wf hlt, fun σ3 H3 => ∃ Hs' ρ' tot', Same Hs1 Hs' ∧ SRel K Hs' ρ' σ3 H3 tot' ∧ wForL g b E (ds.drop (i + 1)) ρ', fun σ3 H3 h3 => ⟨ds.length - (i + 1), by omega, rfl, hlt, h3⟩, fun x H3 y => ?_⟩
    obtain ⟨Hs3, g3, rd⟩ := S.yld i Hs2 H2 x H3 ds[i] s2 sr2.wf (by simp [hlt]) y
    rw [List.drop_eq_getElem_cons hlt] at q2
    have s3 := s2.trans g3.sh
    refine ⟨Hs3, ρ2, tot2, ds[i], _, sr2.grow g3, rd, q2, fun σ4 ρ4 tot4 sr4 _ q4 => ?_⟩
    refine ⟨Hs3, ρ4, tot4, _, sr4, q4, ?_, ?_, ?_, ?_⟩
    · exact fun σ5 H5 Hs5 ρ5 tot5 s5 sr5 q5 => ⟨Hs5, ρ5, tot5, s3.trans s5, sr5, q5⟩
    · exact fun σ5 H5 Hs5 ρ5 tot5 s5 sr5 q5 => k1 σ5 H5 Hs5 ρ5 tot5 ((g1.sh.trans s3).trans s5) sr5 q5
    · exact fun σ5 H5 Hs5 ρ5 tot5 s5 sr5 q5 => ⟨Hs5, ρ5, tot5, s3.trans s5, sr5, q5⟩
    · exact fun v H5 Hs5 m d As s5 => k4 v H5 Hs5 m d As ((g1.sh.trans s3).trans s5)
  · have e : i = ds.length := by omega
    subst e
    refine .inl ⟨S.stop Hs2 H2 s2 sr2.wf, ?_⟩
    rw [List.drop_length] at q2
    exact k1 σ2 H2 Hs2 ρ2 tot2 (g1.sh.trans s2) sr2 q2
theorem forL_by {g : WG} {b : WS} {E : WEnds} (xs : List D) (Pv : Nat → Env → Prop) {ρ : Env} (h0 : Pv 0 ρ)
    (hs : ∀ i x ρ, xs[i]? = some x → Pv i ρ → ∀ N : Env → Prop, (∀ ρ', Pv (i + 1) ρ' → N ρ') → g x ρ fun ρ1 => b { E with nx := N, ct := N, bk := E.nx } ρ1)
    (hd : ∀ ρ, Pv xs.length ρ → E.nx ρ) : wForL g b E xs ρ := by
  have go : ∀ (k i : Nat) (ρ : Env), i + k = xs.length → Pv i ρ → wForL g b E (xs.drop i) ρ := by
    intro k
    induction k with
    | zero =>
      intro i ρ e p
      have : i = xs.length := by omega
      subst this
      rw [List.drop_length]
      exact hd ρ p
    | succ k ih =>
      intro i ρ e p
      have hi : i < xs.length := by omega
      rw [List.drop_eq_getElem_cons hi]
      exact hs i xs[i] ρ (by simp [hi]) p _ fun ρ2 h2 => ih (i + 1) ρ2 (by omega) h2
  have := go xs.length 0 ρ (by omega) h0
  simpa using this
end
end L2.Q

set_option Elab.async false
set_option linter.all false
set_option maxRecDepth 100000
set_option maxHeartbeats 4000000

namespace L2.Q
open PySem PySem.Spec PyProof.Rows

def wYes : WT := fun _ Q => Q true
def okEl (m : Md) (d : D) : Prop := d.flat = true ∨ m = .ow true
def wCompL (g : WG) (tc : WT) (te : WE) : List D → Env → (List D → Prop) → Prop
  | [], _, k => k []
  | x :: xs, ρ, k => g x ρ fun ρ1 => tc ρ1 fun b => if b = true then te ρ1 fun m d => okEl m d ∧ wCompL g tc te xs ρ1 (fun out => k (d :: out)) else wCompL g tc te xs ρ1 k
def compρ (tn : Nat) (ix : List Nat) (ρ : Env) : Env := List.replicate tn none ++ ix.map fun j => (ρ[j]?).join.map shC
def wComp (wi : WI) (g : WG) (tc : WT) (te : WE) (tn : Nat) (ix : List Nat) : WE := fun ρ Q => wi ρ fun ds => wCompL g tc te ds (compρ tn ix ρ) fun out => Q (.ow true) (.list out)
section
variable {X : Cx} {K : PySem.W.Frag}
theorem comp_start {Hs H G : Hp} {ρ : Env} {σ : St} {tot : List Addr} (sr : SRel K Hs ρ σ H tot) (G' : Hp) : ∀ (ix : List Nat), SR K H G' (ix.map fun j => (ρ[j]?).join.map shC) (ix.map fun j => (σ[j]?).join) []
  | [] => .nil
  | j :: ix => by
    have ih := comp_start sr G' ix (G := G)
    simp only [List.map_cons]
    cases e : ρ[j]? with
    | none => exact .non ih
    | some o =>
      cases o with
      | none => exact .non ih
      | some sl =>
        obtain ⟨v, e1, r⟩ := sr.sr.get e
        rw [e1]
        cases sl with
        | sh d => exact .sh (Rep.same sr.wf.sub r) ih
        | ow fl d =>
          obtain ⟨As, _, r, _⟩ := r
          exact .sh (r.rep sr.wf.sub fun _ _ => rfl) ih
        | lk a fl d =>
          obtain ⟨As, _, r, _⟩ := r
          exact .sh (r.rep sr.wf.sub fun _ _ => rfl) ih
theorem rep_start {H G : Hp} {ρ : Env} {σ : St} (s : SR K H G ρ σ []) : ∀ (n : Nat), SR K H G (List.replicate n none ++ ρ) (List.replicate n none ++ σ) []
  | 0 => s
  | n + 1 => .non (rep_start s n)
theorem SR.heap {Hs H H' : Hp} {ρ : Env} {σ : St} (s : SR K Hs H ρ σ []) : SR K Hs H' ρ σ [] := s.stay (Same.refl _) fun a h => nomatch h
theorem comp_lift {wi : WI} {g : WG} {tc : WT} {te : WE} {tn : Nat} {ix : List Nat} {σ : St} {H : Hp} {Qv : VK} (h : tpE K (wComp wi g tc te tn ix) σ H Qv) : tComp (tpIb K wi) (tpG K g) (tpT K tc) (tpE K te) tn ix σ H Qv := by
  obtain ⟨Hs, ρ, tot, Q, sr, h, f⟩ := h
  rw [tComp_eq]
  refine ⟨Hs, ρ, tot, _, sr, h, fun J H1 Hs1 ds g1 S hz q1 D hD => ?_⟩
  have sr1 := sr.grow g1
  have wfi : ∀ {G : Hp} {ys : List V}, Wf H1 G → G D = some (.lst ys) ∨ True → Wf H1 G := fun w _ => w
  have st : SRel K H1 (compρ tn ix ρ) (compσ tn ix σ) (upd H1 D (.lst [])) [] := by
    refine ⟨rep_start (comp_start (G := H1) sr1 _ ix) tn, ⟨(Same.refl H1).upd hD, fun a xs e => ?_⟩, List.nodup_nil, fun a h => nomatch h⟩
    by_cases ha : a = D
    · subst ha; rw [upd_same] at e; cases e
    · rw [upd_ne ha] at e; exact e
  refine ⟨fun i m τ H2 => m = ds.length - i ∧ i ≤ ds.length ∧ ∃ Hs2 ρ2 acc ys As, Same H1 Hs2 ∧ SRel K Hs2 ρ2 τ H2 [] ∧ H2 D = some (.lst ys) ∧ Hs2 D = none ∧ RepOs K Hs2 H2 true acc ys As ∧ (D :: As).Nodup ∧ (∀ a ∈ As, Hs2 a = none) ∧ acc.length ≤ i ∧
      wCompL g tc te (ds.drop i) ρ2 (fun out => Q (.ow true) (.list (acc ++ out))),
    ⟨ds.length, by simp, Nat.zero_le _, H1, _, [], [], [], Same.refl _, st, upd_same, hD, .nil, by simp, (fun a h => nomatch h), Nat.le_refl _, by simpa using q1⟩, ?_⟩
  rintro i m τ H2 ⟨rfl, hi, Hs2, ρ2, acc, ys, As, s2, sr2, eD, nD, ra, nd, own, la, q2⟩
  by_cases hlt : i < ds.length
  · refine .inr ⟨S.go i Hs2 H2 s2 sr2.wf hlt,
      fun τ3 v H4 => ∃ Hs4 ρ4 d m4 As4, Same H1 Hs4 ∧ SRel K Hs4 ρ4 τ3 H4 [] ∧ H4 D = some (.lst ys) ∧ Hs4 D = none ∧ RepOs K Hs4 H4 true acc ys As ∧ RM K Hs4 H4 m4 d v As4 ∧ okEl m4 d ∧ (D :: (As ++ As4)).Nodup ∧ (∀ a ∈ As ++ As4, Hs4 a = none) ∧
        wCompL g tc te (ds.drop (i + 1)) ρ4 (fun out => Q (.ow true) (.list (acc ++ d :: out))),
      fun τ3 H3 => ∃ Hs3 ρ3, Same H1 Hs3 ∧ SRel K Hs3 ρ3 τ3 H3 [] ∧ H3 D = some (.lst ys) ∧ Hs3 D = none ∧ RepOs K Hs3 H3 true acc ys As ∧ (∀ a ∈ As, Hs3 a = none) ∧ wCompL g tc te (ds.drop (i + 1)) ρ3 (fun out => Q (.ow true) (.list (acc ++ out))), ?_, ?_, ?_⟩
    · rintro τ3 v H4 ⟨Hs4, ρ4, d, m4, As4, s4, sr4, e4, n4, ra4, rm4, ok4, nd4, own4, q4⟩
      have lya := ra4.length
      refine ⟨ys, ds.length - (i + 1), e4, by omega, by omega, rfl, hlt, Hs4, ρ4, acc ++ [d], ys ++ [v], ?_⟩
      have wf5 : Wf Hs4 (upd H4 D (.lst (ys ++ [v]))) := ⟨fun a o e => by
          rw [upd_ne (fun z => by subst z; rw [n4] at e; cases e)]; exact sr4.wf.sub a o e, fun a xs e => by
          by_cases ha : a = D
          · subst ha; rw [upd_same] at e; cases e
          · rw [upd_ne ha] at e; exact sr4.wf.tups a xs e⟩
      have sr5 : SRel K Hs4 ρ4 τ3 (upd H4 D (.lst (ys ++ [v]))) [] := ⟨sr4.sr.heap, wf5, List.nodup_nil, fun a h => nomatch h⟩
      have nd4' := List.nodup_cons.mp nd4
      have ra5 : RepOs K Hs4 (upd H4 D (.lst (ys ++ [v]))) true acc ys As := ra4.stay (Same.refl _) fun a ha => upd_ne fun z => nd4'.1 (by subst z; exact List.mem_append_left _ ha)
      have qq : wCompL g tc te (ds.drop (i + 1)) ρ4 (fun out => Q (.ow true) (.list ((acc ++ [d]) ++ out))) := by simpa using q4
      have leaf : d.flat = true → RepO K Hs4 (upd H4 D (.lst (ys ++ [v]))) true d v [] := fun hf => .sh (fun _ => hf) (rm4.flat sr4.wf hf)
      rcases ok4 with hf | rfl
      · refine ⟨As ++ ([] ++ []), s4, sr5, upd_same, n4, ra5.append (.cons (leaf hf) .nil), ?_, fun a ha => own4 a ?_, by rw [List.length_append]; simpa using la, qq⟩
        · rw [List.append_nil, List.append_nil]
          exact List.nodup_cons.mpr ⟨fun z => nd4'.1 (List.mem_append_left _ z), (List.nodup_append.mp nd4'.2).1⟩
        · rw [List.append_nil, List.append_nil] at ha
          exact List.mem_append_left _ ha
      · refine ⟨As ++ (As4 ++ []), s4, sr5, upd_same, n4, ra5.append (.cons (rm4.1.stay (Same.refl _) fun a ha => upd_ne fun z => nd4'.1 (by subst z; exact List.mem_append_right _ ha)) .nil), ?_, fun a ha => own4 a ?_, by rw [List.length_append]; simpa using la, qq⟩
        · rw [List.append_nil]; exact nd4
        · rw [List.append_nil] at ha; exact ha
    · rintro τ3 H3 ⟨Hs3, ρ3, s3, sr3, e3, n3, ra3, own3, q3⟩
      exact ⟨ds.length - (i + 1), by omega, rfl, hlt, Hs3, ρ3, acc, ys, As, s3, sr3, e3, n3, ra3, nd, own3, by omega, q3⟩
    · intro x H3 y
      obtain ⟨Hs3, g3, rd⟩ := S.yld i Hs2 H2 x H3 ds[i] s2 sr2.wf (by simp [hlt]) y
      rw [List.drop_eq_getElem_cons hlt] at q2
      have sr3 := sr2.grow g3
      have s3 := s2.trans g3.sh
      have eD3 : H3 D = some (.lst ys) := g3.all _ _ eD
      have nD3 : Hs3 D = none := g3.hsn nD (by rw [eD]; exact fun z => nomatch z)
      have ra3 := ra.grow g3.sh g3.all
      have own3 : ∀ a ∈ As, Hs3 a = none := fun a ha => g3.hsn (own a ha) (ra.own a ha).ne
      clear eD nD own
      refine ⟨Hs3, ρ2, [], ds[i], _, sr3, rd, q2, fun τ4 ρ4 tot4 sr4 m4 q4 => ?_⟩
      have t4 : tot4 = [] := List.eq_nil_iff_forall_not_mem.mpr fun a ha => nomatch m4 a ha
      subst t4
      refine ⟨Hs3, ρ4, [], _, sr4, q4, fun b H5 Hs5 g5 q5 => ?_⟩
      have sr5 := sr4.grow g5
      have e5 : H5 D = some (.lst ys) := g5.all _ _ eD3
      have n5 : Hs5 D = none := g5.hsn nD3 (by rw [eD3]; exact fun z => nomatch z)
      have ra5 := ra3.grow g5.sh g5.all
      have own5 : ∀ a ∈ As, Hs5 a = none := fun a ha => g5.hsn (own3 a ha) (ra3.own a ha).ne
      cases b with
      | false => exact ⟨Hs5, ρ4, s3.trans g5.sh, sr5, e5, n5, ra5, own5, q5⟩
      | true =>
        refine ⟨Hs5, ρ4, [], _, sr5, q5, fun v H6 Hs6 m6 d6 As6 g6 r6 f6 q6 => ?_⟩
        refine ⟨Hs6, ρ4, d6, m6, As6, (s3.trans g5.sh).trans g6.sh, sr5.grow g6, g6.all _ _ e5, g6.hsn n5 (by rw [e5]; exact fun z => nomatch z), ra5.grow g6.sh g6.all, r6, q6.1, ?_, fun a ha => ?_, q6.2⟩
        · have nd' := List.nodup_cons.mp nd
          refine List.nodup_cons.mpr ⟨fun z => ?_, List.nodup_append.mpr ⟨nd'.2, f6.1, fun a ha b hb e => ?_⟩⟩
          · rcases List.mem_append.mp z with z | z
            · exact nd'.1 z
            · have := (f6.2 D z).2
              rw [e5] at this; cases this
          · subst e
            exact (ra5.own a ha).ne (f6.2 a hb).2
        · rcases List.mem_append.mp ha with z | z
          · exact g6.hsn (own5 a z) (ra5.own a z).ne
          · exact (f6.2 a z).1
  · have e : i = ds.length := by omega
    subst e
    refine .inl ⟨S.stop Hs2 H2 s2 sr2.wf, ?_⟩
    rw [List.drop_length] at q2
    have q2 : Q (.ow true) (.list (acc ++ [])) := q2
    rw [List.append_nil] at q2
    have lya := ra.length
    have rm : RM K Hs2 H2 (.ow true) (.list acc) (.ref D) (D :: As) := ⟨.list (by omega) eD ra, by simp⟩
    obtain ⟨As', r', fr⟩ := back_RM g1.wf s2 sr2.wf rm nd fun a ha => by
      rcases List.mem_cons.mp ha with rfl | ha
      · exact nD
      · exact own a ha
    exact Fin.after f g1 (.ref D) H2 _ (.ow true) (.list acc) As' (back_grow g1.wf s2 sr2.wf) r' fr q2
theorem PTs.imp {ifs : List Expr} {t t' : TT} (h : PTs X ifs t) (i : ∀ σ H Q, t' σ H Q → t σ H Q) : PTs X ifs t' := fun pins s σ H Q I q => h pins s σ H Q I (i σ H Q q)
abbrev QTs (X : Cx) (K : PySem.W.Frag) (ifs : List Expr) (t : WT) : Prop := PTs X ifs (tpT K t)
theorem qts_nil : QTs X K [] wYes := PTs.imp pts_nil fun σ H Qv ⟨Hs, ρ, tot, Q, sr, h, k⟩ => k true H Hs (Grow.refl sr.wf) h
theorem q_comp {tg iter elt : Expr} {ifs : List Expr} {scope : Scope} {pos : Pos} {wi : WI} {g : WG} {tc : WT} {te : WE} {tn cn : List Str} {ix : List Nat} (hc : X.calm = true) (hi : QIb X K tg iter wi) (O : CompOk X scope tn cn ix)
    (hg : ∀ C fp s₃ H₃, QG (cxComp X scope C (tn ++ cn) fp s₃ H₃) K tg g) (hcs : ∀ C fp s₃ H₃, QTs (cxComp X scope C (tn ++ cn) fp s₃ H₃) K ifs tc) (he : ∀ C fp s₃ H₃, QE (cxComp X scope C (tn ++ cn) fp s₃ H₃) K elt te)
    (hs : ∀ x, foldedSetIterable iter X.env x = pure x := by intro _; rfl) : QE X K (.ListComp elt [⟨tg, iter, ifs, 0⟩] scope pos) (wComp wi g tc te tn.length ix) :=
  PE.imp (pe_comp hc hi O hg hcs he hs) fun σ H Qv h => comp_lift h
end
theorem compL_by {g : WG} {tc : WT} {te : WE} (p : D → Bool) (f : D → D) (Iv : Env → Prop) : ∀ (xs : List D) (ρ : Env) (k : List D → Prop), Iv ρ →
    (∀ x ∈ xs, ∀ ρ, Iv ρ → ∀ N1 : Env → Prop, ∀ N2 : Env → D → Prop, (∀ ρ', Iv ρ' → p x = false → N1 ρ') → (∀ ρ', Iv ρ' → p x = true → N2 ρ' (f x)) → g x ρ fun ρ1 => tc ρ1 fun b => if b = true then te ρ1 fun m d => okEl m d ∧ N2 ρ1 d else N1 ρ1) →
    k ((xs.filter p).map f) → wCompL g tc te xs ρ k
  | [], _, k, _, _, h => h
  | x :: xs, ρ, k, iv, hs, h => by
    refine hs x List.mem_cons_self ρ iv _ _ (fun ρ' iv' hp => ?_) (fun ρ' iv' hp => ?_)
    · exact compL_by p f Iv xs ρ' k iv' (fun y hy => hs y (List.mem_cons_of_mem _ hy)) (by simpa [hp] using h)
    · exact compL_by p f Iv xs ρ' _ iv' (fun y hy => hs y (List.mem_cons_of_mem _ hy)) (by simpa [hp] using h)
end L2.Q

set_option Elab.async false
set_option linter.all false
set_option maxRecDepth 100000
set_option maxHeartbeats 4000000

namespace L2.Q
open PySem PySem.Spec PyProof.Rows

structure Place (K : PySem.W.Frag) (Hs H : Hp) (σ : St) (fl : Bool) (d : D) (v : V) (up : Bool → D → Env) : Prop where
  ex : ∃ As', RepO K Hs H fl d v As' ∧ As' ≠ [] ∧ As'.Nodup ∧ (∀ a ∈ As', Hs a = none) ∧ ∀ Hs2 H2 fl2 d2 As2, Same Hs Hs2 → Wf Hs2 H2 → (∀ a, Hs a = none → H a ≠ none → Hs2 a = none) → (fl2 = true → fl = true) →
    RepO K Hs2 H2 fl2 d2 v As2 → As2 ≠ [] → As2.Nodup → (∀ a ∈ As2, Hs2 a = none ∧ (a ∈ As' ∨ H a = none)) → (∀ a, H a ≠ none → a ∉ As' → H2 a = H a) → ∃ tot2, SRel K Hs2 (up fl2 d2) σ H2 tot2
abbrev WP := Env → (Bool → D → (Bool → D → Env) → Prop) → Prop
def tpP (K : PySem.W.Frag) (t : WP) : TE := fun σ H Qv => ∃ Hs ρ tot Q, SRel K Hs ρ σ H tot ∧ t ρ Q ∧ ∀ v H' Hs' fl d up, Grow Hs H Hs' H' → Place K Hs' H' σ fl d v up → Q fl d up → Qv v H'
abbrev QP (X : Cx) (K : PySem.W.Frag) (e : Expr) (t : WP) : Prop := PE X e (tpP K t)
section
variable {K : PySem.W.Frag} {Hs H Hs' H' : Hp} {σ : St} {fl : Bool} {d : D} {v : V} {up : Bool → D → Env}
theorem Place.grow (p : Place K Hs H σ fl d v up) (g : Grow Hs H Hs' H') : Place K Hs' H' σ fl d v up := by
  obtain ⟨As', r, ne, nd, own, k⟩ := p.ex
  refine ⟨As', r.grow g.sh g.all, ne, nd, fun a h => g.hsn (own a h) (r.own a h).ne, fun Hs2 H2 fl2 d2 As2 s2 w2 n2 hf r2 ne2 nd2 o2 st => ?_⟩
  refine k Hs2 H2 fl2 d2 As2 (g.sh.trans s2) w2 (fun a h1 h2 => n2 a (g.hsn h1 h2) ?_) hf r2 ne2 nd2 (fun a h => ⟨(o2 a h).1, (o2 a h).2.imp id g.all.free⟩) fun a h1 h2 => ?_
  · cases e : H a with
    | none => exact absurd e h2
    | some o => rw [g.all a o e]; exact fun z => nomatch z
  · cases e : H a with
    | none => exact absurd e h1
    | some o =>
      have := g.all a o e
      rw [← this]
      exact st a (by rw [this]; exact fun z => nomatch z) h2
mutual
theorem RepO.ne : ∀ {d : D} {v : V} {As : List Addr}, RepO K Hs H true d v As → d.flat = false → As ≠ []
  | _, _, _, .sh f _, h => by rw [f rfl] at h; cases h
  | _, _, _, .list _ _ _, _ => by simp
  | _, _, _, .tup _ _ n rs, h => RepOs.ne rs n
  | _, _, _, .dK _ _ _, _ => by simp
  | _, _, _, .dT _ _ _, _ => by simp
theorem RepOs.ne : ∀ {ds : List D} {vs : List V} {As : List Addr}, RepOs K Hs H true ds vs As → flats ds = false → As ≠ []
  | _, _, _, .nil, h => by simp [flats] at h
  | _, _, _, .cons (d := d) r rs, h => by
    cases e : d.flat with
    | false => exact fun z => RepO.ne r e (List.append_eq_nil_iff.mp z).1
    | true =>
      simp only [flats, e, Bool.true_and] at h
      exact fun z => RepOs.ne rs h (List.append_eq_nil_iff.mp z).2
end
def wpN (i : Nat) : WP := fun ρ Q => match ρ[i]? with
  | some (some (.ow fl d)) => Q fl d fun fl2 d2 => ρ.set i (some (.ow fl2 d2))
  | _ => False
theorem SR.put {Hs H : Hp} {fl : Bool} {d : D} : ∀ {ρ : Env} {σ : St} {tot : List Addr} (i : Nat), SR K Hs H ρ σ tot → ρ[i]? = some (some (.ow fl d)) → tot.Nodup →
    ∃ (v : V) (As tot' : List Addr), σ[i]? = some (some v) ∧ As ≠ [] ∧ RepO K Hs H fl d v As ∧ As.Sublist tot ∧ ∀ Hs2 H2 fl2 d2 As2, Same Hs Hs2 → RepO K Hs2 H2 fl2 d2 v As2 → As2 ≠ [] → As2.Nodup → (∀ a ∈ As2, a ∈ tot → a ∈ As) → (∀ a ∈ tot, a ∉ As → H2 a = H a) →
      ∃ tot2, tot2.Nodup ∧ (∀ a ∈ tot2, a ∈ tot ∨ a ∈ As2) ∧ SR K Hs2 H2 (ρ.set i (some (.ow fl2 d2))) σ tot2
  | _, _, _, _, .nil, e, _ => by simp at e
  | _, _, _, 0, .non _, e, _ => by simp at e
  | _, _, _, 0, .sh _ _, e, _ => by simp at e
  | _, _, _, 0, .lk _ _ _, e, _ => by simp at e
  | _, _, _, 0, .ow (As := B) (tot := t2) (v := v) ne r q, e, n => by
    simp at e
    obtain ⟨rfl, rfl⟩ := e
    obtain ⟨n1, n2, n3⟩ := List.nodup_append.mp n
    refine ⟨v, B, t2, rfl, ne, r, List.sublist_append_left _ _, fun Hs2 H2 fl2 d2 As2 s2 r2 ne2 nd2 dj st => ⟨As2 ++ t2, List.nodup_append.mpr ⟨nd2, n2, fun a ha b hb e => ?_⟩, fun a h => ?_, .ow ne2 r2 (q.stay s2 fun a h => st a (List.mem_append_right _ h) fun z => n3 a z a h rfl)⟩⟩
    · subst e
      exact n3 a (dj a ha (List.mem_append_right _ hb)) a hb rfl
    · exact (List.mem_append.mp h).symm.imp (fun z => List.mem_append_right _ z) id
  | _, _, _, i + 1, .non q, e, n => by
    obtain ⟨v, As, t, a, b, c, d, g⟩ := SR.put i q (by simpa using e) n
    refine ⟨v, As, t, by simpa using a, b, c, d, fun Hs2 H2 fl2 d2 As2 s2 r2 ne2 nd2 dj st => ?_⟩
    obtain ⟨t2, x, y, z⟩ := g Hs2 H2 fl2 d2 As2 s2 r2 ne2 nd2 dj st
    exact ⟨t2, x, y, .non z⟩
  | _, _, _, i + 1, .sh r q, e, n => by
    obtain ⟨v, As, t, a, b, c, d, g⟩ := SR.put i q (by simpa using e) n
    refine ⟨v, As, t, by simpa using a, b, c, d, fun Hs2 H2 fl2 d2 As2 s2 r2 ne2 nd2 dj st => ?_⟩
    obtain ⟨t2, x, y, z⟩ := g Hs2 H2 fl2 d2 As2 s2 r2 ne2 nd2 dj st
    exact ⟨t2, x, y, .sh (r.same s2) z⟩
  | _, _, _, i + 1, .ow (As := B) ne r q, e, n => by
    obtain ⟨n1, n2, n3⟩ := List.nodup_append.mp n
    obtain ⟨v, As, t, a, b, c, d, g⟩ := SR.put i q (by simpa using e) n2
    have hB : ∀ x ∈ B, x ∉ As := fun x hx m => n3 x hx x (d.subset m) rfl
    refine ⟨v, As, B ++ t, by simpa using a, b, c, d.trans (List.sublist_append_right _ _), fun Hs2 H2 fl2 d2 As2 s2 r2 ne2 nd2 dj st => ?_⟩
    obtain ⟨t2, x, y, z⟩ := g Hs2 H2 fl2 d2 As2 s2 r2 ne2 nd2 (fun a ha m => dj a ha (List.mem_append_right _ m)) fun a ha m => st a (List.mem_append_right _ ha) m
    refine ⟨B ++ t2, List.nodup_append.mpr ⟨n1, x, fun a ha b hb e => ?_⟩, fun a h => ?_, .ow ne (r.stay s2 fun a h => st a (List.mem_append_left _ h) (hB a h)) z⟩
    · subst e
      rcases y a hb with w | w
      · exact n3 a ha a w rfl
      · exact hB a ha (dj a w (List.mem_append_left _ ha))
    · rcases List.mem_append.mp h with w | w
      · exact .inl (List.mem_append_left _ w)
      · exact (y a w).imp (fun w => List.mem_append_right _ w) id
  | _, _, _, i + 1, .lk (As := B) ne r q, e, n => by
    obtain ⟨n1, n2, n3⟩ := List.nodup_append.mp n
    obtain ⟨v, As, t, a, b, c, d, g⟩ := SR.put i q (by simpa using e) n2
    have hB : ∀ x ∈ B, x ∉ As := fun x hx m => n3 x hx x (d.subset m) rfl
    refine ⟨v, As, B ++ t, by simpa using a, b, c, d.trans (List.sublist_append_right _ _), fun Hs2 H2 fl2 d2 As2 s2 r2 ne2 nd2 dj st => ?_⟩
    obtain ⟨t2, x, y, z⟩ := g Hs2 H2 fl2 d2 As2 s2 r2 ne2 nd2 (fun a ha m => dj a ha (List.mem_append_right _ m)) fun a ha m => st a (List.mem_append_right _ ha) m
    refine ⟨B ++ t2, List.nodup_append.mpr ⟨n1, x, fun a ha b hb e => ?_⟩, fun a h => ?_, .lk ne (r.stay s2 fun a h => st a (List.mem_append_left _ h) (hB a h)) z⟩
    · subst e
      rcases y a hb with w | w
      · exact n3 a ha a w rfl
      · exact hB a ha (dj a w (List.mem_append_left _ ha))
    · rcases List.mem_append.mp h with w | w
      · exact .inl (List.mem_append_left _ w)
      · exact (y a w).imp (fun w => List.mem_append_right _ w) id
theorem qp_name {X : Cx} {i : Nat} {e : Expr} (h : PE X e (tVar i)) : QP X K e (wpN i) := PE.imp h fun σ H Qv ⟨Hs, ρ, tot, Q, sr, h, f⟩ => by
  unfold wpN at h
  split at h
  · rename_i fl d e1
    obtain ⟨v, As, t, e2, ne, r, sb, g⟩ := SR.put i sr.sr e1 sr.nod
    refine ⟨v, e2, f v H Hs fl d _ (Grow.refl sr.wf) ⟨As, r, ne, sb.nodup sr.nod, fun a h => sr.own a (sb.subset h), fun Hs2 H2 fl2 d2 As2 s2 w2 n2 _ r2 ne2 nd2 o2 st => ?_⟩ h⟩
    obtain ⟨t2, x, y, z⟩ := g Hs2 H2 fl2 d2 As2 s2 r2 ne2 nd2 (fun a ha m => (o2 a ha).2.elim id fun q => absurd q (sr.sr.own a m).ne) fun a ha m => st a (sr.sr.own a ha).ne m
    exact ⟨t2, z, w2, x, fun a h => (y a h).elim (fun q => n2 a (sr.own a q) (sr.sr.own a q).ne) fun q => (o2 a q).1⟩
  · exact h.elim
theorem RepO.wk {fl fl2 : Bool} {d : D} {v : V} {As : List Addr} (h : fl2 = true → fl = true) (r : RepO K Hs H fl d v As) : RepO K Hs H fl2 d v As := by
  cases fl2 with
  | false => exact r.fls
  | true => rw [h rfl] at r; exact r
theorem RepOs.wk {fl fl2 : Bool} {d : List D} {v : List V} {As : List Addr} (h : fl2 = true → fl = true) (r : RepOs K Hs H fl d v As) : RepOs K Hs H fl2 d v As := by
  cases fl2 with
  | false => exact r.fls
  | true => rw [h rfl] at r; exact r
theorem RepOs.at {fl : Bool} : ∀ {ds : List D} {vs : List V} {As : List Addr} {j : Nat} {d : D}, RepOs K Hs H fl ds vs As → ds[j]? = some d → As.Nodup →
    ∃ (v : V) (B : List Addr), vs[j]? = some v ∧ RepO K Hs H fl d v B ∧ B.Sublist As ∧ ∀ Hs2 H2 fl2 d2 B2, Same Hs Hs2 → (fl2 = true → fl = true) → RepO K Hs2 H2 fl2 d2 v B2 → B2.Nodup → (∀ a ∈ B2, a ∈ As → a ∈ B) → (∀ a ∈ As, a ∉ B → H2 a = H a) →
      ∃ As2, As2.Nodup ∧ (∀ a ∈ As2, (a ∈ As ∧ a ∉ B) ∨ a ∈ B2) ∧ (B2 ≠ [] → As2 ≠ []) ∧ RepOs K Hs2 H2 fl2 (ds.set j d2) vs As2
  | _, _, _, _, _, .nil, e, _ => by simp at e
  | _, _, _, 0, _, .cons (As := A) (Bs := B) (v := v) r rs, e, n => by
    simp at e
    subst e
    obtain ⟨n1, n2, n3⟩ := List.nodup_append.mp n
    refine ⟨v, A, rfl, r, List.sublist_append_left _ _, fun Hs2 H2 fl2 d2 B2 s2 hf r2 nd2 dj st => ⟨B2 ++ B, List.nodup_append.mpr ⟨nd2, n2, fun a ha b hb e => ?_⟩, fun a h => ?_, fun ne z => ne (List.append_eq_nil_iff.mp z).1, .cons r2 ((rs.wk hf).stay s2 fun a h => st a (List.mem_append_right _ h) fun z => n3 a z a h rfl)⟩⟩
    · subst e
      exact n3 a (dj a ha (List.mem_append_right _ hb)) a hb rfl
    · rcases List.mem_append.mp h with w | w
      · exact .inr w
      · exact .inl ⟨List.mem_append_right _ w, fun z => n3 a z a w rfl⟩
  | _, _, _, j + 1, _, .cons (As := A) (Bs := B) r rs, e, n => by
    obtain ⟨n1, n2, n3⟩ := List.nodup_append.mp n
    obtain ⟨v, C, a, b, c, g⟩ := RepOs.at (j := j) rs (by simpa using e) n2
    have hA : ∀ x ∈ A, x ∉ C := fun x hx m => n3 x hx x (c.subset m) rfl
    refine ⟨v, C, by simpa using a, b, c.trans (List.sublist_append_right _ _), fun Hs2 H2 fl2 d2 B2 s2 hf r2 nd2 dj st => ?_⟩
    obtain ⟨As2, x, y, w, z⟩ := g Hs2 H2 fl2 d2 B2 s2 hf r2 nd2 (fun a ha m => dj a ha (List.mem_append_right _ m)) fun a ha m => st a (List.mem_append_right _ ha) m
    refine ⟨A ++ As2, List.nodup_append.mpr ⟨n1, x, fun a ha b hb e => ?_⟩, fun a h => ?_, fun ne q => w ne (List.append_eq_nil_iff.mp q).2, .cons ((r.wk hf).stay s2 fun a h => st a (List.mem_append_left _ h) (hA a h)) z⟩
    · subst e
      rcases y a hb with q | q
      · exact n3 a ha a q.1 rfl
      · exact hA a ha (dj a q (List.mem_append_left _ ha))
    · rcases List.mem_append.mp h with q | q
      · exact .inl ⟨List.mem_append_left _ q, hA a q⟩
      · exact (y a q).imp (fun q => ⟨List.mem_append_right _ q.1, q.2⟩) id
def wpIx (p : WP) (t : WE) : WP := fun ρ Q => p ρ fun fl d up => t ρ fun _ y => fl = true ∧ match y with
  | .int i => match d with
    | .list ds => ∃ j d', ixN ds.length i = some j ∧ ds[j]? = some d' ∧ d'.flat = false ∧ Q true d' fun fl2 d2 => up fl2 (.list (ds.set j d2))
    | .tup ds => ∃ j d', ixN ds.length i = some j ∧ ds[j]? = some d' ∧ d'.flat = false ∧ Q true d' fun fl2 d2 => up fl2 (.tup (ds.set j d2))
    | _ => False
  | _ => False
end

section
variable {X : Cx} {K : PySem.W.Frag} {e : Expr} {p : WP} {te : WE} {apos cpos pos : Pos}
def pushFl (fl : Bool) (m : Md) (d : D) : Option Bool := match m with
  | .sh => some (fl && d.flat)
  | .ow b => some (fl && b)
  | .bo => bif d.flat then some fl else none
def wApp (p : WP) (te : WE) : WS := fun E ρ => p ρ fun fl d up => match d with
  | .list xs => te ρ fun m x => xs.length < sizeLine ∧ match pushFl fl m x with
    | some fl2 => E.nx (up fl2 (.list (xs ++ [x])))
    | none => False
  | _ => False
theorem push_rep {Hs H : Hp} {fl fl2 : Bool} {m : Md} {d : D} {v : V} {As : List Addr} (w : Wf Hs H) (r : RM K Hs H m d v As) (h : pushFl fl m d = some fl2) : (fl2 = true → fl = true) ∧ ∃ B, B.Sublist As ∧ RepO K Hs H fl2 d v B := by
  cases m with
  | sh =>
    cases h
    exact ⟨fun z => by cases fl <;> simp_all, [], List.nil_sublist _, .sh (fun z => by cases fl <;> simp_all) r.2⟩
  | ow b =>
    cases h
    refine ⟨fun z => by cases fl <;> simp_all, As, List.Sublist.refl _, r.1.wk fun z => by cases fl <;> simp_all⟩
  | bo =>
    cases hf : d.flat with
    | true =>
      simp only [pushFl, hf, cond_true, Option.some.injEq] at h
      subst h
      exact ⟨id, [], List.nil_sublist _, .sh (fun _ => hf) (r.flat w hf)⟩
    | false => simp [pushFl, hf] at h
theorem Place.put {Hs1 H1 Hs2 H2 : Hp} {σ : St} {fl : Bool} {xs : List D} {v : V} {up : Bool → D → Env} (pl : Place K Hs1 H1 σ fl (.list xs) v up) (g : Grow Hs1 H1 Hs2 H2) :
    ∃ a vs A, v = .ref a ∧ H2 a = some (.lst vs) ∧ H1 a = some (.lst vs) ∧ RepOs K Hs2 H2 fl xs vs A ∧ (a :: A).Nodup ∧ (∀ x ∈ a :: A, Hs2 x = none ∧ H1 x ≠ none) ∧
      ∀ fl2 ys ws C, (fl2 = true → fl = true) → RepOs K Hs2 H2 fl2 ys ws C → ws.length ≤ sizeLine → C.Nodup → a ∉ C → (∀ x ∈ C, x ∈ A ∨ (Hs2 x = none ∧ H1 x = none)) → ∃ tot2, SRel K Hs2 (up fl2 (.list ys)) σ (upd H2 a (.lst ws)) tot2 := by
  obtain ⟨As', r, ne, nd, own, k⟩ := pl.ex
  cases r with
  | sh hf _ => exact absurd rfl ne
  | @list a vs _ A hz e rs =>
    have e2 := g.all _ _ e
    have rs2 := rs.grow g.sh g.all
    have hn : ∀ x ∈ a :: A, Hs2 x = none ∧ H1 x ≠ none := fun x hx => by
      have hx' : H1 x ≠ none := by
        rcases List.mem_cons.mp hx with rfl | hx
        · rw [e]; exact fun z => nomatch z
        · exact (rs.own x hx).ne
      exact ⟨g.hsn (own x hx) hx', hx'⟩
    refine ⟨a, vs, A, rfl, e2, e, rs2, nd, hn, fun fl2 ys ws C hf rw' hw ndC naC hC => ?_⟩
    have w2 : Wf Hs2 (upd H2 a (.lst ws)) := ⟨fun b o q => by
        rw [upd_ne (fun z => by subst z; rw [(hn _ List.mem_cons_self).1] at q; cases q)]; exact g.wf.sub b o q, fun b us q => by
        by_cases hb : b = a
        · subst hb; rw [upd_same] at q; cases q
        · rw [upd_ne hb] at q; exact g.wf.tups b us q⟩
    refine k Hs2 _ fl2 (.list ys) (a :: C) g.sh w2 (fun b h1 h2 => g.hsn h1 h2) hf (.list hw upd_same (rw'.stay (Same.refl _) fun b hb => upd_ne fun z => naC (by subst z; exact hb))) (by simp) (List.nodup_cons.mpr ⟨naC, ndC⟩) (fun b hb => ?_) fun b h1 h2 => ?_
    · rcases List.mem_cons.mp hb with rfl | hb
      · exact ⟨(hn _ List.mem_cons_self).1, .inl List.mem_cons_self⟩
      · rcases hC b hb with q | ⟨q1, q2⟩
        · exact ⟨(hn b (List.mem_cons_of_mem _ q)).1, .inl (List.mem_cons_of_mem _ q)⟩
        · exact ⟨q1, .inr q2⟩
    · rw [upd_ne fun z => h2 (by subst z; exact List.mem_cons_self)]
      cases q : H1 b with
      | none => exact absurd q h1
      | some o => exact g.all b o q
theorem Place.isL {Hs1 H1 : Hp} {σ : St} {fl : Bool} {xs : List D} {v : V} {up : Bool → D → Env} (w : Wf Hs1 H1) (pl : Place K Hs1 H1 σ fl (.list xs) v up) : ∃ a vs, v = .ref a ∧ SqL K H1 a vs := by
  obtain ⟨As', r, ne, nd, own, k⟩ := pl.ex
  cases r with
  | sh hf _ => exact absurd rfl ne
  | list hz e rs => exact ⟨_, _, rfl, .inl (.inl e)⟩
theorem qs_app (ho : QP X K e p) {e2 : Expr} (he : QE X K e2 te) (hK : X.K = K := by rfl) (hs : swapsWith (.Call (.Attribute e "append" apos) [e2] [] cpos) none pos.line X.env = pure false := by rfl)
    (hbase : attributeBase e "append" X.env (eval e X.env) = eval e X.env := by rfl)
    (hfew : ((backTo cpos (starEach [e2] X.env)).all (fun x => !x.1) && (backToKw cpos (keywordEach [] X.env)).all (fun x => x.1.isSome)
      && decide ([e2].length + ([] : List Keyword).length + (if ([] : List Keyword).isEmpty then 0 else 1) < 30)) = true := by rfl)
    (hline : (apos.endLine == cpos.line) = true := by rfl) (hss : starEach (e2 :: []) X.env = (false, eval e2 X.env) :: starEach [] X.env := by rfl) (hplain : (backTo cpos (starEach [] X.env)).any (·.1) = false := by rfl) :
    QS X K (.Expr (.Call (.Attribute e "append" apos) [e2] [] cpos) pos) (wApp p te) := by
  subst hK
  refine PS.imp (ps_expr (pe_bm PySem.F.plainAttrs_list PySem.F.slot_list_append PySem.F.type_list_append mt_append ho (pa_cons he pa_nil hss) hbase hfew hline hss hplain) hs) fun D σ H ⟨Hs, ρ, tot, E, sr, h, k1, k2, k3, k4⟩ => ?_
  refine ⟨Hs, ρ, tot, _, sr, h, fun v H1 Hs1 fl d up g1 p1 q1 => ?_⟩
  cases d with
  | list xs =>
    obtain ⟨a1, vs1, e1, s1⟩ := p1.isL g1.wf
    subst e1
    refine ⟨.inl ⟨rfl, _, s1⟩, Hs1, ρ, tot, _, sr.grow g1, q1, fun y H2 Hs2 m x As g2 r2 f2 q2 => ?_⟩
    obtain ⟨hz, q2⟩ := q2
    obtain ⟨a, vs, A, ea, e2, _, rs, nd, hn, k⟩ := p1.put g2
    cases ea
    have hl := rs.length
    refine ⟨a1, vs, y, rfl, rfl, e2, by omega, ?_⟩
    cases hp : pushFl fl m x with
    | none => rw [hp] at q2; exact q2.elim
    | some fl2 =>
      rw [hp] at q2
      obtain ⟨hf, B, sb, rb⟩ := push_rep g2.wf r2 hp
      obtain ⟨na, nA⟩ := List.nodup_cons.mp nd
      have fB : ∀ x ∈ B, Hs2 x = none ∧ H1 x = none := fun x hx => f2.2 x (sb.subset hx)
      have c1 : (A ++ (B ++ [])).Nodup := by
        rw [List.append_nil]
        exact List.nodup_append.mpr ⟨nA, sb.nodup f2.1, fun x hx z hz e => by subst e; exact (hn x (List.mem_cons_of_mem _ hx)).2 (fB x hz).2⟩
      have c2 : a1 ∉ A ++ (B ++ []) := by
        rw [List.append_nil]
        intro m
        rcases List.mem_append.mp m with m | m
        · exact na m
        · exact (hn _ List.mem_cons_self).2 (fB _ m).2
      have c3 : ∀ x ∈ A ++ (B ++ []), x ∈ A ∨ (Hs2 x = none ∧ H1 x = none) := by
        rw [List.append_nil]
        intro x hx
        exact (List.mem_append.mp hx).imp id fun z => fB x z
      obtain ⟨tot2, sr2⟩ := k fl2 (xs ++ [x]) (vs ++ [y]) (A ++ (B ++ [])) hf ((rs.wk hf).append (.cons rb .nil)) (by rw [List.length_append]; simp; omega) c1 c2 c3
      exact k1 σ _ Hs2 _ tot2 (g1.sh.trans g2.sh) sr2 q2
  | _ => exact q1.elim
section
variable {κ : Type} [DecidableEq κ]
end
end
end L2.Q

set_option Elab.async false
set_option linter.all false
set_option maxRecDepth 100000
set_option maxHeartbeats 4000000

namespace L2.Q
open PySem PySem.Spec PyProof.Rows

abbrev WJ := Env → Str → (Str → Prop) → Prop
section
variable {X : Cx} {K : PySem.W.Frag} {e v₁ v₂ : Expr} {es rest : List Expr} {te : WE} {j : WJ} {pos : Pos}
def strs1 : List D → Option (List Str)
  | [] => some []
  | .str x :: xs => (strs1 xs).map (x :: ·)
  | _ :: _ => none
def wJoinM (to te : WE) : WE := fun ρ Q => to ρ fun _ x => match x with
  | .str z => te ρ fun _ y => match y with
    | .list ys => ∃ zs, strs1 ys = some zs ∧ (zs.map (·.length)).sum + zs.length * z.length ≤ 16777216 ∧ Q .sh (.str (Str.join z zs))
    | _ => False
  | _ => False
theorem strs_are {H : Hp} : ∀ {ds : List D} {vs : List V} {us : List Value} {zs : List Str}, Reps K H ds vs → Vals vs us → strs1 ds = some zs → StrsAre us zs
  | _, _, _, _, .nil, .nil, h => by simp [strs1] at h; subst h; exact .nil
  | d :: ds, _, _, zs, .cons r rs, .cons q qs, h => by
    cases r with
    | str hz =>
      simp only [strs1] at h
      cases e : strs1 ds with
      | none => rw [e] at h; cases h
      | some ys =>
        rw [e] at h
        cases h
        obtain ⟨t, rfl⟩ := q
        exact .cons _ t (strs_are rs qs e)
    | _ => simp [strs1] at h
theorem mt_join (hK : X.K = K := by rfl) : MtR X "str.join" (fun x xs H Q => ∃ z a ds vs zs, x = .str z ∧ xs = [.ref a] ∧ SqL K H a vs ∧ Reps K H ds vs ∧ strs1 ds = some zs ∧ (zs.map (·.length)).sum + zs.length * z.length ≤ 16777216 ∧ Q (.str (Str.join z zs)) H) := by
  subst hK
  intro pins s σ H x xs v us Q I rx rs h
  obtain ⟨z, a, ds, vs, zs, rfl, rfl, hs, rr, e, hz, q⟩ := h
  obtain ⟨t, rfl⟩ := rx
  obtain ⟨u, rfl, ru⟩ := Vals.one rs
  cases ru
  obtain ⟨its, rv, pl, _⟩ := I.list hs
  exact join_list pl.isList (by simpa using strs_are rr rv e) hz fun t' k => ⟨.str _, H, I.tok _, ⟨t', rfl⟩, by rw [show Txt.join z zs = Str.join z zs from StrLaws.glued_eq_join z zs]; exact q⟩
theorem join_len {z : Str} : ∀ {zs : List Str}, (Str.join z zs).length ≤ (zs.map (·.length)).sum + zs.length * z.length
  | [] => by show Str.empty.length ≤ _; exact Nat.le_trans (show Str.empty.length ≤ 0 by decide) (Nat.zero_le _)
  | [x] => by simp [Str.join]
  | x :: y :: r => by
    have ih := join_len (z := z) (zs := y :: r)
    show (x ++ z ++ Str.join z (y :: r)).length ≤ _
    rw [str_app_len, str_app_len]
    simp only [List.map_cons, List.sum_cons, List.length_cons, Nat.add_mul, Nat.one_mul] at ih ⊢
    omega
theorem q_join {o : Expr} {to : WE} {apos cpos : Pos} (ho : QE X K o to) (he : QE X K e te) (hK : X.K = K := by rfl)
    (hbase : attributeBase o "join" X.env (eval o X.env) = eval o X.env := by rfl)
    (hfew : ((backTo cpos (starEach [e] X.env)).all (fun x => !x.1) && (backToKw cpos (keywordEach [] X.env)).all (fun x => x.1.isSome)
      && decide ([e].length + ([] : List Keyword).length + (if ([] : List Keyword).isEmpty then 0 else 1) < 30)) = true := by rfl)
    (hline : (apos.endLine == cpos.line) = true := by rfl) (hss : starEach (e :: []) X.env = (false, eval e X.env) :: starEach [] X.env := by rfl) (hplain : (backTo cpos (starEach [] X.env)).any (·.1) = false := by rfl) :
    QE X K (.Call (.Attribute o "join" apos) [e] [] cpos) (wJoinM to te) := by
  subst hK
  refine PE.imp (pe_bm PySem.F.plainAttrs_str PySem.F.slot_str_join PySem.F.type_str_join mt_join ho (pa_cons he pa_nil hss) hbase hfew hline hss hplain) fun σ H Qv ⟨Hs, ρ, tot, Q, sr, h, f⟩ => ?_
  refine ⟨Hs, ρ, tot, _, sr, h, fun v H1 Hs1 m x As g1 r1 f1 q1 => ?_⟩
  have r := r1.rep g1.wf
  cases r with
  | str hz =>
    refine ⟨rfl, Hs1, ρ, tot, _, sr.grow g1, q1, fun y H2 Hs2 m2 x2 As2 g2 r2 f2 q2 => ?_⟩
    have rr := r2.rep g2.wf
    cases rr with
    | list z s rs =>
      obtain ⟨zs, e, hz, q⟩ := q2
      exact ⟨_, _, _, _, zs, rfl, rfl, s, rs, e, hz, Fin.sh (Fin.after f (g1.trans g2)) g2.wf (.str (Nat.le_trans join_len (by rw [sizeLine_eq]; exact hz))) q⟩
    | _ => exact q2.elim
  | _ => exact q1.elim

def keyT (k : List Key) : D := .tup (k.map keyD)
def fSortT : W1 := fun _ x Q => match x with
  | .list xs => ∃ ks sh, xs = ks.map keyT ∧ (∀ k ∈ ks, shOf k = true :: sh) ∧ ∀ ms : List (List Key), ms.Perm ks → (ms.Pairwise fun a b => ltK b a = false) → Q (.ow true) (.list (ms.map keyT))
  | _ => False
end
end L2.Q

set_option Elab.async false
set_option linter.all false
set_option maxRecDepth 100000
set_option maxHeartbeats 4000000

namespace L2.Q
open PySem PySem.Spec PyProof.Rows

theorem SR.addrs {K : PySem.W.Frag} {Hs H : Hp} : ∀ {ρ : Env} {σ : St} {tot : List Addr}, SR K Hs H ρ σ tot → tot.Nodup → ∃ F : Nat → List Addr, (∀ i fl d, ρ[i]? = some (some (.ow fl d)) → ∃ v, σ[i]? = some (some v) ∧ F i ≠ [] ∧ RepO K Hs H fl d v (F i)) ∧
    (∀ i, (F i).Sublist tot) ∧ ∀ i j, i ≠ j → ∀ a ∈ F i, a ∉ F j
  | _, _, _, .nil, _ => ⟨fun _ => [], fun i fl d e => by simp at e, fun i => List.nil_sublist _, fun i j _ a h => nomatch h⟩
  | _, _, _, .non s, n => by
    obtain ⟨F, a, b, c⟩ := SR.addrs s n
    refine ⟨fun i => match i with | 0 => [] | i + 1 => F i, fun i fl d e => ?_, fun i => ?_, fun i j ne x hx => ?_⟩
    · cases i with
      | zero => simp at e
      | succ i => exact a i fl d (by simpa using e)
    · cases i with
      | zero => exact List.nil_sublist _
      | succ i => exact b i
    · cases i with
      | zero => exact nomatch hx
      | succ i =>
        cases j with
        | zero => exact fun z => nomatch z
        | succ j => exact c i j (fun z => ne (by rw [z])) x hx
  | _, _, _, .sh _ s, n => by
    obtain ⟨F, a, b, c⟩ := SR.addrs s n
    refine ⟨fun i => match i with | 0 => [] | i + 1 => F i, fun i fl d e => ?_, fun i => ?_, fun i j ne x hx => ?_⟩
    · cases i with
      | zero => simp at e
      | succ i => exact a i fl d (by simpa using e)
    · cases i with
      | zero => exact List.nil_sublist _
      | succ i => exact b i
    · cases i with
      | zero => exact nomatch hx
      | succ i =>
        cases j with
        | zero => exact fun z => nomatch z
        | succ j => exact c i j (fun z => ne (by rw [z])) x hx
  | _, _, _, .ow (As := B) (tot := t2) ne0 r s, n => by
    obtain ⟨n1, n2, n3⟩ := List.nodup_append.mp n
    obtain ⟨F, a, b, c⟩ := SR.addrs s n2
    refine ⟨fun i => match i with | 0 => B | i + 1 => F i, fun i fl d e => ?_, fun i => ?_, fun i j ne x hx => ?_⟩
    · cases i with
      | zero => simp at e; obtain ⟨rfl, rfl⟩ := e; exact ⟨_, rfl, ne0, r⟩
      | succ i => exact a i fl d (by simpa using e)
    · cases i with
      | zero => exact List.sublist_append_left _ _
      | succ i => exact (b i).trans (List.sublist_append_right _ _)
    · cases i with
      | zero =>
        cases j with
        | zero => exact absurd rfl ne
        | succ j => exact fun z => n3 x hx x ((b j).subset z) rfl
      | succ i =>
        cases j with
        | zero => exact fun z => n3 x z x ((b i).subset hx) rfl
        | succ j => exact c i j (fun z => ne (by rw [z])) x hx
  | _, _, _, .lk (As := B) (tot := t2) ne0 r s, n => by
    obtain ⟨n1, n2, n3⟩ := List.nodup_append.mp n
    obtain ⟨F, a, b, c⟩ := SR.addrs s n2
    refine ⟨fun i => match i with | 0 => B | i + 1 => F i, fun i fl d e => ?_, fun i => ?_, fun i j ne x hx => ?_⟩
    · cases i with
      | zero => simp at e
      | succ i => exact a i fl d (by simpa using e)
    · cases i with
      | zero => exact List.sublist_append_left _ _
      | succ i => exact (b i).trans (List.sublist_append_right _ _)
    · cases i with
      | zero =>
        cases j with
        | zero => exact absurd rfl ne
        | succ j => exact fun z => n3 x hx x ((b j).subset z) rfl
      | succ i =>
        cases j with
        | zero => exact fun z => n3 x z x ((b i).subset hx) rfl
        | succ j => exact c i j (fun z => ne (by rw [z])) x hx
abbrev Plan := List (WE ⊕ Nat)
def mvs : Plan → List Nat
  | [] => []
  | .inl _ :: r => mvs r
  | .inr i :: r => i :: mvs r
def movS : Option (Option Sl) → Option (Md × D)
  | some (some (.sh d)) => some (.sh, d)
  | some (some (.ow fl d)) => some (.ow fl, d)
  | _ => none
def wPlan : Plan → Env → (List (Md × D) → Prop) → Prop
  | [], _, Q => Q []
  | .inl t :: r, ρ, Q => t ρ fun m x => wPlan r ρ fun ps => Q ((m, x) :: ps)
  | .inr i :: r, ρ, Q => match movS ρ[i]? with
    | some p => wPlan r ρ fun ps => Q (p :: ps)
    | none => False
def tpM (K : PySem.W.Frag) (pl : Plan) : TA := fun σ H Qv => ∃ (Hs : Hp) (ρ : Env) (tot : List Addr) (F : Nat → List Addr) (Q : List (Md × D) → Prop), SRel K Hs ρ σ H tot ∧ (∀ i fl d, ρ[i]? = some (some (.ow fl d)) → ∃ v, σ[i]? = some (some v) ∧ F i ≠ [] ∧ RepO K Hs H fl d v (F i)) ∧ (∀ i, (F i).Sublist tot) ∧ (∀ i j, i ≠ j → ∀ a ∈ F i, a ∉ F j) ∧
  wPlan pl ρ Q ∧ ∀ vs H' Hs' ps As, Grow Hs H Hs' H' → RMs K Hs' H' ps vs As → As.Nodup → (∀ a ∈ As, Hs' a = none ∧ (H a = none ∨ ∃ i ∈ mvs pl, a ∈ F i)) → Q ps → Qv vs H'
abbrev QM (X : Cx) (K : PySem.W.Frag) (es : List Expr) (pl : Plan) : Prop := PA X es (tpM K pl)
section
variable {X : Cx} {K : PySem.W.Frag} {e : Expr} {es : List Expr} {te : WE} {pl : Plan} {pos : Pos}
theorem qm_nil : QM X K [] [] := PA.imp pa_nil fun σ H Qv ⟨Hs, ρ, tot, F, Q, sr, h1, h2, h3, h, f⟩ => f [] H Hs [] [] (Grow.refl sr.wf) .nil List.nodup_nil (fun a h => nomatch h) h
theorem qm_e (ha : QE X K e te) (hr : QM X K es pl) (hs : starEach (e :: es) X.env = (false, eval e X.env) :: starEach es X.env := by rfl) : QM X K (e :: es) (.inl te :: pl) := by
  refine PA.imp (pa_cons ha hr hs) fun σ H Qv ⟨Hs, ρ, tot, F, Q, sr, h1, h2, h3, h, f⟩ => ?_
  refine ⟨Hs, ρ, tot, _, sr, h, fun v H1 Hs1 m x As g1 r1 f1 q1 => ⟨Hs1, ρ, tot, F, _, sr.grow g1, (fun i fl d e => ?_), h2, h3, q1, fun vs H2 Hs2 ps Bs g2 r2 nd2 o2 q2 => ?_⟩⟩
  · obtain ⟨v, a, b, c⟩ := h1 i fl d e
    exact ⟨v, a, b, c.grow g1.sh g1.all⟩
  · refine f (v :: vs) H2 Hs2 _ _ (g1.trans g2) (.cons (r1.grow g2) r2) (List.nodup_append.mpr ⟨f1.1, nd2, fun a ha b hb e => ?_⟩) (fun a ha => ?_) q2
    · subst e
      rcases (o2 a hb).2 with z | ⟨i, _, z⟩
      · exact (r1.own a ha).ne z
      · exact (sr.sr.own a ((h2 i).subset z)).ne (f1.2 a ha).2
    · rcases List.mem_append.mp ha with z | z
      · exact ⟨g2.hsn (f1.2 a z).1 (r1.own a z).ne, .inl (f1.2 a z).2⟩
      · exact ⟨(o2 a z).1, (o2 a z).2.imp g1.all.free id⟩
theorem qm_v {i : Nat} (ha : PE X e (tVar i)) (hr : QM X K es pl) (hi : i ∉ mvs pl := by decide) (hs : starEach (e :: es) X.env = (false, eval e X.env) :: starEach es X.env := by rfl) : QM X K (e :: es) (.inr i :: pl) := by
  refine PA.imp (pa_cons ha hr hs) fun σ H Qv ⟨Hs, ρ, tot, F, Q, sr, h1, h2, h3, h, f⟩ => ?_
  unfold wPlan at h
  cases hm : movS ρ[i]? with
  | none => rw [hm] at h; exact h.elim
  | some p =>
    rw [hm] at h
    have key : ∃ v A, σ[i]? = some (some v) ∧ RM K Hs H p.1 p.2 v A ∧ A.Nodup ∧ ∀ a ∈ A, a ∈ F i := by
      cases e1 : ρ[i]? with
      | none => rw [e1] at hm; cases hm
      | some o =>
        cases o with
        | none => rw [e1] at hm; cases hm
        | some sl =>
          cases sl with
          | sh d =>
            rw [e1] at hm; cases hm
            obtain ⟨v, a, b⟩ := sr.sr.get e1
            exact ⟨v, [], a, ⟨rfl, b⟩, List.nodup_nil, fun a h => nomatch h⟩
          | lk a fl d => rw [e1] at hm; cases hm
          | ow fl d =>
            rw [e1] at hm; cases hm
            obtain ⟨v, a, b, c⟩ := h1 i fl d e1
            exact ⟨v, F i, a, ⟨c, b⟩, (h2 i).nodup sr.nod, fun a h => h⟩
    obtain ⟨v, A, ev, rm, ndA, hA⟩ := key
    refine ⟨v, ev, Hs, ρ, tot, F, _, sr, h1, h2, h3, h, fun vs H2 Hs2 ps Bs g2 r2 nd2 o2 q2 => ?_⟩
    refine f (v :: vs) H2 Hs2 _ _ g2 (.cons (rm.grow g2) r2) (List.nodup_append.mpr ⟨ndA, nd2, fun a ha b hb e => ?_⟩) (fun a ha => ?_) q2
    · subst e
      rcases (o2 a hb).2 with z | ⟨j, hj, z⟩
      · exact (rm.own a ha).ne z
      · exact h3 i j (fun z => hi (by rw [z]; exact hj)) a (hA a ha) z
    · rcases List.mem_append.mp ha with z | z
      · have : a ∈ tot := (h2 i).subset (hA a z)
        exact ⟨g2.hsn (sr.own a this) (sr.sr.own a this).ne, .inr ⟨i, List.mem_cons_self, hA a z⟩⟩
      · exact ⟨(o2 a z).1, (o2 a z).2.imp id fun ⟨j, hj, q⟩ => ⟨j, List.mem_cons_of_mem _ hj, q⟩⟩
def wRetT (pl : Plan) : WS := fun E ρ => wPlan pl ρ fun ps => ps.length ≤ sizeLine ∧ E.rt (tupMd ps) (.tup (ps.map (·.2)))
theorem qs_retT {x1} {tpos : Pos} (h : QM X K es pl) : QS X K (.Return (some (.Tuple es x1 tpos)) pos) (wRetT pl) := by
  refine PS.imp (ps_ret (pe_tup h)) fun D σ H ⟨Hs, ρ, tot, E, sr, h, k1, k2, k3, k4⟩ => ?_
  obtain ⟨F, h1, h2, h3⟩ := sr.sr.addrs sr.nod
  refine ⟨Hs, ρ, tot, F, _, sr, h1, h2, h3, h, fun vs H1 Hs1 ps As g1 r1 nd1 o1 q1 => ?_⟩
  obtain ⟨hz, q⟩ := q1
  have rl := r1.reps g1.wf
  have hl := rl.length
  rw [List.length_map] at hl
  refine ⟨by omega, fun p hp => ?_⟩
  have g2 := newT (vs := vs) g1.wf hp
  have sm : Same Hs (upd Hs1 p (.tup vs)) := g1.sh.trans g2.sh
  unfold tupMd at q
  cases e1 : ps.all okSh with
  | true =>
    rw [e1] at q
    exact k4 _ _ _ .sh _ [] sm g2.wf ⟨rfl, .tup (by omega) upd_same ((r1.sh g1.wf e1).same g2.sh)⟩ List.nodup_nil (fun a h => nomatch h) q
  | false =>
    rw [e1] at q
    cases e2 : ps.all okOw with
    | false =>
      rw [e2] at q
      exact k4 _ _ _ .bo _ [] sm g2.wf ⟨rfl, .tup (by omega) upd_same (rl.same g2.all)⟩ List.nodup_nil (fun a h => nomatch h) q
    | true =>
      rw [e2] at q
      obtain ⟨Bs, sb, nz, ro⟩ := r1.ow (fl := ps.all okFl) g1.wf e2 fun z => z
      have hne : flats (ps.map (·.2)) = false := by
        cases hf : flats (ps.map (·.2)) with
        | false => rfl
        | true => rw [flats_sh hf] at e1; cases e1
      exact k4 _ _ _ (.ow _) _ Bs sm g2.wf ⟨.tup (by omega) upd_same hne (ro.grow g2.sh g2.all), nz e1⟩ (sb.nodup nd1) (fun a ha => g2.hsn (o1 a (sb.subset ha)).1 (ro.own a ha).ne) q
end
end L2.Q

set_option Elab.async false
set_option linter.all false
set_option maxRecDepth 100000
set_option maxHeartbeats 4000000

namespace L2.Q
open PySem PySem.Spec PyProof.Rows

def spLaw : SpD := fun ds Q => ∃ ns : List Int, ds = [.list (ns.map .int)] ∧ ns.length ≤ 63 ∧ ∀ m, Q m (.bl true)
theorem ints_rep {K : PySem.W.Frag} {H : Hp} : ∀ (ns : List Int), Reps K H (ns.map .int) (ns.map V.int)
  | [] => .nil
  | n :: ns => .cons (.int n) (ints_rep ns)
theorem law_lift {K : PySem.W.Frag} {H : Hp} {a : Addr} {ns : List Int} {E : XK} (hl : ns.length ≤ 63) (hS : SqL K H a (ns.map V.int)) : liftSp K spLaw [.ref a] H (fun v _ => v = .bl true) E := by
  refine ⟨[.list (ns.map .int)], fun _ d => d = .bl true, .cons (.list (by rw [List.length_map]; exact Nat.le_trans hl (by decide)) hS (ints_rep ns)) .nil, ⟨ns, rfl, hl, fun _ => rfl⟩, ?_⟩
  intro v H' Hs' m d As s w r nd own q
  subst q
  have := r.rep w
  cases this
  rfl

abbrev sg (x : Str) : List Nat := x.cps.toList
theorem sg_app (x y : Str) : sg (x ++ y) = sg x ++ sg y := by
  show (x.cps ++ y.cps).toList = _
  simp [sg]
theorem empty_app (x : Str) : Str.empty ++ x = x := str_ext (by rw [← sg, sg_app]; rfl)
def okS (x : Str) : Prop := ∀ c ∈ sg x, c < 0x110000
theorem okS_iff (x : Str) : PyData.strOk x = true ↔ okS x := by
  unfold PyData.strOk okS sg
  rw [Array.all_eq_true']
  simp
end L2.Q
namespace L2.Q
open PySem PySem.Spec PyProof.Rows
theorem atI0 {α : Type} (x : α) (l : List α) : atI (x :: l) 0 = some x := by simp [L2.atI, ixN]
theorem atI1 {α : Type} (x y : α) (l : List α) : atI (x :: y :: l) 1 = some y := by
  have := atI_nat (xs := x :: y :: l) (j := 1) (v := y) rfl
  exact this
theorem atI2 {α : Type} (x y z : α) (l : List α) : atI (x :: y :: z :: l) 2 = some z := by
  have := atI_nat (xs := x :: y :: z :: l) (j := 2) (v := z) rfl
  exact this
theorem empty_len : Str.empty.length = 0 := by decide
end L2.Q

set_option Elab.async false
set_option linter.all false
set_option maxRecDepth 100000
set_option maxHeartbeats 4000000

namespace L2.Q.R
open PySem PySem.Spec PyProof.Rows L2.Q
section
variable {f : D → Prop} {k : Kt f}
theorem on_non : onK .non k = f .non := rfl
theorem on_bl {b : Bool} : onK (.bl b) k = f (.bl b) := rfl
theorem on_int {i : Int} : onK (.int i) k = f (.int i) := rfl
theorem on_str {x : Str} : onK (.str x) k = f (.str x) := rfl
theorem on_list {xs : List D} : onK (.list xs) k = f (.list xs) := rfl
theorem on_tup {xs : List D} : onK (.tup xs) k = f (.tup xs) := rfl
theorem on_dK {xs : List (Key × D)} : onK (.dK xs) k = f (.dK xs) := rfl
theorem on_dT {xs : List (List Key × D)} : onK (.dT xs) k = f (.dT xs) := rfl
end
theorem on_true {f : Bool → Prop} {k : Kt f} : onK true k = f true := rfl
theorem on_false {f : Bool → Prop} {k : Kt f} : onK false k = f false := rfl
theorem on_msh {d : D} {f : Md × D → Prop} {k : Kt f} : onK (Md.sh, d) k = f (.sh, d) := rfl
theorem on_mow {b : Bool} {d : D} {f : Md × D → Prop} {k : Kt f} : onK (Md.ow b, d) k = f (.ow b, d) := rfl
theorem on_mbo {d : D} {f : Md × D → Prop} {k : Kt f} : onK (Md.bo, d) k = f (.bo, d) := rfl
theorem on_ssh {d : D} {f : Option Sl → Prop} {k : Kt f} : onK (some (.sh d)) k = f (some (.sh d)) := rfl
theorem on_sow {b : Bool} {d : D} {f : Option Sl → Prop} {k : Kt f} : onK (some (.ow b d)) k = f (some (.ow b d)) := rfl
theorem on_smd {p : Md × D} {f : Option (Md × D) → Prop} {k : Kt f} : onK (some p) k = f (some p) := rfl
theorem on_sb {p : Bool} {f : Option Bool → Prop} {k : Kt f} : onK (some p) k = f (some p) := rfl
theorem on_vsh {d : D} {f : Option (Option Sl) → Prop} {k : Kt f} : onK (some (some (.sh d))) k = f (some (some (.sh d))) := rfl
theorem on_vow {b : Bool} {d : D} {f : Option (Option Sl) → Prop} {k : Kt f} : onK (some (some (.ow b d))) k = f (some (some (.ow b d))) := rfl
section
variable {E : WEnds} {ρ : Env} {Q : Md → D → Prop} {B : Bool → Prop} {t u : WS} {te ta tb tc to' : WE} {tt tu : WT} {tar : WA} {i j n : Nat} {m m' : Md} {d d' : D} {sp : SpD} {p : WP} {R : List (Md × D) → Prop}
theorem wNext_ : wNext E ρ = E.nx ρ := rfl
theorem wSeq_ : wSeq t u E ρ = t { E with nx := u E } ρ := rfl
theorem wRet_ : wRet te E ρ = te ρ E.rt := rfl
theorem wDrop_ : wDrop te E ρ = te ρ fun _ _ => E.nx ρ := rfl
def put (sl : Option Sl) (k : Sl → Prop) : Prop := match sl with
  | some s => k s
  | none => False
theorem put_sh {k : Sl → Prop} : put (some (.sh d)) k = k (.sh d) := rfl
theorem put_ow {b : Bool} {k : Sl → Prop} : put (some (.ow b d)) k = k (.ow b d) := rfl
theorem wSet_ : wSet i te E ρ = te ρ fun m d => onK (asg m d) (f := fun o => put o fun sl => E.nx (ρ.set i (some sl))) ⟨⟩ := rfl
theorem wIfS_ : wIfS tt t u E ρ = tt ρ fun b => onK b (f := fun b => if b = true then t E ρ else u E ρ) ⟨⟩ := rfl
theorem wNever_ : wNever E ρ = False := rfl
theorem wRetV_ : wRetV i E ρ = onK ρ[i]? (f := fun o => match o with
  | some (some (.sh d)) => E.rt .sh d
  | some (some (.ow fl d)) => E.rt (.ow fl) d
  | _ => False) ⟨⟩ := rfl
theorem wRetT_ {pl : Plan} : wRetT pl E ρ = wPlan pl ρ fun ps => ps.length ≤ sizeLine ∧ E.rt (tupMd ps) (.tup (ps.map (·.2))) := rfl
theorem wPlan_nil : wPlan [] ρ R = R [] := rfl
theorem wPlan_e {r : Plan} : wPlan (.inl te :: r) ρ R = te ρ fun m x => wPlan r ρ fun ps => R ((m, x) :: ps) := rfl
def mov (o : Option (Md × D)) (k : Md × D → Prop) : Prop := match o with
  | some p => k p
  | none => False
theorem mov_some {p : Md × D} {k : Md × D → Prop} : mov (some p) k = k p := rfl
theorem wPlan_v {r : Plan} : wPlan (.inr i :: r) ρ R = onK (movS ρ[i]?) (f := fun o => mov o fun p => wPlan r ρ fun ps => R (p :: ps)) ⟨⟩ := rfl
theorem wFrz_ : wFrz i t E ρ = t E (frzE i ρ) := rfl
-- tests
def bol (d : D) (B : Bool → Prop) : Prop := match d with
  | .bl b => B b
  | _ => False
theorem bol_bl {b : Bool} : bol (.bl b) B = B b := rfl
theorem wB_ : wB te ρ B = te ρ fun _ x => onK x (f := fun x => bol x B) ⟨⟩ := rfl
theorem wNot_ : wNot tt ρ B = tt ρ fun c => B (!c) := rfl
theorem wOr_ : wOr tt tu ρ B = tt ρ fun c => onK c (f := fun c => if c = true then B true else tu ρ B) ⟨⟩ := rfl
theorem wYes_ : wYes ρ B = B true := rfl
-- expressions
theorem wVar_ : wVar i ρ Q = onK ρ[i]? (f := fun o => useS o Q) ⟨⟩ := rfl
theorem useS_sh : useS (some (some (.sh d))) Q = Q .sh d := rfl
theorem useS_ow {b : Bool} : useS (some (some (.ow b d))) Q = Q .bo d := rfl
theorem wC_ : wC d ρ Q = Q .sh d := rfl
theorem wOp_ {f : W2} : wOp f ta tb ρ Q = ta ρ fun m x => tb ρ fun n y => f m x n y Q := rfl
theorem wUn_ {f : W1} : wUn f ta ρ Q = ta ρ fun m x => f m x Q := rfl
theorem wChain_ {f g : W2} : wChain f g ta tb tc ρ Q = ta ρ fun m x => tb ρ fun n y => f m x n y fun _ z => onK z (f := fun z => bol z fun k => onK k (f := fun k => if k = true then tc ρ fun l w => g n y l w Q else Q .sh (.bl false)) ⟨⟩) ⟨⟩ := by
  unfold wChain onK bol
  rfl
theorem wAndV_ : wAndV ta tb ρ Q = ta ρ fun _ x => onK x (f := fun x => bol x fun c => onK c (f := fun c => if c = true then tb ρ Q else Q .sh (.bl false)) ⟨⟩) ⟨⟩ := by unfold wAndV onK bol; rfl
theorem wOrV_ : wOrV ta tb ρ Q = ta ρ fun _ x => onK x (f := fun x => bol x fun c => onK c (f := fun c => if c = true then Q .sh (.bl true) else tb ρ Q) ⟨⟩) ⟨⟩ := by unfold wOrV onK bol; rfl
theorem wNotV_ : wNotV ta ρ Q = ta ρ fun _ x => onK x (f := fun x => bol x fun c => Q .sh (.bl (!c))) ⟨⟩ := by unfold wNotV onK bol; rfl
theorem wIf_ : wIf tt ta tb ρ Q = tt ρ fun c => onK c (f := fun c => if c = true then ta ρ Q else tb ρ Q) ⟨⟩ := rfl
theorem wCons_ : wCons te tar ρ R = te ρ fun m x => tar ρ fun ps => R ((m, x) :: ps) := rfl
theorem wNil_ : wNil ρ R = R [] := rfl
theorem wTup_ : wTup tar ρ Q = tar ρ fun ps => ps.length ≤ sizeLine ∧ Q (tupMd ps) (.tup (ps.map (·.2))) := rfl
theorem wLst_ : wLst tar ρ Q = tar ρ fun ps => ps.length ≤ sizeLine ∧ Q (lstMd ps) (.list (ps.map (·.2))) := rfl
theorem wCall_ : wCall sp tar ρ Q = tar ρ fun ps => sp (ps.map (·.2)) fun m d => onK (m, d) (f := fun p => Q (retM p.1 p.2) p.2) ⟨⟩ := rfl
-- operators
section
variable {x y : Str} {a b : Int} {xs ys : List D} {kvs : List (Key × D)} {kts : List (List Key × D)}
theorem fAdd_ii : fAdd m (.int a) m' (.int b) Q = Q .sh (.int (a + b)) := rfl
theorem fAdd_ss : fAdd m (.str x) m' (.str y) Q = (x.length + y.length ≤ sizeLine ∧ Q .sh (.str (x ++ y))) := rfl
theorem fAdd_ll : fAdd m (.list xs) m' (.list ys) Q = (xs.length + ys.length ≤ sizeLine ∧ ((flats xs = true ∧ flats ys = true ∧ Q (.ow true) (.list (xs ++ ys))) ∨ (m = .sh ∧ m' = .sh ∧ Q (.ow false) (.list (xs ++ ys))))) := rfl
theorem fAdd_tt : fAdd m (.tup xs) m' (.tup ys) Q = (xs ≠ [] ∧ xs.length + ys.length ≤ sizeLine ∧ flats xs = true ∧ flats ys = true ∧ Q .sh (.tup (xs ++ ys))) := rfl
theorem fSub_ii : fSub m (.int a) m' (.int b) Q = Q .sh (.int (a - b)) := rfl
theorem fMul_ii : fMul m (.int a) m' (.int b) Q = (CMul a b ∧ Q .sh (.int (a * b))) := rfl
theorem fDiv_ii : fDiv m (.int a) m' (.int b) Q = ((0 < b ∧ b < 1073741824) ∧ Q .sh (.int (a / b))) := rfl
theorem fMod_ii : fMod m (.int a) m' (.int b) Q = (0 < b ∧ Q .sh (.int (a % b))) := rfl
theorem fLt_ii : fLt m (.int a) m' (.int b) Q = Q .sh (.bl (decide (a < b))) := rfl
theorem fLt_ss : fLt m (.str x) m' (.str y) Q = Q .sh (.bl (ltS x y)) := rfl
theorem fLe_ii : fLe m (.int a) m' (.int b) Q = Q .sh (.bl (decide (a ≤ b))) := rfl
theorem fLe_ss : fLe m (.str x) m' (.str y) Q = Q .sh (.bl (!ltS y x)) := rfl
theorem fGt_ii : fGt m (.int a) m' (.int b) Q = Q .sh (.bl (decide (b < a))) := rfl
theorem fEq_ii : fEq m (.int a) m' (.int b) Q = Q .sh (.bl (decide (a = b))) := rfl
theorem fEq_ss : fEq m (.str x) m' (.str y) Q = Q .sh (.bl (decide (x = y))) := rfl
theorem fEq_bb {k l : Bool} : fEq m (.bl k) m' (.bl l) Q = Q .sh (.bl (decide (k = l))) := rfl
theorem fEq_l : fEq m (.list xs) m' d Q = (okD 12 (.list xs) = true ∧ okD 12 d = true ∧ Q .sh (.bl (eqD (.list xs) d))) := by cases d <;> rfl
theorem fEq_t : fEq m (.tup xs) m' d Q = (okD 12 (.tup xs) = true ∧ okD 12 d = true ∧ Q .sh (.bl (eqD (.tup xs) d))) := by cases d <;> rfl
theorem fEq_n : fEq m .non m' d Q = (okD 12 .non = true ∧ okD 12 d = true ∧ Q .sh (.bl (eqD .non d))) := by cases d <;> rfl
theorem fNe_ii : fNe m (.int a) m' (.int b) Q = Q .sh (.bl (!decide (a = b))) := rfl
theorem fNe_ss : fNe m (.str x) m' (.str y) Q = Q .sh (.bl (!decide (x = y))) := rfl
theorem fNe_l : fNe m (.list xs) m' d Q = (okD 12 (.list xs) = true ∧ okD 12 d = true ∧ Q .sh (.bl (!eqD (.list xs) d))) := by cases d <;> rfl
theorem fNe_t : fNe m (.tup xs) m' d Q = (okD 12 (.tup xs) = true ∧ okD 12 d = true ∧ Q .sh (.bl (!eqD (.tup xs) d))) := by cases d <;> rfl
theorem fNe_n : fNe m .non m' d Q = (okD 12 .non = true ∧ okD 12 d = true ∧ Q .sh (.bl (!eqD .non d))) := by cases d <;> rfl
theorem fIn_s {neg : Bool} : fIn neg m (.str x) m' (.str y) Q = Q .sh (.bl (if neg then !inS x y else inS x y)) := rfl
theorem fIn_l {neg : Bool} : fIn neg m d m' (.list ys) Q = (scalD d = true ∧ ys.all scalD = true ∧ Q .sh (.bl (if neg then !inD d ys else inD d ys))) := rfl
theorem fIn_t {neg : Bool} : fIn neg m d m' (.tup ys) Q = (scalD d = true ∧ ys.all scalD = true ∧ Q .sh (.bl (if neg then !inD d ys else inD d ys))) := rfl
theorem fIn_K {neg : Bool} : fIn neg m d m' (.dK kvs) Q = ∃ k, d.key1 = some k ∧ Q .sh (.bl (if neg then !(getG kvs k).isSome else (getG kvs k).isSome)) := rfl
theorem fIn_T {neg : Bool} : fIn neg m (.tup xs) m' (.dT kts) Q = ∃ ks, keys1 xs = some ks ∧ Q .sh (.bl (if neg then !(getG kts ks).isSome else (getG kts ks).isSome)) := rfl
theorem fNeg_ : fNeg m (.int a) Q = Q .sh (.int (-a)) := rfl
theorem fIx_l : fIx m (.list xs) m' (.int a) Q = ∃ d, atI xs a = some d ∧ onK d (f := fun d => Q (itm m d) d) ⟨⟩ := rfl
theorem fIx_t : fIx m (.tup xs) m' (.int a) Q = ∃ d, atI xs a = some d ∧ onK d (f := fun d => Q (itm m d) d) ⟨⟩ := rfl
theorem fIx_s : fIx m (.str x) m' (.int a) Q = ∃ c, atI x.cps.toList a = some c ∧ Q .sh (.str ⟨#[c]⟩) := rfl
theorem fIx_K : fIx m (.dK kvs) m' d Q = ∃ k d', d.key1 = some k ∧ getG kvs k = some d' ∧ onK d' (f := fun d' => Q (itm m d') d') ⟨⟩ := rfl
theorem fIx_T : fIx m (.dT kts) m' (.tup ys) Q = ∃ ks d', keys1 ys = some ks ∧ getG kts ks = some d' ∧ onK d' (f := fun d' => Q (itm m d') d') ⟨⟩ := rfl
theorem fLen_s : fLen m (.str x) Q = Q .sh (.int x.length) := rfl
theorem fLen_l : fLen m (.list xs) Q = Q .sh (.int xs.length) := rfl
theorem fLen_t : fLen m (.tup xs) Q = Q .sh (.int xs.length) := rfl
theorem fLen_K : fLen m (.dK kvs) Q = Q .sh (.int kvs.length) := rfl
theorem fLen_T : fLen m (.dT kts) Q = Q .sh (.int kts.length) := rfl
theorem fIsi_ {T : String} : fIsi T m d Q = Q .sh (.bl (isiT d.ty T)) := rfl
theorem fList_l : fList m (.list xs) Q = ((flats xs = true ∧ Q (.ow true) (.list xs)) ∨ (m = .sh ∧ Q (.ow false) (.list xs))) := rfl
theorem fList_t : fList m (.tup xs) Q = ((flats xs = true ∧ Q (.ow true) (.list xs)) ∨ (m = .sh ∧ Q (.ow false) (.list xs))) := rfl
theorem fList_T : fList m (.dT kts) Q = Q (.ow true) (.list (kts.map fun kv => .tup (kv.1.map keyD))) := rfl
theorem wSl_ {tl th : WO} : wSl te tl th ρ Q = te ρ fun m x => tl ρ fun lo => th ρ fun hi => fSl m x lo hi Q := rfl
theorem wNoPart_ {O : Option Int → Prop} : wNoPart ρ O = O none := rfl
def int' (d : D) (k : Int → Prop) : Prop := match d with
  | .int i => k i
  | _ => False
theorem int'_i {k : Int → Prop} : int' (.int a) k = k a := rfl
theorem wPart_ {O : Option Int → Prop} : wPart te ρ O = te ρ fun _ x => onK x (f := fun x => int' x fun i => O (some i)) ⟨⟩ := by unfold wPart onK int'; rfl
theorem fSl_s {lo hi : Option Int} : fSl m (.str x) lo hi Q = Q .sh (.str (cutS x lo hi)) := rfl
theorem fSl_l {lo hi : Option Int} : fSl m (.list xs) lo hi Q = ((flats xs = true ∧ Q (.ow true) (.list (cutG xs lo hi))) ∨ (m = .sh ∧ Q (.ow false) (.list (cutG xs lo hi)))) := rfl
theorem fSl_t {lo hi : Option Int} : fSl m (.tup xs) lo hi Q = (flats xs = true ∧ ¬ (HT.sIx xs.length 0 lo = 0 ∧ HT.sIx xs.length xs.length hi = xs.length) ∧ Q .sh (.tup (cutG xs lo hi))) := rfl
end
-- texts
def str' (d : D) (k : Str → Prop) : Prop := match d with
  | .str x => k x
  | _ => False
theorem str'_s {x : Str} {k : Str → Prop} : str' (.str x) k = k x := rfl
def list' (d : D) (k : List D → Prop) : Prop := match d with
  | .list x => k x
  | _ => False
theorem list'_l {x : List D} {k : List D → Prop} : list' (.list x) k = k x := rfl
theorem wJoinM_ : wJoinM to' te ρ Q = to' ρ fun _ x => onK x (f := fun x => str' x fun z => te ρ fun _ y => onK y (f := fun y => list' y fun ys => ∃ zs, strs1 ys = some zs ∧ (zs.map (·.length)).sum + zs.length * z.length ≤ 16777216 ∧ Q .sh (.str (Str.join z zs))) ⟨⟩) ⟨⟩ := by unfold wJoinM onK str' list'; rfl
-- places
theorem wpN_ {P : Bool → D → (Bool → D → Env) → Prop} : wpN i ρ P = onK ρ[i]? (f := fun o => match o with
  | some (some (.ow fl d)) => P fl d fun fl2 d2 => ρ.set i (some (.ow fl2 d2))
  | _ => False) ⟨⟩ := rfl
def fl' (o : Option Bool) (k : Bool → Prop) : Prop := match o with
  | some b => k b
  | none => False
theorem fl'_some {b : Bool} {k : Bool → Prop} : fl' (some b) k = k b := rfl
theorem wApp_ : wApp p te E ρ = p ρ fun fl d up => onK d (f := fun d => list' d fun xs => te ρ fun m x => xs.length < sizeLine ∧ onK (pushFl fl m x) (f := fun o => fl' o fun fl2 => E.nx (up fl2 (.list (xs ++ [x])))) ⟨⟩) ⟨⟩ := by unfold wApp onK list' fl'; rfl
def dct (d y : D) (k1 : List (Key × D) → Prop) (k2 : List (List Key × D) → List D → Prop) : Prop := match d with
  | .dK kvs => k1 kvs
  | .dT kvs => match y with
    | .tup ys => k2 kvs ys
    | _ => False
  | _ => False
theorem dct_K {y : D} {kvs : List (Key × D)} {k1 : List (Key × D) → Prop} {k2 : List (List Key × D) → List D → Prop} : dct (.dK kvs) y k1 k2 = k1 kvs := rfl
theorem dct_T {ys : List D} {kvs : List (List Key × D)} {k1 : List (Key × D) → Prop} {k2 : List (List Key × D) → List D → Prop} : dct (.dT kvs) (.tup ys) k1 k2 = k2 kvs ys := rfl
-- loops
variable {LQ : List D → Prop}
theorem wFor_ {wi : WI} {g : WG} {b : WS} : wFor wi g b E ρ = wi ρ fun ds => wForL g b E ds ρ := rfl
theorem wiList_ : wiList te ρ LQ = te ρ fun m d => notBo m ∧ onK d (f := fun d => list' d LQ) ⟨⟩ := by unfold wiList onK list'; rfl
def tup' (d : D) (k : List D → Prop) : Prop := match d with
  | .tup x => k x
  | _ => False
theorem tup'_l {x : List D} {k : List D → Prop} : tup' (.tup x) k = k x := rfl
theorem wiTup_ : wiTup te ρ LQ = te ρ fun m d => notBo m ∧ onK d (f := fun d => tup' d LQ) ⟨⟩ := by unfold wiTup onK tup'; rfl
theorem wiStr_ : wiStr te ρ LQ = te ρ fun _ d => onK d (f := fun d => str' d fun z => LQ (sgnD z)) ⟨⟩ := by unfold wiStr onK str'; rfl
theorem wiRng1_ : wiRng1 te ρ LQ = te ρ fun _ d => onK d (f := fun d => int' d fun j => j ≤ 16777216 ∧ -(2 ^ 62) ≤ j ∧ LQ (intsD 0 j.toNat)) ⟨⟩ := by unfold wiRng1 onK int'; rfl
theorem wiRng2_ : wiRng2 ta tb ρ LQ = ta ρ fun _ x => tb ρ fun _ y => onK x (f := fun x => int' x fun i => onK y (f := fun y => int' y fun j => j - i ≤ 16777216 ∧ (-(2 ^ 62) ≤ i ∧ i < 2 ^ 62 ∧ -(2 ^ 62) ≤ j ∧ j < 2 ^ 62) ∧ LQ (intsD i (j - i).toNat)) ⟨⟩) ⟨⟩ := by
  unfold wiRng2 onK int'
  congr 1
  funext _ x
  congr 1
  funext _ y
  cases x <;> cases y <;> rfl
theorem notBo_sh : notBo .sh = True := rfl
theorem notBo_ow {b : Bool} : notBo (.ow b) = True := rfl
theorem notBo_bo : notBo .bo = False := rfl
theorem gN_ {N : Env → Prop} : gN i d ρ N = N (ρ.set i (some (.sh d))) := rfl
theorem gT_ {gs : WGs} {N : Env → Prop} : gT n gs d ρ N = onK d (f := fun d => tup' d fun ds => ds.length = n ∧ gs ds ρ N) ⟨⟩ := by unfold gT onK tup'; rfl
theorem gCons_ {g : WG} {gs : WGs} {ds : List D} {N : Env → Prop} : gCons' g gs (d :: ds) ρ N = g d ρ fun ρ' => gs ds ρ' N := rfl
theorem gNil_ {N : Env → Prop} : gNil' [] ρ N = N ρ := by simp [gNil']
theorem wComp_ {wi : WI} {g : WG} {tn : Nat} {ix : List Nat} : wComp wi g tt te tn ix ρ Q = wi ρ fun ds => wCompL g tt te ds (compρ tn ix ρ) fun out => Q (.ow true) (.list out) := rfl
end
theorem B {c : Bool} {f : Bool → Prop} {k : Kt f} (h1 : c = true → f true) (h2 : c = false → f false) : onK c k := by
  cases c with
  | true => exact h1 rfl
  | false => exact h2 rfl
theorem D {p : Prop} [Decidable p] {f : Bool → Prop} {k : Kt f} (h1 : p → f true) (h2 : ¬ p → f false) : onK (decide p) k :=
  B (fun h => h1 (of_decide_eq_true h)) fun h => h2 (of_decide_eq_false h)
theorem T {c : Bool} {f : Bool → Prop} {k : Kt f} (h : c = true) (h1 : f true) : onK c k := by subst h; exact h1
theorem F {c : Bool} {f : Bool → Prop} {k : Kt f} (h : c = false) (h1 : f false) : onK c k := by subst h; exact h1
end L2.Q.R

set_option Elab.async false
set_option linter.all false
set_option maxRecDepth 100000
set_option maxHeartbeats 4000000

namespace L2
open PySem PySem.Spec PyProof.Rows
section
variable {X : Cx}
end
end L2

namespace L2.Q
open PySem PySem.Spec PyProof.Rows
section
variable {X : Cx} {K : PySem.W.Frag} {e e2 tg : Expr} {te te2 : WE} {pos p p2 pos2 cpos apos : Pos}
def fSort1 : W1 := fun _ x Q => match x with
  | .list xs => ∃ ks b, xs = ks.map keyD ∧ (∀ k ∈ ks, isI k = b) ∧ ∀ ms : List Key, ms.Perm ks → (ms.Pairwise fun a b => lt1 b a = false) → Q (.ow true) (.list (ms.map keyD))
  | .dK kvs => ∃ b, (∀ p ∈ kvs, isI p.1 = b) ∧ ∀ ms : List Key, ms.Perm (kvs.map (·.1)) → (ms.Pairwise fun a b => lt1 b a = false) → Q (.ow true) (.list (ms.map keyD))
  | _ => False
section
variable {Hs H : Hp} {fl : Bool}
end
end
section
variable {K : PySem.W.Frag} {Hs H : Hp} {fl : Bool} {d : D} {a : Addr}
end
abbrev WIL := Env → (List D → Prop) → Prop
def wlList (i : Nat) : WIL := fun ρ Q => match ρ[i]? with
  | some (some (.ow _ (.list xs))) => flats xs = true ∧ Q xs
  | _ => False
def wlEnum (i : Nat) : WIL := fun ρ Q => match ρ[i]? with
  | some (some (.ow _ (.list xs))) => flats xs = true ∧ Q (enumD xs)
  | _ => False
section
variable {X : Cx} {K : PySem.W.Frag} {e tg : Expr} {i : Nat} {pos p : Pos} {wi : WIL} {g : WG} {b : WS} {body : List Stmt}
end
section
variable {X : Cx} {K : PySem.W.Frag}
end
end L2.Q

set_option Elab.async false
set_option linter.all false
set_option maxRecDepth 100000
set_option maxHeartbeats 4000000

namespace L2.Q.R
open PySem PySem.Spec PyProof.Rows L2.Q
section
variable {E : WEnds} {ρ : Env} {Q : Md → L2.Q.D → Prop} {te te2 tk : WE} {i : Nat} {d : L2.Q.D} {p : WP} {a : Addr} {b : Bool} {LQ : List L2.Q.D → Prop}
theorem on_slk {f : Option Sl → Prop} {k : Kt f} : onK (some (.lk a b d)) k = f (some (.lk a b d)) := rfl
theorem on_vlk {f : Option (Option Sl) → Prop} {k : Kt f} : onK (some (some (.lk a b d))) k = f (some (some (.lk a b d))) := rfl
theorem useS_lk : useS (some (some (.lk a b d))) Q = Q .bo d := rfl
def own' (o : Option (Option Sl)) (k : Bool → L2.Q.D → Prop) : Prop := match o with
  | some (some (.ow fl d)) => k fl d
  | _ => False
theorem own'_ow {k : Bool → L2.Q.D → Prop} : own' (some (some (.ow b d))) k = k b d := rfl
theorem wlList_ : wlList i ρ LQ = onK ρ[i]? (f := fun o => own' o fun _ d => onK d (f := fun d => list' d fun xs => flats xs = true ∧ LQ xs) ⟨⟩) ⟨⟩ := by
  unfold wlList onK own' list'
  generalize ρ[i]? = o
  rcases o with _ | _ | d | ⟨fl, d⟩ | ⟨a, fl, d⟩ <;> try rfl
  cases d <;> rfl
theorem wlEnum_ : wlEnum i ρ LQ = onK ρ[i]? (f := fun o => own' o fun _ d => onK d (f := fun d => list' d fun xs => flats xs = true ∧ LQ (enumD xs)) ⟨⟩) ⟨⟩ := by
  unfold wlEnum onK own' list'
  generalize ρ[i]? = o
  rcases o with _ | _ | d | ⟨fl, d⟩ | ⟨a, fl, d⟩ <;> try rfl
  cases d <;> rfl
theorem wiEnum_ : wiEnum te ρ LQ = te ρ fun m d => notBo m ∧ onK d (f := fun d => list' d fun xs => LQ (enumD xs)) ⟨⟩ := by unfold wiEnum onK list'; rfl
theorem wbEnum_ : wbEnum te ρ LQ = te ρ fun _ d => onK d (f := fun d => list' d fun xs => LQ (enumD xs)) ⟨⟩ := by unfold wbEnum onK list'; rfl
theorem wbList_ : wbList te ρ LQ = te ρ fun _ d => onK d (f := fun d => list' d LQ) ⟨⟩ := by unfold wbList onK list'; rfl
theorem wbTup_ : wbTup te ρ LQ = te ρ fun _ d => onK d (f := fun d => tup' d LQ) ⟨⟩ := by unfold wbTup onK tup'; rfl
theorem wiZip_ : wiZip te te2 ρ LQ = te ρ fun m x => notBo m ∧ te2 ρ fun m2 y => notBo m2 ∧ onK x (f := fun x => list' x fun xs => onK y (f := fun y => list' y fun ys => LQ (zipD xs ys)) ⟨⟩) ⟨⟩ := by
  unfold wiZip onK list'
  congr 1
  funext _ x
  congr 2
  funext _ y
  cases x <;> cases y <;> rfl
theorem wbZip_ : wbZip te te2 ρ LQ = te ρ fun _ x => te2 ρ fun _ y => onK x (f := fun x => list' x fun xs => onK y (f := fun y => list' y fun ys => LQ (zipD xs ys)) ⟨⟩) ⟨⟩ := by
  unfold wbZip onK list'
  congr 1
  funext _ x
  congr 1
  funext _ y
  cases x <;> cases y <;> rfl
def wpAt (d : L2.Q.D) (i : Int) (P : Bool → L2.Q.D → (Bool → L2.Q.D → Env) → Prop) (up : Bool → L2.Q.D → Env) : Prop := match d with
  | .list ds => ∃ j d', ixN ds.length i = some j ∧ ds[j]? = some d' ∧ d'.flat = false ∧ onK d' (f := fun d' => P true d' fun fl2 d2 => up fl2 (.list (ds.set j d2))) ⟨⟩
  | .tup ds => ∃ j d', ixN ds.length i = some j ∧ ds[j]? = some d' ∧ d'.flat = false ∧ onK d' (f := fun d' => P true d' fun fl2 d2 => up fl2 (.tup (ds.set j d2))) ⟨⟩
  | _ => False
section
variable {P : Bool → L2.Q.D → (Bool → L2.Q.D → Env) → Prop} {up : Bool → L2.Q.D → Env} {ds : List L2.Q.D} {j : Int}
theorem wpAt_l : wpAt (.list ds) j P up = ∃ k d', ixN ds.length j = some k ∧ ds[k]? = some d' ∧ d'.flat = false ∧ onK d' (f := fun d' => P true d' fun fl2 d2 => up fl2 (.list (ds.set k d2))) ⟨⟩ := rfl
theorem wpAt_t : wpAt (.tup ds) j P up = ∃ k d', ixN ds.length j = some k ∧ ds[k]? = some d' ∧ d'.flat = false ∧ onK d' (f := fun d' => P true d' fun fl2 d2 => up fl2 (.tup (ds.set k d2))) ⟨⟩ := rfl
theorem wpIx_ : wpIx p te ρ P = p ρ fun fl d up => te ρ fun _ y => fl = true ∧ onK y (f := fun y => int' y fun i => onK d (f := fun d => wpAt d i P up) ⟨⟩) ⟨⟩ := by
  unfold wpIx onK int' wpAt
  rfl
end
end
end L2.Q.R

set_option Elab.async false
set_option linter.all false
set_option maxRecDepth 100000
set_option maxHeartbeats 4000000

namespace L2
open PySem PySem.Spec PyProof.Rows Builtin Builtin.Str Builtin.Int

section
variable {prog : Program} {w : World} {A : Around} {E : Value → Shared → Prop} {s : Shared} {x : Str} {n : Int} {t u : Tok}
theorem mul_int_str {Q : Value → Shared → Prop} (hok : MulOk x n) (h : ∀ t' k, Q (.str (Txt.mul x n) t') { s with toks := k }) : wpAny (model prog w) A (binaryOp .Mult (.int n u) (.str x t)) Q E s := by
  refine lm_binaryOp_repeat_right (T := "str") (U := "int") (by decide) (fun s' => typeIs_int s' n u) (typeIs_str s x t) F.fills_int_mul noFill_str_mul F.slot_int_mul lm_noRepeat_int repeat_str F.slot_int_index.lookup
    (call_gives F.slot_int_mul (typeIs_int s n u) F.entry_int_mul (F.args_int_mul_2 _ _) (AutoIntG3.int___mul___int_str_0 n u x t)
      ⟨rfl, typeIs_str _ x t, call_gives F.slot_str_mul (typeIs_str _ x t) F.entry_str_mul (F.args_str_mul_2 _ _) (gives_str_mul x n t u hok.1 hok.2.1 hok.2.2) ?_⟩)
  unfold Txt.mul at h
  by_cases h1 : n < 1
  · rw [if_pos h1]; have h' := h s.toks (s.toks + 1); rw [if_pos h1] at h'; exact ⟨by decide, h'⟩
  · rw [if_neg h1]; refine post_val_or_made (fun hc => fits_reps (hok.2.2 h1 (by simpa using hc))) fun t' k => ?_
    have h' := h t' k; rw [if_neg h1] at h'; exact h'
end
def repS (n : Int) (z : Str) : Str := ⟨(List.replicate n.toNat z.cps.toList).flatten.toArray⟩
theorem foldl_repA (xs : Array Nat) : ∀ (k : Nat) (acc : Array Nat), (List.replicate k xs).foldl (· ++ ·) acc = acc ++ (List.replicate k xs.toList).flatten.toArray
  | 0, acc => by simp
  | k + 1, acc => by
    rw [List.replicate_succ, List.foldl_cons, foldl_repA xs k, List.replicate_succ, List.flatten_cons]
    apply Array.ext'
    simp
theorem mul_rep {n : Int} {z : Str} (h : 1 ≤ n) : Txt.mul z n = repS n z := by
  unfold Txt.mul repS
  rw [if_neg (by omega)]
  by_cases h1 : n = 1
  · subst h1
    simp
  · by_cases h0 : z.length = 0
    · have hz : z.cps = #[] := Array.eq_empty_of_size_eq_zero h0
      rw [if_pos (by simp [h0])]
      obtain ⟨c⟩ := z
      cases hz
      simp
    · rw [if_neg (by simp [h1, h0]), foldl_repA]
      simp
def rMulS : R2 := fun x y H Q => match x, y with
  | .int n, .str z => (1 ≤ n ∧ n ≤ 100 ∧ z.length ≤ 100) ∧ Q (.str (repS n z)) H
  | _, _ => False
section
variable {X : Cx}
theorem op_mulS : OpR X (binaryOp .Mult) rMulS := by
  intro pins s σ H x y v u Q I rx ry h
  unfold rMulS at h
  split at h
  · rename_i n z
    obtain ⟨⟨h1, h2, h3⟩, q⟩ := h
    obtain ⟨t, rfl⟩ := rx
    obtain ⟨t', rfl⟩ := ry
    refine mul_int_str ⟨?_, fun _ _ => ?_, fun _ _ => ?_⟩ fun t' k => ⟨.str (repS n z), H, I.tok _, ⟨_, by rw [mul_rep h1]⟩, q⟩
    · have a1 : ¬ n < -(2 ^ 63 : Int) := by omega
      have a2 : ¬ n ≥ 2 ^ 63 := by omega
      rw [decide_eq_false a1, decide_eq_false a2]; rfl
    · have : (2 ^ 63 - 1 : Int) / 100 ≤ (2 ^ 63 - 1) / n := by
        apply Int.le_ediv_of_mul_le (by omega)
        have : (2 ^ 63 - 1 : Int) / 100 * n ≤ (2 ^ 63 - 1 : Int) / 100 * 100 := Int.mul_le_mul_of_nonneg_left h2 (by decide)
        omega
      have e : (2 ^ 63 - 1 : Int) / 100 = 92233720368547758 := by decide
      omega
    · have : z.length * n.toNat ≤ 100 * 100 := Nat.mul_le_mul h3 (by omega)
      have hs := sizeLine_eq
      simp only [tooLong, decide_eq_false_iff_not]
      generalize z.length * n.toNat = m at this ⊢
      omega
  · exact h.elim

def mxP (ns : List Int) : Nat → Int
  | 0 => 0
  | 1 => ns.getD 0 0
  | j + 2 => if ns.getD (j + 1) 0 > mxP ns (j + 1) then ns.getD (j + 1) 0 else mxP ns (j + 1)
end
section
variable {prog : Program} {w : World} {A : Around} {R : Result → Shared → Prop} {E : Value → Shared → Prop} {I : Addr} {fp wr : List Addr} {P : Nat → Value → Prop} {St : Nat → Heap → Prop}
theorem maxD_loop {ns : List Int} (W : Walks prog w A.in1 I fp wr ns.length P St) (hval : ∀ i v, P i v → ∃ t, v = .int (ns.getD i 0) t) (S : Addr) (hSf : S ∉ fp) (d : Value) :
    ∀ (k j : Nat) (s : Shared) (c : Nat) (items : Array Value), ns.length - j = k → j ≤ ns.length → St j s.heap → ((j = 0 ∧ items = #[]) ∨ (0 < j ∧ ∃ t, items = #[.int (mxP ns j) t, .int (mxP ns j) t])) →
    s.heap.get? S = some { cls := .type "list", dict := none, data := .seq items c, slots := #[] } →
    (∀ v h' tk, (ns = [] ∧ v = d ∨ ns ≠ [] ∧ ∃ t, v = .int (mxP ns ns.length) t) → (∀ b o, b ∉ wr → b ≠ S → s.heap.get? b = some o → h'.get? b = some o) → R (.ok (.ret v)) { s with heap := h', toks := tk }) →
    codeAny (model prog w) A (.builtin "max.loop" ⟨[.ref I, .none, .ref S], [("default", d)]⟩) R s := by
  have hSw : S ∉ wr := fun h => hSf (W.sub _ h)
  have hname : (toString "max" ++ toString ".loop" : String) = "max.loop" := by decide
  intro k
  induction k with
  | zero =>
    intro j s c items hk hj hst hit hS hR
    have hin : j = ns.length := by omega
    refine codeAny_builtin F.entry_max_loop ?_
    rw [Around.under_plainId F.plain_max_loop _]
    show wpAny _ A.in1 (seqItems? (.ref S) >>= _) _ _ s
    refine wpAny_bind (wpAny_seqItems hS rfl ?_)
    show wpAny _ A.in1 (tryCatch (pyNext (.ref I)) _ >>= _) _ _ s
    refine wpAny_bind (wpAny_tryCatch (W.done s _ _ (hin ▸ hst) fun h' tk hk' => ?_))
    have hS' := hk' S _ hSw hS
    rcases hit with ⟨h0, rfl⟩ | ⟨h0, t, rfl⟩
    · refine wpAny_bind (wpAny_rule (wpAny_pure ?_))
      exact hR d _ tk (.inl ⟨List.length_eq_zero_iff.mp (by omega), rfl⟩) fun b o hbw hbS e => hk' b o hbw e
    · show wpAny _ A.in1 (updateSeq S (fun _ => #[]) >>= _) _ _ _
      refine wpAny_bind ?_
      refine wpAny_updateSeq hS' rfl (wpAny_bind (wpAny_letGo (wpAny_pure ?_)))
      refine hR _ _ tk (.inr ⟨fun z => by rw [z] at hin; simp at hin; omega, t, by rw [hin]⟩) fun b o hbw hbS e => (Heap.get?_update_other _ _ (Ne.symm hbS)).trans (hk' b o hbw e)
  | succ k ih =>
    intro j s c items hk hj hst hit hS hR
    have hlt : j < ns.length := by omega
    refine codeAny_builtin F.entry_max_loop ?_
    rw [Around.under_plainId F.plain_max_loop _]
    show wpAny _ A.in1 (seqItems? (.ref S) >>= _) _ _ s
    refine wpAny_bind (wpAny_seqItems hS rfl ?_)
    show wpAny _ A.in1 (tryCatch (pyNext (.ref I)) _ >>= _) _ _ s
    refine wpAny_bind (wpAny_tryCatch (W.item j s _ _ hlt hst fun v h' tk hP hst' hk' => ?_))
    have hS' := hk' S _ hSw hS
    obtain ⟨t1, rfl⟩ := hval j v hP
    rcases hit with ⟨h0, rfl⟩ | ⟨h0, t, rfl⟩
    · subst h0
      show wpAny _ A.in1 (updateSeq S (fun _ => #[_, _]) >>= _) _ _ _
      refine wpAny_bind ?_
      refine wpAny_updateSeq hS' rfl ?_
      rw [hname]
      refine wpAny_pure ⟨plainId_quiet F.plain_max_loop _, ih 1 _ _ _ (by omega) hlt (W.frame _ _ _ hst' fun b hbf o e => ?_) (.inr ⟨by omega, t1, rfl⟩) (Heap.get?_update_self _ hS' rfl) fun v' h'' tk'' hP' hk'' => ?_⟩
      · exact (Heap.get?_update_other _ _ (fun h : S = b => hSf (by rw [h]; exact hbf))).trans e
      · exact hR v' h'' tk'' hP' fun b o hbw hbS e => hk'' b o hbw hbS ((Heap.get?_update_other _ _ (Ne.symm hbS)).trans (hk' b o hbw e))
    · obtain ⟨j, rfl⟩ : ∃ i, j = i + 1 := ⟨j - 1, by omega⟩
      show wpAny _ A.in1 (tryCatch (holding [_, _] (richCompare .Gt _ _ >>= _)) _ >>= _) _ _ _
      refine wpAny_bind (wpAny_tryCatch (wpAny_holding (wpAny_bind (CmpOf.ints_gt (P := fun i v => (i = 0 ∧ v = .int (ns.getD (j + 1) 0) t1) ∨ (i = 1 ∧ v = .int (mxP ns (j + 1)) t)) (fun i => if i = 0 then ns.getD (j + 1) 0 else mxP ns (j + 1)) (fun i v h => ?_) 0 1 _ _ _ _ _ (.inl ⟨rfl, rfl⟩) (.inr ⟨rfl, rfl⟩) ?_))))
      · rcases h with ⟨rfl, rfl⟩ | ⟨rfl, rfl⟩ <;> exact ⟨_, rfl⟩
      refine wpAny_bind (wpAny_holding (wpAny_truthy_bool ?_))
      refine wpAny_bind (wpAny_letGo (wpAny_pure ?_))
      simp only [if_true, show ¬ (1 : Nat) = 0 by decide, if_false]
      have e2 : mxP ns (j + 1 + 1) = if ns.getD (j + 1) 0 > mxP ns (j + 1) then ns.getD (j + 1) 0 else mxP ns (j + 1) := rfl
      by_cases hb : ns.getD (j + 1) 0 > mxP ns (j + 1)
      · rw [if_pos hb] at e2
        simp only [hb, decide_true, if_true]
        refine wpAny_bind ?_
        refine wpAny_updateSeq hS' rfl (wpAny_bind (wpAny_letGo ?_))
        rw [hname]
        refine wpAny_pure ⟨plainId_quiet F.plain_max_loop _, ih (j + 2) _ _ _ (by omega) hlt (W.frame _ _ _ hst' fun b hbf o e => ?_) (.inr ⟨by omega, t1, by rw [e2]⟩) (Heap.get?_update_self _ hS' rfl) fun v' h'' tk'' hP' hk'' => ?_⟩
        · exact (Heap.get?_update_other _ _ (fun h : S = b => hSf (by rw [h]; exact hbf))).trans e
        · exact hR v' h'' tk'' hP' fun b o hbw hbS e => hk'' b o hbw hbS ((Heap.get?_update_other _ _ (Ne.symm hbS)).trans (hk' b o hbw e))
      · rw [if_neg hb] at e2
        simp only [hb, decide_false, Bool.false_eq_true, if_false]
        refine wpAny_bind (wpAny_letGo ?_)
        rw [hname]
        refine wpAny_pure ⟨plainId_quiet F.plain_max_loop _, ih (j + 2) _ c _ (by omega) hlt hst' (.inr ⟨by omega, t, by rw [e2]⟩) hS' fun v' h'' tk'' hP' hk'' => ?_⟩
        exact hR v' h'' tk'' hP' fun b o hbw hbS e => hk'' b o hbw hbS (hk' b o hbw e)
end
end L2
namespace L2
open PySem PySem.Spec PyProof.Rows
section
variable {X : Cx} {K : PySem.W.Frag} {e e2 : Expr} {te td : TE} {p pos kpos : Pos}
theorem args_maxD (a v : Value) : argsOk "max" ⟨[a], [(Str.ofString "default", v)]⟩ := by unfold argsOk; kernel_rfl
def rMaxD (K : PySem.W.Frag) : R2 := fun x y H Q => match x, y with
  | .ref a, .int d => ∃ ns : List Int, SqL K H a (ns.map V.int) ∧ Q (.int (if ns = [] then d else mxP ns ns.length)) H
  | _, _ => False
theorem rMaxD_iff {x y : V} {H : Hp} {Q : VK} (h : rMaxD K x y H Q) : ∃ a d ns, x = .ref a ∧ y = .int d ∧ SqL K H a (ns.map V.int) ∧ Q (.int (if ns = [] then d else mxP ns ns.length)) H := by
  unfold rMaxD at h
  split at h
  · obtain ⟨ns, h1, h2⟩ := h
    exact ⟨_, _, ns, rfl, rfl, h1, h2⟩
  · exact h.elim
theorem pe_maxD (hc : X.calm = true) (hg : Gl X "max") (hm : X.mg "max" = none) (hv : bootBuiltins "max" = some (.builtin "max")) (he : PE X e te) (hd : PE X e2 td)
    (hs : starEach [e] X.env = (false, eval e X.env) :: starEach [] X.env := by rfl) :
    PE X (.Call (.Name "max" p) [e] [⟨some "default", e2, kpos⟩] pos) (tOp (rMaxD X.K) te td) := by
  intro pins s σ H Q I h
  refine wpAny_Call_Name_kw (ld_blt I hg hm hv ?_ (by decide) (by decide))
  refine PyProof.Rows.callWith_kw ?_ (by rw [hs]; rfl) (by rw [hs]; rfl) rfl rfl
  rw [hs]
  refine Calls.spliced_cons (thn (he pins s σ H _ I h) fun u s1 ⟨x, H1, I1, r1, q1⟩ => Calls.spliced_nil ?_)
  refine kws_cons (thn (hd pins s1 σ H1 _ I1 q1) fun v2 s2 ⟨y, H2, I2, r2, q2⟩ => kws_nil ?_)
  show wpAny _ _ (call (.builtin "max") [u] [(Str.ofString "default", v2)]) _ _ s2
  obtain ⟨a, d, ns, rfl, rfl, hsq, q⟩ := rMaxD_iff (show rMaxD X.K x y H2 Q from q2)
  · have _ := hc
    cases r1
    obtain ⟨td, rfl⟩ := r2
    obtain ⟨its, rv, pl, hz⟩ := I2.list hsq
    have hl : s2.heap.IsList a its.toArray := pl.isList
    obtain ⟨o, ho, hoc, n, hod⟩ := id hl
    have hlen := rv.length
    rw [List.length_map] at hlen
    have hne : a ≠ s2.heap.objs.size := Nat.ne_of_lt (Heap.lt_size ho)
    have hhd : X.A.in1.handled = none := I2.ok.hd hc
    have hname : (toString "max" ++ toString ".loop" : String) = "max.loop" := by decide
    refine kmb_tree F.kind_max F.plain_max F.entry_max (args_maxD _ _) ?_
    show wpAny _ X.A.in1 (Builtin.Builtins.bindParams "max" ["key", "default"] 0 ⟨[], [(Str.ofString "default", .int d td)]⟩ >>= _) _ _ s2
    refine wpAny_bind (wpAny_of_eq (show Builtin.Builtins.bindParams "max" ["key", "default"] 0 ⟨[], [(Str.ofString "default", .int d td)]⟩ = pure [none, some (.int d td)] from rfl) ?_)
    refine wpAny_bind (wpAny_pure ?_)
    refine wpAny_bind (wpAny_pyIter_list hl ?_)
    refine wpAny_bind (wpAny_newObj_type ?_)
    rw [hname]
    have hw : Walks X.prog X.w X.A.in1 s2.heap.objs.size [s2.heap.objs.size, a] [s2.heap.objs.size] ns.length (fun i v => its.toArray[i]? = some v) (fun i h => h.IsListIter s2.heap.objs.size a i ∧ h.IsList a its.toArray) := by
      have := Walks.list (prog := X.prog) (w := X.w) (A := X.A.in1) hhd s2.heap.objs.size a hne its.toArray
      rwa [show its.toArray.size = ns.length by rw [hlen]; exact List.size_toArray ..] at this
    have hS : (s2.heap.push { cls := .type "list_iterator", data := .fields #[.ref a, .int 0 0] }).objs.size = s2.heap.objs.size + 1 := size_push' ..
    have hal := Heap.lt_size ho
    refine wpAny_pure ⟨plainId_quiet F.plain_max_loop _, maxD_loop (ns := ns) hw (fun i v hv => ?_) (s2.heap.push { cls := .type "list_iterator", data := .fields #[.ref a, .int 0 0] }).objs.size (fun hm => by
        rcases List.mem_cons.mp hm with e | hm
        · rw [hS] at e; exact absurd e (Nat.succ_ne_self _)
        · have e := List.mem_singleton.mp hm
          rw [hS] at e
          exact absurd hal (by rw [← e]; exact Nat.not_lt.mpr (Nat.le_succ _))) (.int d td) _ 0 _ _ #[] rfl (Nat.zero_le _) ⟨⟨_, Heap.get?_push_of_some _ (Heap.get?_push_size _ rfl), rfl, rfl⟩, ⟨_, Heap.get?_push_of_some _ (Heap.get?_push_of_some _ ho), hoc, n, hod⟩⟩ (.inl ⟨rfl, rfl⟩)
      (Heap.get?_push_size _ rfl) fun v h' tk hP hk => ?_⟩
    · have hv' : its[i]? = some v := by simpa using hv
      have hi : i < ns.length := by
        have := (List.getElem?_eq_some_iff.mp hv').1
        omega
      obtain ⟨w', e1, r1⟩ := rv.get (i := i) (x := V.int ns[i]) (by simp [hi])
      rw [hv'] at e1
      cases e1
      obtain ⟨t, rfl⟩ := r1
      exact ⟨t, by simp [List.getD, hi]⟩
    · have I3 : Inv X pins σ H2 { s2 with heap := h', toks := tk } := I2.kept (t' := tk) fun b o e => by
        have hlt := Heap.lt_size e
        exact hk b o (fun hm => by rw [List.mem_singleton.mp hm] at hlt; exact Nat.lt_irrefl _ hlt) (by rw [hS]; exact Nat.ne_of_lt (Nat.lt_succ_of_lt hlt)) (Heap.get?_push_of_some _ (Heap.get?_push_of_some _ e))
      refine ⟨_, H2, I3, ?_, q⟩
      rcases hP with ⟨h0, rfl⟩ | ⟨h0, t, rfl⟩
      · rw [if_pos h0]; exact ⟨_, rfl⟩
      · rw [if_neg h0]; exact ⟨_, rfl⟩
end
end L2

namespace L2.Q
open PySem PySem.Spec PyProof.Rows
section
variable {X : Cx} {K : PySem.W.Frag} {e e2 a b : Expr} {te ta tb td : WE} {p pos kpos : Pos} {x : Str} {id : String}
def fAll : W1 := fun _ x Q => match x with
  | .list xs => ∃ bs : List Bool, xs = bs.map D.bl ∧ Q .sh (.bl (bs.all (fun b => b)))
  | _ => False
theorem bls_of {H : Hp} : ∀ {bs : List Bool} {vs : List V}, Reps K H (bs.map D.bl) vs → vs = bs.map V.bl
  | [], _, .nil => rfl
  | b :: bs, _, .cons r rs => by
    cases r
    rw [bls_of rs]; rfl
theorem br_all : BrC K (rAll K) fAll := by
  intro Hs H m x v As Qd Qv w rx h f
  have r1 := rx.rep w
  cases r1 with
  | list z s q =>
    obtain ⟨bs, rfl, h⟩ := h
    cases bls_of q
    exact ⟨bs, s, f.sh w (.bl _) h⟩
  | _ => exact h.elim
def fTuple : W1 := fun _ x Q => match x with
  | .list xs => flats xs = true ∧ Q .sh (.tup xs)
  | _ => False
theorem br_tuple : BrC K (fun xs H Q => ∃ p ys, xs = [.ref p] ∧ ((SqL K H p ys ∧ ∀ l, H l = none → Q (.ref l) (upd H l (.tup ys))) ∨ (SqT K H p ys ∧ Q (.ref p) H))) fTuple := by
  intro Hs H m x v As Qd Qv w rx h f
  have r1 := rx.rep w
  cases r1 with
  | list z s q =>
    have hl := q.length
    exact ⟨_, _, rfl, .inl ⟨s, f.tup w (by omega) q h.1 h.2⟩⟩
  | _ => exact h.elim
theorem kTuple (hK : X.K = K := by rfl) : CallR X (.type "tuple") (fun xs H Q => ∃ p ys, xs = [.ref p] ∧ ((SqL K H p ys ∧ ∀ l, H l = none → Q (.ref l) (upd H l (.tup ys))) ∨ (SqT K H p ys ∧ Q (.ref p) H))) := by subst hK; exact call_tuple_of
theorem repS_len (n : Int) (z : Str) : (repS n z).length = n.toNat * z.length := by
  unfold repS Str.length
  rw [List.size_toArray, len_rep, Array.length_toList]
def fMulS : W2 := fun _ x _ y Q => match x, y with
  | .int n, .str z => (1 ≤ n ∧ n ≤ 100 ∧ z.length ≤ 100) ∧ Q .sh (.str (repS n z))
  | _, _ => False
theorem br_mulS : Br2 K rMulS fMulS := by
  intro Hs H m x v As n y u Bs Qd Qv w rx ry h f
  have r1 := rx.rep w
  have r2 := ry.rep w
  cases r1 with
  | int i => cases r2 with
    | str hz =>
      refine ⟨h.1, rep_str f w ?_ h.2⟩
      obtain ⟨⟨h1, h2, h3⟩, _⟩ := h
      rw [repS_len, sizeLine_eq]
      have := Nat.mul_le_mul (show i.toNat ≤ 100 by omega) h3
      omega
    | _ => exact h.elim
  | _ => cases r2 <;> exact h.elim
theorem q_mulS (ha : QE X K a ta) (hb : QE X K b tb) : QE X K (.BinOp a .Mult b pos) (wOp fMulS ta tb) := q_op op_mulS br_mulS ha hb
def fMaxD : W2 := fun _ x _ y Q => match x, y with
  | .list xs, .int d => ∃ ns : List Int, xs = ns.map D.int ∧ Q .sh (.int (if ns = [] then d else mxP ns ns.length))
  | _, _ => False
theorem ints_ofD {H : Hp} : ∀ {ns : List Int} {vs : List V}, Reps K H (ns.map D.int) vs → vs = ns.map V.int
  | [], _, .nil => rfl
  | n :: ns, _, .cons r rs => by
    cases r
    rw [ints_ofD rs]; rfl
theorem br_maxD : Br2 K (rMaxD K) fMaxD := by
  intro Hs H m x v As n y u Bs Qd Qv w rx ry h f
  have r1 := rx.rep w
  have r2 := ry.rep w
  cases r1 with
  | list z s q => cases r2 with
    | int d =>
      obtain ⟨ns, rfl, h⟩ := h
      cases ints_ofD q
      exact ⟨ns, s, f.sh w (.int _) h⟩
    | _ => exact h.elim
  | _ => cases r2 <;> exact h.elim
theorem kb_max : bootBuiltins "max" = some (.builtin "max") := by decide +kernel
theorem kb_min : bootBuiltins "min" = some (.builtin "min") := by decide +kernel
theorem q_maxD (hg : Gl X "max") (hm : X.mg "max" = none) (he : QE X K e ta) (hd : QE X K e2 tb) (hc : X.calm = true := by rfl) (hK : X.K = K := by rfl)
    (hs : starEach [e] X.env = (false, eval e X.env) :: starEach [] X.env := by rfl) : QE X K (.Call (.Name "max" p) [e] [⟨some "default", e2, kpos⟩] pos) (wOp fMaxD ta tb) := by
  subst hK
  exact PE.imp (pe_maxD hc hg hm kb_max he hd hs) (op_lift br_maxD)
def rMax2 : R2 := fun x y H Q => match x, y with
  | .int i, .int j => Q (.int (if j > i then j else i)) H
  | _, _ => False
def rMin2 : R2 := fun x y H Q => match x, y with
  | .int i, .int j => Q (.int (if j < i then j else i)) H
  | _, _ => False
def fMax2 : W2 := fun _ x _ y Q => match x, y with
  | .int i, .int j => Q .sh (.int (if j > i then j else i))
  | _, _ => False
def fMin2 : W2 := fun _ x _ y Q => match x, y with
  | .int i, .int j => Q .sh (.int (if j < i then j else i))
  | _, _ => False
theorem br_max2 : Br2 K rMax2 fMax2 := by
  intro Hs H m x v As n y u Bs Qd Qv w rx ry h f
  have r1 := rx.rep w
  have r2 := ry.rep w
  cases r1 with
  | int i => cases r2 with
    | int j => exact f.sh w (.int _) h
    | _ => exact h.elim
  | _ => cases r2 <;> exact h.elim
theorem br_min2 : Br2 K rMin2 fMin2 := by
  intro Hs H m x v As n y u Bs Qd Qv w rx ry h f
  have r1 := rx.rep w
  have r2 := ry.rep w
  cases r1 with
  | int i => cases r2 with
    | int j => exact f.sh w (.int _) h
    | _ => exact h.elim
  | _ => cases r2 <;> exact h.elim
theorem q_call2 {r : R2} {f : W2} (hc : CallR X (.builtin id) fun xs H Q => ∃ x y, xs = [x, y] ∧ r x y H Q) (br : Br2 K r f) (hg : Gl X x) (hm : X.mg x = none) (hv : bootBuiltins x = some (.builtin id)) (ha : QE X K a ta) (hb : QE X K b tb)
    (hs : starEach [a, b] X.env = (false, eval a X.env) :: starEach [b] X.env := by rfl) (hs2 : starEach [b] X.env = (false, eval b X.env) :: starEach [] X.env := by rfl) (hn : x ≠ "__name__" := by decide) (hdb : (x == ("__debug__" : Str)) = false := by decide)
    (hpl : (backTo pos (starEach [b] X.env)).any (·.1) = false := by rfl) : QE X K (.Call (.Name x p) [a, b] [] pos) (wOp f ta tb) := by
  refine PE.imp (pe_callB hc hg hm hv (pa_cons ha (pa_cons hb pa_nil hs2) hs) hn hdb hs hpl) fun σ H Qv h => ?_
  obtain ⟨Hs, ρ, tot, Q, sr, h, fin⟩ := op_lift br σ H Qv h
  exact ⟨Hs, ρ, tot, Q, sr, h, fun v H1 Hs1 m x As g1 r1 f1 q1 => by
    obtain ⟨Hs2, ρ2, tot2, Q2, sr2, h2, fin2⟩ := fin v H1 Hs1 m x As g1 r1 f1 q1
    exact ⟨Hs2, ρ2, tot2, Q2, sr2, h2, fun u H2 Hs3 n y Bs g2 r2 f2 q2 => ⟨v, u, rfl, fin2 u H2 Hs3 n y Bs g2 r2 f2 q2⟩⟩⟩
theorem k_max2 (hc : X.calm = true := by rfl) : CallR X (.builtin "max") fun xs H Q => ∃ x y, xs = [x, y] ∧ rMax2 x y H Q := fun pins s σ H xs us Q I r ⟨x, y, e, q⟩ => by
  subst e
  unfold rMax2 at q
  split at q
  · exact call_max2 hc pins s σ H _ us Q I r ⟨_, _, rfl, q⟩
  · exact q.elim
theorem k_min2 (hc : X.calm = true := by rfl) : CallR X (.builtin "min") fun xs H Q => ∃ x y, xs = [x, y] ∧ rMin2 x y H Q := fun pins s σ H xs us Q I r ⟨x, y, e, q⟩ => by
  subst e
  unfold rMin2 at q
  split at q
  · exact call_min2 hc pins s σ H _ us Q I r ⟨_, _, rfl, q⟩
  · exact q.elim
end
end L2.Q
namespace L2.Q.R
open PySem PySem.Spec PyProof.Rows L2.Q
section
variable {Q : Md → L2.Q.D → Prop} {m m' : Md} {xs : List L2.Q.D} {a b : Int} {x : Str}
theorem fAll_ : fAll m (.list xs) Q = ∃ bs : List Bool, xs = bs.map L2.Q.D.bl ∧ Q .sh (.bl (bs.all (fun b => b))) := rfl
theorem fTuple_ : fTuple m (.list xs) Q = (flats xs = true ∧ Q .sh (.tup xs)) := rfl
theorem fMulS_ : fMulS m (.int a) m' (.str x) Q = ((1 ≤ a ∧ a ≤ 100 ∧ x.length ≤ 100) ∧ Q .sh (.str (repS a x))) := rfl
theorem fMaxD_ : fMaxD m (.list xs) m' (.int a) Q = ∃ ns : List Int, xs = ns.map L2.Q.D.int ∧ Q .sh (.int (if ns = [] then a else mxP ns ns.length)) := rfl
theorem fMax2_ : fMax2 m (.int a) m' (.int b) Q = Q .sh (.int (if b > a then b else a)) := rfl
theorem fMin2_ : fMin2 m (.int a) m' (.int b) Q = Q .sh (.int (if b < a then b else a)) := rfl
end
end L2.Q.R
namespace L2.Q
open PySem PySem.Spec PyProof.Rows
theorem compL_inv {g : WG} {tc : WT} {te : WE} (O : Nat → List D → Prop) (Iv : Env → Prop) : ∀ (xs : List D) (i : Nat) (pre : List D) (ρ : Env) (k : List D → Prop), Iv ρ → O i pre →
    (∀ j x, xs[j]? = some x → ∀ ρ, Iv ρ → ∀ out, O (i + j) out → ∀ N1 : Env → Prop, ∀ N2 : Env → D → Prop, (∀ ρ' d, Iv ρ' → O (i + j + 1) (out ++ [d]) → N2 ρ' d) → g x ρ fun ρ1 => tc ρ1 fun b => if b = true then te ρ1 fun m d => okEl m d ∧ N2 ρ1 d else N1 ρ1) →
    (∀ out, O (i + xs.length) (pre ++ out) → k out) → wCompL g tc te xs ρ k
  | [], i, pre, _, k, _, h0, _, h => h [] (by simpa using h0)
  | x :: xs, i, pre, ρ, k, iv, h0, hs, h => by
    refine hs 0 x rfl ρ iv pre h0 _ _ (fun ρ' d iv' o' => ?_)
    refine compL_inv O Iv xs (i + 1) (pre ++ [d]) ρ' _ iv' o' (fun j y hy ρ iv out ho => ?_) fun out ho => ?_
    · have := hs (j + 1) y (by simpa using hy) ρ iv out (by rwa [show i + (j + 1) = i + 1 + j by omega])
      rwa [show i + (j + 1) + 1 = i + 1 + j + 1 by omega] at this
    · refine h (d :: out) ?_
      rw [List.append_assoc] at ho
      rwa [List.length_cons, show i + (xs.length + 1) = i + 1 + xs.length by omega]
end L2.Q

local macro_rules | `(tactic| walk_at "q") => `(tactic| simp -dsimp only [↓L2.Q.R.on_non, ↓L2.Q.R.on_bl, ↓L2.Q.R.on_int, ↓L2.Q.R.on_str, ↓L2.Q.R.on_list, ↓L2.Q.R.on_tup, ↓L2.Q.R.on_dK, ↓L2.Q.R.on_dT, ↓L2.Q.R.on_true, ↓L2.Q.R.on_false, ↓L2.Q.R.on_msh, ↓L2.Q.R.on_mow, ↓L2.Q.R.on_mbo, ↓L2.Q.R.on_ssh, ↓L2.Q.R.on_sow, ↓L2.Q.R.on_smd, ↓L2.Q.R.on_sb, ↓L2.Q.R.on_vsh, ↓L2.Q.R.on_vow, ↓L2.Q.R.wNext_, ↓L2.Q.R.wSeq_, ↓L2.Q.R.wRet_, ↓L2.Q.R.wDrop_, ↓L2.Q.R.put_sh, ↓L2.Q.R.put_ow, ↓L2.Q.R.wSet_, ↓L2.Q.R.wIfS_, ↓L2.Q.R.wNever_, ↓L2.Q.R.wRetV_, ↓L2.Q.R.wRetT_, ↓L2.Q.R.wPlan_nil, ↓L2.Q.R.wPlan_e, ↓L2.Q.R.mov_some, ↓L2.Q.R.wPlan_v, ↓L2.Q.R.wFrz_, ↓L2.Q.R.bol_bl, ↓L2.Q.R.wB_, ↓L2.Q.R.wNot_, ↓L2.Q.R.wOr_, ↓L2.Q.R.wYes_, ↓L2.Q.R.wVar_, ↓L2.Q.R.useS_sh, ↓L2.Q.R.useS_ow, ↓L2.Q.R.wC_, ↓L2.Q.R.wOp_, ↓L2.Q.R.wUn_, ↓L2.Q.R.wChain_, ↓L2.Q.R.wAndV_, ↓L2.Q.R.wOrV_, ↓L2.Q.R.wNotV_, ↓L2.Q.R.wIf_, ↓L2.Q.R.wCons_, ↓L2.Q.R.wNil_, ↓L2.Q.R.wTup_, ↓L2.Q.R.wLst_, ↓L2.Q.R.wCall_, ↓L2.Q.R.fAdd_ii, ↓L2.Q.R.fAdd_ss, ↓L2.Q.R.fAdd_ll, ↓L2.Q.R.fAdd_tt, ↓L2.Q.R.fSub_ii, ↓L2.Q.R.fMul_ii, ↓L2.Q.R.fDiv_ii, ↓L2.Q.R.fMod_ii, ↓L2.Q.R.fLt_ii, ↓L2.Q.R.fLt_ss, ↓L2.Q.R.fLe_ii, ↓L2.Q.R.fLe_ss, ↓L2.Q.R.fGt_ii, ↓L2.Q.R.fEq_ii, ↓L2.Q.R.fEq_ss, ↓L2.Q.R.fEq_bb, ↓L2.Q.R.fEq_l, ↓L2.Q.R.fEq_t, ↓L2.Q.R.fEq_n, ↓L2.Q.R.fNe_ii, ↓L2.Q.R.fNe_ss, ↓L2.Q.R.fNe_l, ↓L2.Q.R.fNe_t, ↓L2.Q.R.fNe_n, ↓L2.Q.R.fAll_, ↓L2.Q.R.fTuple_, ↓L2.Q.R.fMulS_, ↓L2.Q.R.fMaxD_, ↓L2.Q.R.fMax2_, ↓L2.Q.R.fMin2_, ↓L2.Q.R.fIn_s, ↓L2.Q.R.fIn_l, ↓L2.Q.R.fIn_t, ↓L2.Q.R.fIn_K, ↓L2.Q.R.fIn_T, ↓L2.Q.R.fNeg_, ↓L2.Q.R.fIx_l, ↓L2.Q.R.fIx_t, ↓L2.Q.R.fIx_s, ↓L2.Q.R.fIx_K, ↓L2.Q.R.fIx_T, ↓L2.Q.R.fLen_s, ↓L2.Q.R.fLen_l, ↓L2.Q.R.fLen_t, ↓L2.Q.R.fLen_K, ↓L2.Q.R.fLen_T, ↓L2.Q.R.fIsi_, ↓L2.Q.R.fList_l, ↓L2.Q.R.fList_t, ↓L2.Q.R.fList_T, ↓L2.Q.R.wSl_, ↓L2.Q.R.wNoPart_, ↓L2.Q.R.int'_i, ↓L2.Q.R.wPart_, ↓L2.Q.R.fSl_s, ↓L2.Q.R.fSl_l, ↓L2.Q.R.fSl_t, ↓L2.Q.R.str'_s, ↓L2.Q.R.list'_l, ↓L2.Q.R.wJoinM_, ↓L2.Q.R.wpN_, ↓L2.Q.R.fl'_some, ↓L2.Q.R.wApp_, ↓L2.Q.R.dct_K, ↓L2.Q.R.dct_T, ↓L2.Q.R.wFor_, ↓L2.Q.R.wiList_, ↓L2.Q.R.tup'_l, ↓L2.Q.R.wiTup_, ↓L2.Q.R.wiStr_, ↓L2.Q.R.wiRng1_, ↓L2.Q.R.wiRng2_, ↓L2.Q.R.notBo_sh, ↓L2.Q.R.notBo_ow, ↓L2.Q.R.notBo_bo, ↓L2.Q.R.gN_, ↓L2.Q.R.gT_, ↓L2.Q.R.gCons_, ↓L2.Q.R.gNil_, ↓L2.Q.R.wComp_, ↓L2.Q.R.on_slk, ↓L2.Q.R.on_vlk, ↓L2.Q.R.useS_lk, ↓L2.Q.R.own'_ow, ↓L2.Q.R.wlList_, ↓L2.Q.R.wlEnum_, ↓L2.Q.R.wiEnum_, ↓L2.Q.R.wbEnum_, ↓L2.Q.R.wbList_, ↓L2.Q.R.wbTup_, ↓L2.Q.R.wiZip_, ↓L2.Q.R.wbZip_, ↓L2.Q.R.wpIx_, ↓L2.Q.R.wpAt_l, ↓L2.Q.R.wpAt_t, L2.Q.movS, L2.Q.tupMd, L2.Q.lstMd, L2.Q.okSh, L2.Q.okOw, L2.Q.okFl, L2.Q.retM, L2.Q.strs1, L2.Q.frzE, L2.Q.shS, L2.Q.shC, L2.Q.pushFl, L2.Q.compρ, L2.Q.asg, L2.Q.itm, L2.Q.startD, L2.Q.D.flat, L2.Q.flats, L2.Q.D.isN, L2.Q.D.ty, L2.Q.truD, L2.Q.D.key1, L2.Q.keys1, L2.Q.fSortT, L2.Q.fSort1, List.length_map, List.map_cons, List.map_nil, List.length_cons, List.length_nil, List.replicate_succ, List.replicate_zero, List.cons_append, List.nil_append, List.append_nil, List.getElem?_cons_zero, List.getElem?_cons_succ, List.getElem?_nil, List.set_cons_zero, List.set_cons_succ, List.all_cons, List.all_nil, Option.some.injEq, Option.join_some, Option.map_some, Option.map_none, Nat.reduceAdd, Nat.reduceSub, true_and, and_true, Bool.and_true, Bool.true_and, Bool.and_false, Bool.false_and, Bool.not_true, Bool.not_false, Bool.false_eq_true, if_true, if_false, decide_true, decide_false, reduceIte, cond_true, cond_false, PySem.sizeLine_eq, L2.Q.atI0, L2.Q.atI1, L2.Q.atI2, L2.Q.str_app_len, L2.Q.empty_len, L2.Q.empty_app, Nat.zero_add, exists_eq_left', Int.reduceLT, Int.reduceLE, Int.reducePow, Int.reduceNeg, Int.reduceToNat, Int.reduceAdd, Int.reduceMul, Int.reduceSub, Nat.reduceLeDiff, Nat.reduceLT, false_or, or_false, and_self, L2.ex_eq])
local macro_rules | `(tactic| walk_at "o") => `(tactic| repeat (refine And.intro (by first | omega | exact ⟨by omega, by omega⟩ | decide) ?_))

namespace L2.Q.Law
open PySem PySem.Spec PyProof.Rows
/-! ### the defs as readings -/
/-! ### what many laws share -/
theorem small {n : Nat} (h : n ≤ 10000) : n ≤ sizeLine := Nat.le_trans h (by decide)
theorem smallL {n : Nat} (h : n ≤ 10000) : n < sizeLine := Nat.lt_of_le_of_lt h (by decide)
/-- a small letter -/
def isLet (c : Nat) : Bool := decide (97 ≤ c ∧ c ≤ 122)
abbrev abc : Str := "abcdefghijklmnopqrstuvwxyz"
theorem abc_list : sg abc = (List.range 26).map (97 + ·) := by decide +kernel
/-- the k-th letter -/
theorem abc_at {i : Int} (h0 : 0 ≤ i) (h1 : i < 26) : ∃ c, atI (sg abc) i = some c ∧ isLet c = true := by
  refine ⟨97 + i.toNat, ?_, ?_⟩
  · have : atI (sg abc) ((i.toNat : Nat) : Int) = some (97 + i.toNat) := atI_nat (by
      rw [abc_list]
      have : i.toNat < 26 := by omega
      simp [this])
    rwa [Int.toNat_of_nonneg h0] at this
  · simp [isLet]; omega
theorem abc_atm (x : Int) : ∃ c, atI (sg abc) (x % 26) = some c ∧ isLet c = true := abc_at (Int.emod_nonneg _ (by decide)) (Int.emod_lt_of_pos _ (by decide))
/-- letters alone -/
def lets (x : Str) : Prop := ∀ c ∈ sg x, isLet c = true
def Open (x : Str) : Prop := 1 ≤ x.length ∧ x.length ≤ 6 ∧ lets x
def Deed (x : Str) : Prop := x = "*" ∨ Open x
theorem lets_app {x y : Str} (hx : lets x) (hy : lets y) : lets (x ++ y) := fun c hc => by
  rw [sg_app] at hc
  exact (List.mem_append.mp hc).elim (hx c) (hy c)
theorem lets_one {c : Nat} (h : isLet c = true) : lets ⟨#[c]⟩ := fun d hd => by
  have : d = c := by simpa [sg] using hd
  rw [this]; exact h
theorem lets_cut {x : Str} (h : lets x) (lo hi : Option Int) : lets (cutS x lo hi) := fun c hc => by
  unfold cutS sg at hc
  rw [List.toList_toArray] at hc
  exact h c (List.mem_of_mem_drop (List.mem_of_mem_take hc))
theorem one_length (c : Nat) : (⟨#[c]⟩ : Str).length = 1 := rfl
theorem Deed.len {x : Str} (h : Deed x) : x.length ≤ 6 := by
  rcases h with rfl | h
  · decide
  · exact h.2.1
theorem Deed.ok {x : Str} (h : Deed x) : PyData.strOk x = true := by
  rw [okS_iff]
  rcases h with rfl | h
  · have : sg "*" = [42] := by decide +kernel
    intro c hc
    rw [this] at hc
    have : c = 42 := by simpa using hc
    omega
  · intro c hc
    have := h.2.2 c hc
    simp [isLet] at this
    omega
theorem flat_strs : ∀ (l : List Str), flats (l.map D.str) = true
  | [] => rfl
  | x :: l => by simp [flats, flat_strs l, D.flat]
theorem flat_ints : ∀ (l : List Int), flats (l.map D.int) = true
  | [] => rfl
  | x :: l => by simp [flats, flat_ints l, D.flat]
theorem flat_bls : ∀ (l : List Bool), flats (l.map D.bl) = true
  | [] => rfl
  | x :: l => by simp [flats, flat_bls l, D.flat]
theorem strs_app (l : List Str) (x : Str) : l.map D.str ++ [D.str x] = (l ++ [x]).map D.str := by simp
theorem ints_app (l : List Int) (x : Int) : l.map D.int ++ [D.int x] = (l ++ [x]).map D.int := by simp
theorem ints_at {n i : Nat} {lo : Int} {x : D} (h : (intsD lo n)[i]? = some x) : i < n ∧ x = .int (lo + (i : Nat)) := by
  unfold intsD at h
  rw [List.getElem?_map] at h
  by_cases hi : i < n
  · rw [List.getElem?_range hi] at h
    exact ⟨hi, (Option.some.inj h).symm⟩
  · rw [List.getElem?_eq_none (by simpa using hi)] at h
    cases h
theorem ints_len (lo : Int) (n : Nat) : (intsD lo n).length = n := by simp [intsD]
theorem ints_mem {lo : Int} {n : Nat} {x : D} (h : x ∈ intsD lo n) : ∃ i : Nat, i < n ∧ x = .int (lo + i) := by
  obtain ⟨i, hi⟩ := List.mem_iff_getElem?.mp h
  exact ⟨i, ints_at hi⟩
theorem all_yes {α : Type} (l : List α) : l.filter (fun _ => true) = l := List.filter_eq_self.mpr fun _ _ => rfl
/-! ### rows of scrolls -/
inductive Rw where
  | st (w d : Str) (j : Int)
  | nt (j : Int)
  | jn (w : Str) (ps : List Int)
def rwD : Rw → D
  | .st w d j => .tup [.str w, .str d, .int j]
  | .nt j => .tup [.str "not", .int j]
  | .jn w ps => .tup [.str w, .tup (ps.map .int)]
def RwOk (k : Int) : Rw → Prop
  | .st w d j => (w = "some" ∨ w = "all") ∧ Deed d ∧ 0 ≤ j ∧ j < k
  | .nt j => 0 ≤ j ∧ j < k
  | .jn w ps => (w = "and" ∨ w = "or") ∧ ps.length ≤ 200 ∧ ∀ p ∈ ps, 0 ≤ p ∧ p < k
def ScOk (l : List Rw) : Prop := ∀ (i : Nat) (r : Rw), l[i]? = some r → RwOk i r
theorem flat_rw : ∀ r : Rw, (rwD r).flat = true
  | .st _ _ _ => rfl
  | .nt _ => rfl
  | .jn _ ps => by simp [rwD, D.flat, flats, flat_ints]
theorem flat_rws : ∀ l : List Rw, flats (l.map rwD) = true
  | [] => rfl
  | r :: l => by simp [flats, flat_rw r, flat_rws l]
theorem rws_app (l : List Rw) (r : Rw) : l.map rwD ++ [rwD r] = (l ++ [r]).map rwD := by simp
theorem RwOk.mono {k k' : Int} (hk : k ≤ k') : ∀ {r : Rw}, RwOk k r → RwOk k' r
  | .st _ _ _, ⟨a, b, c, d⟩ => ⟨a, b, c, by omega⟩
  | .nt _, ⟨c, d⟩ => ⟨c, by omega⟩
  | .jn _ _, ⟨a, b, c⟩ => ⟨a, b, fun p hp => ⟨(c p hp).1, by have := (c p hp).2; omega⟩⟩
theorem ScOk.app {l : List Rw} {r : Rw} (h : ScOk l) (hr : RwOk l.length r) : ScOk (l ++ [r]) := fun i x hx => by
  by_cases hi : i < l.length
  · rw [List.getElem?_append_left hi] at hx
    exact h i x hx
  · rw [List.getElem?_append_right (by omega)] at hx
    by_cases h0 : i = l.length
    · subst h0
      rw [Nat.sub_self] at hx
      cases hx
      exact hr
    · rw [List.getElem?_eq_none (by simp; omega)] at hx
      cases hx
theorem ScOk.take {l : List Rw} (h : ScOk l) (n : Nat) : ScOk (l.take n) := fun i x hx => by
  rw [List.getElem?_take] at hx
  split at hx
  · exact h i x hx
  · cases hx
theorem ScOk.nil : ScOk [] := fun i r h => by simp at h
/-- a row's depth, by the depths of the rows ahead -/
def mxL (l : List Int) : Int := l.foldl (fun b x => if x > b then x else b) 0
def dep (ds : List Int) : Rw → Int
  | .st _ _ j => ds.getD j.toNat 0 + 1
  | .nt j => ds.getD j.toNat 0
  | .jn _ ps => mxL (ps.map fun p => ds.getD p.toNat 0)
def depF : List Int → List Rw → List Int
  | ds, [] => ds
  | ds, r :: l => depF (ds ++ [dep ds r]) l
def deps (l : List Rw) : List Int := depF [] l
theorem depF_app : ∀ (l m : List Rw) (ds : List Int), depF ds (l ++ m) = depF (depF ds l) m
  | [], _, _ => rfl
  | r :: l, m, ds => depF_app l m (ds ++ [dep ds r])
theorem deps_app (l : List Rw) (r : Rw) : deps (l ++ [r]) = deps l ++ [dep (deps l) r] := by
  unfold deps
  rw [depF_app]; rfl
theorem depF_len : ∀ (l : List Rw) (ds : List Int), (depF ds l).length = ds.length + l.length
  | [], _ => rfl
  | r :: l, ds => by
    show (depF (ds ++ [dep ds r]) l).length = _
    rw [depF_len l]; simp; omega
theorem deps_len (l : List Rw) : (deps l).length = l.length := by unfold deps; rw [depF_len]; simp
theorem depF_pre : ∀ (l : List Rw) (ds : List Int), ∃ m, depF ds l = ds ++ m
  | [], ds => ⟨[], by simp [depF]⟩
  | r :: l, ds => by
    obtain ⟨m, e⟩ := depF_pre l (ds ++ [dep ds r])
    exact ⟨dep ds r :: m, by show depF (ds ++ [dep ds r]) l = _; rw [e]; simp⟩
/-- the depth of a scroll -/
def depth (l : List Rw) : Int := (deps l).getD (l.length - 1) 0
theorem depth_take {l : List Rw} {n : Nat} (h1 : 1 ≤ n) (h2 : n ≤ l.length) : depth (l.take n) = (deps l).getD (n - 1) 0 := by
  unfold depth
  have e : deps l = deps (l.take n) ++ (deps l).drop n := by
    obtain ⟨m, hm⟩ := depF_pre (l.drop n) (deps (l.take n))
    have : deps l = deps (l.take n) ++ m := by
      rw [← hm]; unfold deps; rw [← depF_app, List.take_append_drop]
    rw [this, List.drop_left' (by rw [deps_len, List.length_take]; omega)]
  have hl : (l.take n).length = n := by rw [List.length_take]; omega
  have h3 : n - 1 < (deps (l.take n)).length := by rw [deps_len, hl]; omega
  rw [e, hl, List.getD_eq_getElem?_getD, List.getD_eq_getElem?_getD, List.getElem?_append_left h3]
theorem depth_app (l : List Rw) (r : Rw) : depth (l ++ [r]) = dep (deps l) r := by
  unfold depth
  rw [deps_app, List.getD_eq_getElem?_getD]
  have : (l ++ [r]).length - 1 = (deps l).length := by rw [deps_len]; simp
  rw [this, List.getElem?_append_right (Nat.le_refl _), Nat.sub_self]; rfl
theorem mxL_go : ∀ (l : List Int) (b : Int), 0 ≤ b → 0 ≤ l.foldl (fun b x => if x > b then x else b) b
  | [], b, h => h
  | x :: l, b, h => by
    simp only [List.foldl_cons]
    refine mxL_go l _ ?_
    split <;> omega
theorem mxL_nn (l : List Int) : 0 ≤ mxL l := mxL_go l 0 (by decide)
theorem getD_nn {ds : List Int} (h : ∀ d ∈ ds, 0 ≤ d) (i : Nat) : 0 ≤ ds.getD i 0 := by
  rw [List.getD_eq_getElem?_getD]
  cases e : ds[i]? with
  | none => exact Int.le_refl _
  | some x => exact h x (List.mem_of_getElem? e)
theorem dep_nn {ds : List Int} (h : ∀ d ∈ ds, 0 ≤ d) : ∀ r : Rw, 0 ≤ dep ds r
  | .st _ _ j => by have := getD_nn h j.toNat; simp only [dep]; omega
  | .nt j => getD_nn h _
  | .jn _ ps => mxL_nn _
theorem depF_nn : ∀ (l : List Rw) (ds : List Int), (∀ d ∈ ds, 0 ≤ d) → ∀ d ∈ depF ds l, 0 ≤ d
  | [], _, h => h
  | r :: l, ds, h => depF_nn l _ fun d hd => by
    rcases List.mem_append.mp hd with hd | hd
    · exact h d hd
    · rw [List.mem_singleton.mp hd]; exact dep_nn h r
theorem deps_nn (l : List Rw) : ∀ d ∈ deps l, 0 ≤ d := depF_nn l [] fun d hd => nomatch hd
/-- the greatest, as the program takes it -/
theorem mxP_eq {ns : List Int} (h : ∀ n ∈ ns, 0 ≤ n) : (if ns = [] then 0 else mxP ns ns.length) = mxL ns := by
  have go : ∀ j, j < ns.length → mxP ns (j + 1) = mxL (ns.take (j + 1)) := by
    intro j
    induction j with
    | zero =>
      intro hj
      cases ns with
      | nil => simp at hj
      | cons n ns =>
        have := h n List.mem_cons_self
        show n = mxL [n]
        simp only [mxL, List.foldl_cons, List.foldl_nil]
        split <;> omega
    | succ j ih =>
      intro hj
      rw [List.take_succ_eq_append_getElem hj]
      simp only [mxL, List.foldl_append, List.foldl_cons, List.foldl_nil]
      have e := ih (by omega)
      unfold mxL at e
      rw [← e]
      have e2 : ns.getD (j + 1) 0 = ns[j + 1] := by simp [List.getD, hj]
      show (if ns.getD (j + 1) 0 > mxP ns (j + 1) then ns.getD (j + 1) 0 else mxP ns (j + 1)) = _
      rw [e2]
  by_cases h0 : ns = []
  · subst h0; rfl
  · rw [if_neg h0]
    have hl : 0 < ns.length := List.length_pos_iff.mpr h0
    have := go (ns.length - 1) (by omega)
    rw [show ns.length - 1 + 1 = ns.length by omega, List.take_length] at this
    exact this
theorem deps_at {l : List Rw} {j : Int} (h0 : 0 ≤ j) (h1 : j < l.length) : atI ((deps l).map D.int) j = some (.int ((deps l).getD j.toNat 0)) := by
  have hj : j.toNat < (deps l).length := by rw [deps_len]; omega
  have := atI_nat (xs := (deps l).map D.int) (j := j.toNat) (v := .int ((deps l).getD j.toNat 0)) (by simp [hj, List.getD])
  rwa [Int.toNat_of_nonneg h0] at this
def w_is_open : WS :=
  (wSeq (wIfS (wOr (wNot (wB (wUn (fIsi "str") (wVar 0)))) (wNot (wB (wChain fLe fLe (wC (.int 1)) (wUn fLen (wVar 0)) (wC (.int 6))))))
  (wRet (wC (.bl false)))
  wNext)
  (wRet (wUn fAll (wComp (wiStr (wVar 0)) (gN 0) wYes (wOp (fIn false) (wVar 0) (wC (.str "abcdefghijklmnopqrstuvwxyz"))) 1 []))))
theorem abc_has {c : Nat} : inS ⟨#[c]⟩ abc = isLet c := by
  rw [inS_one]
  have : abc.cps.toList = (List.range 26).map (97 + ·) := abc_list
  rw [this]
  apply Bool.eq_iff_iff.mpr
  simp only [decide_eq_true_eq, isLet, List.mem_map, List.mem_range]
  constructor
  · rintro ⟨i, hi, rfl⟩; omega
  · intro h; exact ⟨c - 97, by omega, by omega⟩
/-- a text that is looked at as a deed -/
def sp_is_open : SpD := fun ds Q => ∃ x : Str, ds = [.str x] ∧ Q .sh (.bl (decide (1 ≤ x.length ∧ x.length ≤ 6) && (sg x).all isLet))
theorem len_is_open (ds Q) (h : sp_is_open ds Q) : ds.length = ["thing"].length := by obtain ⟨_, rfl, _⟩ := h; rfl
theorem p_is_open : ∀ ds Q, sp_is_open ds Q → w_is_open { nx := fun _ => Q .sh .non, rt := Q } (startD 1 ds) := by
  rintro ds Q ⟨x, rfl, h⟩
  unfold w_is_open
  walk_at "q"
  refine R.F rfl ?_
  walk_at "q"
  refine R.D (fun h1 => ?_) fun h1 => ?_
  · walk_at "q"
    refine R.B (fun h2 => ?_) fun h2 => ?_
    rotate_left
    · have h2 : x.length ≤ 6 := by simp at h2; omega
      walk_at "q"
      refine compL_by (fun _ => true) (fun d => match d with
        | .str z => .bl (inS z abc)
        | d => d) (fun ρ => ∃ o, ρ = [o]) _ _ _ ⟨_, rfl⟩ ?_ ?_
      · rintro y hy ρ ⟨o, rfl⟩ N1 N2 _ h2
        obtain ⟨c, hc, rfl⟩ := List.mem_map.mp hy
        walk_at "q"
        exact ⟨.inl rfl, h2 _ ⟨_, rfl⟩ rfl⟩
      · rw [all_yes]
        refine ⟨(sg x).map isLet, ?_, ?_⟩
        · unfold sgnD
          rw [List.map_map, List.map_map]
          refine List.map_congr_left fun c _ => ?_
          show D.bl (inS ⟨#[c]⟩ abc) = _
          rw [abc_has]; rfl
        · rw [decide_eq_true (by omega), Bool.true_and] at h
          rw [List.all_map]
          exact h
    · have h2 : ¬ x.length ≤ 6 := by simp at h2; omega
      walk_at "q"
      rw [decide_eq_false (by omega), Bool.false_and] at h
      exact h
  · walk_at "q"
    rw [decide_eq_false (by omega), Bool.false_and] at h
    exact h
def w_is_whole : WS :=
  (wRet (wAndV (wUn (fIsi "int") (wVar 0)) (wNotV (wUn (fIsi "bool") (wVar 0)))))
def sp_is_whole : SpD := fun ds Q => ∃ d : D, ds = [d] ∧ Q .sh (.bl (decide (d.ty = "int")))
theorem len_is_whole (ds Q) (h : sp_is_whole ds Q) : ds.length = ["thing"].length := by obtain ⟨_, rfl, _⟩ := h; rfl
theorem p_is_whole : ∀ ds Q, sp_is_whole ds Q → w_is_whole { nx := fun _ => Q .sh .non, rt := Q } (startD 1 ds) := by
  rintro ds Q ⟨d, rfl, h⟩
  unfold w_is_whole
  walk_at "q"
  cases d <;> first
    | (refine R.F rfl ?_; walk_at "q"; exact h)
    | (refine R.T rfl ?_; walk_at "q"; first | exact h | (refine R.T rfl ?_; walk_at "q"; exact h) | (refine R.F rfl ?_; walk_at "q"; exact h))

def w_drawn : WS :=
  (wSeq (wIfS (wOr (wB (wOp fEq (wOp fIx (wVar 0) (wC (.int 0))) (wC (.str "some")))) (wB (wOp fEq (wOp fIx (wVar 0) (wC (.int 0))) (wC (.str "all")))))
  (wRet (wLst (wCons (wOp fIx (wVar 0) (wC (.int 2))) wNil)))
  wNext)
  (wSeq (wIfS (wB (wOp fEq (wOp fIx (wVar 0) (wC (.int 0))) (wC (.str "not"))))
  (wRet (wLst (wCons (wOp fIx (wVar 0) (wC (.int 1))) wNil)))
  wNext)
  (wRet (wUn fList (wOp fIx (wVar 0) (wC (.int 1)))))))
def drw : Rw → List Int
  | .st _ _ j => [j]
  | .nt j => [j]
  | .jn _ ps => ps
def sp_drawn : SpD := fun ds Q => ∃ (r : Rw) (k : Int), ds = [rwD r] ∧ RwOk k r ∧ Q (.ow true) (.list ((drw r).map D.int))
theorem len_drawn (ds Q) (h : sp_drawn ds Q) : ds.length = ["row"].length := by obtain ⟨_, _, rfl, _⟩ := h; rfl
theorem w_no : ∀ {w : Str}, (w = "and" ∨ w = "or") → w ≠ "some" ∧ w ≠ "all" ∧ w ≠ "not" := by
  rintro w (rfl | rfl) <;> decide +kernel
theorem w_sa : ∀ {w : Str}, (w = "some" ∨ w = "all") → w ≠ "not" ∧ w ≠ "and" ∧ w ≠ "or" := by
  rintro w (rfl | rfl) <;> decide +kernel
theorem n_sa : ("not" : Str) ≠ "some" ∧ ("not" : Str) ≠ "all" := by decide +kernel
theorem p_drawn : ∀ ds Q, sp_drawn ds Q → w_drawn { nx := fun _ => Q .sh .non, rt := Q } (startD 1 ds) := by
  rintro ds Q ⟨r, k, rfl, hr, h⟩
  unfold w_drawn
  cases r with
  | st w d j =>
    obtain ⟨hw, _⟩ := hr
    rw [show rwD (.st w d j) = .tup [.str w, .str d, .int j] from rfl]
    walk_at "q"
    refine R.D (fun e => ?_) fun e => ?_
    · walk_at "q"
      exact h
    · walk_at "q"
      refine R.D (fun e => ?_) fun e2 => ?_
      · walk_at "q"
        exact h
      · exact absurd hw (by simp [e, e2])
  | nt j =>
    rw [show rwD (.nt j) = .tup [.str "not", .int j] from rfl]
    walk_at "q"
    refine R.F (decide_eq_false n_sa.1) ?_
    walk_at "q"
    refine R.F (decide_eq_false n_sa.2) ?_
    walk_at "q"
    exact h
  | jn w ps =>
    obtain ⟨hw, hl, _⟩ := hr
    rw [show rwD (.jn w ps) = .tup [.str w, .tup (ps.map .int)] from rfl]
    walk_at "q"
    refine R.F (decide_eq_false (w_no hw).1) ?_
    walk_at "q"
    refine R.F (decide_eq_false (w_no hw).2.1) ?_
    walk_at "q"
    refine R.F (decide_eq_false (w_no hw).2.2) ?_
    walk_at "q"
    exact .inl ⟨flat_ints ps, h⟩
def w__law_cell_at : WS :=
  (wSeq (wIfS (wB (wOp fLt (wVar 1) (wUn fLen (wVar 0))))
  (wRet (wOp fIx (wVar 0) (wVar 1)))
  wNext)
  (wRet (wC (.int 0))))
def sp__law_cell_at : SpD := fun ds Q => ∃ (ns : List Int) (k : Int), ds = [.list (ns.map .int), .int k] ∧ 0 ≤ k ∧ Q .sh (.int (ns.getD k.toNat 0))
theorem len__law_cell_at (ds Q) (h : sp__law_cell_at ds Q) : ds.length = ["_law_script", "_law_k"].length := by obtain ⟨_, _, rfl, _⟩ := h; rfl
theorem p__law_cell_at : ∀ ds Q, sp__law_cell_at ds Q → w__law_cell_at { nx := fun _ => Q .sh .non, rt := Q } (startD 2 ds) := by
  rintro ds Q ⟨ns, k, rfl, hk, h⟩
  unfold w__law_cell_at
  walk_at "q"
  refine R.D (fun hl => ?_) fun hl => ?_
  · walk_at "q"
    have hn : k.toNat < ns.length := by omega
    refine ⟨.int ns[k.toNat], ?_, ?_⟩
    · have := atI_nat (xs := ns.map D.int) (j := k.toNat) (v := .int ns[k.toNat]) (by simp [hn])
      rwa [Int.toNat_of_nonneg hk] at this
    · show Q .sh _; simpa [List.getD, hn] using h
  · walk_at "q"
    have : ns.getD k.toNat 0 = 0 := by
      have : ns.length ≤ k.toNat := by omega
      simp [List.getD, List.getElem?_eq_none this]
    rwa [this] at h

def w__law_deeds : WS :=
  (wSeq (wSet 2 (wC (.str "abcdefghijklmnopqrstuvwxyz")))
  (wSeq (wSet 3 (wOp fAdd (wC (.int 1)) (wOp fMod (wVar 0) (wC (.int 6)))))
  (wSeq (wSet 0 (wOp fDiv (wVar 0) (wC (.int 6))))
  (wSeq (wSet 4 (wLst wNil))
  (wSeq (wFor (wiRng1 (wVar 3)) (gN 5)
  (wSeq (wApp (wpN 4) (wOp fMod (wVar 0) (wC (.int 26))))
  (wSet 0 (wOp fDiv (wVar 0) (wC (.int 26))))))
  (wSeq (wSet 6 (wJoinM (wC (.str "")) (wComp (wbList (wVar 4)) (gN 0) wYes (wOp fIx (wVar 1) (wVar 0)) 1 [2])))
  (wSeq (wIfS (wB (wOp fEq (wOp fMod (wOp fDiv (wVar 1) (wC (.int 6))) (wC (.int 3))) (wC (.int 1))))
  (wRet (wComp (wiRng2 (wC (.int 1)) (wC (.int 7))) (gN 0) wYes (wSl (wOp fMulS (wC (.int 6)) (wVar 1)) wNoPart (wPart (wVar 0))) 1 [6]))
  wNext)
  (wSeq (wSet 7 (wOp fMod (wVar 1) (wVar 3)))
  (wSeq (wSet 8 (wLst wNil))
  (wSeq (wFor (wiRng1 (wC (.int 6))) (gN 5)
  (wSeq (wSet 9 (wOp fIx (wVar 2) (wOp fMod (wOp fAdd (wOp fIx (wVar 4) (wVar 7)) (wOp fMul (wC (.int 5)) (wVar 5))) (wC (.int 26)))))
  (wApp (wpN 8) (wOp fAdd (wOp fAdd (wSl (wVar 6) wNoPart (wPart (wVar 7))) (wVar 9)) (wSl (wVar 6) (wPart (wOp fAdd (wVar 7) (wC (.int 1)))) wNoPart)))))
  (wRetV 8)))))))))))
theorem sIx_some {n d : Nat} {k : Int} (h0 : 0 ≤ k) (h1 : k ≤ n) : HT.sIx n d (some k) = k.toNat := by
  simp only [HT.sIx]
  rw [if_neg (by omega)]
  omega
theorem pre_len {x : Str} {k : Int} (h0 : 0 ≤ k) (h1 : k ≤ x.length) : (cutS x none (some k)).length = k.toNat := by
  unfold cutS Str.length at *
  simp only [List.size_toArray, List.length_take, List.length_drop, Array.length_toList]
  rw [sIx_some h0 (by simpa using h1)]
  simp [HT.sIx]
  omega
theorem suf_len {x : Str} {k : Int} (h0 : 0 ≤ k) (h1 : k ≤ x.length) : (cutS x (some k) none).length = x.length - k.toNat := by
  unfold cutS Str.length at *
  simp only [List.size_toArray, List.length_take, List.length_drop, Array.length_toList]
  rw [sIx_some h0 (by simpa using h1)]
  simp [HT.sIx]
theorem lets_rep {n : Int} {z : Str} (h : lets z) : lets (repS n z) := fun c hc => by
  unfold repS sg at hc
  rw [List.toList_toArray] at hc
  obtain ⟨l, hl, hcl⟩ := List.mem_flatten.mp hc
  rw [List.eq_of_mem_replicate hl] at hcl
  exact h c hcl
theorem strs1_strs : ∀ (l : List Str), strs1 (l.map D.str) = some l
  | [] => rfl
  | x :: l => by simp [strs1, strs1_strs l]
theorem abc_at2 {p : Int} (h0 : 0 ≤ p) (h1 : p < 26) : atI (sg abc) p = some (97 + p.toNat) := by
  have : atI (sg abc) ((p.toNat : Nat) : Int) = some (97 + p.toNat) := atI_nat (by
    rw [abc_list]
    have : p.toNat < 26 := by omega
    simp [this])
  rwa [Int.toNat_of_nonneg h0] at this
theorem sg_join_ones : ∀ l : List Nat, sg (Str.join "" (l.map fun c => (⟨#[c]⟩ : Str))) = l
  | [] => by decide +kernel
  | [c] => rfl
  | c :: d :: l => by
    have ih := sg_join_ones (d :: l)
    show sg ((⟨#[c]⟩ : Str) ++ "" ++ Str.join "" ((d :: l).map fun c => (⟨#[c]⟩ : Str))) = _
    rw [sg_app, sg_app, ih, show sg ("" : Str) = [] by decide +kernel]
    rfl
theorem sum_ones : ∀ l : List Nat, (l.map fun _ => 1).sum = l.length
  | [] => rfl
  | x :: l => by simp [sum_ones l]; omega
def sp__law_deeds : SpD := fun ds Q => ∃ c t : Int, ds = [.int c, .int t] ∧ ∀ names : List Str, names.length = 6 → (∀ n ∈ names, Deed n) → Q (.ow true) (.list (names.map .str))
theorem len__law_deeds (ds Q) (h : sp__law_deeds ds Q) : ds.length = ["_law_cell", "_law_turn"].length := by obtain ⟨_, _, rfl, _⟩ := h; rfl
theorem p__law_deeds : ∀ ds Q, sp__law_deeds ds Q → w__law_deeds { nx := fun _ => Q .sh .non, rt := Q } (startD 10 ds) := by
  rintro ds Q ⟨c, t, rfl, h⟩
  unfold w__law_deeds
  walk_at "q"
  have s0 := Int.emod_nonneg c (show (6 : Int) ≠ 0 by decide)
  have s1 := Int.emod_lt_of_pos c (show (0 : Int) < 6 by decide)
  generalize hsz : 1 + c % 6 = size at *
  refine ⟨by omega, by omega, ?_⟩
  refine forL_by _ (fun i ρ => ∃ (cc : Int) (ps : List Int) (o : Option Sl), ps.length = i ∧ (∀ p ∈ ps, 0 ≤ p ∧ p < 26) ∧ ρ = [some (.sh (.int cc)), some (.sh (.int t)), some (.sh (.str abc)), some (.sh (.int size)), some (.ow true (.list (ps.map .int))), o, none, none, none, none]) ⟨_, [], _, rfl, (fun p hp => nomatch hp), rfl⟩ ?_ ?_
  · rintro i x ρ hx ⟨cc, ps, o, hl, hp, rfl⟩ N hN
    obtain ⟨hi, rfl⟩ := ints_at hx
    walk_at "q"
    refine ⟨by omega, ?_⟩
    rw [ints_app]
    refine hN _ ⟨_, ps ++ [cc % 26], _, by simp [hl], fun p hp' => ?_, rfl⟩
    rcases List.mem_append.mp hp' with h' | h'
    · exact hp p h'
    · rw [List.mem_singleton.mp h']
      exact ⟨Int.emod_nonneg _ (by decide), Int.emod_lt_of_pos _ (by decide)⟩
  rintro ρ ⟨cc, ps, o, hl, hp, rfl⟩
  rw [ints_len] at hl
  walk_at "q"
  have e0 : (Str.ofString "").length = 0 := by decide
  refine compL_by (fun _ => true) (fun d => match d with
    | .int p => .str ⟨#[97 + p.toNat]⟩
    | d => d) (fun ρ => ∃ o, ρ = [o, some (.sh (.str abc))]) _ _ _ ⟨_, rfl⟩ ?_ ?_
  · rintro y hy ρ ⟨o, rfl⟩ N1 N2 _ h2
    obtain ⟨p, hp', rfl⟩ := List.mem_map.mp hy
    walk_at "q"
    exact ⟨_, abc_at2 (hp p hp').1 (hp p hp').2, .inl rfl, h2 _ ⟨_, rfl⟩ rfl⟩
  rw [all_yes]
  refine ⟨(ps.map fun p => 97 + p.toNat).map fun c => ⟨#[c]⟩, ?_, ?_, ?_⟩
  · rw [List.map_map, ← strs1_strs, List.map_map, List.map_map]; rfl
  · rw [e0, List.map_map, Nat.mul_zero, Nat.add_zero]
    show ((ps.map fun p => 97 + p.toNat).map fun _ => 1).sum ≤ _
    rw [sum_ones, List.length_map]; omega
  have hw := sg_join_ones (ps.map fun p => 97 + p.toNat)
  generalize Str.join "" ((ps.map fun p => 97 + p.toNat).map fun c => (⟨#[c]⟩ : Str)) = word at hw ⊢
  have wl : word.length = size.toNat := by
    have : (sg word).length = size.toNat := by rw [hw, List.length_map, hl]
    rw [← this]; unfold sg Str.length; simp
  have wlet : lets word := fun ch hc => by
    rw [hw] at hc
    obtain ⟨p, hp', rfl⟩ := List.mem_map.mp hc
    have := hp p hp'
    simp [isLet]; omega
  refine R.D (fun _ => ?_) fun _ => ?_
  · walk_at "q"
    refine compL_by (fun _ => true) (fun d => match d with
      | .int k => .str (cutS (repS 6 word) none (some k))
      | d => d) (fun ρ => ∃ o, ρ = [o, some (.sh (.str word))]) _ _ _ ⟨_, rfl⟩ ?_ ?_
    · rintro y hy ρ ⟨o, rfl⟩ N1 N2 _ h2
      obtain ⟨i, hi, rfl⟩ := ints_mem hy
      walk_at "q"
      exact ⟨by omega, .inl rfl, h2 _ ⟨_, rfl⟩ rfl⟩
    · rw [all_yes]
      have e6 : (List.map (fun d => match d with
        | .int k => D.str (cutS (repS 6 word) none (some k))
        | d => d) (intsD 1 6)) = ((List.range 6).map fun i => cutS (repS 6 word) none (some (1 + (i : Nat) : Int))).map D.str := by
        unfold intsD
        rw [List.map_map, List.map_map]
        rfl
      rw [e6]
      refine h _ (by simp) fun n hn => ?_
      obtain ⟨i, hi, rfl⟩ := List.mem_map.mp hn
      have hi : i < 6 := by simpa using hi
      have l1 : (cutS (repS 6 word) none (some (1 + (i : Nat) : Int))).length = (1 + (i : Int)).toNat := pre_len (by omega) (by rw [repS_len, wl]; simp; omega)
      exact .inr ⟨by rw [l1]; omega, by rw [l1]; omega, lets_cut (lets_rep wlet) _ _⟩
  · walk_at "q"
    refine ⟨by omega, ?_⟩
    have a0 := Int.emod_nonneg t (show size ≠ 0 by omega)
    have a1 := Int.emod_lt_of_pos t (show 0 < size by omega)
    generalize t % size = at' at *
    have l1 : (cutS word none (some at')).length = at'.toNat := pre_len a0 (by omega)
    have l2 : (cutS word (some (at' + 1)) none).length = word.length - (at' + 1).toNat := suf_len (by omega) (by omega)
    refine forL_by _ (fun i ρ => ∃ (names : List Str) (o5 o9 : Option Sl), names.length = i ∧ (∀ n ∈ names, Deed n) ∧ ρ = [some (.sh (.int cc)), some (.sh (.int t)), some (.sh (.str abc)), some (.sh (.int size)), some (.ow true (.list (ps.map .int))), o5, some (.sh (.str word)), some (.sh (.int at')), some (.ow true (.list (names.map .str))), o9]) ⟨[], _, _, rfl, (fun n hn => nomatch hn), rfl⟩ ?_ ?_
    · rintro i x ρ hx ⟨names, o5, o9, hn, hd, rfl⟩ N hN
      obtain ⟨hi, rfl⟩ := ints_at hx
      have hi : i < 6 := hi
      walk_at "q"
      have hat : at'.toNat < ps.length := by omega
      refine ⟨.int ps[at'.toNat], ?_, ?_⟩
      · have := atI_nat (xs := ps.map D.int) (j := at'.toNat) (v := .int ps[at'.toNat]) (by simp [hat])
        rwa [Int.toNat_of_nonneg a0] at this
      walk_at "q"
      obtain ⟨ch, ec, lc⟩ := abc_atm (ps[at'.toNat] + 5 * (0 + (i : Int)))
      refine ⟨.inl ⟨by omega, by omega⟩, ch, ec, ?_⟩
      refine ⟨by rw [l1, one_length]; omega, by rw [l1, l2, one_length]; omega, by omega, ?_⟩
      rw [strs_app]
      refine hN _ ⟨names ++ [_], _, _, by simp [hn], fun n hn' => ?_, rfl⟩
      rcases List.mem_append.mp hn' with h' | h'
      · exact hd n h'
      · obtain rfl : n = _ := by simpa using h'
        refine .inr ⟨?_, ?_, lets_app (lets_app (lets_cut wlet _ _) (lets_one lc)) (lets_cut wlet _ _)⟩
        · rw [str_app_len, str_app_len, l1, l2, one_length]; omega
        · rw [str_app_len, str_app_len, l1, l2, one_length]; omega
    · rintro ρ ⟨names, o5, o9, hn, hd, rfl⟩
      rw [ints_len] at hn
      walk_at "q"
      exact h names hn hd
def w__law_row_5 : WS :=
  (wSeq (wSet 6 (wOp fMod (wVar 3) (wC (.int 8))))
  (wSeq (wIfS (wB (wOp fLt (wVar 6) (wC (.int 5))))
  (wRetT [.inl (wOp fIx (wLst (wCons (wC (.str "some")) (wCons (wC (.str "all")) wNil))) (wOp fDiv (wVar 6) (wC (.int 3)))), .inl (wOp fIx (wVar 2) (wOp fMod (wOp fDiv (wVar 3) (wC (.int 16))) (wUn fLen (wVar 2)))), .inr 5])
  wNext)
  (wSeq (wIfS (wB (wOp fEq (wVar 6) (wC (.int 5))))
  (wRetT [.inl (wC (.str "not")), .inr 5])
  wNext)
  (wSeq (wSet 7 (wLst wNil))
  (wSeq (wFor (wiRng1 (wOp fMod (wOp fDiv (wVar 3) (wC (.int 16))) (wC (.int 4)))) (gN 8)
  (wSeq (wFrz 5 (wApp (wpN 7) (wVar 5)))
  (wSet 5 (wOp fMod (wOp fAdd (wOp fMul (wC (.int 7)) (wVar 5)) (wOp fDiv (wVar 4) (wOp fAdd (wVar 8) (wC (.int 1))))) (wVar 1)))))
  (wRet (wTup (wCons (wOp fIx (wLst (wCons (wC (.str "and")) (wCons (wC (.str "or")) wNil))) (wOp fSub (wVar 6) (wC (.int 6)))) (wCons (wUn fTuple (wVar 7)) wNil)))))))))
def w__law_row : WS :=
  (wSeq (wSet 3 (wOp fMod (wOp fMul (wOp fAdd (wOp fMod (wVar 0) (wC (.int 2147483647))) (wC (.int 1))) (wOp fAdd (wC (.int 48271)) (wOp fMul (wC (.int 7)) (wVar 1)))) (wC (.int 2147483647))))
  (wSeq (wSet 4 (wOp fMod (wOp fMul (wVar 3) (wC (.int 69621))) (wC (.int 2147483629))))
  (wSeq (wIfS (wB (wOp fEq (wVar 1) (wC (.int 0))))
  (wRet (wOp fIx (wLst (wCons (wTup (wCons (wC (.str "and")) (wCons (wTup wNil) wNil))) (wCons (wTup (wCons (wC (.str "or")) (wCons (wTup wNil) wNil))) wNil))) (wOp fMod (wVar 3) (wC (.int 2)))))
  wNext)
  (wSeq (wSet 5 (wOp fMod (wVar 4) (wVar 1)))
  (wSeq (wIfS (wB (wOp fEq (wOp fMod (wOp fDiv (wVar 3) (wC (.int 8))) (wC (.int 2))) (wC (.int 1))))
  (wSet 5 (wOp fSub (wOp fSub (wVar 1) (wC (.int 1))) (wOp fMod (wVar 4) (wOp fMin2 (wVar 1) (wC (.int 3))))))
  wNext)
  w__law_row_5)))))
theorem name_at {names : List Str} {i : Int} (h0 : 0 ≤ i) (h1 : i < names.length) : ∃ n, n ∈ names ∧ atI (names.map D.str) i = some (.str n) := by
  have hi : i.toNat < names.length := by omega
  refine ⟨names[i.toNat], List.getElem_mem hi, ?_⟩
  have := atI_nat (xs := names.map D.str) (j := i.toNat) (v := .str names[i.toNat]) (by simp [hi])
  rwa [Int.toNat_of_nonneg h0] at this
theorem name_mod {names : List Str} (x : Int) (h : 1 ≤ names.length) : ∃ n, n ∈ names ∧ atI (names.map D.str) (x % (names.length : Int)) = some (.str n) :=
  name_at (Int.emod_nonneg _ (by omega)) (Int.emod_lt_of_pos _ (by omega))
def sp__law_row : SpD := fun ds Q => ∃ (c k : Int) (names : List Str), ds = [.int c, .int k, .list (names.map .str)] ∧ 0 ≤ k ∧ k ≤ 1000 ∧ 1 ≤ names.length ∧ names.length ≤ 100 ∧ (∀ n ∈ names, Deed n) ∧ ∀ r : Rw, RwOk k r → Q .sh (rwD r)
theorem len__law_row (ds Q) (h : sp__law_row ds Q) : ds.length = ["_law_cell", "_law_k", "_law_names"].length := by obtain ⟨_, _, _, rfl, _⟩ := h; rfl
theorem row5 {Q : Md → D → Prop} {c k num more j : Int} {names : List Str} (k0 : 0 ≤ k) (k1 : k ≤ 1000) (n1 : 1 ≤ names.length) (n2 : names.length ≤ 100) (hd : ∀ n ∈ names, Deed n) (h : ∀ r : Rw, RwOk k r → Q .sh (rwD r)) (h0 : 0 ≤ j) (h1 : j < k) :
    w__law_row_5 { nx := fun _ => Q .sh .non, rt := Q } [some (.sh (.int c)), some (.sh (.int k)), some (.sh (.list (names.map .str))), some (.sh (.int num)), some (.sh (.int more)), some (.sh (.int j)), none, none, none] := by
  unfold w__law_row_5
  have nb := Int.emod_nonneg num (show (8 : Int) ≠ 0 by decide)
  have nb1 := Int.emod_lt_of_pos num (show (0 : Int) < 8 by decide)
  walk_at "q"
  have w0 : num % 8 / 3 = 0 ∨ num % 8 / 3 = 1 ∨ num % 8 / 3 = 2 := by omega
  refine R.D (fun h5 => ?_) fun h5 => ?_
  · walk_at "q"
    obtain ⟨w, ew, hw⟩ : ∃ w : Str, atI [D.str (Str.ofString "some"), D.str (Str.ofString "all")] (num % 8 / 3) = some (.str w) ∧ (w = "some" ∨ w = "all") := by
      rcases w0 with e | e | e
      · rw [e]; exact ⟨_, rfl, .inl rfl⟩
      · rw [e]; exact ⟨_, rfl, .inr rfl⟩
      · omega
    refine ⟨_, ew, ?_⟩
    walk_at "q"
    obtain ⟨n, hn, en⟩ := name_mod (names := names) (num / 16) n1
    refine ⟨by omega, _, en, ?_⟩
    walk_at "q"
    exact h (.st w n j) ⟨hw, hd n hn, h0, h1⟩
  · walk_at "q"
    refine R.D (fun h6 => ?_) fun h6 => ?_
    · walk_at "q"
      exact h (.nt j) ⟨h0, h1⟩
    · walk_at "q"
      have f0 := Int.emod_nonneg (num / 16) (show (4 : Int) ≠ 0 by decide)
      have f1 := Int.emod_lt_of_pos (num / 16) (show (0 : Int) < 4 by decide)
      generalize num / 16 % 4 = cnt at *
      refine ⟨by omega, by omega, ?_⟩
      refine forL_by _ (fun i ρ => ∃ (ps : List Int) (j : Int) (o8 : Option Sl), ps.length = i ∧ (∀ p ∈ ps, 0 ≤ p ∧ p < k) ∧ 0 ≤ j ∧ j < k ∧ ρ = [some (.sh (.int c)), some (.sh (.int k)), some (.sh (.list (names.map .str))), some (.sh (.int num)), some (.sh (.int more)), some (.sh (.int j)), some (.sh (.int (num % 8))), some (.ow true (.list (ps.map .int))), o8]) ⟨[], j, _, rfl, (fun p hp => nomatch hp), h0, h1, rfl⟩ ?_ ?_
      · rintro i x ρ hx ⟨ps, j, o8, hl, hp, h0, h1, rfl⟩ N hN
        obtain ⟨hi, rfl⟩ := ints_at hx
        walk_at "q"
        refine ⟨by omega, .inl ⟨by omega, by omega⟩, by omega, by omega, ?_⟩
        rw [ints_app]
        refine hN _ ⟨ps ++ [j], _, _, by simp [hl], fun p hp' => ?_, Int.emod_nonneg _ (by omega), Int.emod_lt_of_pos _ (by omega), rfl⟩
        rcases List.mem_append.mp hp' with h' | h'
        · exact hp p h'
        · rw [List.mem_singleton.mp h']; exact ⟨h0, h1⟩
      · rintro ρ ⟨ps, j, o8, hl, hp, h0, h1, rfl⟩
        rw [ints_len] at hl
        walk_at "q"
        obtain ⟨w, ew, hw⟩ : ∃ w : Str, atI [D.str (Str.ofString "and"), D.str (Str.ofString "or")] (num % 8 - 6) = some (.str w) ∧ (w = "and" ∨ w = "or") := by
          have : num % 8 - 6 = 0 ∨ num % 8 - 6 = 1 := by omega
          rcases this with e | e
          · rw [e]; exact ⟨_, rfl, .inl rfl⟩
          · rw [e]; exact ⟨_, rfl, .inr rfl⟩
        refine ⟨_, ew, ?_⟩
        walk_at "q"
        refine ⟨flat_ints ps, ?_⟩
        exact h (.jn w ps) ⟨hw, by omega, hp⟩
theorem p__law_row : ∀ ds Q, sp__law_row ds Q → w__law_row { nx := fun _ => Q .sh .non, rt := Q } (startD 9 ds) := by
  rintro ds Q ⟨c, k, names, rfl, k0, k1, n1, n2, hd, h⟩
  unfold w__law_row
  walk_at "q"
  have m0 := Int.emod_nonneg c (show (2147483647 : Int) ≠ 0 by decide)
  have m1 := Int.emod_lt_of_pos c (show (0 : Int) < 2147483647 by decide)
  refine ⟨.inl ⟨by omega, by omega⟩, .inl ⟨by omega, by omega⟩, .inr ⟨by omega, by omega⟩, ?_⟩
  generalize hnum : (c % 2147483647 + 1) * (48271 + 7 * k) % 2147483647 = num
  generalize num * 69621 % 2147483629 = more
  refine R.D (fun hk => ?_) fun hk => ?_
  · subst hk
    walk_at "q"
    have z0 := Int.emod_nonneg num (show (2 : Int) ≠ 0 by decide)
    have z1 := Int.emod_lt_of_pos num (show (0 : Int) < 2 by decide)
    generalize num % 2 = b at *
    have hb : b = 0 ∨ b = 1 := by omega
    have q1 := h (.jn "and" []) ⟨.inl rfl, by decide, fun p hp => nomatch hp⟩
    have q2 := h (.jn "or" []) ⟨.inr rfl, by decide, fun p hp => nomatch hp⟩
    rcases hb with rfl | rfl
    · exact ⟨_, rfl, q1⟩
    · exact ⟨_, rfl, q2⟩
  · walk_at "q"
    refine ⟨by omega, ?_⟩
    have j0 := Int.emod_nonneg more (show k ≠ 0 by omega)
    have j1 := Int.emod_lt_of_pos more (show 0 < k by omega)
    have jj : ∀ mm : Int, mm = (if (3 : Int) < k then 3 else k) → 0 < mm ∧ 0 ≤ k - 1 - more % mm ∧ k - 1 - more % mm < k := fun mm hm => by
      have q0 : 0 < mm := by rw [hm]; split <;> omega
      have q1 : mm ≤ k := by rw [hm]; split <;> omega
      have q2 := Int.emod_nonneg more (show mm ≠ 0 by omega)
      have q3 := Int.emod_lt_of_pos more q0
      omega
    refine R.D (fun _ => ?_) fun _ => ?_
    · walk_at "q"
      exact ⟨(jj _ rfl).1, row5 k0 k1 n1 n2 hd h (jj _ rfl).2.1 (jj _ rfl).2.2⟩
    · walk_at "q"
      exact row5 k0 k1 n1 n2 hd h j0 j1
def w__law_depths : WS :=
  (wSeq (wSet 1 (wLst wNil))
  (wSeq (wFrz 0 (wFor (wiList (wVar 0)) (gN 2)
  (wIfS (wB (wOp (fIn false) (wOp fIx (wVar 2) (wC (.int 0))) (wTup (wCons (wC (.str "some")) (wCons (wC (.str "all")) wNil)))))
  (wApp (wpN 1) (wOp fAdd (wOp fIx (wVar 1) (wOp fIx (wVar 2) (wC (.int 2)))) (wC (.int 1))))
  (wIfS (wB (wOp fEq (wOp fIx (wVar 2) (wC (.int 0))) (wC (.str "not"))))
  (wApp (wpN 1) (wOp fIx (wVar 1) (wOp fIx (wVar 2) (wC (.int 1)))))
  (wSeq (wSet 3 (wC (.int 0)))
  (wSeq (wFrz 2 (wFor (wiTup (wOp fIx (wVar 2) (wC (.int 1)))) (gN 4)
  (wSet 3 (wOp fMax2 (wVar 3) (wOp fIx (wVar 1) (wVar 4))))))
  (wFrz 3 (wApp (wpN 1) (wVar 3)))))))))
  (wRetV 1)))
def sp__law_depths : SpD := fun ds Q => ∃ l : List Rw, ds = [.list (l.map rwD)] ∧ ScOk l ∧ l.length ≤ 2000 ∧ Q (.ow true) (.list ((deps l).map D.int))
theorem len__law_depths (ds Q) (h : sp__law_depths ds Q) : ds.length = ["_law_scroll_here"].length := by obtain ⟨_, rfl, _⟩ := h; rfl
theorem p__law_depths : ∀ ds Q, sp__law_depths ds Q → w__law_depths { nx := fun _ => Q .sh .non, rt := Q } (startD 5 ds) := by
  rintro ds Q ⟨l, rfl, hs, h2, h⟩
  unfold w__law_depths
  walk_at "q"
  refine forL_by _ (fun i ρ => ∃ o2 o3 o4 : Option Sl, ρ = [some (.sh (.list (l.map rwD))), some (.ow true (.list ((deps (l.take i)).map D.int))), o2, o3, o4]) ⟨_, _, _, rfl⟩ ?_ ?_
  · rintro i x ρ hx ⟨o2, o3, o4, rfl⟩ N hN
    rw [List.getElem?_map] at hx
    cases e : l[i]? with
    | none => rw [e] at hx; cases hx
    | some r =>
      rw [e] at hx
      cases hx
      have hr := hs i r e
      have hi : i < l.length := (List.getElem?_eq_some_iff.mp e).1
      have hlen : ((l.take i).length : Int) = i := by rw [List.length_take]; omega
      have nn := deps_nn (l.take i)
      have step : deps (l.take (i + 1)) = deps (l.take i) ++ [dep (deps (l.take i)) r] := by
        rw [List.take_add_one, e]
        exact deps_app _ _
      have hlt : (deps (l.take i)).length < 16777216 := by
        rw [deps_len, List.length_take]
        omega
      have fin : ∀ v : Int, v = dep (deps (l.take i)) r → ∀ o2 o3 o4 : Option Sl, N [some (.sh (.list (l.map rwD))), some (.ow true (.list ((deps (l.take i)).map D.int ++ [D.int v]))), o2, o3, o4] := fun v hv o2 o3 o4 => by
        subst hv
        refine hN _ ⟨o2, o3, o4, ?_⟩
        rw [step, List.map_append]; rfl
      cases r with
      | st w d j =>
        rw [show rwD (.st w d j) = .tup [.str w, .str d, .int j] from rfl]
        walk_at "q"
        refine ⟨rfl, rfl, ?_⟩
        refine R.T ?_ ?_
        · rcases hr.1 with rfl | rfl <;> decide +kernel
        walk_at "q"
        exact ⟨_, deps_at hr.2.2.1 (by rw [hlen]; exact hr.2.2.2), by rw [List.length_map, sizeLine_eq]; exact hlt, fin _ rfl _ _ _⟩
      | nt j =>
        rw [show rwD (.nt j) = .tup [.str "not", .int j] from rfl]
        walk_at "q"
        refine ⟨rfl, rfl, R.F (by decide +kernel) ?_⟩
        walk_at "q"
        exact ⟨_, deps_at hr.1 (by rw [hlen]; exact hr.2), by rw [List.length_map, sizeLine_eq]; exact hlt, fin _ rfl _ _ _⟩
      | jn w ps =>
        rw [show rwD (.jn w ps) = .tup [.str w, .tup (ps.map .int)] from rfl]
        walk_at "q"
        refine ⟨rfl, rfl, R.F ?_ ?_⟩
        · rcases hr.1 with rfl | rfl <;> decide +kernel
        walk_at "q"
        refine R.F (decide_eq_false (w_no hr.1).2.2) ?_
        walk_at "q"
        refine forL_by _ (fun k ρ => ∃ o4 : Option Sl, ρ = [some (.sh (.list (l.map rwD))), some (.ow true (.list ((deps (l.take i)).map D.int))), some (.sh (.tup [.str w, .tup (ps.map .int)])), some (.sh (.int (mxL ((ps.take k).map fun p => (deps (l.take i)).getD p.toNat 0)))), o4]) ⟨_, rfl⟩ ?_ ?_
        · rintro k x ρ hx ⟨o4, rfl⟩ N' hN'
          rw [List.getElem?_map] at hx
          cases ek : ps[k]? with
          | none => rw [ek] at hx; cases hx
          | some p =>
            rw [ek] at hx
            cases hx
            have hp := hr.2.2 p (List.mem_of_getElem? ek)
            walk_at "q"
            refine ⟨_, deps_at hp.1 (by rw [hlen]; exact hp.2), ?_⟩
            walk_at "q"
            refine hN' _ ⟨some (.sh (.int p)), ?_⟩
            rw [List.take_add_one, ek, List.map_append]
            simp only [mxL, List.foldl_append]
            rfl
        · rintro ρ ⟨o4, rfl⟩
          rw [List.length_map, List.take_length]
          walk_at "q"
          exact ⟨by simpa using hlt, fin _ rfl _ _ _⟩
  · rintro ρ ⟨o2, o3, o4, rfl⟩
    rw [List.length_map, List.take_length]
    walk_at "q"
    exact h

def w_is_deed : WS :=
  (wRet (wOrV (wCall sp_is_open (wCons (wVar 0) wNil)) (wAndV (wUn (fIsi "str") (wVar 0)) (wOp fEq (wVar 0) (wC (.str "*"))))))
def isDeed (x : Str) : Bool := (decide (1 ≤ x.length ∧ x.length ≤ 6) && (sg x).all isLet) || decide (x = "*")
theorem isDeed_iff {x : Str} : isDeed x = true ↔ Deed x := by
  unfold isDeed Deed Open lets
  simp only [Bool.or_eq_true, Bool.and_eq_true, decide_eq_true_eq, List.all_eq_true]
  constructor
  · rintro (⟨⟨h1, h2⟩, h3⟩ | h)
    · exact .inr ⟨h1, h2, h3⟩
    · exact .inl h
  · rintro (h | ⟨h1, h2, h3⟩)
    · exact .inr h
    · exact .inl ⟨⟨h1, h2⟩, h3⟩
def sp_is_deed : SpD := fun ds Q => ∃ x : Str, ds = [.str x] ∧ Q .sh (.bl (isDeed x))
theorem len_is_deed (ds Q) (h : sp_is_deed ds Q) : ds.length = ["thing"].length := by obtain ⟨_, rfl, _⟩ := h; rfl
theorem p_is_deed : ∀ ds Q, sp_is_deed ds Q → w_is_deed { nx := fun _ => Q .sh .non, rt := Q } (startD 1 ds) := by
  rintro ds Q ⟨x, rfl, h⟩
  unfold w_is_deed
  walk_at "q"
  refine ⟨_, rfl, ?_⟩
  unfold isDeed at h
  walk_at "q"
  refine R.B (fun e => ?_) fun e => ?_
  · walk_at "q"
    rw [e] at h
    exact h
  · walk_at "q"
    refine R.T rfl ?_
    walk_at "q"
    rw [e] at h
    exact h
def w_is_ahead : WS :=
  (wRet (wAndV (wCall sp_is_whole (wCons (wVar 1) wNil)) (wChain fLe fLt (wC (.int 0)) (wVar 1) (wVar 0))))
def sp_is_ahead : SpD := fun ds Q => ∃ k j : Int, ds = [.int k, .int j] ∧ Q .sh (.bl (decide (0 ≤ j ∧ j < k)))
theorem len_is_ahead (ds Q) (h : sp_is_ahead ds Q) : ds.length = ["k", "thing"].length := by obtain ⟨_, _, rfl, _⟩ := h; rfl
theorem p_is_ahead : ∀ ds Q, sp_is_ahead ds Q → w_is_ahead { nx := fun _ => Q .sh .non, rt := Q } (startD 2 ds) := by
  rintro ds Q ⟨k, j, rfl, h⟩
  unfold w_is_ahead
  walk_at "q"
  refine ⟨_, rfl, ?_⟩
  walk_at "q"
  refine R.D (fun h1 => ?_) fun h1 => ?_
  · walk_at "q"
    rwa [show decide (0 ≤ j ∧ j < k) = decide (j < k) by simp [h1]] at h
  · walk_at "q"
    rwa [decide_eq_false (by omega)] at h
def w__law_scroll : WS :=
  (wRet (wComp (wiRng1 (wUn fLen (wVar 0))) (gN 0) wYes (wCall sp__law_row (wCons (wOp fIx (wVar 1) (wVar 0)) (wCons (wVar 0) (wCons (wVar 2) wNil)))) 1 [0, 1]))
def sp__law_scroll : SpD := fun ds Q => ∃ (cs : List Int) (names : List Str), ds = [.list (cs.map .int), .list (names.map .str)] ∧ cs.length ≤ 100 ∧ 1 ≤ names.length ∧ names.length ≤ 100 ∧ (∀ n ∈ names, Deed n) ∧ ∀ l : List Rw, l.length = cs.length → ScOk l → Q (.ow true) (.list (l.map rwD))
theorem len__law_scroll (ds Q) (h : sp__law_scroll ds Q) : ds.length = ["_law_cells", "_law_names"].length := by obtain ⟨_, _, rfl, _⟩ := h; rfl
theorem p__law_scroll : ∀ ds Q, sp__law_scroll ds Q → w__law_scroll { nx := fun _ => Q .sh .non, rt := Q } (startD 2 ds) := by
  rintro ds Q ⟨cs, names, rfl, hc, n1, n2, hd, h⟩
  unfold w__law_scroll
  walk_at "q"
  refine ⟨by omega, by omega, ?_⟩
  refine compL_inv (fun i out => ∃ l : List Rw, out = l.map rwD ∧ l.length = i ∧ ScOk l) (fun ρ => ∃ o, ρ = [o, some (.sh (.list (cs.map .int))), some (.sh (.list (names.map .str)))]) _ 0 [] _ _ ⟨_, rfl⟩ ⟨[], rfl, rfl, ScOk.nil⟩ ?_ ?_
  · rintro i x hx ρ ⟨o, rfl⟩ out ⟨l, rfl, hl, hs⟩ N1 N2 h2
    obtain ⟨hi, rfl⟩ := ints_at hx
    have hi : i < cs.length := by simpa using hi
    walk_at "q"
    refine ⟨.int cs[i], ?_, ?_⟩
    · have := atI_nat (xs := cs.map D.int) (j := i) (v := .int cs[i]) (by simp [hi])
      rwa [show ((i : Nat) : Int) = 0 + (i : Int) by omega] at this
    walk_at "q"
    refine ⟨_, _, _, rfl, by omega, by omega, n1, n2, hd, fun r hr => ?_⟩
    walk_at "q"
    refine ⟨.inl (flat_rw r), h2 _ _ ⟨_, rfl⟩ ⟨l ++ [r], by simp, by simp [hl], hs.app ?_⟩⟩
    rw [hl]
    simpa using hr
  · rintro out ⟨l, e, hl, hs⟩
    rw [List.nil_append] at e
    subst e
    rw [ints_len] at hl
    exact h l (by simpa using hl) hs
def w_are_parts : WS :=
  (wSeq (wIfS (wOr (wNot (wB (wUn (fIsi "tuple") (wVar 1)))) (wB (wOp fGt (wUn fLen (wVar 1)) (wC (.int 200)))))
  (wRet (wC (.bl false)))
  wNext)
  (wRet (wUn fAll (wComp (wbTup (wVar 1)) (gN 0) wYes (wCall sp_is_ahead (wCons (wVar 1) (wCons (wVar 0) wNil))) 1 [0]))))
def sp_are_parts : SpD := fun ds Q => ∃ (k : Int) (ps : List Int), ds = [.int k, .tup (ps.map .int)] ∧ ps.length ≤ 200 ∧ Q .sh (.bl (ps.all fun p => decide (0 ≤ p ∧ p < k)))
theorem len_are_parts (ds Q) (h : sp_are_parts ds Q) : ds.length = ["k", "thing"].length := by obtain ⟨_, _, rfl, _⟩ := h; rfl
theorem p_are_parts : ∀ ds Q, sp_are_parts ds Q → w_are_parts { nx := fun _ => Q .sh .non, rt := Q } (startD 2 ds) := by
  rintro ds Q ⟨k, ps, rfl, hl, h⟩
  unfold w_are_parts
  walk_at "q"
  refine R.F rfl ?_
  walk_at "q"
  refine R.F (decide_eq_false (by omega)) ?_
  walk_at "q"
  refine compL_by (fun _ => true) (fun d => match d with
    | .int p => .bl (decide (0 ≤ p ∧ p < k))
    | d => d) (fun ρ => ∃ o, ρ = [o, some (.sh (.int k))]) _ _ _ ⟨_, rfl⟩ ?_ ?_
  · rintro y hy ρ ⟨o, rfl⟩ N1 N2 _ h2
    obtain ⟨p, hp, rfl⟩ := List.mem_map.mp hy
    walk_at "q"
    exact ⟨_, _, rfl, .inl rfl, h2 _ ⟨_, rfl⟩ rfl⟩
  · rw [all_yes]
    refine ⟨ps.map fun p => decide (0 ≤ p ∧ p < k), by rw [List.map_map, List.map_map]; rfl, ?_⟩
    rw [List.all_map]
    exact h
def w_is_row : WS :=
  (wSeq (wIfS (wOr (wNot (wB (wUn (fIsi "tuple") (wVar 1)))) (wOr (wB (wOp fEq (wUn fLen (wVar 1)) (wC (.int 0)))) (wNot (wB (wUn (fIsi "str") (wOp fIx (wVar 1) (wC (.int 0))))))))
  (wRet (wC (.bl false)))
  wNext)
  (wSeq (wIfS (wOr (wB (wOp fEq (wOp fIx (wVar 1) (wC (.int 0))) (wC (.str "some")))) (wB (wOp fEq (wOp fIx (wVar 1) (wC (.int 0))) (wC (.str "all")))))
  (wRet (wAndV (wOp fEq (wUn fLen (wVar 1)) (wC (.int 3))) (wAndV (wCall sp_is_deed (wCons (wOp fIx (wVar 1) (wC (.int 1))) wNil)) (wCall sp_is_ahead (wCons (wVar 0) (wCons (wOp fIx (wVar 1) (wC (.int 2))) wNil))))))
  wNext)
  (wSeq (wIfS (wB (wOp fEq (wOp fIx (wVar 1) (wC (.int 0))) (wC (.str "not"))))
  (wRet (wAndV (wOp fEq (wUn fLen (wVar 1)) (wC (.int 2))) (wCall sp_is_ahead (wCons (wVar 0) (wCons (wOp fIx (wVar 1) (wC (.int 1))) wNil)))))
  wNext)
  (wSeq (wIfS (wOr (wB (wOp fEq (wOp fIx (wVar 1) (wC (.int 0))) (wC (.str "and")))) (wB (wOp fEq (wOp fIx (wVar 1) (wC (.int 0))) (wC (.str "or")))))
  (wRet (wAndV (wOp fEq (wUn fLen (wVar 1)) (wC (.int 2))) (wCall sp_are_parts (wCons (wVar 0) (wCons (wOp fIx (wVar 1) (wC (.int 1))) wNil)))))
  wNext)
  (wRet (wC (.bl false)))))))
def sp_is_row : SpD := fun ds Q => ∃ (k : Int) (r : Rw), ds = [.int k, rwD r] ∧ RwOk k r ∧ Q .sh (.bl true)
theorem len_is_row (ds Q) (h : sp_is_row ds Q) : ds.length = ["k", "thing"].length := by obtain ⟨_, _, rfl, _⟩ := h; rfl
theorem p_is_row : ∀ ds Q, sp_is_row ds Q → w_is_row { nx := fun _ => Q .sh .non, rt := Q } (startD 2 ds) := by
  rintro ds Q ⟨k, r, rfl, hr, h⟩
  unfold w_is_row
  cases r with
  | st w d j =>
    obtain ⟨hw, hd, h0, h1⟩ := hr
    rw [show rwD (.st w d j) = .tup [.str w, .str d, .int j] from rfl]
    walk_at "q"
    refine R.F rfl ?_
    walk_at "q"
    refine R.F rfl ?_
    walk_at "q"
    refine R.F rfl ?_
    walk_at "q"
    have fin : ∀ Z : Prop, (Z = True) → Z := fun _ e => e ▸ trivial
    refine R.D (fun e => ?_) fun e => ?_
    · walk_at "q"
      refine R.T rfl ?_
      walk_at "q"
      refine ⟨_, rfl, ?_⟩
      walk_at "q"
      refine R.T (isDeed_iff.mpr hd) ?_
      walk_at "q"
      refine ⟨_, _, rfl, ?_⟩
      rw [decide_eq_true ⟨h0, h1⟩]
      exact h
    · walk_at "q"
      refine R.T (decide_eq_true (hw.resolve_left e)) ?_
      walk_at "q"
      refine R.T rfl ?_
      walk_at "q"
      refine ⟨_, rfl, ?_⟩
      walk_at "q"
      refine R.T (isDeed_iff.mpr hd) ?_
      walk_at "q"
      refine ⟨_, _, rfl, ?_⟩
      rw [decide_eq_true ⟨h0, h1⟩]
      exact h
  | nt j =>
    obtain ⟨h0, h1⟩ := hr
    rw [show rwD (.nt j) = .tup [.str "not", .int j] from rfl]
    walk_at "q"
    refine R.F rfl ?_
    walk_at "q"
    refine R.F rfl ?_
    walk_at "q"
    refine R.F rfl ?_
    walk_at "q"
    refine R.F (decide_eq_false n_sa.1) ?_
    walk_at "q"
    refine R.F (decide_eq_false n_sa.2) ?_
    walk_at "q"
    refine R.T rfl ?_
    walk_at "q"
    refine ⟨_, _, rfl, ?_⟩
    rw [decide_eq_true ⟨h0, h1⟩]
    exact h
  | jn w ps =>
    obtain ⟨hw, hl, hp⟩ := hr
    rw [show rwD (.jn w ps) = .tup [.str w, .tup (ps.map .int)] from rfl]
    walk_at "q"
    refine R.F rfl ?_
    walk_at "q"
    refine R.F rfl ?_
    walk_at "q"
    refine R.F rfl ?_
    walk_at "q"
    refine R.F (decide_eq_false (w_no hw).1) ?_
    walk_at "q"
    refine R.F (decide_eq_false (w_no hw).2.1) ?_
    walk_at "q"
    refine R.F (decide_eq_false (w_no hw).2.2) ?_
    walk_at "q"
    have ha : (ps.all fun p => decide (0 ≤ p ∧ p < k)) = true := List.all_eq_true.mpr fun p h => decide_eq_true (hp p h)
    refine R.D (fun e => ?_) fun e => ?_
    · walk_at "q"
      refine R.T rfl ?_
      walk_at "q"
      refine ⟨_, _, rfl, hl, ?_⟩
      rw [ha]
      exact h
    · walk_at "q"
      refine R.T (decide_eq_true (hw.resolve_left e)) ?_
      walk_at "q"
      refine R.T rfl ?_
      walk_at "q"
      refine ⟨_, _, rfl, hl, ?_⟩
      rw [ha]
      exact h
def w_is_scroll : WS :=
  (wSeq (wIfS (wOr (wNot (wB (wUn (fIsi "list") (wVar 0)))) (wNot (wB (wChain fLe fLe (wC (.int 1)) (wUn fLen (wVar 0)) (wC (.int 2000))))))
  (wRet (wC (.bl false)))
  wNext)
  (wRet (wUn fAll (wComp (wbEnum (wVar 0)) (gT 2 (gCons' (gN 0) (gCons' (gN 1) gNil'))) wYes (wCall sp_is_row (wCons (wVar 0) (wCons (wVar 1) wNil))) 2 []))))
def sp_is_scroll : SpD := fun ds Q => ∃ l : List Rw, ds = [.list (l.map rwD)] ∧ ScOk l ∧ 1 ≤ l.length ∧ l.length ≤ 2000 ∧ Q .sh (.bl true)
theorem len_is_scroll (ds Q) (h : sp_is_scroll ds Q) : ds.length = ["thing"].length := by obtain ⟨_, rfl, _⟩ := h; rfl
theorem p_is_scroll : ∀ ds Q, sp_is_scroll ds Q → w_is_scroll { nx := fun _ => Q .sh .non, rt := Q } (startD 1 ds) := by
  rintro ds Q ⟨l, rfl, hs, h1, h2, h⟩
  unfold w_is_scroll
  walk_at "q"
  refine R.F rfl ?_
  walk_at "q"
  refine R.T (decide_eq_true (by omega)) ?_
  walk_at "q"
  refine R.F (by rw [decide_eq_true (by omega)]; rfl) ?_
  walk_at "q"
  refine compL_by (fun _ => true) (fun _ => .bl true) (fun ρ => ∃ o o', ρ = [o, o']) _ _ _ ⟨_, _, rfl⟩ ?_ ?_
  · rintro y hy ρ ⟨o, o', rfl⟩ N1 N2 _ h2
    obtain ⟨i, hi⟩ := List.mem_iff_getElem?.mp hy
    unfold enumD at hi
    rw [List.getElem?_mapIdx, List.getElem?_map] at hi
    cases e : l[i]? with
    | none => rw [e] at hi; cases hi
    | some r =>
      rw [e] at hi
      cases hi
      walk_at "q"
      exact ⟨_, _, rfl, hs i r e, .inl rfl, h2 _ ⟨_, _, rfl⟩ rfl⟩
  · rw [all_yes]
    refine ⟨(enumD (l.map rwD)).map fun _ => true, by rw [List.map_map]; rfl, ?_⟩
    rw [List.all_map, show (enumD (l.map rwD)).all ((fun b => b) ∘ fun _ => true) = true from List.all_eq_true.mpr fun _ _ => rfl]
    exact h
def w_check_scroll : WS :=
  (wIfS (wNot (wB (wCall sp_is_scroll (wCons (wVar 0) wNil))))
  wNever
  wNext)
def sp_check_scroll : SpD := fun ds Q => ∃ l : List Rw, ds = [.list (l.map rwD)] ∧ ScOk l ∧ 1 ≤ l.length ∧ l.length ≤ 2000 ∧ Q .sh .non
theorem len_check_scroll (ds Q) (h : sp_check_scroll ds Q) : ds.length = ["thing"].length := by obtain ⟨_, rfl, _⟩ := h; rfl
theorem p_check_scroll : ∀ ds Q, sp_check_scroll ds Q → w_check_scroll { nx := fun _ => Q .sh .non, rt := Q } (startD 1 ds) := by
  rintro ds Q ⟨l, rfl, hs, h1, h2, h⟩
  unfold w_check_scroll
  walk_at "q"
  refine ⟨l, rfl, hs, h1, h2, ?_⟩
  walk_at "q"
  exact h
def w_depth_of : WS :=
  (wSeq (wDrop (wCall sp_check_scroll (wCons (wVar 0) wNil)))
  (wSeq (wSet 1 (wLst wNil))
  (wSeq (wFrz 0 (wFor (wiList (wVar 0)) (gN 2)
  (wSeq (wSet 3 (wOp fMaxD (wComp (wbList (wCall sp_drawn (wCons (wVar 2) wNil))) (gN 0) wYes (wOp fIx (wVar 1) (wVar 0)) 1 [1]) (wC (.int 0))))
  (wApp (wpN 1) (wIf (wOr (wB (wOp fEq (wOp fIx (wVar 2) (wC (.int 0))) (wC (.str "some")))) (wB (wOp fEq (wOp fIx (wVar 2) (wC (.int 0))) (wC (.str "all"))))) (wOp fAdd (wVar 3) (wC (.int 1))) (wVar 3))))))
  (wRet (wOp fIx (wVar 1) (wUn fNeg (wC (.int 1))))))))
def sp_depth_of : SpD := fun ds Q => ∃ l : List Rw, ds = [.list (l.map rwD)] ∧ ScOk l ∧ 1 ≤ l.length ∧ l.length ≤ 2000 ∧ Q .sh (.int (depth l))
theorem len_depth_of (ds Q) (h : sp_depth_of ds Q) : ds.length = ["scroll"].length := by obtain ⟨_, rfl, _⟩ := h; rfl
theorem p_depth_of : ∀ ds Q, sp_depth_of ds Q → w_depth_of { nx := fun _ => Q .sh .non, rt := Q } (startD 4 ds) := by
  rintro ds Q ⟨l, rfl, hs, h1, h2, h⟩
  unfold w_depth_of
  walk_at "q"
  refine ⟨l, rfl, hs, h1, h2, ?_⟩
  walk_at "q"
  refine forL_by _ (fun i ρ => ∃ o2 o3 : Option Sl, ρ = [some (.sh (.list (l.map rwD))), some (.ow true (.list ((deps (l.take i)).map D.int))), o2, o3]) ⟨_, _, rfl⟩ ?_ ?_
  · rintro i x ρ hx ⟨o2, o3, rfl⟩ N hN
    rw [List.getElem?_map] at hx
    cases e : l[i]? with
    | none => rw [e] at hx; cases hx
    | some r =>
      rw [e] at hx
      cases hx
      have hr := hs i r e
      have hi : i < l.length := (List.getElem?_eq_some_iff.mp e).1
      walk_at "q"
      refine ⟨r, i, rfl, hr, ?_⟩
      walk_at "q"
      have hlen : ((l.take i).length : Int) = i := by rw [List.length_take]; omega
      have hd : ∀ p ∈ drw r, 0 ≤ p ∧ p < i := by
        cases r with
        | st w d j => intro p hp; rw [List.mem_singleton.mp hp]; exact hr.2.2
        | nt j => intro p hp; rw [List.mem_singleton.mp hp]; exact hr
        | jn w ps => exact hr.2.2
      have nn := deps_nn (l.take i)
      have step : deps (l.take (i + 1)) = deps (l.take i) ++ [dep (deps (l.take i)) r] := by
        rw [List.take_add_one, e]
        exact deps_app _ _
      have hlt : (deps (l.take i)).length < 16777216 := by
        rw [deps_len, List.length_take]
        omega
      refine compL_by (fun _ => true) (fun d => match d with
        | .int p => .int ((deps (l.take i)).getD p.toNat 0)
        | d => d) (fun ρ => ∃ o, ρ = [o, some (.sh (.list ((deps (l.take i)).map D.int)))]) _ _ _ ⟨_, rfl⟩ ?_ ?_
      · rintro y hy ρ ⟨o, rfl⟩ N1 N2 _ h2
        obtain ⟨p, hp, rfl⟩ := List.mem_map.mp hy
        walk_at "q"
        refine ⟨_, deps_at (hd p hp).1 (by rw [hlen]; exact (hd p hp).2), ?_⟩
        exact ⟨.inl rfl, h2 _ ⟨_, rfl⟩ rfl⟩
      · rw [all_yes]
        refine ⟨(drw r).map fun p => (deps (l.take i)).getD p.toNat 0, by rw [List.map_map, List.map_map]; rfl, ?_⟩
        rw [mxP_eq (fun n hn => by
          obtain ⟨p, _, rfl⟩ := List.mem_map.mp hn
          exact getD_nn nn _)]
        have one : ∀ x : Int, 0 ≤ x → mxL [x] = x := fun x hx => by
          simp only [mxL, List.foldl_cons, List.foldl_nil]
          split <;> omega
        have fin : ∀ v : Int, v = dep (deps (l.take i)) r → ∀ o2 o3 : Option Sl, N [some (.sh (.list (l.map rwD))), some (.ow true (.list ((deps (l.take i)).map D.int ++ [D.int v]))), o2, o3] := fun v hv o2 o3 => by
          subst hv
          refine hN _ ⟨o2, o3, ?_⟩
          rw [step, List.map_append]; rfl
        cases r with
        | st w d j =>
          rw [show rwD (.st w d j) = .tup [.str w, .str d, .int j] from rfl]
          walk_at "q"
          have ev : mxL ((drw (.st w d j)).map fun p => (deps (l.take i)).getD p.toNat 0) + 1 = dep (deps (l.take i)) (.st w d j) := by
            show mxL [_] + 1 = _
            rw [one _ (getD_nn nn _)]; rfl
          refine R.D (fun e => ?_) fun e => ?_
          · walk_at "q"
            exact ⟨hlt, fin _ ev _ _⟩
          · walk_at "q"
            refine R.T (decide_eq_true (hr.1.resolve_left e)) ?_
            walk_at "q"
            exact ⟨hlt, fin _ ev _ _⟩
        | nt j =>
          rw [show rwD (.nt j) = .tup [.str "not", .int j] from rfl]
          walk_at "q"
          refine R.F (decide_eq_false n_sa.1) ?_
          walk_at "q"
          refine R.F (decide_eq_false n_sa.2) ?_
          walk_at "q"
          exact ⟨hlt, fin _ (one _ (getD_nn nn _)) _ _⟩
        | jn w ps =>
          rw [show rwD (.jn w ps) = .tup [.str w, .tup (ps.map .int)] from rfl]
          walk_at "q"
          refine R.F (decide_eq_false (w_no hr.1).1) ?_
          walk_at "q"
          refine R.F (decide_eq_false (w_no hr.1).2.1) ?_
          walk_at "q"
          exact ⟨hlt, fin _ rfl _ _⟩
  · rintro ρ ⟨o2, o3, rfl⟩
    rw [List.length_map, List.take_length]
    walk_at "q"
    refine ⟨.int (depth l), ?_, h⟩
    have hne : l ≠ [] := by intro z; subst z; simp at h1
    obtain ⟨l', r, rfl⟩ : ∃ l' r, l = l' ++ [r] := ⟨l.dropLast, l.getLast hne, (List.dropLast_concat_getLast hne).symm⟩
    rw [deps_app, depth_app, List.map_append]
    exact atI_last _ _
def w_law_8 : WS :=
  (wSeq (wFor (wiTup (wTup (wCons (wOp fDiv (wVar 3) (wC (.int 8))) (wCons (wOp fDiv (wVar 3) (wC (.int 512))) (wCons (wOp fDiv (wVar 3) (wC (.int 32768))) wNil))))) (gN 4)
  (wSeq (wSet 10 (wOp fAdd (wC (.int 1)) (wOp fMod (wVar 4) (wUn fLen (wVar 2)))))
  (wIfS (wB (wOp fNe (wCall sp_depth_of (wCons (wSl (wVar 2) wNoPart (wPart (wVar 10))) wNil)) (wOp fIx (wVar 7) (wOp fSub (wVar 10) (wC (.int 1))))))
  (wRet (wC (.bl false)))
  wNext)))
  (wSeq (wApp (wpN 8) (wTup (wCons (wC (.str "all")) (wCons (wOp fIx (wVar 1) (wOp fMod (wOp fDiv (wVar 3) (wC (.int 8))) (wC (.int 6)))) (wCons (wOp fMod (wOp fDiv (wVar 3) (wC (.int 48))) (wUn fLen (wVar 2))) wNil)))))
  (wSeq (wIfS (wB (wOp fNe (wCall sp_depth_of (wCons (wVar 8) wNil)) (wOp fAdd (wOp fIx (wVar 7) (wOp fMod (wOp fDiv (wVar 3) (wC (.int 48))) (wUn fLen (wVar 2)))) (wC (.int 1)))))
  (wRet (wC (.bl false)))
  wNext)
  (wRet (wOp fEq (wCall sp_depth_of (wCons (wVar 2) wNil)) (wOp fIx (wVar 7) (wUn fNeg (wC (.int 1)))))))))
def w_law_4 : WS :=
  (wSeq (wSet 7 (wCall sp__law_depths (wCons (wVar 2) wNil)))
  (wSeq (wSet 8 (wUn fList (wVar 2)))
  (wSeq (wSet 9 (wCall sp_depth_of (wCons (wVar 8) wNil)))
  (wSeq (wIfS (wOr (wNot (wB (wUn (fIsi "int") (wVar 9)))) (wOr (wB (wUn (fIsi "bool") (wVar 9))) (wOr (wB (wOp fNe (wVar 9) (wOp fIx (wVar 7) (wUn fNeg (wC (.int 1)))))) (wB (wOp fNe (wVar 8) (wVar 2))))))
  (wRet (wC (.bl false)))
  wNext)
  w_law_8))))
def w_law : WS :=
  (wSeq (wSet 1 (wCall sp__law_deeds (wCons (wCall sp__law_cell_at (wCons (wVar 0) (wCons (wC (.int 1)) wNil))) (wCons (wCall sp__law_cell_at (wCons (wVar 0) (wCons (wC (.int 2)) wNil))) wNil))))
  (wSeq (wSet 2 (wCall sp__law_scroll (wCons (wOp fAdd (wSl (wVar 0) (wPart (wC (.int 4))) (wPart (wC (.int 63)))) (wLst (wCons (wCall sp__law_cell_at (wCons (wVar 0) (wCons (wC (.int 3)) wNil))) wNil))) (wCons (wOp fAdd (wLst (wCons (wC (.str "*")) wNil)) (wVar 1)) wNil))))
  (wSeq (wSet 3 (wCall sp__law_cell_at (wCons (wVar 0) (wCons (wC (.int 0)) wNil))))
  (wSeq (wIfS (wB (wOp fEq (wOp fMod (wVar 3) (wC (.int 8))) (wC (.int 3))))
  (wFor (wiRng1 (wC (.int 60))) (gN 4)
  (wSeq (wSet 5 (wOp fSub (wUn fLen (wVar 2)) (wC (.int 1))))
  (wSeq (wSet 6 (wOp fMod (wOp fMod (wOp fMul (wOp fMul (wOp fAdd (wOp fMod (wOp fDiv (wVar 3) (wC (.int 8))) (wC (.int 1000003))) (wC (.int 3))) (wOp fAdd (wVar 4) (wC (.int 5)))) (wC (.int 48271))) (wC (.int 10007))) (wC (.int 4))))
  (wFrz 5 (wApp (wpN 2) (wOp fIx (wLst (wCons (wTup (wCons (wC (.str "some")) (wCons (wOp fIx (wVar 1) (wOp fMod (wVar 4) (wC (.int 6)))) (wCons (wVar 5) wNil)))) (wCons (wTup (wCons (wC (.str "all")) (wCons (wC (.str "*")) (wCons (wVar 5) wNil)))) (wCons (wTup (wCons (wC (.str "not")) (wCons (wVar 5) wNil))) (wCons (wTup (wCons (wC (.str "some")) (wCons (wC (.str "*")) (wCons (wVar 5) wNil)))) wNil))))) (wVar 6)))))))
  wNext)
  w_law_4))))
abbrev sp_law : SpD := spLaw
theorem len_law (ds Q) (h : sp_law ds Q) : ds.length = ["_law_script"].length := by obtain ⟨_, rfl, _⟩ := h; rfl
theorem cut_ints (l : List Int) (lo hi : Option Int) : cutG (l.map D.int) lo hi = (cutG l lo hi).map D.int := by
  unfold cutG
  rw [List.length_map, List.map_take, List.map_drop]
theorem rw_ok {k : Int} : ∀ {r : Rw} (n : Nat), RwOk k r → okD (n + 2) (rwD r) = true
  | .st w d j, n, h => by
    have h1 := h.2.1.ok
    have h2 : PyData.strOk w = true := by rcases h.1 with rfl | rfl <;> decide +kernel
    simp [rwD, okD, h1, h2]
  | .nt j, n, h => by
    have h2 : PyData.strOk "not" = true := by decide +kernel
    simp [rwD, okD, h2]
  | .jn w ps, n, h => by
    have h2 : PyData.strOk w = true := by rcases h.1 with rfl | rfl <;> decide +kernel
    simp [rwD, okD, h2]
theorem rws_ok {l : List Rw} (h : ScOk l) (n : Nat) : okD (n + 3) (.list (l.map rwD)) = true := by
  simp only [okD, List.all_map, List.all_eq_true]
  intro r hr
  obtain ⟨i, hi⟩ := List.mem_iff_getElem?.mp hr
  exact rw_ok n (h i r hi)
theorem nb_ints : ∀ l : List Int, nbs (l.map D.int) = true
  | [] => rfl
  | x :: l => by simp [nbs, nb_ints l, D.nb]
theorem nb_rws : ∀ l : List Rw, nbs (l.map rwD) = true
  | [] => rfl
  | .st _ _ _ :: l => by simp [nbs, nb_rws l, rwD, D.nb]
  | .nt _ :: l => by simp [nbs, nb_rws l, rwD, D.nb]
  | .jn _ ps :: l => by simp [nbs, nb_rws l, rwD, D.nb, nb_ints]
theorem deps_last {l : List Rw} (h1 : 1 ≤ l.length) : atI ((deps l).map D.int) (-1) = some (.int (depth l)) := by
  have hne : l ≠ [] := by intro z; subst z; simp at h1
  obtain ⟨l', r, rfl⟩ : ∃ l' r, l = l' ++ [r] := ⟨l.dropLast, l.getLast hne, (List.dropLast_concat_getLast hne).symm⟩
  rw [deps_app, depth_app, List.map_append]
  exact atI_last _ _
theorem eqD_self {x : D} (h : x.nb = true) : eqD x x = true := (eqD_iff x x h h).mpr rfl
theorem law8 {Q : Md → D → Prop} {ns : List Int} {pool : List Str} {l : List Rw} {turn : Int} {o4 o5 o6 o9 : Option Sl} (hp : pool.length = 6) (hd : ∀ n ∈ pool, Deed n) (h1 : 1 ≤ l.length) (h2 : l.length ≤ 124) (hs : ScOk l) (h : ∀ m, Q m (.bl true)) :
    w_law_8 { nx := fun _ => Q .sh .non, rt := Q } [some (.sh (.list (ns.map .int))), some (.ow true (.list (pool.map .str))), some (.ow true (.list (l.map rwD))), some (.sh (.int turn)), o4, o5, o6, some (.ow true (.list ((deps l).map .int))), some (.ow true (.list (l.map rwD))), o9, none] := by
  unfold w_law_8
  walk_at "q"
  have t0 := Int.emod_nonneg (turn / 48) (show (l.length : Int) ≠ 0 by omega)
  have t1 := Int.emod_lt_of_pos (turn / 48) (show 0 < (l.length : Int) by omega)
  refine forL_by _ (fun i ρ => ∃ (o4 o10 : Option Sl), ρ = [some (.sh (.list (ns.map .int))), some (.ow true (.list (pool.map .str))), some (.ow true (.list (l.map rwD))), some (.sh (.int turn)), o4, o5, o6, some (.ow true (.list ((deps l).map .int))), some (.ow true (.list (l.map rwD))), o9, o10]) ⟨_, _, rfl⟩ ?_ ?_
  · rintro i x ρ hx ⟨o4, o10, rfl⟩ N hN
    obtain ⟨k, rfl⟩ : ∃ k : Int, x = .int k := by
      match i, hx with
      | 0, hx => exact ⟨_, (Option.some.inj hx).symm⟩
      | 1, hx => exact ⟨_, (Option.some.inj hx).symm⟩
      | 2, hx => exact ⟨_, (Option.some.inj hx).symm⟩
      | n + 3, hx => cases hx
    walk_at "q"
    have k0 := Int.emod_nonneg k (show (l.length : Int) ≠ 0 by omega)
    have k1 := Int.emod_lt_of_pos k (show 0 < (l.length : Int) by omega)
    generalize k % (l.length : Int) = kk at *
    refine ⟨by omega, .inl ⟨flat_rws l, ?_⟩⟩
    have hc : cutG (l.map rwD) none (some (1 + kk)) = (l.take (1 + kk).toNat).map rwD := by
      unfold cutG
      rw [List.length_map, List.map_take]
      simp only [HT.sIx]
      rw [if_neg (by omega), Nat.min_eq_left (by omega)]
      simp
    rw [hc]
    have hn : (l.take (1 + kk).toNat).length = (1 + kk).toNat := by rw [List.length_take]; omega
    refine ⟨_, rfl, hs.take _, by omega, by omega, ?_⟩
    walk_at "q"
    refine ⟨_, deps_at (j := 1 + kk - 1) (by omega) (by omega), ?_⟩
    rw [depth_take (by omega) (by omega), show (1 + kk).toNat - 1 = (1 + kk - 1).toNat by omega]
    walk_at "q"
    exact hN _ ⟨_, _, rfl⟩
  · rintro ρ ⟨o4, o10, rfl⟩
    walk_at "q"
    obtain ⟨n, hn, en⟩ := name_at (names := pool) (i := turn / 8 % 6) (Int.emod_nonneg _ (by decide)) (by rw [hp]; exact Int.emod_lt_of_pos _ (by decide))
    refine ⟨_, en, ?_⟩
    walk_at "q"
    refine ⟨by omega, by omega, ?_⟩
    have e : l.map rwD ++ [.tup [.str "all", .str n, .int (turn / 48 % (l.length : Int))]] = (l ++ [Rw.st "all" n (turn / 48 % (l.length : Int))]).map rwD := rws_app l (.st "all" n (turn / 48 % (l.length : Int)))
    rw [e]
    refine ⟨_, rfl, hs.app ⟨.inr rfl, hd n hn, t0, t1⟩, by simp, by simp; omega, ?_⟩
    walk_at "q"
    refine ⟨by omega, _, deps_at t0 t1, ?_⟩
    walk_at "q"
    rw [depth_app, show dep (deps l) (.st "all" n (turn / 48 % (l.length : Int))) = (deps l).getD (turn / 48 % (l.length : Int)).toNat 0 + 1 from rfl]
    walk_at "q"
    refine ⟨_, rfl, hs, h1, by omega, ?_⟩
    walk_at "q"
    refine ⟨_, deps_last h1, ?_⟩
    walk_at "q"
    exact h _
theorem law4 {Q : Md → D → Prop} {ns : List Int} {pool : List Str} {l : List Rw} {turn : Int} {o4 o5 o6 : Option Sl} (hp : pool.length = 6) (hd : ∀ n ∈ pool, Deed n) (h1 : 1 ≤ l.length) (h2 : l.length ≤ 124) (hs : ScOk l) (h : ∀ m, Q m (.bl true)) :
    w_law_4 { nx := fun _ => Q .sh .non, rt := Q } [some (.sh (.list (ns.map .int))), some (.ow true (.list (pool.map .str))), some (.ow true (.list (l.map rwD))), some (.sh (.int turn)), o4, o5, o6, none, none, none, none] := by
  unfold w_law_4
  walk_at "q"
  refine ⟨l, rfl, hs, by omega, ?_⟩
  walk_at "q"
  refine .inl ⟨flat_rws l, l, rfl, hs, h1, by omega, ?_⟩
  walk_at "q"
  refine R.F rfl ?_
  walk_at "q"
  refine R.F rfl ?_
  walk_at "q"
  refine ⟨_, deps_last h1, ?_⟩
  walk_at "q"
  refine ⟨rws_ok hs 9, rws_ok hs 9, ?_⟩
  rw [eqD_self (by simp [D.nb, nb_rws])]
  walk_at "q"
  exact law8 hp hd h1 h2 hs h
theorem p_law : ∀ ds Q, sp_law ds Q → w_law { nx := fun _ => Q .sh .non, rt := Q } (startD 11 ds) := by
  rintro ds Q ⟨ns, rfl, hl, h⟩
  unfold w_law
  walk_at "q"
  refine ⟨ns, _, rfl, by omega, ?_⟩
  walk_at "q"
  refine ⟨ns, _, rfl, by omega, ?_⟩
  walk_at "q"
  refine ⟨_, _, rfl, fun pool hp hd => ?_⟩
  walk_at "q"
  refine .inl ⟨flat_ints ns, ?_⟩
  refine ⟨ns, _, rfl, by omega, ?_⟩
  walk_at "q"
  rw [cut_ints]
  have hcl := cutG_len ns (some 4) (some 63)
  generalize cutG ns (some 4) (some 63) = cs at hcl ⊢
  refine ⟨by rw [List.length_map]; omega, .inl ⟨flat_ints cs, by omega, .inl ⟨flat_strs pool, ?_⟩⟩⟩
  have hd2 : ∀ n ∈ (("*" : Str) :: pool), Deed n := fun n hn => by
    rcases List.mem_cons.mp hn with rfl | hn
    · exact .inl rfl
    · exact hd n hn
  refine ⟨cs ++ [ns.getD 3 0], "*" :: pool, by rw [← ints_app]; rfl, by simp; omega, by simp, by simp; omega, hd2, fun l hll hs => ?_⟩
  rw [List.length_append, List.length_singleton] at hll
  walk_at "q"
  refine ⟨ns, _, rfl, by omega, ?_⟩
  walk_at "q"
  generalize ns.getD 0 0 = turn
  refine R.D (fun _ => ?_) fun _ => ?_
  · walk_at "q"
    have t0 := Int.emod_nonneg (turn / 8) (show (1000003 : Int) ≠ 0 by decide)
    have t1 := Int.emod_lt_of_pos (turn / 8) (show (0 : Int) < 1000003 by decide)
    refine forL_by _ (fun i ρ => ∃ (l : List Rw) (o4 o5 o6 : Option Sl), (1 ≤ l.length ∧ l.length ≤ 64 + i ∧ ScOk l) ∧ ρ = [some (.sh (.list (ns.map .int))), some (.ow true (.list (pool.map .str))), some (.ow true (.list (l.map rwD))), some (.sh (.int turn)), o4, o5, o6, none, none, none, none]) ⟨l, _, _, _, ⟨by omega, by omega, hs⟩, rfl⟩ ?_ ?_
    · rintro i x ρ hx ⟨l, o4, o5, o6, ⟨g1, g2, g3⟩, rfl⟩ N hN
      obtain ⟨hi, rfl⟩ := ints_at hx
      have hi : i < 60 := hi
      walk_at "q"
      obtain ⟨n, hn, en⟩ := name_at (names := pool) (i := (0 + (i : Int)) % 6) (Int.emod_nonneg _ (by decide)) (by rw [hp]; exact Int.emod_lt_of_pos _ (by decide))
      refine ⟨.inl ⟨by omega, by omega⟩, .inr ⟨by omega, by omega⟩, _, en, ?_⟩
      walk_at "q"
      have v0 := Int.emod_nonneg ((turn / 8 % 1000003 + 3) * (0 + (i : Int) + 5) * 48271 % 10007) (show (4 : Int) ≠ 0 by decide)
      have v1 := Int.emod_lt_of_pos ((turn / 8 % 1000003 + 3) * (0 + (i : Int) + 5) * 48271 % 10007) (show (0 : Int) < 4 by decide)
      generalize (turn / 8 % 1000003 + 3) * (0 + (i : Int) + 5) * 48271 % 10007 % 4 = way at *
      have hw : way = 0 ∨ way = 1 ∨ way = 2 ∨ way = 3 := by omega
      have j0 : (0 : Int) ≤ (l.length : Int) - 1 := by omega
      have j1 : (l.length : Int) - 1 < l.length := by omega
      have fin : ∀ r : Rw, RwOk l.length r → ∀ o4 o5 o6 : Option Sl, N [some (.sh (.list (ns.map .int))), some (.ow true (.list (pool.map .str))), some (.ow true (.list (l.map rwD ++ [rwD r]))), some (.sh (.int turn)), o4, o5, o6, none, none, none, none] := fun r hr o4 o5 o6 => by
        rw [rws_app]
        exact hN _ ⟨l ++ [r], o4, o5, o6, ⟨by simp, by simp; omega, g3.app hr⟩, rfl⟩
      have hz : l.length < 16777216 := by omega
      rcases hw with rfl | rfl | rfl | rfl
      · refine ⟨_, rfl, ?_⟩
        walk_at "q"
        exact ⟨hz, fin (.st "some" n _) ⟨.inl rfl, hd n hn, j0, j1⟩ _ _ _⟩
      · refine ⟨_, rfl, ?_⟩
        walk_at "q"
        exact ⟨hz, fin (.st "all" "*" _) ⟨.inr rfl, .inl rfl, j0, j1⟩ _ _ _⟩
      · refine ⟨_, rfl, ?_⟩
        walk_at "q"
        exact ⟨hz, fin (.nt _) ⟨j0, j1⟩ _ _ _⟩
      · refine ⟨_, rfl, ?_⟩
        walk_at "q"
        exact ⟨hz, fin (.st "some" "*" _) ⟨.inl rfl, .inl rfl, j0, j1⟩ _ _ _⟩
    · rintro ρ ⟨l, o4, o5, o6, ⟨g1, g2, g3⟩, rfl⟩
      rw [ints_len] at g2
      walk_at "q"
      exact law4 hp hd g1 (by omega) g3 h
  · walk_at "q"
    exact law4 hp hd (by omega) (by omega) hs h

end L2.Q.Law

namespace L2.Q.Law
open PySem PySem.Spec PyProof.Rows
def top (i : Nat) : Stmt := PySem.Challenge.pw_kinlook_k21_depths.main.body.getD i (.Pass ⟨0, 0, 0, 0⟩)
abbrev s_is_open : Stmt := top 4
abbrev s_is_deed : Stmt := top 5
abbrev s_is_whole : Stmt := top 10
abbrev s_drawn : Stmt := top 12
abbrev s_is_ahead : Stmt := top 16
abbrev s_are_parts : Stmt := top 17
abbrev s_is_row : Stmt := top 18
abbrev s_is_scroll : Stmt := top 19
abbrev s_check_scroll : Stmt := top 20
abbrev s_depth_of : Stmt := top 21
abbrev s__law_cell_at : Stmt := top 23
abbrev s__law_deeds : Stmt := top 24
abbrev s__law_row : Stmt := top 25
abbrev s__law_scroll : Stmt := top 26
abbrev s__law_depths : Stmt := top 27
abbrev s_law : Stmt := top 28
structure Txt (mg : Str → Option Value) : Prop where
  n_all : mg "all" = none
  n_bool : mg "bool" = none
  n_enumerate : mg "enumerate" = none
  n_int : mg "int" = none
  n_isinstance : mg "isinstance" = none
  n_len : mg "len" = none
  n_list : mg "list" = none
  n_max : mg "max" = none
  n_min : mg "min" = none
  n_range : mg "range" = none
  n_str : mg "str" = none
  n_tuple : mg "tuple" = none
  g_HIDDEN : GlS mg "HIDDEN" "*"
  g_LETTERS : GlS mg "LETTERS" "abcdefghijklmnopqrstuvwxyz"
  g_MOST_LETTERS : GlI mg "MOST_LETTERS" 6
  g_MOST_ROWS : GlI mg "MOST_ROWS" 2000
  g_MOST_PARTS : GlI mg "MOST_PARTS" 200
section
variable {P : Program} {w : World} {K : PySem.W.Frag} {mg : Str → Option Value} {base : Heap}
theorem sc_is_open : FnScope ["thing"] ["thing"] (defScope s_is_open) := ⟨rfl, rfl, rfl, by decide +kernel, rfl, by decide +kernel, by decide +kernel⟩
theorem b_is_open {f : Addr} (T : Txt mg)  (cdv : Value) (A : Around) (outer : List PySem.Env) (s : Shared) (H : Hp) (E : XK) (hr : Room 0 (A.deeper (envOfC "is_open" (defScope s_is_open) s.heap.objs.size f cdv))) :
    QSs (cxOf CX0 P w K mg base ["thing"] "is_open" (defScope s_is_open) f cdv A outer s H E).nox K (defBody s_is_open) w_is_open :=
  have nd := sc_is_open.nd
  have hu : (A.deeper (envOfC "is_open" (defScope s_is_open) s.heap.objs.size f cdv)).units + 64 < cLine := hr.units
  (qss_cons (qs_if (qt_w (qw_or (qt_not (q_tval (q_isi T.n_isinstance (qv 0) (pe_ty T.n_str kb_str)))) (qw_or1 (qt_not (q_tchain op_leU op_leU br_le br_le q_int (q_callB call_lenD2 br_len rfl T.n_len kb_len (qv 0)) (q_gi T.g_MOST_LETTERS))))))
      (qss_one (qs_ret q_bl))
      qss_nil)
      (qss_one (qs_ret (q_callB kAll br_all rfl T.n_all kb_all (q_comp (tn := ["sign"]) (cn := []) (ix := []) rfl (qib_of (qi_str (qv 0))) (CompOk.of (sc := defScope s_is_open) (N := ["thing"]) rfl rfl (by decide +kernel)) (fun _ _ _ _ => (qg_name (i := 0) (show (["sign"] : List Str).Nodup by decide +kernel) rfl (Or.inl rfl) (.inr rfl))) (fun _ _ _ _ => qts_nil) (fun _ _ _ _ => (q_cmp (kIn (K := K) hu) br_in (qv 0) (q_gs T.g_LETTERS) (by rfl))))))))
theorem ok_is_open {f : Addr} {fd : FuncData} (F : Fun K "is_open" "is_open" s_is_open f fd) (T : Txt mg)  : FnOk P w K mg base CX0 1 f fd ["thing"] (liftSp K sp_is_open) :=
  FunQ.ok F sc_is_open len_is_open (b_is_open T ) p_is_open
theorem sc_is_whole : FnScope ["thing"] ["thing"] (defScope s_is_whole) := ⟨rfl, rfl, rfl, by decide +kernel, rfl, by decide +kernel, by decide +kernel⟩
theorem b_is_whole {f : Addr} (T : Txt mg)  (cdv : Value) (A : Around) (outer : List PySem.Env) (s : Shared) (H : Hp) (E : XK) (hr : Room 0 (A.deeper (envOfC "is_whole" (defScope s_is_whole) s.heap.objs.size f cdv))) :
    QSs (cxOf CX0 P w K mg base ["thing"] "is_whole" (defScope s_is_whole) f cdv A outer s H E).nox K (defBody s_is_whole) w_is_whole :=
  have nd := sc_is_whole.nd
  have hu : (A.deeper (envOfC "is_whole" (defScope s_is_whole) s.heap.objs.size f cdv)).units + 64 < cLine := hr.units
  (qss_one (qs_ret (q_and (q_isi T.n_isinstance (qv 0) (pe_ty T.n_int kb_int)) (q_one (q_not (q_isi T.n_isinstance (qv 0) (pe_ty T.n_bool kb_bool)))))))
theorem ok_is_whole {f : Addr} {fd : FuncData} (F : Fun K "is_whole" "is_whole" s_is_whole f fd) (T : Txt mg)  : FnOk P w K mg base CX0 1 f fd ["thing"] (liftSp K sp_is_whole) :=
  FunQ.ok F sc_is_whole len_is_whole (b_is_whole T ) p_is_whole
theorem sc_drawn : FnScope ["row"] ["row"] (defScope s_drawn) := ⟨rfl, rfl, rfl, by decide +kernel, rfl, by decide +kernel, by decide +kernel⟩
theorem b_drawn {f : Addr} (T : Txt mg)  (cdv : Value) (A : Around) (outer : List PySem.Env) (s : Shared) (H : Hp) (E : XK) (hr : Room 0 (A.deeper (envOfC "drawn" (defScope s_drawn) s.heap.objs.size f cdv))) :
    QSs (cxOf CX0 P w K mg base ["row"] "drawn" (defScope s_drawn) f cdv A outer s H E).nox K (defBody s_drawn) w_drawn :=
  have nd := sc_drawn.nd
  have hu : (A.deeper (envOfC "drawn" (defScope s_drawn) s.heap.objs.size f cdv)).units + 64 < cLine := hr.units
  (qss_cons (qs_if (qt_w (qw_or (q_tcmp (kEq (K := K) hu) br_eq (q_ix hu (qv 0) q_int) q_str (nomark _)) (qw_or1 (q_tcmp (kEq (K := K) hu) br_eq (q_ix hu (qv 0) q_int) q_str (nomark _)))))
      (qss_one (qs_ret (q_lst (qa_cons (q_ix hu (qv 0) q_int) qa_nil))))
      qss_nil)
      (qss_cons (qs_if (q_tcmp (kEq (K := K) hu) br_eq (q_ix hu (qv 0) q_int) q_str (nomark _))
      (qss_one (qs_ret (q_lst (qa_cons (q_ix hu (qv 0) q_int) qa_nil))))
      qss_nil)
      (qss_one (qs_ret (q_callTy call_list2 br_list rfl T.n_list kb_list (q_ix hu (qv 0) q_int))))))
theorem ok_drawn {f : Addr} {fd : FuncData} (F : Fun K "drawn" "drawn" s_drawn f fd) (T : Txt mg)  : FnOk P w K mg base CX0 1 f fd ["row"] (liftSp K sp_drawn) :=
  FunQ.ok F sc_drawn len_drawn (b_drawn T ) p_drawn
theorem sc__law_cell_at : FnScope ["_law_script", "_law_k"] ["_law_script", "_law_k"] (defScope s__law_cell_at) := ⟨rfl, rfl, rfl, by decide +kernel, rfl, by decide +kernel, by decide +kernel⟩
theorem b__law_cell_at {f : Addr} (T : Txt mg)  (cdv : Value) (A : Around) (outer : List PySem.Env) (s : Shared) (H : Hp) (E : XK) (hr : Room 0 (A.deeper (envOfC "_law_cell_at" (defScope s__law_cell_at) s.heap.objs.size f cdv))) :
    QSs (cxOf CX0 P w K mg base ["_law_script", "_law_k"] "_law_cell_at" (defScope s__law_cell_at) f cdv A outer s H E).nox K (defBody s__law_cell_at) w__law_cell_at :=
  have nd := sc__law_cell_at.nd
  have hu : (A.deeper (envOfC "_law_cell_at" (defScope s__law_cell_at) s.heap.objs.size f cdv)).units + 64 < cLine := hr.units
  (qss_cons (qs_if (q_tcmp op_ltU br_lt (qv 1) (q_callB call_lenD2 br_len rfl T.n_len kb_len (qv 0)) (nomark _))
      (qss_one (qs_ret (q_ix hu (qv 0) (qv 1))))
      qss_nil)
      (qss_one (qs_ret q_int)))
theorem ok__law_cell_at {f : Addr} {fd : FuncData} (F : Fun K "_law_cell_at" "_law_cell_at" s__law_cell_at f fd) (T : Txt mg)  : FnOk P w K mg base CX0 1 f fd ["_law_script", "_law_k"] (liftSp K sp__law_cell_at) :=
  FunQ.ok F sc__law_cell_at len__law_cell_at (b__law_cell_at T ) p__law_cell_at
theorem sc__law_deeds : FnScope ["_law_cell", "_law_turn", "_law_letters", "_law_size", "_law_places", "_law_k", "_law_word", "_law_at", "_law_found", "_law_sign"] ["_law_cell", "_law_turn"] (defScope s__law_deeds) := ⟨rfl, rfl, rfl, by decide +kernel, rfl, by decide +kernel, by decide +kernel⟩
theorem b__law_deeds {f : Addr} (T : Txt mg)  (cdv : Value) (A : Around) (outer : List PySem.Env) (s : Shared) (H : Hp) (E : XK) (hr : Room 0 (A.deeper (envOfC "_law_deeds" (defScope s__law_deeds) s.heap.objs.size f cdv))) :
    QSs (cxOf CX0 P w K mg base ["_law_cell", "_law_turn", "_law_letters", "_law_size", "_law_places", "_law_k", "_law_word", "_law_at", "_law_found", "_law_sign"] "_law_deeds" (defScope s__law_deeds) f cdv A outer s H E).nox K (defBody s__law_deeds) w__law_deeds :=
  have nd := sc__law_deeds.nd
  have hu : (A.deeper (envOfC "_law_deeds" (defScope s__law_deeds) s.heap.objs.size f cdv)).units + 64 < cLine := hr.units
  (qss_cons (qs_set (i := 2) nd rfl (Or.inr rfl) q_str)
      (qss_cons (qs_set (i := 3) nd rfl (Or.inl rfl) (q_add q_int (q_mod (qv 0) q_int)))
      (qss_cons (qs_set (i := 0) nd rfl (Or.inl rfl) (q_div (qv 0) q_int))
      (qss_cons (qs_set (i := 4) nd rfl (Or.inl rfl) (q_lst qa_nil))
      (qss_cons (qs_for PassesOwn.never rfl (qi_rng1 T.n_range (qv 3)) (qg_name (i := 5) nd rfl (Or.inl rfl))
      (qss_cons (qs_app (qp_name (pv 4)) (q_mod (qv 0) q_int))
      (qss_one (qs_set (i := 0) nd rfl (Or.inl rfl) (q_div (qv 0) q_int)))))
      (qss_cons (qs_set (i := 6) nd rfl (Or.inr rfl) (q_join q_str (q_comp (tn := ["_law_k"]) (cn := ["_law_letters"]) (ix := [2]) rfl (qb_list (qv 4)) (CompOk.of (sc := defScope s__law_deeds) (N := ["_law_cell", "_law_turn", "_law_letters", "_law_size", "_law_places", "_law_k", "_law_word", "_law_at", "_law_found", "_law_sign"]) rfl rfl (by decide +kernel)) (fun _ _ _ _ => (qg_name (i := 0) (show (["_law_k", "_law_letters"] : List Str).Nodup by decide +kernel) rfl (Or.inl rfl) (.inr rfl))) (fun _ _ _ _ => qts_nil) (fun _ _ _ _ => (q_ix hu (qv 1) (qv 0))))))
      (qss_cons (qs_if (q_tcmp (kEq (K := K) hu) br_eq (q_mod (q_div (qv 1) q_int) q_int) q_int (nomark _))
      (qss_one (qs_ret (q_comp (tn := ["_law_k"]) (cn := ["_law_word"]) (ix := [6]) rfl (qib_of (qi_rng2 T.n_range q_int q_int)) (CompOk.of (sc := defScope s__law_deeds) (N := ["_law_cell", "_law_turn", "_law_letters", "_law_size", "_law_places", "_law_k", "_law_word", "_law_at", "_law_found", "_law_sign"]) rfl rfl (by decide +kernel)) (fun _ _ _ _ => (qg_name (i := 0) (show (["_law_k", "_law_word"] : List Str).Nodup by decide +kernel) rfl (Or.inl rfl) (.inr rfl))) (fun _ _ _ _ => qts_nil) (fun _ _ _ _ => (q_slice (q_mulS q_int (qv 1)) qo_none (qo_some (qv 0)))))))
      qss_nil)
      (qss_cons (qs_set (i := 7) nd rfl (Or.inl rfl) (q_mod (qv 1) (qv 3)))
      (qss_cons (qs_set (i := 8) nd rfl (Or.inl rfl) (q_lst qa_nil))
      (qss_cons (qs_for PassesOwn.never rfl (qi_rng1 T.n_range q_int) (qg_name (i := 5) nd rfl (Or.inl rfl))
      (qss_cons (qs_set (i := 9) nd rfl (Or.inl rfl) (q_ix hu (qv 2) (q_mod (q_add (q_ix hu (qv 4) (qv 7)) (q_mul q_int (qv 5))) q_int)))
      (qss_one (qs_app (qp_name (pv 8)) (q_add (q_add (q_slice (qv 6) qo_none (qo_some (qv 7))) (qv 9)) (q_slice (qv 6) (qo_some (q_add (qv 7) q_int)) qo_none))))))
      (qss_one (qs_retV (pv 8)))))))))))))
theorem ok__law_deeds {f : Addr} {fd : FuncData} (F : Fun K "_law_deeds" "_law_deeds" s__law_deeds f fd) (T : Txt mg)  : FnOk P w K mg base CX0 1 f fd ["_law_cell", "_law_turn"] (liftSp K sp__law_deeds) :=
  FunQ.ok F sc__law_deeds len__law_deeds (b__law_deeds T ) p__law_deeds
theorem sc__law_row : FnScope ["_law_cell", "_law_k", "_law_names", "_law_number", "_law_more", "_law_j", "_law_way", "_law_parts", "_law_i"] ["_law_cell", "_law_k", "_law_names"] (defScope s__law_row) := ⟨rfl, rfl, rfl, by decide +kernel, rfl, by decide +kernel, by decide +kernel⟩
theorem b__law_row {f : Addr} (T : Txt mg)  (cdv : Value) (A : Around) (outer : List PySem.Env) (s : Shared) (H : Hp) (E : XK) (hr : Room 0 (A.deeper (envOfC "_law_row" (defScope s__law_row) s.heap.objs.size f cdv))) :
    QSs (cxOf CX0 P w K mg base ["_law_cell", "_law_k", "_law_names", "_law_number", "_law_more", "_law_j", "_law_way", "_law_parts", "_law_i"] "_law_row" (defScope s__law_row) f cdv A outer s H E).nox K (defBody s__law_row) w__law_row :=
  have nd := sc__law_row.nd
  have hu : (A.deeper (envOfC "_law_row" (defScope s__law_row) s.heap.objs.size f cdv)).units + 64 < cLine := hr.units
  (qss_cons (qs_set (i := 3) nd rfl (Or.inl rfl) (q_mod (q_mul (q_add (q_mod (qv 0) q_int) q_int) (q_add q_int (q_mul q_int (qv 1)))) q_int))
      (qss_cons (qs_set (i := 4) nd rfl (Or.inl rfl) (q_mod (q_mul (qv 3) q_int) q_int))
      (qss_cons (qs_if (q_tcmp (kEq (K := K) hu) br_eq (qv 1) q_int (nomark _))
      (qss_one (qs_ret (q_ix hu (q_lst (qa_cons (q_tup (qa_cons q_str (qa_cons (q_tup qa_nil) qa_nil))) (qa_cons (q_tup (qa_cons q_str (qa_cons (q_tup qa_nil) qa_nil))) qa_nil))) (q_mod (qv 3) q_int))))
      qss_nil)
      (qss_cons (qs_set (i := 5) nd rfl (Or.inl rfl) (q_mod (qv 4) (qv 1)))
      (qss_cons (qs_if (q_tcmp (kEq (K := K) hu) br_eq (q_mod (q_div (qv 3) q_int) q_int) q_int (nomark _))
      (qss_one (qs_set (i := 5) nd rfl (Or.inl rfl) (q_sub (q_sub (qv 1) q_int) (q_mod (qv 4) (q_call2 k_min2 br_min2 rfl T.n_min kb_min (qv 1) q_int)))))
      qss_nil)
      (qss_cons (qs_set (i := 6) nd rfl (Or.inl rfl) (q_mod (qv 3) q_int))
      (qss_cons (qs_if (q_tcmp op_ltU br_lt (qv 6) q_int (nomark _))
      (qss_one (qs_retT (qm_e (q_ix hu (q_lst (qa_cons q_str (qa_cons q_str qa_nil))) (q_div (qv 6) q_int)) (qm_e (q_ix hu (qv 2) (q_mod (q_div (qv 3) q_int) (q_callB call_lenD2 br_len rfl T.n_len kb_len (qv 2)))) (qm_v (pv 5) qm_nil)))))
      qss_nil)
      (qss_cons (qs_if (q_tcmp (kEq (K := K) hu) br_eq (qv 6) q_int (nomark _))
      (qss_one (qs_retT (qm_e q_str (qm_v (pv 5) qm_nil))))
      qss_nil)
      (qss_cons (qs_set (i := 7) nd rfl (Or.inl rfl) (q_lst qa_nil))
      (qss_cons (qs_for PassesOwn.never rfl (qi_rng1 T.n_range (q_mod (q_div (qv 3) q_int) q_int)) (qg_name (i := 8) nd rfl (Or.inl rfl))
      (qss_cons (qs_frz 5 (qs_app (qp_name (pv 7)) (qv 5)))
      (qss_one (qs_set (i := 5) nd rfl (Or.inl rfl) (q_mod (q_add (q_mul q_int (qv 5)) (q_div (qv 4) (q_add (qv 8) q_int))) (qv 1))))))
      (qss_one (qs_ret (q_tup (qa_cons (q_ix hu (q_lst (qa_cons q_str (qa_cons q_str qa_nil))) (q_sub (qv 6) q_int)) (qa_cons (q_callTy kTuple br_tuple rfl T.n_tuple kb_tuple (qv 7)) qa_nil)))))))))))))))
theorem ok__law_row {f : Addr} {fd : FuncData} (F : Fun K "_law_row" "_law_row" s__law_row f fd) (T : Txt mg)  : FnOk P w K mg base CX0 1 f fd ["_law_cell", "_law_k", "_law_names"] (liftSp K sp__law_row) :=
  FunQ.ok F sc__law_row len__law_row (b__law_row T ) p__law_row
theorem sc__law_depths : FnScope ["_law_scroll_here", "_law_found", "_law_row_here", "_law_most", "_law_j"] ["_law_scroll_here"] (defScope s__law_depths) := ⟨rfl, rfl, rfl, by decide +kernel, rfl, by decide +kernel, by decide +kernel⟩
theorem b__law_depths {f : Addr} (T : Txt mg)  (cdv : Value) (A : Around) (outer : List PySem.Env) (s : Shared) (H : Hp) (E : XK) (hr : Room 0 (A.deeper (envOfC "_law_depths" (defScope s__law_depths) s.heap.objs.size f cdv))) :
    QSs (cxOf CX0 P w K mg base ["_law_scroll_here", "_law_found", "_law_row_here", "_law_most", "_law_j"] "_law_depths" (defScope s__law_depths) f cdv A outer s H E).nox K (defBody s__law_depths) w__law_depths :=
  have nd := sc__law_depths.nd
  have hu : (A.deeper (envOfC "_law_depths" (defScope s__law_depths) s.heap.objs.size f cdv)).units + 64 < cLine := hr.units
  (qss_cons (qs_set (i := 1) nd rfl (Or.inl rfl) (q_lst qa_nil))
      (qss_cons (qs_frz 0 (qs_for PassesOwn.never rfl (qi_list (qv 0)) (qg_name (i := 2) nd rfl (Or.inl rfl))
      (qss_one (qs_if (q_tcmp (kIn (K := K) hu) br_in (q_ix hu (qv 2) q_int) (q_tup (qa_cons q_str (qa_cons q_str qa_nil))) (by rfl))
      (qss_one (qs_app (qp_name (pv 1)) (q_add (q_ix hu (qv 1) (q_ix hu (qv 2) q_int)) q_int)))
      (qss_one (qs_if (q_tcmp (kEq (K := K) hu) br_eq (q_ix hu (qv 2) q_int) q_str (nomark _))
      (qss_one (qs_app (qp_name (pv 1)) (q_ix hu (qv 1) (q_ix hu (qv 2) q_int))))
      (qss_cons (qs_set (i := 3) nd rfl (Or.inl rfl) q_int)
      (qss_cons (qs_frz 2 (qs_for PassesOwn.never rfl (qi_tup (q_ix hu (qv 2) q_int)) (qg_name (i := 4) nd rfl (Or.inl rfl))
      (qss_one (qs_set (i := 3) nd rfl (Or.inl rfl) (q_call2 k_max2 br_max2 rfl T.n_max kb_max (qv 3) (q_ix hu (qv 1) (qv 4)))))))
      (qss_one (qs_frz 3 (qs_app (qp_name (pv 1)) (qv 3))))))))))))
      (qss_one (qs_retV (pv 1)))))
theorem ok__law_depths {f : Addr} {fd : FuncData} (F : Fun K "_law_depths" "_law_depths" s__law_depths f fd) (T : Txt mg)  : FnOk P w K mg base CX0 1 f fd ["_law_scroll_here"] (liftSp K sp__law_depths) :=
  FunQ.ok F sc__law_depths len__law_depths (b__law_depths T ) p__law_depths
theorem sc_is_deed : FnScope ["thing"] ["thing"] (defScope s_is_deed) := ⟨rfl, rfl, rfl, by decide +kernel, rfl, by decide +kernel, by decide +kernel⟩
theorem b_is_deed {f : Addr} (T : Txt mg) (c_is_open : Cal P w K mg base 1 "is_open" ["thing"] (liftSp K sp_is_open)) (cdv : Value) (A : Around) (outer : List PySem.Env) (s : Shared) (H : Hp) (E : XK) (hr : Room 1 (A.deeper (envOfC "is_deed" (defScope s_is_deed) s.heap.objs.size f cdv))) :
    QSs (cxOf CX0 P w K mg base ["thing"] "is_deed" (defScope s_is_deed) f cdv A outer s H E).nox K (defBody s_is_deed) w_is_deed :=
  have nd := sc_is_deed.nd
  have hu : (A.deeper (envOfC "is_deed" (defScope s_is_deed) s.heap.objs.size f cdv)).units + 64 < cLine := hr.units
  (qss_one (qs_ret (q_or (q_own c_is_open (hr.mono (by decide)) (qa_cons (qv 0) qa_nil)) (q_one (q_and (q_isi T.n_isinstance (qv 0) (pe_ty T.n_str kb_str)) (q_one (q_cmp (kEq (K := K) hu) br_eq (qv 0) (q_gs T.g_HIDDEN) (nomark _))))))))
theorem ok_is_deed {f : Addr} {fd : FuncData} (F : Fun K "is_deed" "is_deed" s_is_deed f fd) (T : Txt mg) (c_is_open : Cal P w K mg base 1 "is_open" ["thing"] (liftSp K sp_is_open)) : FnOk P w K mg base CX0 2 f fd ["thing"] (liftSp K sp_is_deed) :=
  FunQ.ok F sc_is_deed len_is_deed (b_is_deed T c_is_open) p_is_deed
theorem sc_is_ahead : FnScope ["k", "thing"] ["k", "thing"] (defScope s_is_ahead) := ⟨rfl, rfl, rfl, by decide +kernel, rfl, by decide +kernel, by decide +kernel⟩
theorem b_is_ahead {f : Addr} (T : Txt mg) (c_is_whole : Cal P w K mg base 1 "is_whole" ["thing"] (liftSp K sp_is_whole)) (cdv : Value) (A : Around) (outer : List PySem.Env) (s : Shared) (H : Hp) (E : XK) (hr : Room 1 (A.deeper (envOfC "is_ahead" (defScope s_is_ahead) s.heap.objs.size f cdv))) :
    QSs (cxOf CX0 P w K mg base ["k", "thing"] "is_ahead" (defScope s_is_ahead) f cdv A outer s H E).nox K (defBody s_is_ahead) w_is_ahead :=
  have nd := sc_is_ahead.nd
  have hu : (A.deeper (envOfC "is_ahead" (defScope s_is_ahead) s.heap.objs.size f cdv)).units + 64 < cLine := hr.units
  (qss_one (qs_ret (q_and (q_own c_is_whole (hr.mono (by decide)) (qa_cons (qv 1) qa_nil)) (q_one (q_chain op_leU op_ltU br_le br_lt q_int (qv 1) (qv 0))))))
theorem ok_is_ahead {f : Addr} {fd : FuncData} (F : Fun K "is_ahead" "is_ahead" s_is_ahead f fd) (T : Txt mg) (c_is_whole : Cal P w K mg base 1 "is_whole" ["thing"] (liftSp K sp_is_whole)) : FnOk P w K mg base CX0 2 f fd ["k", "thing"] (liftSp K sp_is_ahead) :=
  FunQ.ok F sc_is_ahead len_is_ahead (b_is_ahead T c_is_whole) p_is_ahead
theorem sc__law_scroll : FnScope ["_law_cells", "_law_names"] ["_law_cells", "_law_names"] (defScope s__law_scroll) := ⟨rfl, rfl, rfl, by decide +kernel, rfl, by decide +kernel, by decide +kernel⟩
theorem b__law_scroll {f : Addr} (T : Txt mg) (c__law_row : Cal P w K mg base 1 "_law_row" ["_law_cell", "_law_k", "_law_names"] (liftSp K sp__law_row)) (cdv : Value) (A : Around) (outer : List PySem.Env) (s : Shared) (H : Hp) (E : XK) (hr : Room 1 (A.deeper (envOfC "_law_scroll" (defScope s__law_scroll) s.heap.objs.size f cdv))) :
    QSs (cxOf CX0 P w K mg base ["_law_cells", "_law_names"] "_law_scroll" (defScope s__law_scroll) f cdv A outer s H E).nox K (defBody s__law_scroll) w__law_scroll :=
  have nd := sc__law_scroll.nd
  have hu : (A.deeper (envOfC "_law_scroll" (defScope s__law_scroll) s.heap.objs.size f cdv)).units + 64 < cLine := hr.units
  (qss_one (qs_ret (q_comp (tn := ["_law_k"]) (cn := ["_law_cells", "_law_names"]) (ix := [0, 1]) rfl (qib_of (qi_rng1 T.n_range (q_callB call_lenD2 br_len rfl T.n_len kb_len (qv 0)))) (CompOk.of (sc := defScope s__law_scroll) (N := ["_law_cells", "_law_names"]) rfl rfl (by decide +kernel)) (fun _ _ _ _ => (qg_name (i := 0) (show (["_law_k", "_law_cells", "_law_names"] : List Str).Nodup by decide +kernel) rfl (Or.inl rfl) (.inr rfl))) (fun _ _ _ _ => qts_nil) (fun _ _ _ _ => (q_own c__law_row (hr.mono (by decide)) (qa_cons (q_ix hu (qv 1) (qv 0)) (qa_cons (qv 0) (qa_cons (qv 2) qa_nil))))))))
theorem ok__law_scroll {f : Addr} {fd : FuncData} (F : Fun K "_law_scroll" "_law_scroll" s__law_scroll f fd) (T : Txt mg) (c__law_row : Cal P w K mg base 1 "_law_row" ["_law_cell", "_law_k", "_law_names"] (liftSp K sp__law_row)) : FnOk P w K mg base CX0 2 f fd ["_law_cells", "_law_names"] (liftSp K sp__law_scroll) :=
  FunQ.ok F sc__law_scroll len__law_scroll (b__law_scroll T c__law_row) p__law_scroll
theorem sc_are_parts : FnScope ["k", "thing"] ["k", "thing"] (defScope s_are_parts) := ⟨rfl, rfl, rfl, by decide +kernel, rfl, by decide +kernel, by decide +kernel⟩
theorem b_are_parts {f : Addr} (T : Txt mg) (c_is_ahead : Cal P w K mg base 2 "is_ahead" ["k", "thing"] (liftSp K sp_is_ahead)) (cdv : Value) (A : Around) (outer : List PySem.Env) (s : Shared) (H : Hp) (E : XK) (hr : Room 2 (A.deeper (envOfC "are_parts" (defScope s_are_parts) s.heap.objs.size f cdv))) :
    QSs (cxOf CX0 P w K mg base ["k", "thing"] "are_parts" (defScope s_are_parts) f cdv A outer s H E).nox K (defBody s_are_parts) w_are_parts :=
  have nd := sc_are_parts.nd
  have hu : (A.deeper (envOfC "are_parts" (defScope s_are_parts) s.heap.objs.size f cdv)).units + 64 < cLine := hr.units
  (qss_cons (qs_if (qt_w (qw_or (qt_not (q_tval (q_isi T.n_isinstance (qv 1) (pe_ty T.n_tuple kb_tuple)))) (qw_or1 (q_tcmp op_gtU br_gt (q_callB call_lenD2 br_len rfl T.n_len kb_len (qv 1)) (q_gi T.g_MOST_PARTS) (nomark _)))))
      (qss_one (qs_ret q_bl))
      qss_nil)
      (qss_one (qs_ret (q_callB kAll br_all rfl T.n_all kb_all (q_comp (tn := ["part"]) (cn := ["k"]) (ix := [0]) rfl (qb_tup (qv 1)) (CompOk.of (sc := defScope s_are_parts) (N := ["k", "thing"]) rfl rfl (by decide +kernel)) (fun _ _ _ _ => (qg_name (i := 0) (show (["part", "k"] : List Str).Nodup by decide +kernel) rfl (Or.inl rfl) (.inr rfl))) (fun _ _ _ _ => qts_nil) (fun _ _ _ _ => (q_own c_is_ahead (hr.mono (by decide)) (qa_cons (qv 1) (qa_cons (qv 0) qa_nil)))))))))
theorem ok_are_parts {f : Addr} {fd : FuncData} (F : Fun K "are_parts" "are_parts" s_are_parts f fd) (T : Txt mg) (c_is_ahead : Cal P w K mg base 2 "is_ahead" ["k", "thing"] (liftSp K sp_is_ahead)) : FnOk P w K mg base CX0 3 f fd ["k", "thing"] (liftSp K sp_are_parts) :=
  FunQ.ok F sc_are_parts len_are_parts (b_are_parts T c_is_ahead) p_are_parts
theorem sc_is_row : FnScope ["k", "thing"] ["k", "thing"] (defScope s_is_row) := ⟨rfl, rfl, rfl, by decide +kernel, rfl, by decide +kernel, by decide +kernel⟩
theorem b_is_row {f : Addr} (T : Txt mg) (c_is_deed : Cal P w K mg base 2 "is_deed" ["thing"] (liftSp K sp_is_deed)) (c_is_ahead : Cal P w K mg base 2 "is_ahead" ["k", "thing"] (liftSp K sp_is_ahead)) (c_are_parts : Cal P w K mg base 3 "are_parts" ["k", "thing"] (liftSp K sp_are_parts)) (cdv : Value) (A : Around) (outer : List PySem.Env) (s : Shared) (H : Hp) (E : XK) (hr : Room 3 (A.deeper (envOfC "is_row" (defScope s_is_row) s.heap.objs.size f cdv))) :
    QSs (cxOf CX0 P w K mg base ["k", "thing"] "is_row" (defScope s_is_row) f cdv A outer s H E).nox K (defBody s_is_row) w_is_row :=
  have nd := sc_is_row.nd
  have hu : (A.deeper (envOfC "is_row" (defScope s_is_row) s.heap.objs.size f cdv)).units + 64 < cLine := hr.units
  (qss_cons (qs_if (qt_w (qw_or (qt_not (q_tval (q_isi T.n_isinstance (qv 1) (pe_ty T.n_tuple kb_tuple)))) (qw_or (q_tcmp (kEq (K := K) hu) br_eq (q_callB call_lenD2 br_len rfl T.n_len kb_len (qv 1)) q_int (nomark _)) (qw_or1 (qt_not (q_tval (q_isi T.n_isinstance (q_ix hu (qv 1) q_int) (pe_ty T.n_str kb_str))))))))
      (qss_one (qs_ret q_bl))
      qss_nil)
      (qss_cons (qs_if (qt_w (qw_or (q_tcmp (kEq (K := K) hu) br_eq (q_ix hu (qv 1) q_int) q_str (nomark _)) (qw_or1 (q_tcmp (kEq (K := K) hu) br_eq (q_ix hu (qv 1) q_int) q_str (nomark _)))))
      (qss_one (qs_ret (q_and (q_cmp (kEq (K := K) hu) br_eq (q_callB call_lenD2 br_len rfl T.n_len kb_len (qv 1)) q_int (nomark _)) (q_and (q_own c_is_deed (hr.mono (by decide)) (qa_cons (q_ix hu (qv 1) q_int) qa_nil)) (q_one (q_own c_is_ahead (hr.mono (by decide)) (qa_cons (qv 0) (qa_cons (q_ix hu (qv 1) q_int) qa_nil))))))))
      qss_nil)
      (qss_cons (qs_if (q_tcmp (kEq (K := K) hu) br_eq (q_ix hu (qv 1) q_int) q_str (nomark _))
      (qss_one (qs_ret (q_and (q_cmp (kEq (K := K) hu) br_eq (q_callB call_lenD2 br_len rfl T.n_len kb_len (qv 1)) q_int (nomark _)) (q_one (q_own c_is_ahead (hr.mono (by decide)) (qa_cons (qv 0) (qa_cons (q_ix hu (qv 1) q_int) qa_nil)))))))
      qss_nil)
      (qss_cons (qs_if (qt_w (qw_or (q_tcmp (kEq (K := K) hu) br_eq (q_ix hu (qv 1) q_int) q_str (nomark _)) (qw_or1 (q_tcmp (kEq (K := K) hu) br_eq (q_ix hu (qv 1) q_int) q_str (nomark _)))))
      (qss_one (qs_ret (q_and (q_cmp (kEq (K := K) hu) br_eq (q_callB call_lenD2 br_len rfl T.n_len kb_len (qv 1)) q_int (nomark _)) (q_one (q_own c_are_parts (hr.mono (by decide)) (qa_cons (qv 0) (qa_cons (q_ix hu (qv 1) q_int) qa_nil)))))))
      qss_nil)
      (qss_one (qs_ret q_bl))))))
theorem ok_is_row {f : Addr} {fd : FuncData} (F : Fun K "is_row" "is_row" s_is_row f fd) (T : Txt mg) (c_is_deed : Cal P w K mg base 2 "is_deed" ["thing"] (liftSp K sp_is_deed)) (c_is_ahead : Cal P w K mg base 2 "is_ahead" ["k", "thing"] (liftSp K sp_is_ahead)) (c_are_parts : Cal P w K mg base 3 "are_parts" ["k", "thing"] (liftSp K sp_are_parts)) : FnOk P w K mg base CX0 4 f fd ["k", "thing"] (liftSp K sp_is_row) :=
  FunQ.ok F sc_is_row len_is_row (b_is_row T c_is_deed c_is_ahead c_are_parts) p_is_row
theorem sc_is_scroll : FnScope ["thing"] ["thing"] (defScope s_is_scroll) := ⟨rfl, rfl, rfl, by decide +kernel, rfl, by decide +kernel, by decide +kernel⟩
theorem b_is_scroll {f : Addr} (T : Txt mg) (c_is_row : Cal P w K mg base 4 "is_row" ["k", "thing"] (liftSp K sp_is_row)) (cdv : Value) (A : Around) (outer : List PySem.Env) (s : Shared) (H : Hp) (E : XK) (hr : Room 4 (A.deeper (envOfC "is_scroll" (defScope s_is_scroll) s.heap.objs.size f cdv))) :
    QSs (cxOf CX0 P w K mg base ["thing"] "is_scroll" (defScope s_is_scroll) f cdv A outer s H E).nox K (defBody s_is_scroll) w_is_scroll :=
  have nd := sc_is_scroll.nd
  have hu : (A.deeper (envOfC "is_scroll" (defScope s_is_scroll) s.heap.objs.size f cdv)).units + 64 < cLine := hr.units
  (qss_cons (qs_if (qt_w (qw_or (qt_not (q_tval (q_isi T.n_isinstance (qv 0) (pe_ty T.n_list kb_list)))) (qw_or1 (qt_not (q_tchain op_leU op_leU br_le br_le q_int (q_callB call_lenD2 br_len rfl T.n_len kb_len (qv 0)) (q_gi T.g_MOST_ROWS))))))
      (qss_one (qs_ret q_bl))
      qss_nil)
      (qss_one (qs_ret (q_callB kAll br_all rfl T.n_all kb_all (q_comp (tn := ["k", "row"]) (cn := []) (ix := []) rfl (qb_enum T.n_enumerate (qv 0)) (CompOk.of (sc := defScope s_is_scroll) (N := ["thing"]) rfl rfl (by decide +kernel)) (fun _ _ _ _ => (qg_tup rfl (qgs_cons (qg_name (i := 0) (show (["k", "row"] : List Str).Nodup by decide +kernel) rfl (Or.inl rfl) (.inr rfl)) (qgs_cons (qg_name (i := 1) (show (["k", "row"] : List Str).Nodup by decide +kernel) rfl (Or.inl rfl) (.inr rfl)) qgs_nil)))) (fun _ _ _ _ => qts_nil) (fun _ _ _ _ => (q_own c_is_row (hr.mono (by decide)) (qa_cons (qv 0) (qa_cons (qv 1) qa_nil)))))))))
theorem ok_is_scroll {f : Addr} {fd : FuncData} (F : Fun K "is_scroll" "is_scroll" s_is_scroll f fd) (T : Txt mg) (c_is_row : Cal P w K mg base 4 "is_row" ["k", "thing"] (liftSp K sp_is_row)) : FnOk P w K mg base CX0 5 f fd ["thing"] (liftSp K sp_is_scroll) :=
  FunQ.ok F sc_is_scroll len_is_scroll (b_is_scroll T c_is_row) p_is_scroll
theorem sc_check_scroll : FnScope ["thing"] ["thing"] (defScope s_check_scroll) := ⟨rfl, rfl, rfl, by decide +kernel, rfl, by decide +kernel, by decide +kernel⟩
theorem b_check_scroll {f : Addr} (T : Txt mg) (c_is_scroll : Cal P w K mg base 5 "is_scroll" ["thing"] (liftSp K sp_is_scroll)) (cdv : Value) (A : Around) (outer : List PySem.Env) (s : Shared) (H : Hp) (E : XK) (hr : Room 5 (A.deeper (envOfC "check_scroll" (defScope s_check_scroll) s.heap.objs.size f cdv))) :
    QSs (cxOf CX0 P w K mg base ["thing"] "check_scroll" (defScope s_check_scroll) f cdv A outer s H E).nox K (defBody s_check_scroll) w_check_scroll :=
  have nd := sc_check_scroll.nd
  have hu : (A.deeper (envOfC "check_scroll" (defScope s_check_scroll) s.heap.objs.size f cdv)).units + 64 < cLine := hr.units
  (qss_one (qs_if (qt_not (q_tval (q_own c_is_scroll (hr.mono (by decide)) (qa_cons (qv 0) qa_nil))))
      qss_never
      qss_nil))
theorem ok_check_scroll {f : Addr} {fd : FuncData} (F : Fun K "check_scroll" "check_scroll" s_check_scroll f fd) (T : Txt mg) (c_is_scroll : Cal P w K mg base 5 "is_scroll" ["thing"] (liftSp K sp_is_scroll)) : FnOk P w K mg base CX0 6 f fd ["thing"] (liftSp K sp_check_scroll) :=
  FunQ.ok F sc_check_scroll len_check_scroll (b_check_scroll T c_is_scroll) p_check_scroll
theorem sc_depth_of : FnScope ["scroll", "depths", "row", "deepest"] ["scroll"] (defScope s_depth_of) := ⟨rfl, rfl, rfl, by decide +kernel, rfl, by decide +kernel, by decide +kernel⟩
theorem b_depth_of {f : Addr} (T : Txt mg) (c_check_scroll : Cal P w K mg base 6 "check_scroll" ["thing"] (liftSp K sp_check_scroll)) (c_drawn : Cal P w K mg base 1 "drawn" ["row"] (liftSp K sp_drawn)) (cdv : Value) (A : Around) (outer : List PySem.Env) (s : Shared) (H : Hp) (E : XK) (hr : Room 6 (A.deeper (envOfC "depth_of" (defScope s_depth_of) s.heap.objs.size f cdv))) :
    QSs (cxOf CX0 P w K mg base ["scroll", "depths", "row", "deepest"] "depth_of" (defScope s_depth_of) f cdv A outer s H E).nox K (defBody s_depth_of) w_depth_of :=
  have nd := sc_depth_of.nd
  have hu : (A.deeper (envOfC "depth_of" (defScope s_depth_of) s.heap.objs.size f cdv)).units + 64 < cLine := hr.units
  (qss_cons (qs_drop (q_own c_check_scroll (hr.mono (by decide)) (qa_cons (qv 0) qa_nil)))
      (qss_cons (qs_set (i := 1) nd rfl (Or.inr rfl) (q_lst qa_nil))
      (qss_cons (qs_frz 0 (qs_for PassesOwn.never rfl (qi_list (qv 0)) (qg_name (i := 2) nd rfl (Or.inl rfl))
      (qss_cons (qs_set (i := 3) nd rfl (Or.inl rfl) (q_maxD rfl T.n_max (q_comp (tn := ["part"]) (cn := ["depths"]) (ix := [1]) rfl (qb_list (q_own c_drawn (hr.mono (by decide)) (qa_cons (qv 2) qa_nil))) (CompOk.of (sc := defScope s_depth_of) (N := ["scroll", "depths", "row", "deepest"]) rfl rfl (by decide +kernel)) (fun _ _ _ _ => (qg_name (i := 0) (show (["part", "depths"] : List Str).Nodup by decide +kernel) rfl (Or.inl rfl) (.inr rfl))) (fun _ _ _ _ => qts_nil) (fun _ _ _ _ => (q_ix hu (qv 1) (qv 0)))) q_int))
      (qss_one (qs_app (qp_name (pv 1)) (q_if (qt_w (qw_or (q_tcmp (kEq (K := K) hu) br_eq (q_ix hu (qv 2) q_int) q_str (nomark _)) (qw_or1 (q_tcmp (kEq (K := K) hu) br_eq (q_ix hu (qv 2) q_int) q_str (nomark _))))) (q_add (qv 3) q_int) (qv 3)))))))
      (qss_one (qs_ret (q_ix hu (qv 1) (q_neg q_int)))))))
theorem ok_depth_of {f : Addr} {fd : FuncData} (F : Fun K "depth_of" "depth_of" s_depth_of f fd) (T : Txt mg) (c_check_scroll : Cal P w K mg base 6 "check_scroll" ["thing"] (liftSp K sp_check_scroll)) (c_drawn : Cal P w K mg base 1 "drawn" ["row"] (liftSp K sp_drawn)) : FnOk P w K mg base CX0 7 f fd ["scroll"] (liftSp K sp_depth_of) :=
  FunQ.ok F sc_depth_of len_depth_of (b_depth_of T c_check_scroll c_drawn) p_depth_of
theorem sc_law : FnScope ["_law_script", "_law_pool", "_law_scroll_here", "_law_turn", "_law_k", "_law_last", "_law_way", "_law_due", "_law_handed", "_law_found", "_law_size"] ["_law_script"] (defScope s_law) := ⟨rfl, rfl, rfl, by decide +kernel, rfl, by decide +kernel, by decide +kernel⟩
theorem b_law {f : Addr} (T : Txt mg) (c__law_deeds : Cal P w K mg base 1 "_law_deeds" ["_law_cell", "_law_turn"] (liftSp K sp__law_deeds)) (c__law_scroll : Cal P w K mg base 2 "_law_scroll" ["_law_cells", "_law_names"] (liftSp K sp__law_scroll)) (c__law_cell_at : Cal P w K mg base 1 "_law_cell_at" ["_law_script", "_law_k"] (liftSp K sp__law_cell_at)) (c__law_depths : Cal P w K mg base 1 "_law_depths" ["_law_scroll_here"] (liftSp K sp__law_depths)) (c_depth_of : Cal P w K mg base 7 "depth_of" ["scroll"] (liftSp K sp_depth_of)) (cdv : Value) (A : Around) (outer : List PySem.Env) (s : Shared) (H : Hp) (E : XK) (hr : Room 7 (A.deeper (envOfC "law" (defScope s_law) s.heap.objs.size f cdv))) :
    QSs (cxOf CX0 P w K mg base ["_law_script", "_law_pool", "_law_scroll_here", "_law_turn", "_law_k", "_law_last", "_law_way", "_law_due", "_law_handed", "_law_found", "_law_size"] "law" (defScope s_law) f cdv A outer s H E).nox K (defBody s_law) w_law :=
  have nd := sc_law.nd
  have hu : (A.deeper (envOfC "law" (defScope s_law) s.heap.objs.size f cdv)).units + 64 < cLine := hr.units
  (qss_cons (qs_set (i := 1) nd rfl (Or.inl rfl) (q_own c__law_deeds (hr.mono (by decide)) (qa_cons (q_own c__law_cell_at (hr.mono (by decide)) (qa_cons (qv 0) (qa_cons q_int qa_nil))) (qa_cons (q_own c__law_cell_at (hr.mono (by decide)) (qa_cons (qv 0) (qa_cons q_int qa_nil))) qa_nil))))
      (qss_cons (qs_set (i := 2) nd rfl (Or.inl rfl) (q_own c__law_scroll (hr.mono (by decide)) (qa_cons (q_add (q_slice (qv 0) (qo_some q_int) (qo_some q_int)) (q_lst (qa_cons (q_own c__law_cell_at (hr.mono (by decide)) (qa_cons (qv 0) (qa_cons q_int qa_nil))) qa_nil))) (qa_cons (q_add (q_lst (qa_cons q_str qa_nil)) (qv 1)) qa_nil))))
      (qss_cons (qs_set (i := 3) nd rfl (Or.inl rfl) (q_own c__law_cell_at (hr.mono (by decide)) (qa_cons (qv 0) (qa_cons q_int qa_nil))))
      (qss_cons (qs_if (q_tcmp (kEq (K := K) hu) br_eq (q_mod (qv 3) q_int) q_int (nomark _))
      (qss_one (qs_for PassesOwn.never rfl (qi_rng1 T.n_range q_int) (qg_name (i := 4) nd rfl (Or.inl rfl))
      (qss_cons (qs_set (i := 5) nd rfl (Or.inl rfl) (q_sub (q_callB call_lenD2 br_len rfl T.n_len kb_len (qv 2)) q_int))
      (qss_cons (qs_set (i := 6) nd rfl (Or.inl rfl) (q_mod (q_mod (q_mul (q_mul (q_add (q_mod (q_div (qv 3) q_int) q_int) q_int) (q_add (qv 4) q_int)) q_int) q_int) q_int))
      (qss_one (qs_frz 5 (qs_app (qp_name (pv 2)) (q_ix hu (q_lst (qa_cons (q_tup (qa_cons q_str (qa_cons (q_ix hu (qv 1) (q_mod (qv 4) q_int)) (qa_cons (qv 5) qa_nil)))) (qa_cons (q_tup (qa_cons q_str (qa_cons q_str (qa_cons (qv 5) qa_nil)))) (qa_cons (q_tup (qa_cons q_str (qa_cons (qv 5) qa_nil))) (qa_cons (q_tup (qa_cons q_str (qa_cons q_str (qa_cons (qv 5) qa_nil)))) qa_nil))))) (qv 6)))))))))
      qss_nil)
      (qss_cons (qs_set (i := 7) nd rfl (Or.inl rfl) (q_own c__law_depths (hr.mono (by decide)) (qa_cons (qv 2) qa_nil)))
      (qss_cons (qs_set (i := 8) nd rfl (Or.inl rfl) (q_callTy call_list2 br_list rfl T.n_list kb_list (qv 2)))
      (qss_cons (qs_set (i := 9) nd rfl (Or.inl rfl) (q_own c_depth_of (hr.mono (by decide)) (qa_cons (qv 8) qa_nil)))
      (qss_cons (qs_if (qt_w (qw_or (qt_not (q_tval (q_isi T.n_isinstance (qv 9) (pe_ty T.n_int kb_int)))) (qw_or (q_tval (q_isi T.n_isinstance (qv 9) (pe_ty T.n_bool kb_bool))) (qw_or (q_tcmp (kNe (K := K) hu) br_ne (qv 9) (q_ix hu (qv 7) (q_neg q_int)) (nomark _)) (qw_or1 (q_tcmp (kNe (K := K) hu) br_ne (qv 8) (qv 2) (nomark _)))))))
      (qss_one (qs_ret q_bl))
      qss_nil)
      (qss_cons (qs_for PassesOwn.never rfl (qi_tup (q_tup (qa_cons (q_div (qv 3) q_int) (qa_cons (q_div (qv 3) q_int) (qa_cons (q_div (qv 3) q_int) qa_nil))))) (qg_name (i := 4) nd rfl (Or.inl rfl))
      (qss_cons (qs_set (i := 10) nd rfl (Or.inl rfl) (q_add q_int (q_mod (qv 4) (q_callB call_lenD2 br_len rfl T.n_len kb_len (qv 2)))))
      (qss_one (qs_if (q_tcmp (kNe (K := K) hu) br_ne (q_own c_depth_of (hr.mono (by decide)) (qa_cons (q_slice (qv 2) qo_none (qo_some (qv 10))) qa_nil)) (q_ix hu (qv 7) (q_sub (qv 10) q_int)) (nomark _))
      (qss_one (qs_ret q_bl))
      qss_nil))))
      (qss_cons (qs_app (qp_name (pv 8)) (q_tup (qa_cons q_str (qa_cons (q_ix hu (qv 1) (q_mod (q_div (qv 3) q_int) q_int)) (qa_cons (q_mod (q_div (qv 3) q_int) (q_callB call_lenD2 br_len rfl T.n_len kb_len (qv 2))) qa_nil)))))
      (qss_cons (qs_if (q_tcmp (kNe (K := K) hu) br_ne (q_own c_depth_of (hr.mono (by decide)) (qa_cons (qv 8) qa_nil)) (q_add (q_ix hu (qv 7) (q_mod (q_div (qv 3) q_int) (q_callB call_lenD2 br_len rfl T.n_len kb_len (qv 2)))) q_int) (nomark _))
      (qss_one (qs_ret q_bl))
      qss_nil)
      (qss_one (qs_ret (q_cmp (kEq (K := K) hu) br_eq (q_own c_depth_of (hr.mono (by decide)) (qa_cons (qv 2) qa_nil)) (q_ix hu (qv 7) (q_neg q_int)) (nomark _)))))))))))))))
theorem ok_law {f : Addr} {fd : FuncData} (F : Fun K "law" "law" s_law f fd) (T : Txt mg) (c__law_deeds : Cal P w K mg base 1 "_law_deeds" ["_law_cell", "_law_turn"] (liftSp K sp__law_deeds)) (c__law_scroll : Cal P w K mg base 2 "_law_scroll" ["_law_cells", "_law_names"] (liftSp K sp__law_scroll)) (c__law_cell_at : Cal P w K mg base 1 "_law_cell_at" ["_law_script", "_law_k"] (liftSp K sp__law_cell_at)) (c__law_depths : Cal P w K mg base 1 "_law_depths" ["_law_scroll_here"] (liftSp K sp__law_depths)) (c_depth_of : Cal P w K mg base 7 "depth_of" ["scroll"] (liftSp K sp_depth_of)) : FnOk P w K mg base CX0 8 f fd ["_law_script"] (liftSp K sp_law) :=
  FunQ.ok F sc_law len_law (b_law T c__law_deeds c__law_scroll c__law_cell_at c__law_depths c_depth_of) p_law
end
theorem all_mk {l : PySem.W.OpenLaw} {w : World} {K : PySem.W.Frag} {h : Heap} {mg : Str → Option Value} {fa : Addr} (X : K.In h) (G : h.Ns mainGlobals mg) (hfa : mg "law" = some (.ref fa))
    {f_is_open : Addr} {od_is_open an_is_open : Option Addr} {sl_is_open : Array (Option Value)} {oc_is_open kV_is_open dc_is_open pm_is_open cd_is_open ct_is_open : Value}
    (a_is_open : PySem.W.nsIn K mainGlobals "is_open" = some (some (.ref f_is_open))) (l_is_open : K.lookup f_is_open = some ⟨oc_is_open, od_is_open, .func (PySem.W.fnOf "is_open" "is_open" (defArgs s_is_open) (defBody s_is_open) (defScope s_is_open) .none kV_is_open dc_is_open pm_is_open an_is_open cd_is_open ct_is_open), sl_is_open⟩) (c_is_open : PySem.W.codeIn K cd_is_open "is_open" = true) (k_is_open : PySem.W.keepIn K (.ref f_is_open) = true)
    {f_is_deed : Addr} {od_is_deed an_is_deed : Option Addr} {sl_is_deed : Array (Option Value)} {oc_is_deed kV_is_deed dc_is_deed pm_is_deed cd_is_deed ct_is_deed : Value}
    (a_is_deed : PySem.W.nsIn K mainGlobals "is_deed" = some (some (.ref f_is_deed))) (l_is_deed : K.lookup f_is_deed = some ⟨oc_is_deed, od_is_deed, .func (PySem.W.fnOf "is_deed" "is_deed" (defArgs s_is_deed) (defBody s_is_deed) (defScope s_is_deed) .none kV_is_deed dc_is_deed pm_is_deed an_is_deed cd_is_deed ct_is_deed), sl_is_deed⟩) (c_is_deed : PySem.W.codeIn K cd_is_deed "is_deed" = true) (k_is_deed : PySem.W.keepIn K (.ref f_is_deed) = true)
    {f_is_whole : Addr} {od_is_whole an_is_whole : Option Addr} {sl_is_whole : Array (Option Value)} {oc_is_whole kV_is_whole dc_is_whole pm_is_whole cd_is_whole ct_is_whole : Value}
    (a_is_whole : PySem.W.nsIn K mainGlobals "is_whole" = some (some (.ref f_is_whole))) (l_is_whole : K.lookup f_is_whole = some ⟨oc_is_whole, od_is_whole, .func (PySem.W.fnOf "is_whole" "is_whole" (defArgs s_is_whole) (defBody s_is_whole) (defScope s_is_whole) .none kV_is_whole dc_is_whole pm_is_whole an_is_whole cd_is_whole ct_is_whole), sl_is_whole⟩) (c_is_whole : PySem.W.codeIn K cd_is_whole "is_whole" = true) (k_is_whole : PySem.W.keepIn K (.ref f_is_whole) = true)
    {f_drawn : Addr} {od_drawn an_drawn : Option Addr} {sl_drawn : Array (Option Value)} {oc_drawn kV_drawn dc_drawn pm_drawn cd_drawn ct_drawn : Value}
    (a_drawn : PySem.W.nsIn K mainGlobals "drawn" = some (some (.ref f_drawn))) (l_drawn : K.lookup f_drawn = some ⟨oc_drawn, od_drawn, .func (PySem.W.fnOf "drawn" "drawn" (defArgs s_drawn) (defBody s_drawn) (defScope s_drawn) .none kV_drawn dc_drawn pm_drawn an_drawn cd_drawn ct_drawn), sl_drawn⟩) (c_drawn : PySem.W.codeIn K cd_drawn "drawn" = true) (k_drawn : PySem.W.keepIn K (.ref f_drawn) = true)
    {f_is_ahead : Addr} {od_is_ahead an_is_ahead : Option Addr} {sl_is_ahead : Array (Option Value)} {oc_is_ahead kV_is_ahead dc_is_ahead pm_is_ahead cd_is_ahead ct_is_ahead : Value}
    (a_is_ahead : PySem.W.nsIn K mainGlobals "is_ahead" = some (some (.ref f_is_ahead))) (l_is_ahead : K.lookup f_is_ahead = some ⟨oc_is_ahead, od_is_ahead, .func (PySem.W.fnOf "is_ahead" "is_ahead" (defArgs s_is_ahead) (defBody s_is_ahead) (defScope s_is_ahead) .none kV_is_ahead dc_is_ahead pm_is_ahead an_is_ahead cd_is_ahead ct_is_ahead), sl_is_ahead⟩) (c_is_ahead : PySem.W.codeIn K cd_is_ahead "is_ahead" = true) (k_is_ahead : PySem.W.keepIn K (.ref f_is_ahead) = true)
    {f_are_parts : Addr} {od_are_parts an_are_parts : Option Addr} {sl_are_parts : Array (Option Value)} {oc_are_parts kV_are_parts dc_are_parts pm_are_parts cd_are_parts ct_are_parts : Value}
    (a_are_parts : PySem.W.nsIn K mainGlobals "are_parts" = some (some (.ref f_are_parts))) (l_are_parts : K.lookup f_are_parts = some ⟨oc_are_parts, od_are_parts, .func (PySem.W.fnOf "are_parts" "are_parts" (defArgs s_are_parts) (defBody s_are_parts) (defScope s_are_parts) .none kV_are_parts dc_are_parts pm_are_parts an_are_parts cd_are_parts ct_are_parts), sl_are_parts⟩) (c_are_parts : PySem.W.codeIn K cd_are_parts "are_parts" = true) (k_are_parts : PySem.W.keepIn K (.ref f_are_parts) = true)
    {f_is_row : Addr} {od_is_row an_is_row : Option Addr} {sl_is_row : Array (Option Value)} {oc_is_row kV_is_row dc_is_row pm_is_row cd_is_row ct_is_row : Value}
    (a_is_row : PySem.W.nsIn K mainGlobals "is_row" = some (some (.ref f_is_row))) (l_is_row : K.lookup f_is_row = some ⟨oc_is_row, od_is_row, .func (PySem.W.fnOf "is_row" "is_row" (defArgs s_is_row) (defBody s_is_row) (defScope s_is_row) .none kV_is_row dc_is_row pm_is_row an_is_row cd_is_row ct_is_row), sl_is_row⟩) (c_is_row : PySem.W.codeIn K cd_is_row "is_row" = true) (k_is_row : PySem.W.keepIn K (.ref f_is_row) = true)
    {f_is_scroll : Addr} {od_is_scroll an_is_scroll : Option Addr} {sl_is_scroll : Array (Option Value)} {oc_is_scroll kV_is_scroll dc_is_scroll pm_is_scroll cd_is_scroll ct_is_scroll : Value}
    (a_is_scroll : PySem.W.nsIn K mainGlobals "is_scroll" = some (some (.ref f_is_scroll))) (l_is_scroll : K.lookup f_is_scroll = some ⟨oc_is_scroll, od_is_scroll, .func (PySem.W.fnOf "is_scroll" "is_scroll" (defArgs s_is_scroll) (defBody s_is_scroll) (defScope s_is_scroll) .none kV_is_scroll dc_is_scroll pm_is_scroll an_is_scroll cd_is_scroll ct_is_scroll), sl_is_scroll⟩) (c_is_scroll : PySem.W.codeIn K cd_is_scroll "is_scroll" = true) (k_is_scroll : PySem.W.keepIn K (.ref f_is_scroll) = true)
    {f_check_scroll : Addr} {od_check_scroll an_check_scroll : Option Addr} {sl_check_scroll : Array (Option Value)} {oc_check_scroll kV_check_scroll dc_check_scroll pm_check_scroll cd_check_scroll ct_check_scroll : Value}
    (a_check_scroll : PySem.W.nsIn K mainGlobals "check_scroll" = some (some (.ref f_check_scroll))) (l_check_scroll : K.lookup f_check_scroll = some ⟨oc_check_scroll, od_check_scroll, .func (PySem.W.fnOf "check_scroll" "check_scroll" (defArgs s_check_scroll) (defBody s_check_scroll) (defScope s_check_scroll) .none kV_check_scroll dc_check_scroll pm_check_scroll an_check_scroll cd_check_scroll ct_check_scroll), sl_check_scroll⟩) (c_check_scroll : PySem.W.codeIn K cd_check_scroll "check_scroll" = true) (k_check_scroll : PySem.W.keepIn K (.ref f_check_scroll) = true)
    {f_depth_of : Addr} {od_depth_of an_depth_of : Option Addr} {sl_depth_of : Array (Option Value)} {oc_depth_of kV_depth_of dc_depth_of pm_depth_of cd_depth_of ct_depth_of : Value}
    (a_depth_of : PySem.W.nsIn K mainGlobals "depth_of" = some (some (.ref f_depth_of))) (l_depth_of : K.lookup f_depth_of = some ⟨oc_depth_of, od_depth_of, .func (PySem.W.fnOf "depth_of" "depth_of" (defArgs s_depth_of) (defBody s_depth_of) (defScope s_depth_of) .none kV_depth_of dc_depth_of pm_depth_of an_depth_of cd_depth_of ct_depth_of), sl_depth_of⟩) (c_depth_of : PySem.W.codeIn K cd_depth_of "depth_of" = true) (k_depth_of : PySem.W.keepIn K (.ref f_depth_of) = true)
    {f__law_cell_at : Addr} {od__law_cell_at an__law_cell_at : Option Addr} {sl__law_cell_at : Array (Option Value)} {oc__law_cell_at kV__law_cell_at dc__law_cell_at pm__law_cell_at cd__law_cell_at ct__law_cell_at : Value}
    (a__law_cell_at : PySem.W.nsIn K mainGlobals "_law_cell_at" = some (some (.ref f__law_cell_at))) (l__law_cell_at : K.lookup f__law_cell_at = some ⟨oc__law_cell_at, od__law_cell_at, .func (PySem.W.fnOf "_law_cell_at" "_law_cell_at" (defArgs s__law_cell_at) (defBody s__law_cell_at) (defScope s__law_cell_at) .none kV__law_cell_at dc__law_cell_at pm__law_cell_at an__law_cell_at cd__law_cell_at ct__law_cell_at), sl__law_cell_at⟩) (c__law_cell_at : PySem.W.codeIn K cd__law_cell_at "_law_cell_at" = true) (k__law_cell_at : PySem.W.keepIn K (.ref f__law_cell_at) = true)
    {f__law_deeds : Addr} {od__law_deeds an__law_deeds : Option Addr} {sl__law_deeds : Array (Option Value)} {oc__law_deeds kV__law_deeds dc__law_deeds pm__law_deeds cd__law_deeds ct__law_deeds : Value}
    (a__law_deeds : PySem.W.nsIn K mainGlobals "_law_deeds" = some (some (.ref f__law_deeds))) (l__law_deeds : K.lookup f__law_deeds = some ⟨oc__law_deeds, od__law_deeds, .func (PySem.W.fnOf "_law_deeds" "_law_deeds" (defArgs s__law_deeds) (defBody s__law_deeds) (defScope s__law_deeds) .none kV__law_deeds dc__law_deeds pm__law_deeds an__law_deeds cd__law_deeds ct__law_deeds), sl__law_deeds⟩) (c__law_deeds : PySem.W.codeIn K cd__law_deeds "_law_deeds" = true) (k__law_deeds : PySem.W.keepIn K (.ref f__law_deeds) = true)
    {f__law_row : Addr} {od__law_row an__law_row : Option Addr} {sl__law_row : Array (Option Value)} {oc__law_row kV__law_row dc__law_row pm__law_row cd__law_row ct__law_row : Value}
    (a__law_row : PySem.W.nsIn K mainGlobals "_law_row" = some (some (.ref f__law_row))) (l__law_row : K.lookup f__law_row = some ⟨oc__law_row, od__law_row, .func (PySem.W.fnOf "_law_row" "_law_row" (defArgs s__law_row) (defBody s__law_row) (defScope s__law_row) .none kV__law_row dc__law_row pm__law_row an__law_row cd__law_row ct__law_row), sl__law_row⟩) (c__law_row : PySem.W.codeIn K cd__law_row "_law_row" = true) (k__law_row : PySem.W.keepIn K (.ref f__law_row) = true)
    {f__law_scroll : Addr} {od__law_scroll an__law_scroll : Option Addr} {sl__law_scroll : Array (Option Value)} {oc__law_scroll kV__law_scroll dc__law_scroll pm__law_scroll cd__law_scroll ct__law_scroll : Value}
    (a__law_scroll : PySem.W.nsIn K mainGlobals "_law_scroll" = some (some (.ref f__law_scroll))) (l__law_scroll : K.lookup f__law_scroll = some ⟨oc__law_scroll, od__law_scroll, .func (PySem.W.fnOf "_law_scroll" "_law_scroll" (defArgs s__law_scroll) (defBody s__law_scroll) (defScope s__law_scroll) .none kV__law_scroll dc__law_scroll pm__law_scroll an__law_scroll cd__law_scroll ct__law_scroll), sl__law_scroll⟩) (c__law_scroll : PySem.W.codeIn K cd__law_scroll "_law_scroll" = true) (k__law_scroll : PySem.W.keepIn K (.ref f__law_scroll) = true)
    {f__law_depths : Addr} {od__law_depths an__law_depths : Option Addr} {sl__law_depths : Array (Option Value)} {oc__law_depths kV__law_depths dc__law_depths pm__law_depths cd__law_depths ct__law_depths : Value}
    (a__law_depths : PySem.W.nsIn K mainGlobals "_law_depths" = some (some (.ref f__law_depths))) (l__law_depths : K.lookup f__law_depths = some ⟨oc__law_depths, od__law_depths, .func (PySem.W.fnOf "_law_depths" "_law_depths" (defArgs s__law_depths) (defBody s__law_depths) (defScope s__law_depths) .none kV__law_depths dc__law_depths pm__law_depths an__law_depths cd__law_depths ct__law_depths), sl__law_depths⟩) (c__law_depths : PySem.W.codeIn K cd__law_depths "_law_depths" = true) (k__law_depths : PySem.W.keepIn K (.ref f__law_depths) = true)
    {f_law : Addr} {od_law an_law : Option Addr} {sl_law : Array (Option Value)} {oc_law kV_law dc_law pm_law cd_law ct_law : Value}
    (a_law : PySem.W.nsIn K mainGlobals "law" = some (some (.ref f_law))) (l_law : K.lookup f_law = some ⟨oc_law, od_law, .func (PySem.W.fnOf "law" "law" (defArgs s_law) (defBody s_law) (defScope s_law) .none kV_law dc_law pm_law an_law cd_law ct_law), sl_law⟩) (c_law : PySem.W.codeIn K cd_law "law" = true) (k_law : PySem.W.keepIn K (.ref f_law) = true)
    (n_all : PySem.W.nsIn K mainGlobals "all" = some none)
    (n_bool : PySem.W.nsIn K mainGlobals "bool" = some none)
    (n_enumerate : PySem.W.nsIn K mainGlobals "enumerate" = some none)
    (n_int : PySem.W.nsIn K mainGlobals "int" = some none)
    (n_isinstance : PySem.W.nsIn K mainGlobals "isinstance" = some none)
    (n_len : PySem.W.nsIn K mainGlobals "len" = some none)
    (n_list : PySem.W.nsIn K mainGlobals "list" = some none)
    (n_max : PySem.W.nsIn K mainGlobals "max" = some none)
    (n_min : PySem.W.nsIn K mainGlobals "min" = some none)
    (n_range : PySem.W.nsIn K mainGlobals "range" = some none)
    (n_str : PySem.W.nsIn K mainGlobals "str" = some none)
    (n_tuple : PySem.W.nsIn K mainGlobals "tuple" = some none)
    {t_HIDDEN : Tok} (g_HIDDEN : PySem.W.nsIn K mainGlobals "HIDDEN" = some (some (.str "*" t_HIDDEN)))
    {t_LETTERS : Tok} (g_LETTERS : PySem.W.nsIn K mainGlobals "LETTERS" = some (some (.str "abcdefghijklmnopqrstuvwxyz" t_LETTERS)))
    {t_MOST_LETTERS : Tok} (g_MOST_LETTERS : PySem.W.nsIn K mainGlobals "MOST_LETTERS" = some (some (.int 6 t_MOST_LETTERS)))
    {t_MOST_ROWS : Tok} (g_MOST_ROWS : PySem.W.nsIn K mainGlobals "MOST_ROWS" = some (some (.int 2000 t_MOST_ROWS)))
    {t_MOST_PARTS : Tok} (g_MOST_PARTS : PySem.W.nsIn K mainGlobals "MOST_PARTS" = some (some (.int 200 t_MOST_PARTS)))
    : ∃ fd : FuncData, (∀ (s : Shared) (v : Value), BindsTo s fd ⟨[v], []⟩ [("_law_script", v)]) ∧ ∀ base : Heap, K.In base → base.Ns mainGlobals mg → FnOk l.prog w K mg base CX0 8 fa fd ["_law_script"] (liftSp K sp_law) := by
  have e := hfa.symm.trans (PySem.W.mg_of X G a_law)
  cases e
  have T : Txt mg := ⟨PySem.W.mg_none_of X G n_all, PySem.W.mg_none_of X G n_bool, PySem.W.mg_none_of X G n_enumerate, PySem.W.mg_none_of X G n_int, PySem.W.mg_none_of X G n_isinstance, PySem.W.mg_none_of X G n_len, PySem.W.mg_none_of X G n_list, PySem.W.mg_none_of X G n_max, PySem.W.mg_none_of X G n_min, PySem.W.mg_none_of X G n_range, PySem.W.mg_none_of X G n_str, PySem.W.mg_none_of X G n_tuple, ⟨_, PySem.W.mg_of X G g_HIDDEN⟩, ⟨_, PySem.W.mg_of X G g_LETTERS⟩, ⟨_, PySem.W.mg_of X G g_MOST_LETTERS⟩, ⟨_, PySem.W.mg_of X G g_MOST_ROWS⟩, ⟨_, PySem.W.mg_of X G g_MOST_PARTS⟩⟩
  have F_is_open := fun_mk (st := s_is_open) l_is_open c_is_open k_is_open
  have F_is_deed := fun_mk (st := s_is_deed) l_is_deed c_is_deed k_is_deed
  have F_is_whole := fun_mk (st := s_is_whole) l_is_whole c_is_whole k_is_whole
  have F_drawn := fun_mk (st := s_drawn) l_drawn c_drawn k_drawn
  have F_is_ahead := fun_mk (st := s_is_ahead) l_is_ahead c_is_ahead k_is_ahead
  have F_are_parts := fun_mk (st := s_are_parts) l_are_parts c_are_parts k_are_parts
  have F_is_row := fun_mk (st := s_is_row) l_is_row c_is_row k_is_row
  have F_is_scroll := fun_mk (st := s_is_scroll) l_is_scroll c_is_scroll k_is_scroll
  have F_check_scroll := fun_mk (st := s_check_scroll) l_check_scroll c_check_scroll k_check_scroll
  have F_depth_of := fun_mk (st := s_depth_of) l_depth_of c_depth_of k_depth_of
  have F__law_cell_at := fun_mk (st := s__law_cell_at) l__law_cell_at c__law_cell_at k__law_cell_at
  have F__law_deeds := fun_mk (st := s__law_deeds) l__law_deeds c__law_deeds k__law_deeds
  have F__law_row := fun_mk (st := s__law_row) l__law_row c__law_row k__law_row
  have F__law_scroll := fun_mk (st := s__law_scroll) l__law_scroll c__law_scroll k__law_scroll
  have F__law_depths := fun_mk (st := s__law_depths) l__law_depths c__law_depths k__law_depths
  have F_law := fun_mk (st := s_law) l_law c_law k_law
  refine ⟨PySem.W.fnOf "law" "law" (defArgs s_law) (defBody s_law) (defScope s_law) .none kV_law dc_law pm_law an_law cd_law ct_law, fun s v => .of_eq rfl, fun base _ _ => ?_⟩
  have C_is_open : Cal l.prog w K mg base 1 "is_open" ["thing"] (liftSp K sp_is_open) := F_is_open.cal (PySem.W.mg_of X G a_is_open) (ok_is_open F_is_open T ) fun _ _ _ _ _ _ us hl => match us, hl with | [_], _ => rfl
  have C_is_whole : Cal l.prog w K mg base 1 "is_whole" ["thing"] (liftSp K sp_is_whole) := F_is_whole.cal (PySem.W.mg_of X G a_is_whole) (ok_is_whole F_is_whole T ) fun _ _ _ _ _ _ us hl => match us, hl with | [_], _ => rfl
  have C_drawn : Cal l.prog w K mg base 1 "drawn" ["row"] (liftSp K sp_drawn) := F_drawn.cal (PySem.W.mg_of X G a_drawn) (ok_drawn F_drawn T ) fun _ _ _ _ _ _ us hl => match us, hl with | [_], _ => rfl
  have C__law_cell_at : Cal l.prog w K mg base 1 "_law_cell_at" ["_law_script", "_law_k"] (liftSp K sp__law_cell_at) := F__law_cell_at.cal (PySem.W.mg_of X G a__law_cell_at) (ok__law_cell_at F__law_cell_at T ) fun _ _ _ _ _ _ us hl => match us, hl with | [_, _], _ => rfl
  have C__law_deeds : Cal l.prog w K mg base 1 "_law_deeds" ["_law_cell", "_law_turn"] (liftSp K sp__law_deeds) := F__law_deeds.cal (PySem.W.mg_of X G a__law_deeds) (ok__law_deeds F__law_deeds T ) fun _ _ _ _ _ _ us hl => match us, hl with | [_, _], _ => rfl
  have C__law_row : Cal l.prog w K mg base 1 "_law_row" ["_law_cell", "_law_k", "_law_names"] (liftSp K sp__law_row) := F__law_row.cal (PySem.W.mg_of X G a__law_row) (ok__law_row F__law_row T ) fun _ _ _ _ _ _ us hl => match us, hl with | [_, _, _], _ => rfl
  have C__law_depths : Cal l.prog w K mg base 1 "_law_depths" ["_law_scroll_here"] (liftSp K sp__law_depths) := F__law_depths.cal (PySem.W.mg_of X G a__law_depths) (ok__law_depths F__law_depths T ) fun _ _ _ _ _ _ us hl => match us, hl with | [_], _ => rfl
  have C_is_deed : Cal l.prog w K mg base 2 "is_deed" ["thing"] (liftSp K sp_is_deed) := F_is_deed.cal (PySem.W.mg_of X G a_is_deed) (ok_is_deed F_is_deed T C_is_open) fun _ _ _ _ _ _ us hl => match us, hl with | [_], _ => rfl
  have C_is_ahead : Cal l.prog w K mg base 2 "is_ahead" ["k", "thing"] (liftSp K sp_is_ahead) := F_is_ahead.cal (PySem.W.mg_of X G a_is_ahead) (ok_is_ahead F_is_ahead T C_is_whole) fun _ _ _ _ _ _ us hl => match us, hl with | [_, _], _ => rfl
  have C__law_scroll : Cal l.prog w K mg base 2 "_law_scroll" ["_law_cells", "_law_names"] (liftSp K sp__law_scroll) := F__law_scroll.cal (PySem.W.mg_of X G a__law_scroll) (ok__law_scroll F__law_scroll T C__law_row) fun _ _ _ _ _ _ us hl => match us, hl with | [_, _], _ => rfl
  have C_are_parts : Cal l.prog w K mg base 3 "are_parts" ["k", "thing"] (liftSp K sp_are_parts) := F_are_parts.cal (PySem.W.mg_of X G a_are_parts) (ok_are_parts F_are_parts T C_is_ahead) fun _ _ _ _ _ _ us hl => match us, hl with | [_, _], _ => rfl
  have C_is_row : Cal l.prog w K mg base 4 "is_row" ["k", "thing"] (liftSp K sp_is_row) := F_is_row.cal (PySem.W.mg_of X G a_is_row) (ok_is_row F_is_row T C_is_deed C_is_ahead C_are_parts) fun _ _ _ _ _ _ us hl => match us, hl with | [_, _], _ => rfl
  have C_is_scroll : Cal l.prog w K mg base 5 "is_scroll" ["thing"] (liftSp K sp_is_scroll) := F_is_scroll.cal (PySem.W.mg_of X G a_is_scroll) (ok_is_scroll F_is_scroll T C_is_row) fun _ _ _ _ _ _ us hl => match us, hl with | [_], _ => rfl
  have C_check_scroll : Cal l.prog w K mg base 6 "check_scroll" ["thing"] (liftSp K sp_check_scroll) := F_check_scroll.cal (PySem.W.mg_of X G a_check_scroll) (ok_check_scroll F_check_scroll T C_is_scroll) fun _ _ _ _ _ _ us hl => match us, hl with | [_], _ => rfl
  have C_depth_of : Cal l.prog w K mg base 7 "depth_of" ["scroll"] (liftSp K sp_depth_of) := F_depth_of.cal (PySem.W.mg_of X G a_depth_of) (ok_depth_of F_depth_of T C_check_scroll C_drawn) fun _ _ _ _ _ _ us hl => match us, hl with | [_], _ => rfl
  exact ok_law F_law T C__law_deeds C__law_scroll C__law_cell_at C__law_depths C_depth_of
theorem walk {l : PySem.W.OpenLaw} {q : Program} {loose : List Str} {XP : (Str → Option Value) → Heap → Prop} {YP : World → Heap → Prop} {d : DefRec} {K : Params → PySem.W.Frag} (hn : l.most = some 63) (hdf : d.params.defaults = [])
    (hY : ∀ (w : World) (h : Heap), YP w h → (K w.params).In h)
    (F : ∀ (w : World) (mg : Str → Option Value) (fa : Addr) (h : Heap), (K w.params).In h → h.Ns mainGlobals mg → mg d.name = some (.ref fa) →
      ∃ fd : FuncData, (∀ (s : Shared) (u : Value), BindsTo s fd ⟨[u], []⟩ [("_law_script", u)]) ∧ ∀ base : Heap, (K w.params).In base → base.Ns mainGlobals mg → FnOk l.prog w (K w.params) mg base CX0 8 fa fd ["_law_script"] (liftSp (K w.params) sp_law)) :
    PySem.W.WalkO q loose XP YP l.row.toRowW d [] (fun f vs => PySem.call f vs) :=
  L2.walk_of (n := 63) (k := 8) (x := "_law_script") (CX := fun _ => CX0) (sp := fun w => liftSp (K w.params) sp_law) hn (by decide) hdf ⟨rfl, by decide, by decide⟩ hY F (fun w H a ns hl hO hS => law_lift hl hS) fun _ _ _ _ _ z => z
end L2.Q.Law
open PySem PySem.W PyProof.Rows
set_option maxRecDepth 100000 in
set_option maxHeartbeats 0 in
theorem PySem.Challenge.cw_kinlook_k21_depths_holds : PySem.Challenge.rw_kinlook_k21_depths.Holds := by
  w_on; o_law; k_head; (case hw => w_witness2)
  k_fill
  refine L2.Q.Law.walk (l := PySem.Challenge.rw_kinlook_k21_depths) rfl rfl (fun w h Y => PySem.W.kIn_of Y) ?F
  case F =>
    intro w mg fa h KX G hmg
    refine' L2.Q.Law.all_mk KX G hmg ?a_is_open ?l_is_open ?c_is_open ?k_is_open ?a_is_deed ?l_is_deed ?c_is_deed ?k_is_deed ?a_is_whole ?l_is_whole ?c_is_whole ?k_is_whole ?a_drawn ?l_drawn ?c_drawn ?k_drawn ?a_is_ahead ?l_is_ahead ?c_is_ahead ?k_is_ahead ?a_are_parts ?l_are_parts ?c_are_parts ?k_are_parts ?a_is_row ?l_is_row ?c_is_row ?k_is_row ?a_is_scroll ?l_is_scroll ?c_is_scroll ?k_is_scroll ?a_check_scroll ?l_check_scroll ?c_check_scroll ?k_check_scroll ?a_depth_of ?l_depth_of ?c_depth_of ?k_depth_of ?a__law_cell_at ?l__law_cell_at ?c__law_cell_at ?k__law_cell_at ?a__law_deeds ?l__law_deeds ?c__law_deeds ?k__law_deeds ?a__law_row ?l__law_row ?c__law_row ?k__law_row ?a__law_scroll ?l__law_scroll ?c__law_scroll ?k__law_scroll ?a__law_depths ?l__law_depths ?c__law_depths ?k__law_depths ?a_law ?l_law ?c_law ?k_law ?n_all ?n_bool ?n_enumerate ?n_int ?n_isinstance ?n_len ?n_list ?n_max ?n_min ?n_range ?n_str ?n_tuple ?g_HIDDEN ?g_LETTERS ?g_MOST_LETTERS ?g_MOST_ROWS ?g_MOST_PARTS
    (case a_is_open => k_is)
    (case l_is_open => k_is)
    (case c_is_open => k_is)
    (case k_is_open => k_is)
    (case a_is_deed => k_is)
    (case l_is_deed => k_is)
    (case c_is_deed => k_is)
    (case k_is_deed => k_is)
    (case a_is_whole => k_is)
    (case l_is_whole => k_is)
    (case c_is_whole => k_is)
    (case k_is_whole => k_is)
    (case a_drawn => k_is)
    (case l_drawn => k_is)
    (case c_drawn => k_is)
    (case k_drawn => k_is)
    (case a_is_ahead => k_is)
    (case l_is_ahead => k_is)
    (case c_is_ahead => k_is)
    (case k_is_ahead => k_is)
    (case a_are_parts => k_is)
    (case l_are_parts => k_is)
    (case c_are_parts => k_is)
    (case k_are_parts => k_is)
    (case a_is_row => k_is)
    (case l_is_row => k_is)
    (case c_is_row => k_is)
    (case k_is_row => k_is)
    (case a_is_scroll => k_is)
    (case l_is_scroll => k_is)
    (case c_is_scroll => k_is)
    (case k_is_scroll => k_is)
    (case a_check_scroll => k_is)
    (case l_check_scroll => k_is)
    (case c_check_scroll => k_is)
    (case k_check_scroll => k_is)
    (case a_depth_of => k_is)
    (case l_depth_of => k_is)
    (case c_depth_of => k_is)
    (case k_depth_of => k_is)
    (case a__law_cell_at => k_is)
    (case l__law_cell_at => k_is)
    (case c__law_cell_at => k_is)
    (case k__law_cell_at => k_is)
    (case a__law_deeds => k_is)
    (case l__law_deeds => k_is)
    (case c__law_deeds => k_is)
    (case k__law_deeds => k_is)
    (case a__law_row => k_is)
    (case l__law_row => k_is)
    (case c__law_row => k_is)
    (case k__law_row => k_is)
    (case a__law_scroll => k_is)
    (case l__law_scroll => k_is)
    (case c__law_scroll => k_is)
    (case k__law_scroll => k_is)
    (case a__law_depths => k_is)
    (case l__law_depths => k_is)
    (case c__law_depths => k_is)
    (case k__law_depths => k_is)
    (case a_law => k_is)
    (case l_law => k_is)
    (case c_law => k_is)
    (case k_law => k_is)
    (case n_all => k_is)
    (case n_bool => k_is)
    (case n_enumerate => k_is)
    (case n_int => k_is)
    (case n_isinstance => k_is)
    (case n_len => k_is)
    (case n_list => k_is)
    (case n_max => k_is)
    (case n_min => k_is)
    (case n_range => k_is)
    (case n_str => k_is)
    (case n_tuple => k_is)
    (case g_HIDDEN => k_is)
    (case g_LETTERS => k_is)
    (case g_MOST_LETTERS => k_is)
    (case g_MOST_ROWS => k_is)
    (case g_MOST_PARTS => k_is)
