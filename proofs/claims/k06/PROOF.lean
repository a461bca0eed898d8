import PyProof.Rows.All
import Wide.All
import OpenK.AllK
import Wide.FinOn
import Lean
import PyProof.EqAt
import PyProof.EqKinds
import PyProof.TupleCall
import PyProof.CompUse
import PyProof.NeData
import PyProof.WalksEnum
import PyProof.EnumMake
import PyProof.ZipIter
import PyProof.Rows.EnumRows
import PyProof.Rows.FactsT2
import KE.KDictList
import PyProof.Rows.SortRuns
import PyProof.Rows.SortWalk
import KE.KSortTup
import PyProof.Rows.SortStr
import PyProof.ListRange
import PySem.Challenge.RW_kinlook_k06_states_met
set_option Elab.async false
set_option linter.all false
set_option maxRecDepth 100000
namespace L2
open PySem PySem.Spec PyProof.Rows

abbrev Key := Sum Int Str
def keyIs : Key → Value → Bool
  | .inl k, v => Value.isInt k v
  | .inr x, v => Value.isStrOf x v
def keyH (w : World) : Key → Int
  | .inl k => hashInt k
  | .inr x => hashStr w x
theorem keyIs_shape : ∀ {k : Key} {v : Value}, keyIs k v = true → (∃ i t, k = Sum.inl i ∧ v = Value.int i t) ∨ (∃ x t, k = Sum.inr x ∧ v = Value.str x t)
  | .inl i, v, h => by
    obtain ⟨t, e⟩ := Value.isInt_shape (k := i) (v := v) h
    exact .inl ⟨i, t, rfl, e⟩
  | .inr x, v, h => by
    obtain ⟨t, e⟩ := Value.isStrOf_shape (x := x) (v := v) h
    exact .inr ⟨x, t, rfl, e⟩
theorem keyIs_int (i : Int) (t : Tok) : keyIs (.inl i) (.int i t) = true := by simp [keyIs, Value.isInt]
theorem keyIs_str (x : Str) (t : Tok) : keyIs (.inr x) (.str x t) = true := by simp [keyIs, Value.isStrOf]
theorem key_ll (a b : Int) : decide ((Sum.inl a : Key) = Sum.inl b) = (a == b) := by
  by_cases e : a = b
  · subst e; simp
  · have h : ¬ (Sum.inl a : Key) = Sum.inl b := fun q => e (Sum.inl.inj q)
    rw [decide_eq_false h]
    exact (beq_eq_false_iff_ne.mpr e).symm
theorem key_rr (a b : Str) : decide ((Sum.inr a : Key) = Sum.inr b) = decide (a = b) := by
  by_cases e : a = b
  · subst e; simp
  · have h : ¬ (Sum.inr a : Key) = Sum.inr b := fun q => e (Sum.inr.inj q)
    rw [decide_eq_false h, decide_eq_false e]
theorem key_lr (a : Int) (b : Str) : decide ((Sum.inl a : Key) = Sum.inr b) = false := decide_eq_false (fun q => nomatch q)
theorem key_rl (a : Str) (b : Int) : decide ((Sum.inr a : Key) = Sum.inl b) = false := decide_eq_false (fun q => nomatch q)

def mixKind (prog : Program) (w : World) : PySem.KeyKind prog w Key where
  is := keyIs
  hash := keyH w
  inj := fun v a b ha hb => by
    rcases keyIs_shape ha with ⟨i, t, rfl, rfl⟩ | ⟨x, t, rfl, rfl⟩
    · rcases keyIs_shape hb with ⟨j, u, rfl, e⟩ | ⟨y, u, rfl, e⟩
      · injection e with e1 _; rw [e1]
      · exact nomatch e
    · rcases keyIs_shape hb with ⟨j, u, rfl, e⟩ | ⟨y, u, rfl, e⟩
      · exact nomatch e
      · injection e with e1 _; rw [e1]
  byValue := fun k v h => by
    rcases keyIs_shape h with ⟨i, t, rfl, rfl⟩ | ⟨x, t, rfl, rfl⟩ <;> rfl
  pyHash := fun hv h => by
    rcases keyIs_shape hv with ⟨i, t, rfl, rfl⟩ | ⟨x, t, rfl, rfl⟩
    · exact wpAny_pyHash_int h
    · exact wpAny_pyHash_str h
  eqBool := fun hu hv h => by
    rcases keyIs_shape hu with ⟨i, t, rfl, rfl⟩ | ⟨x, t, rfl, rfl⟩
    · rcases keyIs_shape hv with ⟨j, u, rfl, rfl⟩ | ⟨y, u, rfl, rfl⟩
      · rw [key_ll] at h; exact wpAny_eqBool_int h
      · rw [key_lr] at h; exact SeqAt.EqAt.int_str i t y u _ _ _ _ h
    · rcases keyIs_shape hv with ⟨j, u, rfl, rfl⟩ | ⟨y, u, rfl, rfl⟩
      · rw [key_rl] at h; exact SeqAt.EqAt.str_int x t j u _ _ _ _ h
      · rw [key_rr] at h; exact wpAny_eqBool_str h
  «strs» := fun k x t v h => by
    rcases keyIs_shape h with ⟨i, u, rfl, e⟩ | ⟨y, u, rfl, e⟩
    · exact nomatch e
    · injection e with e1 _
      subst e1
      cases v <;> rfl

theorem mixKind_int (prog : Program) (w : World) (i : Int) (t : Tok) : (mixKind prog w).is (.inl i) (.int i t) = true := keyIs_int i t
theorem mixKind_str (prog : Program) (w : World) (x : Str) (t : Tok) : (mixKind prog w).is (.inr x) (.str x t) = true := keyIs_str x t
end L2

namespace L2
open PySem PySem.Spec PyProof.Rows

inductive V where
  | non | bl (b : Bool) | int (i : Int) | str (x : Str) | byt (b : Array UInt8) | flt (b : UInt64) | ref (a : Addr) | ty (n : String)
  deriving DecidableEq

def RelV : V → Value → Prop
  | .non, u => u = Value.none
  | .bl b, u => u = Value.bool b
  | .int i, u => ∃ t, u = Value.int i t
  | .str x, u => ∃ t, u = Value.str x t
  | .byt b, u => ∃ t, u = Value.bytes b t
  | .flt b, u => ∃ t, u = Value.float b t
  | .ref a, u => u = Value.ref a
  | .ty n, u => u = Value.type n

abbrev Vals : List V → List Value → Prop := Paired RelV
theorem Vals.length {xs : List V} {us : List Value} (r : Vals xs us) : xs.length = us.length := Paired.length r
theorem Vals.get : ∀ {xs : List V} {us : List Value} {i : Nat} {x : V}, Vals xs us → xs[i]? = some x → ∃ u, us[i]? = some u ∧ RelV x u
  | _, _, _, _, .nil, e => by simp at e
  | _, _, 0, _, .cons r _, e => by simp at e; subst e; exact ⟨_, rfl, r⟩
  | _, _, i + 1, x, .cons _ t, e => by
    obtain ⟨u, h1, h2⟩ := Vals.get (i := i) (x := x) t (by simpa using e)
    exact ⟨u, by simpa using h1, h2⟩
theorem Vals.set {x : V} {u : Value} (r : RelV x u) : ∀ {xs : List V} {us : List Value} (i : Nat), Vals xs us → Vals (xs.set i x) (us.set i u)
  | _, _, _, .nil => .nil
  | _, _, 0, .cons _ t => .cons r t
  | _, _, i + 1, .cons q t => .cons q (Vals.set r i t)
theorem Vals.append : ∀ {xs ys : List V} {us ws : List Value}, Vals xs us → Vals ys ws → Vals (xs ++ ys) (us ++ ws)
  | _, _, _, _, .nil, s => s
  | _, _, _, _, .cons r t, s => .cons r (Vals.append t s)
theorem Vals.take : ∀ {xs : List V} {us : List Value} (n : Nat), Vals xs us → Vals (xs.take n) (us.take n)
  | _, _, 0, _ => .nil
  | _, _, _ + 1, .nil => .nil
  | _, _, n + 1, .cons r t => .cons r (Vals.take n t)
theorem Vals.drop : ∀ {xs : List V} {us : List Value} (n : Nat), Vals xs us → Vals (xs.drop n) (us.drop n)
  | _, _, 0, r => r
  | _, _, _ + 1, .nil => .nil
  | _, _, n + 1, .cons _ t => Vals.drop n t
def RelO : Option V → Option Value → Prop
  | some v, some u => RelV v u
  | none, none => True
  | _, _ => False
def KV {κ : Type} : List (κ × V) → List (κ × Value) → Prop := Paired fun (p : κ × V) (q : κ × Value) => p.1 = q.1 ∧ RelV p.2 q.2

def kV : Key → V
  | .inl i => .int i
  | .inr x => .str x

inductive HO where
  /-- a list -/
  | lst (xs : List V)
  /-- a tuple (never changes) -/
  | tup (xs : List V)
  /-- a dict whose keys are ints and texts; one whose keys are tuples of ints and texts (the empty one is both) -/
  | dK (kvs : List (Key × V)) | dT (kvs : List (List Key × V))
  /-- a set of ints: its members, its size -/
  | set (S : Int → Bool) (n : Nat)
  /-- an instance of the class at C, its dict at dx, its attributes -/
  | ins (C dx : Addr) (fs : List (Str × V))
  /-- the dict of the instance at x -/
  | own (x : Addr)
  /-- the dict of an exception -/
  | xd (fs : List (Str × V))
  /-- a bound method, f of x -/
  | met (f x : Addr)
  /-- a range object lo, lo + 1, .. below hi -/
  | rng (lo hi : Int)
  /-- a thing that is known to the object (the script; a dict while a loop walks it): read, never written while it is so -/
  | frz (o : Obj) (u : HO)
  /-- a code object's table -/
  | tbl (ps : Array Value)
  /-- any other thing, by what is true of its one object (a def of one's own: SetO a S n := HO.ext fun h => ..) -/
  | ext (φ : Heap → Prop)

abbrev Hp := Addr → Option HO
def upd (H : Hp) (a : Addr) (o : HO) : Hp := fun b => if b = a then some o else H b
theorem upd_same {H : Hp} {a : Addr} {o : HO} : upd H a o a = some o := by unfold upd; rw [if_pos rfl]
theorem upd_ne {H : Hp} {a b : Addr} {o : HO} (h : b ≠ a) : upd H a o b = H b := by unfold upd; rw [if_neg h]
theorem ne_of {H : Hp} {a b : Addr} {o u : HO} (h : H a = some o) (h' : H b = some u) (d : o ≠ u) : a ≠ b := by
  intro e; subst e; rw [h] at h'; exact d (Option.some.inj h')
theorem ne_of_none {H : Hp} {a b : Addr} {o : HO} (h : H a = some o) (h' : H b = none) : a ≠ b := by
  intro e; subst e; rw [h] at h'; cases h'

section
variable (P : Program) (w : World)
def ObjOk (H : Hp) (h : Heap) (a : Addr) : HO → Prop
  | .lst xs => xs.length ≤ sizeLine ∧ ∃ (its : List Value) (n : Nat), Vals xs its ∧ h.get? a = some { cls := .type "list", data := .seq its.toArray n }
  | .tup xs => xs.length ≤ sizeLine ∧ ∃ its : List Value, Vals xs its ∧ IsTup h a its.toArray
  | .dK kvs => kvs.length ≤ sizeLine ∧ (a == sysModules) = false ∧ ∃ vs, KV kvs vs ∧ h.DictOf (mixKind P w) a vs
  | .dT kvs => kvs.length ≤ sizeLine ∧ (a == sysModules) = false ∧ ∃ xs : List (List Key × Addr × Value),
      Paired (fun (p : List Key × V) (q : List Key × Addr × Value) => p.1 = q.1 ∧ H q.2.1 = some (.tup (p.1.map kV)) ∧ RelV p.2 q.2.2) kvs xs ∧
      ∃ o es ep, h.get? a = some o ∧ o.ExactDict ∧ o.data = .dict es ep ∧ es.toList = xs.map (entryOfKey (tupleKind (mixKind P w))) ∧ (xs.map (·.1)).Nodup
  | .set S n => h.SetOf (intKind P w) a S n
  | .ins C dx fs => H dx = some (.own a) ∧ fs.length ≤ 1000 ∧ dx ≠ a ∧ h.get? a = some (PySem.W.instObj C dx) ∧
      ∃ mA, h.Ns1 dx mA ∧ (∀ f, RelO (fs.lookup f) (mA f)) ∧ PySem.Within mA (fs.map (·.1))
  | .own _ => ∃ o, h.get? a = some o
  | .xd fs => ∃ mA, h.Ns1 a mA ∧ ∀ f, RelO (fs.lookup f) (mA f)
  | .rng lo hi => ∃ t u v, h.get? a = some { cls := .type "range", data := .fields #[.int lo t, .int hi u, .int 1 v] }
  | .frz o u => h.get? a = some o ∧ ObjOk H h a u
  | .tbl ps => h.get? a = some { cls := .none, data := .fields ps }
  | .met f x => h.get? a = some (PySem.W.methodObj (.ref f) (.ref x))
  | .ext φ => φ h ∧ (∃ o, h.get? a = some o) ∧ ∀ h1 h2 : Heap, φ h1 → (∀ o, h1.get? a = some o → h2.get? a = some o) → φ h2
def HOk (H : Hp) (h : Heap) : Prop := ∀ a o, H a = some o → ObjOk P w H h a o
end

section
variable {P : Program} {w : World} {H H' : Hp} {h h' : Heap} {a : Addr} {o : HO}
theorem ObjOk.lt (x : ObjOk P w H h a o) : a < h.objs.size := by
  cases o with
  | lst xs => obtain ⟨_, _, _, _, e⟩ := x; exact Heap.lt_size e
  | tup xs => obtain ⟨_, _, _, p⟩ := x; exact p.lt
  | dK kvs => obtain ⟨_, _, _, _, o, _, _, e, _⟩ := x; exact Heap.lt_size e
  | dT kvs => obtain ⟨_, _, _, _, o, _, _, e, _⟩ := x; exact Heap.lt_size e
  | set S n => obtain ⟨o, _, _, _, e, _⟩ := x; exact Heap.lt_size e
  | ins C dx fs => obtain ⟨_, _, _, e, _⟩ := x; exact Heap.lt_size e
  | own y => obtain ⟨_, e⟩ := x; exact Heap.lt_size e
  | xd fs => obtain ⟨_, ⟨_, _, _, e, _⟩, _⟩ := x; exact Heap.lt_size e
  | rng lo hi => obtain ⟨_, _, _, e⟩ := x; exact Heap.lt_size e
  | frz ob u => obtain ⟨e, _⟩ := x; exact Heap.lt_size e
  | tbl ps => exact Heap.lt_size (show h.get? a = some _ from x)
  | met f y => exact Heap.lt_size (show h.get? a = some _ from x)
  | ext φ => obtain ⟨_, ⟨_, e⟩, _⟩ := x; exact Heap.lt_size e
theorem Paired.mapP {α β : Type} {F G : α → β → Prop} : ∀ {l₁ : List α} {l₂ : List β}, Paired F l₁ l₂ → (∀ a b, F a b → G a b) → Paired G l₁ l₂
  | _, _, .nil, _ => .nil
  | _, _, .cons r t, f => .cons (f _ _ r) (Paired.mapP t f)
theorem ObjOk.stay (x : ObjOk P w H h a o) (k : ∀ b u, (b = a ∨ H b = some (.own a)) → h.get? b = some u → h'.get? b = some u)
    (ho : ∀ b, H b = some (.own a) → H' b = some (.own a)) (ht : ∀ b xs, H b = some (.tup xs) → H' b = some (.tup xs)) : ObjOk P w H' h' a o := by
  induction o with
  | lst xs => obtain ⟨z, its, n, r, e⟩ := x; exact ⟨z, its, n, r, k _ _ (.inl rfl) e⟩
  | tup xs => obtain ⟨z, its, r, ob, e, c⟩ := x; exact ⟨z, its, r, ob, k _ _ (.inl rfl) e, c⟩
  | dK kvs => obtain ⟨z, y, vs, r, ob, es, ep, e, c⟩ := x; exact ⟨z, y, vs, r, ob, es, ep, k _ _ (.inl rfl) e, c⟩
  | dT kvs =>
    obtain ⟨z, y, xs, r, ob, es, ep, e, c⟩ := x
    exact ⟨z, y, xs, Paired.mapP r fun p q z => ⟨z.1, ht _ _ z.2.1, z.2.2⟩, ob, es, ep, k _ _ (.inl rfl) e, c⟩
  | set S n => obtain ⟨ob, es, ep, t, e, c⟩ := x; exact ⟨ob, es, ep, t, k _ _ (.inl rfl) e, c⟩
  | ins C dx fs =>
    obtain ⟨d, z, ne, e, mA, ⟨od, es, ep, e2, c⟩, r⟩ := x
    exact ⟨ho _ d, z, ne, k _ _ (.inl rfl) e, mA, ⟨od, es, ep, k _ _ (.inr d) e2, c⟩, r⟩
  | own y => obtain ⟨ob, e⟩ := x; exact ⟨ob, k _ _ (.inl rfl) e⟩
  | xd fs => obtain ⟨mA, ⟨od, es, ep, e, c⟩, r⟩ := x; exact ⟨mA, ⟨od, es, ep, k _ _ (.inl rfl) e, c⟩, r⟩
  | rng lo hi => obtain ⟨t, u, v, e⟩ := x; exact ⟨t, u, v, k _ _ (.inl rfl) e⟩
  | frz ob u ih => obtain ⟨e, q⟩ := x; exact ⟨k _ _ (.inl rfl) e, ih q⟩
  | tbl ps =>
    have e : h.get? a = some { cls := .none, data := .fields ps } := x
    show h'.get? a = some { cls := .none, data := .fields ps }
    exact k a _ (.inl rfl) e
  | met f y =>
    have e : h.get? a = some (PySem.W.methodObj (.ref f) (.ref y)) := x
    show h'.get? a = some (PySem.W.methodObj (.ref f) (.ref y))
    exact k a _ (.inl rfl) e
  | ext φ => obtain ⟨p, ⟨o, e⟩, st⟩ := x; exact ⟨st _ _ p fun o q => k _ _ (.inl rfl) q, ⟨o, k _ _ (.inl rfl) e⟩, st⟩
theorem HOk.lt (x : HOk P w H h) (e : H a = some o) : a < h.objs.size := (x a o e).lt
theorem HOk.fresh (x : HOk P w H h) (e : h.objs.size ≤ a) : H a = none := by
  cases q : H a with
  | none => rfl
  | some u => exact absurd (Nat.lt_of_lt_of_le (x.lt q) e) (Nat.lt_irrefl _)
theorem HOk.kept (x : HOk P w H h) (k : ∀ b u, h.get? b = some u → h'.get? b = some u) : HOk P w H h' := fun a o e =>
  (x a o e).stay (fun b u _ q => k b u q) (fun _ q => q) fun _ _ q => q
theorem HOk.laid (x : HOk P w H h) (k : ∀ b u, h.get? b = some u → h'.get? b = some u) (hp : h.objs.size ≤ a) (new : ObjOk P w (upd H a o) h' a o) : HOk P w (upd H a o) h' := fun b u e => by
  have hn := x.fresh hp
  by_cases hb : b = a
  · subst hb; rw [upd_same] at e; cases e; exact new
  · rw [upd_ne hb] at e
    exact (x b u e).stay (fun c v _ q => k c v q) (fun c q => by rw [upd_ne (ne_of_none q hn)]; exact q) fun c xs q => by rw [upd_ne (ne_of_none q hn)]; exact q
end

def Rd (H : Hp) (a : Addr) (u : HO) : Prop := H a = some u ∨ ∃ o, H a = some (.frz o u)
theorem Rd.of {H : Hp} {a : Addr} {u : HO} (h : H a = some u) : Rd H a u := .inl h
theorem Rd.ok {P : Program} {w : World} {H : Hp} {h : Heap} {a : Addr} {u : HO} (r : Rd H a u) (x : HOk P w H h) : ObjOk P w H h a u := by
  rcases r with r | ⟨o, r⟩
  · exact x a u r
  · obtain ⟨_, q⟩ := x a _ r
    exact q
def Mut : Option HO → Prop
  | some (.lst _) => True
  | some (.dK _) => True
  | some (.dT _) => True
  | some (.set _ _) => True
  | some (.ins _ _ _) => True
  | some (.ext _) => True
  | _ => False
section
variable {P : Program} {w : World} {H : Hp} {h h' : Heap} {x e : Addr} {o' : HO}
theorem HOk.write (ok : HOk P w H h) (mu : Mut (H x)) (he : e = x ∨ H e = some (.own x)) (k : ∀ b u, b ≠ e → h.get? b = some u → h'.get? b = some u) (heo : ∃ u, h'.get? e = some u)
    (new : ObjOk P w (upd H x o') h' x o') : HOk P w (upd H x o') h' := fun b u q => by
  have nown : ∀ c y, H c = some (.own y) → c ≠ x := fun c y r z => by subst z; rw [r] at mu; exact mu
  have ntup : ∀ c xs, H c = some (.tup xs) → c ≠ x := fun c xs r z => by subst z; rw [r] at mu; exact mu
  by_cases hb : b = x
  · subst hb; rw [upd_same] at q; cases q; exact new
  · rw [upd_ne hb] at q
    by_cases hbe : b = e
    · have q' : H b = some (.own x) := by
        rcases he with z | z
        · exact absurd (hbe.trans z) hb
        · rw [hbe]; exact z
      rw [q] at q'; cases q'
      obtain ⟨v, hv⟩ := heo
      exact ⟨v, by rw [hbe]; exact hv⟩
    · refine (ok b u q).stay (fun c v hc r => k c v ?_ r) (fun c r => by rw [upd_ne (nown c b r)]; exact r) fun c xs r => by rw [upd_ne (ntup c xs r)]; exact r
      rcases hc with rfl | hc
      · exact hbe
      · rintro rfl
        rcases he with z | z
        · exact nown c b hc z
        · rw [hc] at z; cases z; exact hb rfl
end

structure Un (fs ex : List Addr) (H H' : Hp) (h h' : Heap) : Prop where
  keep : ∀ b o, h.get? b = some o → H b = none → b ∉ fs → b ∉ ex → h'.get? b = some o
  slot : ∀ b o, h.get? b = some o → H b = none → b ∈ fs → b ∉ ex → ∃ sl, h'.get? b = some { o with slots := sl }
  free : ∀ b o, h.get? b = some o → H b = none → b ∉ ex → H' b = none
  there : ∀ b o, h.get? b = some o → b ∉ ex → ∃ o', h'.get? b = some o'
  tups : ∀ b xs, H b = some (.tup xs) → H' b = some (.tup xs)
  frzs : ∀ b o u, H b = some (.frz o u) → H' b = some (.frz o u)
  tbls : ∀ b ps, H b = some (.tbl ps) → ∃ more, H' b = some (.tbl (ps ++ more))
section
variable {fs fs' ex ex' : List Addr} {H H1 H2 : Hp} {h h1 h2 h' : Heap} {a x e : Addr} {o : HO}
theorem Un.any (u : Un fs ex H H1 h h1) {b : Addr} {ob : Obj} (q : h.get? b = some ob) (n : H b = none) (hx : b ∉ ex) : ∃ sl, h1.get? b = some { ob with slots := sl } := by
  by_cases hb : b ∈ fs
  · exact u.slot b ob q n hb hx
  · exact ⟨ob.slots, u.keep b ob q n hb hx⟩
theorem Un.trans (a : Un fs ex H H1 h h1) (b : Un fs ex H1 H2 h1 h2) : Un fs ex H H2 h h2 where
  keep := fun c ob q n hc hx => b.keep c ob (a.keep c ob q n hc hx) (a.free c ob q n hx) hc hx
  slot := fun c ob q n hc hx => by
    obtain ⟨sl, e1⟩ := a.slot c ob q n hc hx
    obtain ⟨sl', e2⟩ := b.slot c _ e1 (a.free c ob q n hx) hc hx
    exact ⟨sl', e2⟩
  free := fun c ob q n hx => by
    obtain ⟨o', e1⟩ := a.there c ob q hx
    exact b.free c o' e1 (a.free c ob q n hx) hx
  there := fun c ob q hx => by
    obtain ⟨o', e1⟩ := a.there c ob q hx
    exact b.there c o' e1 hx
  tups := fun c xs q => b.tups c xs (a.tups c xs q)
  frzs := fun c ob xs q => b.frzs c ob xs (a.frzs c ob xs q)
  tbls := fun c ps q => by
    obtain ⟨m1, e1⟩ := a.tbls c ps q
    obtain ⟨m2, e2⟩ := b.tbls c _ e1
    exact ⟨m1 ++ m2, by rw [e2, Array.append_assoc]⟩
theorem Un.kept (k : ∀ b u, h.get? b = some u → h'.get? b = some u) : Un fs ex H H h h' :=
  ⟨fun b ob q _ _ _ => k b ob q, fun b ob q _ _ _ => ⟨ob.slots, k b ob q⟩, fun _ _ _ n _ => n, fun b ob q _ => ⟨ob, k b ob q⟩, fun _ _ q => q, fun _ _ _ q => q, fun _ ps q => ⟨#[], by rw [q]; simp⟩⟩
theorem Un.refl : Un fs ex H H h h := Un.kept fun _ _ q => q
theorem Un.laid (k : ∀ b u, h.get? b = some u → h'.get? b = some u) (hp : h.objs.size ≤ a) (hn : H a = none) : Un fs ex H (upd H a o) h h' where
  keep := fun b u q _ _ _ => k b u q
  slot := fun b u q _ _ _ => ⟨u.slots, k b u q⟩
  free := fun b u q n _ => by rw [upd_ne (Nat.ne_of_lt (Nat.lt_of_lt_of_le (Heap.lt_size q) hp))]; exact n
  there := fun b u q _ => ⟨u, k b u q⟩
  tups := fun b xs q => by rw [upd_ne (ne_of_none q hn)]; exact q
  frzs := fun b u xs q => by rw [upd_ne (ne_of_none q hn)]; exact q
  tbls := fun b ps q => ⟨#[], by rw [upd_ne (ne_of_none q hn), q]; simp⟩
theorem Un.write (mu : Mut (H x)) (he : e = x ∨ H e = some (.own x)) (k : ∀ b u, b ≠ e → h.get? b = some u → h'.get? b = some u) (heo : ∃ u, h'.get? e = some u) : Un fs ex H (upd H x o) h h' := by
  have hx : ∀ b, H b = none → b ≠ x := fun b n z => by subst z; rw [n] at mu; exact mu
  have hb : ∀ b, H b = none → b ≠ e := fun b n z => by
    subst z
    rcases he with r | r
    · exact hx b n r
    · rw [n] at r; cases r
  have hm : ∀ b u, H b = some u → ¬ Mut (some u) → b ≠ x := fun b u q nm z => by subst z; rw [q] at mu; exact nm mu
  refine ⟨fun b u q n _ _ => k b u (hb b n) q, fun b u q n _ _ => ⟨u.slots, k b u (hb b n) q⟩, fun b u q n _ => by rw [upd_ne (hx b n)]; exact n, fun b u q _ => ?_,
    fun b xs q => by rw [upd_ne (hm b _ q fun z => z)]; exact q, fun b u xs q => by rw [upd_ne (hm b _ q fun z => z)]; exact q, fun b ps q => ⟨#[], by rw [upd_ne (hm b _ q fun z => z), q]; simp⟩⟩
  by_cases hbe : b = e
  · subst hbe; exact heo
  · exact ⟨u, k b u hbe q⟩
theorem Un.mono (u : Un fs ex H H1 h h1) (hs : ∀ b ∈ fs, b ∈ fs') (hx : ∀ b ∈ ex, b ∈ ex') : Un fs' ex' H H1 h h1 :=
  ⟨fun b ob q n hb he => u.keep b ob q n (fun z => hb (hs b z)) fun z => he (hx b z), fun _ _ q n _ he => u.any q n fun z => he (hx _ z), fun b ob q n he => u.free b ob q n fun z => he (hx b z), fun b ob q he => u.there b ob q fun z => he (hx b z), u.tups, u.frzs, u.tbls⟩
end

def trk (h : Heap) (H : Hp) : List Addr := (List.range h.objs.size).filter fun a => (H a).isSome
def hidT (h : Heap) (H : Hp) : Heap := PySem.W.hideAll h (trk h H)
theorem hidT_size (h : Heap) (H : Hp) : (hidT h H).objs.size = h.objs.size := PySem.W.hideAll_size _ _
theorem hidT_get {h : Heap} {H : Hp} {b : Addr} {o : Obj} (e : h.get? b = some o) (n : H b = none) : (hidT h H).get? b = some o :=
  PySem.W.hideAll_get _ e fun hm => by
    have q : (H b).isSome = true := (List.mem_filter.mp hm).2
    rw [n] at q; simp at q
theorem of_hidT {h : Heap} {H : Hp} {b : Addr} {o : Obj} (e : (hidT h H).get? b = some o) : h.get? b = some o ∧ H b = none := by
  have e' : h.get? b = some o := PySem.W.of_hideAll (trk h H) e
  refine ⟨e', ?_⟩
  cases q : H b with
  | none => rfl
  | some x =>
    have hm : b ∈ trk h H := List.mem_filter.mpr ⟨List.mem_range.mpr (Heap.lt_size e'), by simp [q]⟩
    have z : (hidT h H).get? b = none := PySem.W.hideAll_none (trk h H) hm
    rw [z] at e; cases e

def allNews (g h : Heap) (L : Addr) : List (Addr × Obj) := (List.range h.objs.size).filterMap fun a => if a = L ∨ (g.get? a).isSome = true then none else (h.get? a).map fun o => (a, o)
def rest (g h : Heap) (L d : Addr) : List (Addr × Obj) := (allNews g h L).filter fun p => decide (p.1 ≠ d)
end L2

namespace L2
open PySem PySem.Spec PyProof.Rows

structure Mod (K : PySem.W.Frag) (mg : Str → Option Value) (base : Heap) : Prop where
  kin : K.In base
  glob : base.Ns mainGlobals mg
  blt : ∃ mb, base.Ns builtinsNs mb ∧ ∀ x : Str, x ≠ "__name__" → mb x = bootBuiltins x
  nolimit : base.NoLimit

structure Cx where
  prog : Program
  w : World
  K : PySem.W.Frag
  mg : Str → Option Value
  base : Heap
  A : Around
  N : List Str
  s₀ : Shared
  H₀ : Hp
  env : Env
  outer : List Env
  stack : List Env
  ex : List Addr
  fn : Str → Bool
  calm : Bool
  pn : List (Addr × Obj)
  xe : Value → Shared → Prop
def frs (l : List Env) : List Addr := l.filterMap (·.frame)
abbrev Cx.fs (X : Cx) : List Addr := frs X.outer

def Vis (sc : Scope) (x : Str) : Prop := sc.names.lookup x = some .local ∨ sc.names.lookup x = some .cell ∨ sc.names.lookup x = some .free
def Loc (sc : Scope) (x : Str) : Prop := sc.names.lookup x = some .local ∨ sc.names.lookup x = some .cell
def Look (env : Env) (h : Heap) (m : Str → Option Value) (x : Str) (u : Value) : Prop :=
  (env.kindOf x = some .local ∧ m x = some u) ∨ ((env.kindOf x = some .cell ∨ env.kindOf x = some .free) ∧ ∃ c, env.cells.lookup x = some c ∧ h.IsCell c (some u))

structure Cx.Ok (X : Cx) : Prop where
  mod : Mod X.K X.mg X.base
  kind : X.env.scope.kind = .function
  glob : X.env.globals = mainGlobals
  blt : X.env.builtins = builtinsNs
  above : X.s₀.heap.objs.size ≤ X.env.locals
  inj : ∀ x y c, X.env.cells.lookup x = some c → X.env.cells.lookup y = some c → x = y
  has : ∀ x, (X.env.kindOf x = some .cell ∨ X.env.kindOf x = some .free) → ∃ c, X.env.cells.lookup x = some c
  cab : ∀ x c, X.fn x = true → X.env.cells.lookup x = some c → X.s₀.heap.objs.size ≤ c
  hd : X.calm = true → X.A.handled = none
  frames : X.A.frames = some X.stack
  stk : X.stack = X.outer ∨ (X.stack = X.env :: X.outer ∧ X.env.frame = some X.env.locals)
  exf : ∀ b ∈ X.ex, b ≠ X.env.locals ∧ ∀ x c, X.env.cells.lookup x = some c → c ≠ b
  bs : ∀ b o, X.base.get? b = some o → X.s₀.heap.get? b = some o ∧ X.H₀ b = none
  bsz : X.base.objs.size ≤ X.s₀.heap.objs.size
  noex : ∀ b o, X.base.get? b = some o → b ∉ X.ex
  exfs : ∀ b ∈ X.ex, b ∉ X.fs
  funs : X.s₀.heap.FunFrames X.base X.outer
  frf : ∀ b ∈ X.fs, X.H₀ b = none

structure Inv (X : Cx) (pins : List (Addr × Obj)) (σ : List (Option V)) (H : Hp) (s : Shared) : Prop where
  ok : X.Ok
  os : s.os = X.s₀.os
  bare : AllBare s.gens
  base : Un X.fs X.ex X.H₀ H X.s₀.heap s.heap
  loc : ∃ m, s.heap.Ns X.env.locals m ∧ ∀ (i : Nat) (x : Str) (v : V), X.N[i]? = some x → σ[i]? = some (some v) → Vis X.env.scope x → ∃ u, RelV v u ∧ Look X.env s.heap m x u
  cell : ∀ x c, X.env.cells.lookup x = some c → ∃ v, s.heap.IsCell c v
  free : H X.env.locals = none
  freeC : ∀ x c, X.env.cells.lookup x = some c → H c = none
  pin : ∀ p ∈ X.pn ++ pins, s.heap.get? p.1 = some p.2 ∧ H p.1 = none ∧ p.1 ≠ X.env.locals ∧ p.1 ∉ X.fs ∧ ∀ v, p.2.data ≠ .cell v
  hok : HOk X.prog X.w H s.heap
  len : σ.length = X.N.length

section
variable {X : Cx} {pins : List (Addr × Obj)} {σ : List (Option V)} {H H' : Hp} {s : Shared} {h' : Heap}

theorem Cx.Ok.nofr (ok : X.Ok) {b : Addr} {o : Obj} (e : X.base.get? b = some o) : b ∉ X.fs := fun hb => by
  have := (ok.funs.mem hb).1
  rw [e] at this; cases this
theorem Inv.bs (I : Inv X pins σ H s) : ∀ b o, X.base.get? b = some o → s.heap.get? b = some o ∧ H b = none := fun b o e =>
  ⟨I.base.keep b o (I.ok.bs b o e).1 (I.ok.bs b o e).2 (I.ok.nofr e) (I.ok.noex b o e), I.base.free b o (I.ok.bs b o e).1 (I.ok.bs b o e).2 (I.ok.noex b o e)⟩
theorem Inv.bk (I : Inv X pins σ H s) : ∀ b o, X.base.get? b = some o → s.heap.get? b = some o := fun b o e => (I.bs b o e).1
theorem Inv.mod (I : Inv X pins σ H s) : Mod X.K X.mg X.base := I.ok.mod
theorem Inv.kIn (I : Inv X pins σ H s) : X.K.In s.heap := I.ok.mod.kin.keeps I.bk
theorem Inv.nolimit (I : Inv X pins σ H s) : s.heap.NoLimit := I.ok.mod.nolimit.keeps I.bk
theorem Inv.fr (I : Inv X pins σ H s) : ∃ m, Fr X.base X.env.locals s.heap m :=
  let ⟨m, hn, _⟩ := I.loc
  ⟨m, hn, I.bk, Nat.le_trans I.ok.bsz I.ok.above⟩
theorem Inv.lt (I : Inv X pins σ H s) : X.env.locals < s.heap.objs.size := let ⟨_, hn, _⟩ := I.loc; hn.lt
theorem Inv.sz (I : Inv X pins σ H s) : X.s₀.heap.objs.size ≤ s.heap.objs.size := Nat.le_trans I.ok.above (Nat.le_of_lt I.lt)
theorem Inv.nofs (I : Inv X pins σ H s) {a : Addr} (h : s.heap.objs.size ≤ a) : a ∉ X.fs := fun hb => by
  obtain ⟨_, o, ho, _⟩ := I.ok.funs.mem hb
  exact absurd (Nat.lt_of_lt_of_le (Heap.lt_size ho) (Nat.le_trans I.sz h)) (Nat.lt_irrefl _)
theorem Inv.cne (I : Inv X pins σ H s) : ∀ x c, X.env.cells.lookup x = some c → c ≠ X.env.locals := fun x c e z => by
  obtain ⟨v, o, ho, hd⟩ := I.cell x c e
  obtain ⟨m, ⟨o', es, ep, ho', hd', _⟩, _⟩ := I.loc
  rw [z, ho'] at ho; cases ho; rw [hd'] at hd; cases hd
theorem Inv.funs (I : Inv X pins σ H s) : s.heap.FunFrames X.base X.outer := by
  have all : ∀ (l : List Env), (∀ b ∈ frs l, b ∈ X.fs) → X.s₀.heap.FunFrames X.base l → s.heap.FunFrames X.base l := by
    intro l
    induction l with
    | nil => intro _ _; trivial
    | cons env r ih =>
      intro hs hl
      obtain ⟨hk, ⟨L, o, hf, hn, ho, hd⟩, hr⟩ := hl
      have hL : L ∈ X.fs := hs L (by unfold frs; rw [List.filterMap_cons, hf]; exact List.mem_cons_self)
      obtain ⟨sl, e⟩ := I.base.slot L o ho (I.ok.frf L hL) hL fun z => I.ok.exfs L z hL
      exact ⟨hk, ⟨L, _, hf, hn, e, hd⟩, ih (fun b hb => hs b (by unfold frs; rw [List.filterMap_cons, hf]; exact List.mem_cons_of_mem _ hb)) hr⟩
  exact all X.outer (fun _ hb => hb) I.ok.funs

theorem Inv.stack (I : Inv X pins σ H s) : s.heap.FunFrames X.base X.stack := by
  rcases I.ok.stk with e | ⟨e, hf⟩
  · rw [e]; exact I.funs
  · rw [e]
    obtain ⟨m, hn, _⟩ := I.loc
    refine .cons (by rw [I.ok.kind]; decide) hf hn ?_ I.funs
    exact Heap.get?_none_of_le (Nat.le_trans I.ok.bsz I.ok.above)
theorem Inv.stkSub (I : Inv X pins σ H s) : ∀ b ∈ frs X.stack, b ∈ X.env.locals :: X.fs := fun b hb => by
  rcases I.ok.stk with e | ⟨e, hf⟩
  · rw [e] at hb; exact List.mem_cons_of_mem _ hb
  · rw [e] at hb
    unfold frs at hb
    rw [List.filterMap_cons, hf] at hb
    exact hb
theorem Inv.stkFree (I : Inv X pins σ H s) : ∀ b ∈ frs X.stack, H b = none := fun b hb => by
  rcases List.mem_cons.mp (I.stkSub b hb) with e | hb
  · rw [e]; exact I.free
  · obtain ⟨_, o, ho, _⟩ := I.ok.funs.mem hb
    exact I.base.free b o ho (I.ok.frf b hb) fun z => I.ok.exfs b z hb

theorem Inv.step {g' : Array GenState} {t' : Nat} {d' : Drawn} {ch : List Addr} (I : Inv X pins σ H s)
    (hch : ∀ b ∈ ch, (b ∈ X.ex ∨ X.s₀.heap.objs.size ≤ b) ∧ b ≠ X.env.locals ∧ (∀ x c, X.env.cells.lookup x = some c → c ≠ b) ∧ ∀ p ∈ X.pn ++ pins, p.1 ≠ b)
    (keep : ∀ b o, b ≠ X.env.locals → b ∉ X.fs → b ∉ ch → s.heap.get? b = some o → H b = none → h'.get? b = some o)
    (slot : ∀ b o, b ≠ X.env.locals → b ∈ X.fs → b ∉ ch → s.heap.get? b = some o → H b = none → ∃ sl, h'.get? b = some { o with slots := sl }) (free : ∀ b o, b ∉ ch → s.heap.get? b = some o → H b = none → H' b = none)
    (there : ∀ b o, b ∉ ch → s.heap.get? b = some o → ∃ o', h'.get? b = some o')
    (tups : ∀ b xs, H b = some (.tup xs) → H' b = some (.tup xs)) (frzs : ∀ b o u, H b = some (.frz o u) → H' b = some (.frz o u)) (tbls : ∀ b ps, H b = some (.tbl ps) → ∃ more, H' b = some (.tbl (ps ++ more)))
    (ns : ∀ m, s.heap.Ns X.env.locals m → h'.Ns X.env.locals m) (hok : HOk X.prog X.w H' h') (hg : AllBare g') :
    Inv X pins σ H' { s with heap := h', gens := g', drawn := d', toks := t' } := by
  have neL : ∀ b o, X.s₀.heap.get? b = some o → b ≠ X.env.locals := fun b o e => Nat.ne_of_lt (Nat.lt_of_lt_of_le (Heap.lt_size e) I.ok.above)
  have neC : ∀ b o, X.s₀.heap.get? b = some o → b ∉ X.ex → b ∉ ch := fun b o e hx hb => by
    rcases (hch b hb).1 with z | z
    · exact hx z
    · exact absurd (Nat.lt_of_lt_of_le (Heap.lt_size e) z) (Nat.lt_irrefl _)
  have cellK : ∀ x c, X.env.cells.lookup x = some c → ∀ v, s.heap.IsCell c v → h'.IsCell c v := fun x c e v ⟨o, ho, hd⟩ => by
    have nch : c ∉ ch := fun z => (hch c z).2.2.1 x c e rfl
    by_cases hc : c ∈ X.fs
    · obtain ⟨sl, q⟩ := slot c o (I.cne x c e) hc nch ho (I.freeC x c e)
      exact ⟨_, q, hd⟩
    · exact ⟨o, keep c o (I.cne x c e) hc nch ho (I.freeC x c e), hd⟩
  refine ⟨I.ok, I.os, hg, ⟨fun b o e n hb hx => ?_, fun b o e n hb hx => ?_, fun b o e n hx => ?_, fun b o e hx => ?_, fun b xs e => tups b xs (I.base.tups b xs e), fun b o xs e => frzs b o xs (I.base.frzs b o xs e), fun b ps e => ?_⟩, ?_, fun x c e => ?_, ?_, fun x c e => ?_, fun p hp => ?_, hok, I.len⟩
  · exact keep b o (neL b o e) hb (neC b o e hx) (I.base.keep b o e n hb hx) (I.base.free b o e n hx)
  · obtain ⟨sl, e1⟩ := I.base.slot b o e n hb hx
    obtain ⟨sl', e2⟩ := slot b _ (neL b o e) hb (neC b o e hx) e1 (I.base.free b o e n hx)
    exact ⟨sl', e2⟩
  · obtain ⟨o', e1⟩ := I.base.there b o e hx
    exact free b o' (neC b o e hx) e1 (I.base.free b o e n hx)
  · obtain ⟨o', e1⟩ := I.base.there b o e hx
    exact there b o' (neC b o e hx) e1
  · obtain ⟨m1, e1⟩ := I.base.tbls b ps e
    obtain ⟨m2, e2⟩ := tbls b _ e1
    exact ⟨m1 ++ m2, by rw [e2, Array.append_assoc]⟩
  · obtain ⟨m, hn, hl⟩ := I.loc
    refine ⟨m, ns m hn, fun i x v e1 e2 e3 => ?_⟩
    obtain ⟨u, r, l⟩ := hl i x v e1 e2 e3
    refine ⟨u, r, ?_⟩
    rcases l with l | ⟨k, c, e, z⟩
    · exact .inl l
    · exact .inr ⟨k, c, e, cellK x c e _ z⟩
  · obtain ⟨v, z⟩ := I.cell x c e
    exact ⟨v, cellK x c e v z⟩
  · obtain ⟨m, ⟨o, _, _, ho, _⟩, _⟩ := I.loc
    exact free _ o (fun z => (hch _ z).2.1 rfl) ho I.free
  · obtain ⟨v, o, ho, hd⟩ := I.cell x c e
    exact free c o (fun z => (hch c z).2.2.1 x c e rfl) ho (I.freeC x c e)
  · obtain ⟨e, n, ne, nf, d⟩ := I.pin p hp
    have nch : p.1 ∉ ch := fun z => (hch p.1 z).2.2.2 p hp rfl
    exact ⟨keep p.1 p.2 ne nf nch e n, free p.1 p.2 nch e n, ne, nf, d⟩
theorem Inv.un {t' : Nat} (I : Inv X pins σ H s) (u : Un X.fs [] H H' s.heap h') (hok : HOk X.prog X.w H' h') : Inv X pins σ H' { s with heap := h', toks := t' } := by
  obtain ⟨m, ⟨o, es, ep, ho, r⟩, _⟩ := id I.loc
  obtain ⟨sl, hL⟩ := u.any ho I.free (by simp)
  exact I.step (g' := s.gens) (d' := s.drawn) (ch := []) (fun _ z => nomatch z) (fun b o _ hb _ e n => u.keep b o e n hb (by simp)) (fun b o _ hb _ e n => u.slot b o e n hb (by simp)) (fun b o _ e n => u.free b o e n (by simp)) (fun b o _ e => u.there b o e (by simp)) u.tups u.frzs u.tbls (fun m' hm => by
    obtain ⟨o', es', ep', ho', r'⟩ := hm
    rw [ho] at ho'; cases ho'
    exact ⟨_, es', ep', hL, r'⟩) hok I.bare
theorem Inv.call {g' : Array GenState} {t' : Nat} {d' : Drawn} {ch : List Addr} (I : Inv X pins σ H s) (u : Un (frs X.stack) ch H H' s.heap h') (hok : HOk X.prog X.w H' h') (hg : AllBare g')
    (hch : ∀ b ∈ ch, (b ∈ X.ex ∨ X.s₀.heap.objs.size ≤ b) ∧ b ≠ X.env.locals ∧ (∀ x c, X.env.cells.lookup x = some c → c ≠ b) ∧ ∀ p ∈ X.pn ++ pins, p.1 ≠ b) :
    Inv X pins σ H' { s with heap := h', gens := g', drawn := d', toks := t' } := by
  obtain ⟨m, ⟨o, es, ep, ho, r⟩, _⟩ := id I.loc
  obtain ⟨sl, hL⟩ := u.any ho I.free fun z => (hch _ z).2.1 rfl
  exact I.step (ch := ch) hch (fun b o hL hb hc e n => u.keep b o e n (fun z => (List.mem_cons.mp (I.stkSub b z)).elim hL hb) hc) (fun b o _ _ hc e n => u.any e n hc) (fun b o hc e n => u.free b o e n hc) (fun b o hc e => u.there b o e hc) u.tups u.frzs u.tbls (fun m' hm => by
    obtain ⟨o', es', ep', ho', r'⟩ := hm
    rw [ho] at ho'; cases ho'
    exact ⟨_, es', ep', hL, r'⟩) hok hg
theorem Inv.turned {t' : Nat} {it : Addr} (I : Inv X pins σ H s) (k : ∀ b o, b ≠ it → s.heap.get? b = some o → h'.get? b = some o) (hn : H it = none) (hL : it ≠ X.env.locals)
    (h1 : it ∈ X.ex ∨ X.s₀.heap.objs.size ≤ it) (h2 : ∀ x c, X.env.cells.lookup x = some c → c ≠ it) (h3 : ∀ p ∈ X.pn ++ pins, p.1 ≠ it) : Inv X pins σ H { s with heap := h', toks := t' } := by
  have nit : ∀ b u, H b = some u → b ≠ it := fun b u e z => by rw [z, hn] at e; cases e
  refine I.step (g' := s.gens) (d' := s.drawn) (ch := [it]) (fun b hb => ?_) (fun b o _ _ hc e _ => k b o (fun z => hc (by simp [z])) e) (fun b o _ _ hc e _ => ⟨o.slots, k b o (fun z => hc (by simp [z])) e⟩) (fun _ _ _ _ n => n)
    (fun b o hc e => ⟨o, k b o (fun z => hc (by simp [z])) e⟩) (fun _ _ e => e) (fun _ _ _ e => e) (fun b ps e => ⟨#[], by rw [e]; simp⟩) (fun m hm => ?_) (fun b u e => ?_) I.bare
  · have e : b = it := by simpa using hb
    subst e
    exact ⟨h1, hL, h2, h3⟩
  · obtain ⟨o, es, ep, ho, r⟩ := hm
    exact ⟨o, es, ep, k _ o (Ne.symm hL) ho, r⟩
  · refine (I.hok b u e).stay (fun c v hc q => k c v ?_ q) (fun _ q => q) fun _ _ q => q
    rcases hc with z | z
    · rw [z]; exact nit b u e
    · exact nit c _ z
theorem Inv.tok (I : Inv X pins σ H s) (t : Nat) : Inv X pins σ H { s with toks := t } := I.un (h' := s.heap) (t' := t) Un.refl I.hok
theorem Inv.kept {t' : Nat} (I : Inv X pins σ H s) (k : ∀ b u, s.heap.get? b = some u → h'.get? b = some u) : Inv X pins σ H { s with heap := h', toks := t' } := I.un (Un.kept k) (I.hok.kept k)
theorem Inv.laid {a : Addr} {o : HO} {t' : Nat} (I : Inv X pins σ H s) (k : ∀ b u, s.heap.get? b = some u → h'.get? b = some u) (hp : s.heap.objs.size ≤ a) (new : ObjOk X.prog X.w (upd H a o) h' a o) :
    Inv X pins σ (upd H a o) { s with heap := h', toks := t' } := I.un (Un.laid k hp (I.hok.fresh hp)) (I.hok.laid k hp new)
theorem Inv.write {x e : Addr} {o : HO} {t' : Nat} (I : Inv X pins σ H s) (mu : Mut (H x)) (he : e = x ∨ H e = some (.own x)) (k : ∀ b u, b ≠ e → s.heap.get? b = some u → h'.get? b = some u) (heo : ∃ u, h'.get? e = some u)
    (new : ObjOk X.prog X.w (upd H x o) h' x o) : Inv X pins σ (upd H x o) { s with heap := h', toks := t' } := I.un (Un.write mu he k heo) (I.hok.write mu he k heo new)
theorem Inv.pins_of {pins' : List (Addr × Obj)} (I : Inv X pins σ H s) (h : ∀ p ∈ pins', s.heap.get? p.1 = some p.2 ∧ H p.1 = none ∧ p.1 ≠ X.env.locals ∧ p.1 ∉ X.fs ∧ ∀ v, p.2.data ≠ .cell v) : Inv X pins' σ H s :=
  ⟨I.ok, I.os, I.bare, I.base, I.loc, I.cell, I.free, I.freeC, fun p hp => (List.mem_append.mp hp).elim (fun z => I.pin p (List.mem_append_left _ z)) (h p), I.hok, I.len⟩

theorem nodup_ix {N : List Str} (hN : N.Nodup) {i j : Nat} {x : Str} (a : N[i]? = some x) (b : N[j]? = some x) : i = j := by
  obtain ⟨h1, e1⟩ := List.getElem?_eq_some_iff.mp a
  obtain ⟨h2, e2⟩ := List.getElem?_eq_some_iff.mp b
  exact (List.getElem_inj hN).mp (e1.trans e2.symm)

theorem store_ok2 {M : Model} {A : Around} {E : Value → Shared → Prop} {i : Nat} {x : Str} {v : V} {u : Value} {Q : Unit → Shared → Prop} (I : Inv X pins σ H s) (hN : X.N.Nodup) (hi : X.N[i]? = some x) (hx : Loc X.env.scope x) (r : RelV v u)
    (h : ∀ s', Inv X pins (σ.set i (some v)) H s' → (∃ a, Heap.SameBut a s.heap s'.heap ∧ (a = X.env.locals ∨ X.env.cells.lookup x = some a)) → Q () s') (hf : X.fn x = true ∨ X.env.scope.names.lookup x = some .local := by first | exact .inl rfl | exact .inr rfl | assumption) : wpAny M A (storeName X.env x u) Q E s := by
  obtain ⟨m, hn, hl⟩ := id I.loc
  have hcls : (X.env.scope.kind == .class || (X.env.scope.kind == .module && X.env.locals != X.env.globals)) = false := by rw [I.ok.kind]; rfl
  have hiσ : i < σ.length := by rw [I.len]; exact (List.getElem?_eq_some_iff.mp hi).1
  have cne := I.cne
  have tracked : ∀ {a : Addr} {h' : Heap}, (∃ o, s.heap.get? a = some o ∧ H a = none) → Heap.SameBut a s.heap h' → HOk X.prog X.w H h' := fun {a h'} ha hs b ob e => by
    obtain ⟨_, _, hfree⟩ := ha
    refine (I.hok b ob e).stay (fun c w' hc q => (hs.2 c ?_).trans q) (fun _ q => q) fun _ _ q => q
    rintro rfl
    rcases hc with rfl | hc
    · rw [hfree] at e; cases e
    · rw [hfree] at hc; cases hc
  rcases hx with hk | hk
  · refine wpAny_storeName_local hk hn (fun h' hn' hs => ?_) hcls
    obtain ⟨oL, _, _, hoL, _⟩ := id hn
    refine h _ ⟨I.ok, I.os, I.bare, ⟨fun b o e n hb hx => ?_, fun b o e n hb hx => ?_, I.base.free, fun b o e hx => ?_, I.base.tups, I.base.frzs, I.base.tbls⟩, ⟨_, hn', fun j y v' e1 e2 e3 => ?_⟩, fun y c e => ?_, I.free, I.freeC, fun p hp => ?_, tracked ⟨oL, hoL, I.free⟩ hs, by simpa using I.len⟩ ⟨_, hs, .inl rfl⟩
    · exact (hs.2 b (Nat.ne_of_lt (Nat.lt_of_lt_of_le (Heap.lt_size e) I.ok.above))).trans (I.base.keep b o e n hb hx)
    · obtain ⟨sl, e1⟩ := I.base.slot b o e n hb hx
      exact ⟨sl, (hs.2 b (Nat.ne_of_lt (Nat.lt_of_lt_of_le (Heap.lt_size e) I.ok.above))).trans e1⟩
    · obtain ⟨o', e1⟩ := I.base.there b o e hx
      exact ⟨o', (hs.2 b (Nat.ne_of_lt (Nat.lt_of_lt_of_le (Heap.lt_size e) I.ok.above))).trans e1⟩
    · by_cases hj : j = i
      · subst hj
        rw [hi] at e1; cases e1
        rw [List.getElem?_set_self hiσ] at e2
        cases e2
        exact ⟨u, r, .inl ⟨hk, by simp⟩⟩
      · rw [List.getElem?_set_ne (Ne.symm hj)] at e2
        obtain ⟨u', r', q⟩ := hl j y v' e1 e2 e3
        refine ⟨u', r', ?_⟩
        rcases q with ⟨k, e⟩ | ⟨k, c, e, z⟩
        · refine .inl ⟨k, ?_⟩
          have : y ≠ x := fun e => hj (nodup_ix hN e1 (e ▸ hi))
          simp [this, e]
        · exact .inr ⟨k, c, e, z.sameBut hs (cne y c e)⟩
    · obtain ⟨w', z⟩ := I.cell y c e
      exact ⟨w', z.sameBut hs (cne y c e)⟩
    · obtain ⟨e, n, ne, nf, d⟩ := I.pin p hp
      exact ⟨(hs.2 p.1 ne).trans e, n, ne, nf, d⟩
  · have hfn : X.fn x = true := by
      rcases hf with z | z
      · exact z
      · rw [z] at hk; cases hk
    obtain ⟨c, hc⟩ := I.ok.has x (.inl hk)
    obtain ⟨w', z⟩ := I.cell x c hc
    refine wpAny_storeName_cell I.ok.kind hk hc z (fun h' hc' hs => ?_)
    obtain ⟨oc, hoc, hocd⟩ := id z
    refine h { s with heap := h' } ⟨I.ok, I.os, I.bare, ⟨fun b o e n hb hx => ?_, fun b o e n hb hx => ?_, I.base.free, fun b o e hx => ?_, I.base.tups, I.base.frzs, I.base.tbls⟩, ⟨m, hn.sameBut hs (Ne.symm (cne x c hc)), fun j y v' e1 e2 e3 => ?_⟩, fun y c' e => ?_, I.free, I.freeC, fun p hp => ?_, tracked ⟨oc, hoc, I.freeC x c hc⟩ hs, by simpa using I.len⟩ ⟨c, hs, .inr hc⟩
    · exact (hs.2 b (Nat.ne_of_lt (Nat.lt_of_lt_of_le (Heap.lt_size e) (I.ok.cab x c hfn hc)))).trans (I.base.keep b o e n hb hx)
    · obtain ⟨sl, e1⟩ := I.base.slot b o e n hb hx
      exact ⟨sl, (hs.2 b (Nat.ne_of_lt (Nat.lt_of_lt_of_le (Heap.lt_size e) (I.ok.cab x c hfn hc)))).trans e1⟩
    · obtain ⟨o', e1⟩ := I.base.there b o e hx
      exact ⟨o', (hs.2 b (Nat.ne_of_lt (Nat.lt_of_lt_of_le (Heap.lt_size e) (I.ok.cab x c hfn hc)))).trans e1⟩
    · by_cases hj : j = i
      · subst hj
        rw [hi] at e1; cases e1
        rw [List.getElem?_set_self hiσ] at e2
        cases e2
        exact ⟨u, r, .inr ⟨.inl hk, c, hc, hc'⟩⟩
      · rw [List.getElem?_set_ne (Ne.symm hj)] at e2
        obtain ⟨u', r', q⟩ := hl j y v' e1 e2 e3
        refine ⟨u', r', ?_⟩
        rcases q with q | ⟨k, c', e, z'⟩
        · exact .inl q
        · refine .inr ⟨k, c', e, z'.sameBut hs ?_⟩
          rintro rfl
          exact hj (nodup_ix hN e1 (I.ok.inj _ _ _ e hc ▸ hi))
    · by_cases hcc : c' = c
      · subst hcc; exact ⟨_, hc'⟩
      · obtain ⟨w2, z2⟩ := I.cell y c' e
        exact ⟨w2, z2.sameBut hs hcc⟩
    · obtain ⟨e, n, ne, nf, d⟩ := I.pin p hp
      refine ⟨(hs.2 p.1 ?_).trans e, n, ne, nf, d⟩
      intro q
      rw [q, hoc] at e
      have q' : oc = p.2 := Option.some.inj e
      exact d w' (by rw [← q']; exact hocd)
theorem store_ok {M : Model} {A : Around} {E : Value → Shared → Prop} {i : Nat} {x : Str} {v : V} {u : Value} {Q : Unit → Shared → Prop} (I : Inv X pins σ H s) (hN : X.N.Nodup) (hi : X.N[i]? = some x) (hx : Loc X.env.scope x) (r : RelV v u)
    (h : ∀ s', Inv X pins (σ.set i (some v)) H s' → Q () s') (hf : X.fn x = true ∨ X.env.scope.names.lookup x = some .local := by first | exact .inl rfl | exact .inr rfl | assumption) : wpAny M A (storeName X.env x u) Q E s :=
  store_ok2 I hN hi hx r (fun s' I' _ => h s' I') hf
theorem Inv.call' {s' : Shared} {ch : List Addr} (I : Inv X pins σ H s) (ho : s'.os = s.os) (u : Un (frs X.stack) ch H H' s.heap s'.heap) (hok : HOk X.prog X.w H' s'.heap) (hg : AllBare s'.gens)
    (hch : ∀ b ∈ ch, (b ∈ X.ex ∨ X.s₀.heap.objs.size ≤ b) ∧ b ≠ X.env.locals ∧ (∀ x c, X.env.cells.lookup x = some c → c ≠ b) ∧ ∀ p ∈ X.pn ++ pins, p.1 ≠ b) : Inv X pins σ H' s' := by
  obtain ⟨h', g', d', t', o'⟩ := s'
  have e : o' = s.os := ho
  subst e
  exact I.call (g' := g') (t' := t') (d' := d') u hok hg hch
end

abbrev XK := Value → Option Addr → Hp → Prop
abbrev St := List (Option V)
abbrev VK := V → Hp → Prop
abbrev TE := St → Hp → VK → Prop
abbrev TT := St → Hp → (Bool → Hp → Prop) → Prop
abbrev TA := St → Hp → (List V → Hp → Prop) → Prop
structure Ends where
  nx : St → Hp → Prop
  rt : VK
  bk : St → Hp → Prop := fun _ _ => False
  ct : St → Hp → Prop := fun _ _ => False
abbrev TS := Ends → St → Hp → Prop

def EP (X : Cx) (pins : List (Addr × Obj)) (σ : St) (Q : VK) (u : Value) (s' : Shared) : Prop := ∃ v H', Inv X pins σ H' s' ∧ RelV v u ∧ Q v H'
def TP (X : Cx) (pins : List (Addr × Obj)) (σ : St) (Q : Bool → Hp → Prop) (b : Bool) (s' : Shared) : Prop := ∃ H', Inv X pins σ H' s' ∧ Q b H'
def AP (X : Cx) (pins : List (Addr × Obj)) (σ : St) (Q : List V → Hp → Prop) (us : List Value) (s' : Shared) : Prop := ∃ vs H', Inv X pins σ H' s' ∧ Vals vs us ∧ Q vs H'
def SP (X : Cx) (pins : List (Addr × Obj)) (D : Ends) (f : Flow) (s' : Shared) : Prop :=
  match f with
  | .next => ∃ σ' H', Inv X pins σ' H' s' ∧ D.nx σ' H'
  | .brk => ∃ σ' H', Inv X pins σ' H' s' ∧ D.bk σ' H'
  | .cont => ∃ σ' H', Inv X pins σ' H' s' ∧ D.ct σ' H'
  | .ret u => ∃ v σ' H', Inv X pins σ' H' s' ∧ RelV v u ∧ D.rt v H'

def PE (X : Cx) (e : Expr) (t : TE) : Prop :=
  ∀ (pins : List (Addr × Obj)) (s : Shared) (σ : St) (H : Hp) (Q : VK), Inv X pins σ H s → t σ H Q → wpAny (model X.prog X.w) X.A (eval e X.env) (EP X pins σ Q) X.xe s
def PT (X : Cx) (e : Expr) (t : TT) : Prop :=
  ∀ (pins : List (Addr × Obj)) (s : Shared) (σ : St) (H : Hp) (Q : Bool → Hp → Prop), Inv X pins σ H s → t σ H Q → wpAny (model X.prog X.w) X.A (isTrue e X.env (eval e X.env)) (TP X pins σ Q) X.xe s
def PW (X : Cx) (e : Expr) (t : TT) : Prop :=
  ∀ (whole : Sem Value) (pins : List (Addr × Obj)) (s : Shared) (σ : St) (H : Hp) (Q : Bool → Hp → Prop), Inv X pins σ H s → t σ H Q → wpAny (model X.prog X.w) X.A (isTrue e X.env whole) (TP X pins σ Q) X.xe s
def PA (X : Cx) (es : List Expr) (t : TA) : Prop :=
  ∀ (pos : Pos) (pins : List (Addr × Obj)) (s : Shared) (σ : St) (H : Hp) (Q : List V → Hp → Prop), Inv X pins σ H s → t σ H Q → wpAny (model X.prog X.w) X.A (spliced (backTo pos (starEach es X.env))) (AP X pins σ Q) X.xe s
def PS (X : Cx) (st : Stmt) (t : TS) : Prop :=
  ∀ (pins : List (Addr × Obj)) (s : Shared) (σ : St) (H : Hp) (D : Ends), Inv X pins σ H s → t D σ H → wpAny (model X.prog X.w) X.A (exec st X.env) (SP X pins D) X.xe s
def PSs (X : Cx) (st : List Stmt) (t : TS) : Prop :=
  ∀ (pins : List (Addr × Obj)) (s : Shared) (σ : St) (H : Hp) (D : Ends), Inv X pins σ H s → t D σ H → wpAny (model X.prog X.w) X.A (execs st X.env) (SP X pins D) X.xe s
theorem thn {α : Type} {t : Sem α} {Q Q' : α → Shared → Prop} {M : Model} {A : Around} {E : Value → Shared → Prop} {s : Shared} (h : wpAny M A t Q E s) (hQ : ∀ a s, Q a s → Q' a s) : wpAny M A t Q' E s := wpAny_mono h hQ fun _ _ x => x
end L2

namespace L2
open PySem PySem.Spec PyProof.Rows
section
variable {X : Cx}

def tVar (i : Nat) : TE := fun σ H Q => ∃ v, σ[i]? = some (some v) ∧ Q v H
def tC (v : V) : TE := fun _ H Q => Q v H
theorem pe_var {i : Nat} {x : Str} {pos : Pos} (hN : X.N[i]? = some x) (hv : Vis X.env.scope x) (hd : (x == ("__debug__" : Str)) = false := by decide) (hcd : (x == ("__classdict__" : Str)) = false := by decide) : PE X (.Name x pos) (tVar i) := by
  intro pins s σ H Q I h
  obtain ⟨v, e, h⟩ := h
  obtain ⟨m, hn, hl⟩ := I.loc
  obtain ⟨u, r, l⟩ := hl i x v hN e hv
  have fin : EP X pins σ Q u s := ⟨v, H, I, r, h⟩
  rcases l with ⟨hk, hm⟩ | ⟨hk, c, hc, hcell⟩
  · exact wpAny_Name (wpAny_loadName_local I.ok.kind hk hn hm fin) hd
  · rcases hk with hk | hk
    · exact wpAny_Name (wpAny_loadName_cell I.ok.kind hk hc hcell fin) hd
    · exact wpAny_Name (wpAny_loadName_free I.ok.kind hk hc hcell fin hcd) hd
theorem pe_int {i j pos} : PE X (.Constant (.int i) j pos) (tC (.int i)) := fun _ _ _ H _ I h => wpAny_Constant_int ⟨.int i, H, I.tok _, ⟨_, rfl⟩, h⟩
theorem pe_bl {b j pos} : PE X (.Constant (.bool b) j pos) (tC (.bl b)) := fun _ _ _ H _ I h => Constant_bool ⟨.bl b, H, I, rfl, h⟩
theorem pe_str {x j pos} : PE X (.Constant (.str x) j pos) (tC (.str x)) := fun _ _ _ H _ I h => Calls.Constant_str ⟨.str x, H, I.tok _, ⟨_, rfl⟩, h⟩

def Gl (X : Cx) (x : Str) : Prop := X.env.kindOf x = some .globalImplicit
theorem ld_glob {E : Value → Shared → Prop} {pins : List (Addr × Obj)} {s : Shared} {σ : St} {H : Hp} {x : Str} {u : Value} {pos : Pos} {Q : Value → Shared → Prop} (I : Inv X pins σ H s) (hg : Gl X x) (hm : X.mg x = some u) (h : Q u s)
    (hd : (x == ("__debug__" : Str)) = false := by decide) : wpAny (model X.prog X.w) X.A (eval (.Name x pos) X.env) Q E s :=
  Calls.Name_function_global I.ok.kind hg (Calls.loadGlobal_global (by rw [I.ok.glob]; exact I.mod.glob.keeps I.bk) hm h) hd
theorem ld_blt {E : Value → Shared → Prop} {pins : List (Addr × Obj)} {s : Shared} {σ : St} {H : Hp} {x : Str} {u : Value} {pos : Pos} {Q : Value → Shared → Prop} (I : Inv X pins σ H s) (hg : Gl X x) (hm : X.mg x = none) (hv : bootBuiltins x = some u) (h : Q u s)
    (hn : x ≠ "__name__" := by decide) (hd : (x == ("__debug__" : Str)) = false := by decide) : wpAny (model X.prog X.w) X.A (eval (.Name x pos) X.env) Q E s := by
  obtain ⟨mb, h1, h2⟩ := I.mod.blt
  exact Calls.Name_function_global I.ok.kind hg (Calls.loadGlobal_builtin (by rw [I.ok.glob]; exact I.mod.glob.keeps I.bk) hm (by rw [I.ok.blt]; exact h1.keeps I.bk) ((h2 x hn).trans hv) h) hd
theorem pe_bltn {x : Str} {v : V} {u : Value} {pos : Pos} (hg : Gl X x) (hm : X.mg x = none) (hv : bootBuiltins x = some u) (r : RelV v u) (hn : x ≠ "__name__" := by decide) (hd : (x == ("__debug__" : Str)) = false := by decide) : PE X (.Name x pos) (tC v) :=
  fun _ _ _ H _ I h => ld_blt I hg hm hv ⟨v, H, I, r, h⟩ hn hd

variable {a b : Expr} {ta tb : TE} {pos : Pos}
def tB (t : TE) : TT := fun σ H Q => t σ H fun x H1 => ∃ c, x = .bl c ∧ Q c H1
theorem pt_val {e : Expr} {t : TE} (h : PE X e t) (he : ∀ whole, isTrue e X.env whole = (do let v ← whole; standAt e.pos; holding [v] (truthy v)) := by intro _; rfl) : PT X e (tB t) := by
  intro pins s σ H Q I hw
  refine isTrue_plain (thn (h pins s σ H _ I hw) fun v s1 ⟨x, H1, I1, r1, q1⟩ => ?_) (he _)
  obtain ⟨d, rfl, q⟩ := q1
  cases r1
  exact wpAny_truthy_bool ⟨H1, I1, q⟩

variable {tA tB' : TT} {rest : List Expr}
def tAnd (t u : TT) : TT := fun σ H Q => t σ H fun c H1 => if c = true then u σ H1 Q else Q false H1
def tOr (t u : TT) : TT := fun σ H Q => t σ H fun c H1 => if c = true then Q true H1 else u σ H1 Q
def tNot (t : TT) : TT := fun σ H Q => t σ H fun c H1 => Q (!c) H1
theorem pw_and1 (ha : PT X a tA) : PW X (.BoolOp .And [a] pos) tA := by
  intro wh pins s σ H Q I h
  refine isTrue_and (thn (ha pins s σ H Q I h) fun c s1 e => ?_)
  cases c with
  | true => exact isTrue_and_nil e
  | false => exact e
theorem pw_or1 (ha : PT X a tA) : PW X (.BoolOp .Or [a] pos) tA := by
  intro wh pins s σ H Q I h
  refine isTrue_or (thn (ha pins s σ H Q I h) fun c s1 e => ?_)
  cases c with
  | false => exact isTrue_or_nil e
  | true => exact e
theorem pw_and (ha : PT X a tA) (hb : PW X (.BoolOp .And (b :: rest) pos) tB') : PW X (.BoolOp .And (a :: b :: rest) pos) (tAnd tA tB') := by
  intro wh pins s σ H Q I h
  refine isTrue_and (thn (ha pins s σ H _ I h) fun c s1 ⟨H1, I1, q1⟩ => ?_)
  cases c with
  | true => exact hb wh pins s1 σ H1 Q I1 q1
  | false => exact ⟨H1, I1, q1⟩
theorem pw_or (ha : PT X a tA) (hb : PW X (.BoolOp .Or (b :: rest) pos) tB') : PW X (.BoolOp .Or (a :: b :: rest) pos) (tOr tA tB') := by
  intro wh pins s σ H Q I h
  refine isTrue_or (thn (ha pins s σ H _ I h) fun c s1 ⟨H1, I1, q1⟩ => ?_)
  cases c with
  | true => exact ⟨H1, I1, q1⟩
  | false => exact hb wh pins s1 σ H1 Q I1 q1
theorem pt_not (ha : PT X a tA) : PT X (.UnaryOp .Not a pos) (tNot tA) := by
  intro pins s σ H Q I h
  exact isTrue_not (ha pins s σ H (fun c H1 => Q (!c) H1) I h)
def tAndV (ta tb : TE) : TE := fun σ H Q => ta σ H fun x H1 => ∃ c, x = .bl c ∧ if c = true then tb σ H1 Q else Q (.bl false) H1
def tNotV (ta : TE) : TE := fun σ H Q => ta σ H fun x H1 => ∃ c, x = .bl c ∧ Q (.bl (!c)) H1
theorem pe_one {op} {t : TE} (h : PE X a t) : PE X (.BoolOp op [a] pos) t := fun pins s σ H Q I hw => BoolOp_one (h pins s σ H Q I hw)
theorem pe_and (ha : PE X a ta) (hb : PE X (.BoolOp .And (b :: rest) pos) tb) : PE X (.BoolOp .And (a :: b :: rest) pos) (tAndV ta tb) := by
  intro pins s σ H Q I h
  refine BoolOp_and (thn (ha pins s σ H _ I h) fun v s1 ⟨x, H1, I1, r1, q1⟩ => ?_)
  obtain ⟨c, rfl, q1⟩ := q1
  cases r1
  refine wpAny_truthy_bool ?_
  cases c with
  | true => exact hb pins s1 σ H1 Q I1 q1
  | false => exact ⟨.bl false, H1, I1, rfl, q1⟩
theorem pe_not (ha : PE X a ta) : PE X (.UnaryOp .Not a pos) (tNotV ta) := by
  intro pins s σ H Q I h
  refine UnaryOp_ (thn (ha pins s σ H _ I h) fun v s1 ⟨x, H1, I1, r1, q1⟩ => ?_)
  obtain ⟨c, rfl, q1⟩ := q1
  cases r1
  exact not_of (wpAny_truthy_bool ⟨.bl (!c), H1, I1, rfl, q1⟩)
end
end L2

namespace L2
open PySem PySem.Spec PyProof.Rows

def SqL (K : PySem.W.Frag) (H : Hp) (a : Addr) (xs : List V) : Prop :=
  Rd H a (.lst xs) ∨
    ∃ (o : Obj) (its : Array Value) (n : Nat), K.lookup a = some o ∧ o.cls = .type "list" ∧ o.dict = none ∧ o.data = .seq its n ∧ its.size ≤ sizeLine ∧ Vals xs its.toList
def SqT (K : PySem.W.Frag) (H : Hp) (a : Addr) (xs : List V) : Prop :=
  Rd H a (.tup xs) ∨
    ∃ (o : Obj) (its : Array Value) (n : Nat), K.lookup a = some o ∧ o.cls = .type "tuple" ∧ o.data = .seq its n ∧ its.size ≤ sizeLine ∧ Vals xs its.toList
def absV : Value → Option V
  | .none => some .non
  | .bool b => some (.bl b)
  | .int i _ => some (.int i)
  | .str x _ => some (.str x)
  | .bytes b _ => some (.byt b)
  | .float b _ => some (.flt b)
  | .ref a => some (.ref a)
  | .type n => some (.ty n)
  | _ => none
theorem RelV.abs {x : V} {u : Value} (r : RelV x u) : absV u = some x := by
  cases x with
  | non => cases r; rfl
  | bl _ => cases r; rfl
  | int _ => obtain ⟨t, rfl⟩ := r; rfl
  | str _ => obtain ⟨t, rfl⟩ := r; rfl
  | byt _ => obtain ⟨t, rfl⟩ := r; rfl
  | flt _ => obtain ⟨t, rfl⟩ := r; rfl
  | ref _ => cases r; rfl
  | ty _ => cases r; rfl
theorem RelV.inj {x y : V} {u : Value} (r : RelV x u) (q : RelV y u) : x = y := Option.some.inj (r.abs.symm.trans q.abs)
theorem Vals.inj : ∀ {xs ys : List V} {us : List Value}, Vals xs us → Vals ys us → xs = ys
  | _, _, _, .nil, .nil => rfl
  | _, _, _, .cons r t, .cons r' t' => by rw [r.inj r', Vals.inj t t']
section
variable {X : Cx} {pins : List (Addr × Obj)} {σ : St} {H : Hp} {s : Shared} {a : Addr} {xs ys : List V}
theorem SqL.of {K : PySem.W.Frag} (h : H a = some (.lst xs)) : SqL K H a xs := .inl (.inl h)
theorem SqT.of {K : PySem.W.Frag} (h : H a = some (.tup xs)) : SqT K H a xs := .inl (.inl h)
theorem Inv.list (I : Inv X pins σ H s) (h : SqL X.K H a xs) : ∃ its : List Value, Vals xs its ∧ PlainL s.heap a its.toArray ∧ xs.length ≤ sizeLine := by
  rcases h with h | ⟨o, its, n, hk, hc, hd, hs, hz, r⟩
  · obtain ⟨z, its, n, r, e⟩ := h.ok I.hok
    exact ⟨its, r, ⟨_, n, e, rfl, rfl, rfl⟩, z⟩
  · refine ⟨its.toList, r, ⟨o, n, I.kIn a o hk, hc, hd, by simpa using hs⟩, ?_⟩
    have e := r.length
    simp only [Array.length_toList] at e
    omega
theorem Inv.tuple (I : Inv X pins σ H s) (h : SqT X.K H a xs) : ∃ its : List Value, Vals xs its ∧ IsTup s.heap a its.toArray ∧ xs.length ≤ sizeLine := by
  rcases h with h | ⟨o, its, n, hk, hc, hs, hz, r⟩
  · obtain ⟨z, its, r, p⟩ := h.ok I.hok
    exact ⟨its, r, p, z⟩
  · refine ⟨its.toList, r, ⟨o, I.kIn a o hk, hc, n, by simpa using hs⟩, ?_⟩
    have e := r.length
    simp only [Array.length_toList] at e
    omega
theorem Inv.list_inj (I : Inv X pins σ H s) (h : SqL X.K H a xs) (h' : SqL X.K H a ys) : xs = ys := by
  obtain ⟨its, r, ⟨o, n, e, _, _, d⟩, _⟩ := I.list h
  obtain ⟨its', r', ⟨o', n', e', _, _, d'⟩, _⟩ := I.list h'
  rw [e] at e'; cases e'
  rw [d] at d'
  injection d' with d1 _
  have : its = its' := by simpa using congrArg Array.toList d1
  subst this
  exact r.inj r'
end

abbrev Cx.wish (X : Cx) (E : Value → Shared → Prop) : Cx := { X with xe := E }
abbrev Cx.nox (X : Cx) : Cx := X.wish fun _ _ => False
theorem Cx.Ok.wish {X : Cx} (ok : X.Ok) (E : Value → Shared → Prop) : (X.wish E).Ok :=
  ⟨ok.mod, ok.kind, ok.glob, ok.blt, ok.above, ok.inj, ok.has, ok.cab, ok.hd, ok.frames, ok.stk, ok.exf, ok.bs, ok.bsz, ok.noex, ok.exfs, ok.funs, ok.frf⟩
theorem Cx.Ok.unwish {X : Cx} {E : Value → Shared → Prop} (ok : (X.wish E).Ok) : X.Ok :=
  ⟨ok.mod, ok.kind, ok.glob, ok.blt, ok.above, ok.inj, ok.has, ok.cab, ok.hd, ok.frames, ok.stk, ok.exf, ok.bs, ok.bsz, ok.noex, ok.exfs, ok.funs, ok.frf⟩
section
variable {X : Cx} {pins : List (Addr × Obj)} {σ : St} {H : Hp} {s : Shared} {E : Value → Shared → Prop}
theorem Inv.wish (I : Inv X pins σ H s) (E : Value → Shared → Prop) : Inv (X.wish E) pins σ H s := ⟨I.ok.wish E, I.os, I.bare, I.base, I.loc, I.cell, I.free, I.freeC, I.pin, I.hok, I.len⟩
theorem Inv.unwish (I : Inv (X.wish E) pins σ H s) : Inv X pins σ H s := ⟨I.ok.unwish, I.os, I.bare, I.base, I.loc, I.cell, I.free, I.freeC, I.pin, I.hok, I.len⟩
theorem SP.unwish {D : Ends} {f : Flow} {s' : Shared} (h : SP (X.wish E) pins D f s') : SP X pins D f s' := by
  cases f with
  | next => obtain ⟨σ', H', I, q⟩ := h; exact ⟨σ', H', I.unwish, q⟩
  | brk => obtain ⟨σ', H', I, q⟩ := h; exact ⟨σ', H', I.unwish, q⟩
  | cont => obtain ⟨σ', H', I, q⟩ := h; exact ⟨σ', H', I.unwish, q⟩
  | ret u => obtain ⟨v, σ', H', I, r, q⟩ := h; exact ⟨v, σ', H', I.unwish, r, q⟩
theorem PE.nox {e : Expr} {t : TE} (h : PE X.nox e t) : PE X e t := fun pins s σ H Q I hw =>
  wpAny_mono (h pins s σ H Q (I.wish _) hw) (fun _ _ ⟨v, H', I', r, q⟩ => ⟨v, H', I'.unwish, r, q⟩) fun _ _ z => False.elim z
theorem PT.nox {e : Expr} {t : TT} (h : PT X.nox e t) : PT X e t := fun pins s σ H Q I hw =>
  wpAny_mono (h pins s σ H Q (I.wish _) hw) (fun _ _ ⟨H', I', q⟩ => ⟨H', I'.unwish, q⟩) fun _ _ z => False.elim z
theorem PSs.nox {st : List Stmt} {t : TS} (h : PSs X.nox st t) : PSs X st t := fun pins s σ H D I hw =>
  wpAny_mono (h pins s σ H D (I.wish _) hw) (fun _ _ q => q.unwish) fun _ _ z => False.elim z
end

section
variable {X : Cx} {st : Stmt} {rest : List Stmt} {t u : TS} {e : Expr} {te : TE} {pos : Pos}
def tNext : TS := fun D σ H => D.nx σ H
def tSeq (t u : TS) : TS := fun D σ H => t { D with nx := u D } σ H
theorem pss_nil : PSs X [] tNext := fun _ _ σ H _ I h => wpAny_execs_nil ⟨σ, H, I, h⟩
theorem pss_cons (h1 : PS X st t) (h2 : PSs X rest u) : PSs X (st :: rest) (tSeq t u) := by
  intro pins s σ H D I h
  refine wpAny_execs_cons (thn (h1 pins s σ H { D with nx := u D } I h) fun f s1 q => ?_)
  cases f with
  | next =>
    obtain ⟨σ', H', I', q⟩ := q
    exact h2 pins s1 σ' H' D I' q
  | ret v => exact q
  | brk => exact q
  | cont => exact q
theorem pss_one (h1 : PS X st t) : PSs X [st] t := by
  intro pins s σ H D I h
  refine wpAny_execs_cons (thn (h1 pins s σ H D I h) fun f s1 q => ?_)
  cases f with
  | next => exact wpAny_execs_nil q
  | ret v => exact q
  | brk => exact q
  | cont => exact q
theorem Inv.quiet {pins : List (Addr × Obj)} {σ : St} {H : Hp} {s : Shared} (I : Inv X pins σ H s) : interactive X.env = false := by simp [interactive, I.ok.kind]
def tDrop (te : TE) : TS := fun D σ H => te σ H fun _ H1 => D.nx σ H1
theorem ps_expr (he : PE X e te) (hs : swapsWith e none pos.line X.env = pure false := by rfl) : PS X (.Expr e pos) (tDrop te) := by
  intro pins s σ H D I h
  exact wpAny_Expr_any (thn (he pins s σ H _ I h) fun v s1 ⟨x, H1, I1, r1, q1⟩ => ⟨σ, H1, I1, q1⟩) I.quiet hs
def tRet (te : TE) : TS := fun D σ H => te σ H D.rt
theorem ps_ret (he : PE X e te) : PS X (.Return (some e) pos) (tRet te) := by
  intro pins s σ H D I h
  exact wpAny_Return_some (thn (he pins s σ H _ I h) fun v s1 ⟨x, H1, I1, r1, q1⟩ => ⟨x, σ, H1, I1, r1, q1⟩)
def tIfS (c : TT) (t u : TS) : TS := fun D σ H => c σ H fun b H1 => if b = true then t D σ H1 else u D σ H1
theorem ps_if {c : Expr} {a b : List Stmt} {tc : TT} (hc : PT X c tc) (ha : PSs X a t) (hb : PSs X b u) : PS X (.If c a b pos) (tIfS tc t u) := by
  intro pins s σ H D I h
  refine wpAny_If (thn (hc pins s σ H _ I h) fun d s1 ⟨H1, I1, q1⟩ => ?_)
  cases d with
  | true => exact ha pins s1 σ H1 D I1 q1
  | false => exact hb pins s1 σ H1 D I1 q1
end

abbrev TG := V → St → Hp → (St → Hp → Prop) → Prop
abbrev TGs := List V → St → Hp → (St → Hp → Prop) → Prop
def PG (X : Cx) (target : Expr) (t : TG) : Prop :=
  ∀ (pins : List (Addr × Obj)) (s : Shared) (σ : St) (H : Hp) (v : V) (u : Value) (Q : St → Hp → Prop), Inv X pins σ H s → RelV v u → t v σ H Q →
    wpAny (model X.prog X.w) X.A (assign target X.env u) (fun _ s' => ∃ σ' H', Inv X pins σ' H' s' ∧ Q σ' H') X.xe s
def PGs (X : Cx) (ts : List Expr) (t : TGs) : Prop :=
  ∀ (pins : List (Addr × Obj)) (s : Shared) (σ : St) (H : Hp) (vs : List V) (us : List Value) (Q : St → Hp → Prop), Inv X pins σ H s → Vals vs us → t vs σ H Q →
    wpAny (model X.prog X.w) X.A (assignInOrder ((assignEach ts X.env).map (·.2)) us) (fun _ s' => ∃ σ' H', Inv X pins σ' H' s' ∧ Q σ' H') X.xe s
section
variable {X : Cx} {pos : Pos}
def gName (i : Nat) : TG := fun v σ H Q => Q (σ.set i (some v)) H
theorem pg_name {i : Nat} {x : Str} (hN : X.N.Nodup) (hi : X.N[i]? = some x) (hx : Loc X.env.scope x) (hf : X.fn x = true ∨ X.env.scope.names.lookup x = some .local := by first | exact .inl rfl | exact .inr rfl | assumption) : PG X (.Name x pos) (gName i) := by
  intro pins s σ H v u Q I r h
  exact wpAny_assign_Name (store_ok I hN hi hx r (fun s' I' => ⟨_, H, I', h⟩) hf)
def gNil : TGs := fun vs σ H Q => vs = [] ∧ Q σ H
def gCons (t : TG) (u : TGs) : TGs := fun vs σ H Q => ∃ v r, vs = v :: r ∧ t v σ H fun σ' H' => u r σ' H' Q
theorem pgs_nil : PGs X [] gNil := by
  intro pins s σ H vs us Q I r h
  obtain ⟨e, h⟩ := h
  subst e
  cases r
  exact assignInOrder_nil ⟨σ, H, I, h⟩
theorem pgs_cons {e : Expr} {es : List Expr} {t : TG} {u : TGs} (h1 : PG X e t) (h2 : PGs X es u)
    (hs : (assignEach (e :: es) X.env).map (·.2) = assign e X.env :: (assignEach es X.env).map (·.2) := by rfl) : PGs X (e :: es) (gCons t u) := by
  intro pins s σ H vs us Q I r h
  obtain ⟨v, vr, e1, h⟩ := h
  subst e1
  cases r with
  | cons r rr =>
    rw [hs]
    refine assignInOrder_cons (thn (h1 pins s σ H _ _ _ I r h) fun _ s1 ⟨σ1, H1, I1, q1⟩ => ?_)
    exact h2 pins s1 σ1 H1 _ _ Q I1 rr q1
def gTup (K : PySem.W.Frag) (n : Nat) (t : TGs) : TG := fun v σ H Q => ∃ a xs, v = .ref a ∧ SqT K H a xs ∧ xs.length = n ∧ t xs σ H Q
theorem pg_tup {es : List Expr} {k : Nat} {t : TGs} {n : Nat} (hc : X.calm = true) (h : PGs X es t)
    (hn : (assignEach es X.env).length = n := by rfl) (hst : (assignEach es X.env).findIdx? (·.1) = none := by rfl) : PG X (.Tuple es k pos) (gTup X.K n t) := by
  intro pins s σ H v u Q I r hw
  obtain ⟨a, xs, e1, hq, hl, hw⟩ := hw
  subst e1
  cases r
  obtain ⟨its, rv, ht, hz⟩ := I.tuple hq
  refine assign_Tuple_tuple (I.ok.hd hc) ht (by simp [hn, ← hl, rv.length]) hst fun h' hx => ?_
  have I1 : Inv X pins σ H { s with heap := h' } := I.kept (t' := s.toks) fun b o e => hx b o (Nat.ne_of_lt (Heap.lt_size e)) e
  exact h pins _ σ H xs _ Q I1 (by simpa using rv) hw
def tAsg (te : TE) (g : TG) : TS := fun D σ H => te σ H fun x H1 => g x σ H1 D.nx
theorem ps_set {i : Nat} {x : Str} {e : Expr} {te : TE} {pos' : Pos} (hN : X.N.Nodup) (hi : X.N[i]? = some x) (hx : Loc X.env.scope x) (he : PE X e te) (hs : swapsWith e (some (.Name x pos')) pos.line X.env = pure false := by rfl) (hf : X.fn x = true ∨ X.env.scope.names.lookup x = some .local := by first | exact .inl rfl | exact .inr rfl | assumption) :
    PS X (.Assign [.Name x pos'] e pos) (tAsg te (gName i)) := by
  intro pins s σ H D I h
  refine wpAny_Assign_Name (thn (he pins s σ H _ I h) fun v s1 ⟨y, H1, I1, r1, q1⟩ => ?_) hs
  exact store_ok I1 hN hi hx r1 (fun s2 I2 => ⟨_, H1, I2, q1⟩) hf
end

section
variable {X : Cx} {pos : Pos}
def tWhile (c : TT) (tb : TS) : TS := fun D σ H => ∃ W : Nat → St → Hp → Prop, (∃ m, W m σ H) ∧ ∀ m σ H, W m σ H →
  c σ H fun b H1 => if b = true then ∃ N : St → Hp → Prop, (∀ σ' H', N σ' H' → ∃ m', m' < m ∧ W m' σ' H') ∧ tb { D with nx := N, ct := N, bk := D.nx } σ H1 else D.nx σ H1
theorem ps_while {c : Expr} {body : List Stmt} {tc : TT} {tb : TS} (hp : PassesOwn (model X.prog X.w) X.A X.env X.xe) (hc : PT X c tc) (hb : PSs X body tb) : PS X (.While c body [] pos) (tWhile tc tb) := by
  intro pins s σ H D I h
  obtain ⟨W, ⟨m0, w0⟩, turn⟩ := h
  refine wpAny_While (codeAny_whileLoop (fun n s' => ∃ σ' H', Inv X pins σ' H' s' ∧ W n σ' H') ?_ m0 ⟨σ, H, I, w0⟩)
  rintro n s1 ⟨σ1, H1, I1, w1⟩
  refine wpAny_passesOwn hp (thn (hc pins s1 σ1 H1 _ I1 (turn n σ1 H1 w1)) fun b s2 ⟨H2, I2, q2⟩ => ?_)
  cases b with
  | true =>
    obtain ⟨N, hN, q2⟩ := q2
    rw [if_pos rfl]
    refine wpAny_passesOwn hp (thn (hb pins s2 σ1 H2 _ I2 q2) fun f s3 q3 => ?_)
    cases f with
    | next =>
      obtain ⟨σ3, H3, I3, n3⟩ := q3
      obtain ⟨m', hm, w3⟩ := hN σ3 H3 n3
      exact ⟨m', hm, σ3, H3, I3, w3⟩
    | cont =>
      obtain ⟨σ3, H3, I3, n3⟩ := q3
      obtain ⟨m', hm, w3⟩ := hN σ3 H3 n3
      exact ⟨m', hm, σ3, H3, I3, w3⟩
    | brk => exact q3
    | ret v => exact q3
  | false =>
    rw [if_neg Bool.false_ne_true]
    exact wpAny_execs_nil ⟨σ1, H2, I2, q2⟩
end

structure It where
  go : Nat → Hp → Prop
  yld : Nat → Hp → V → Hp → Prop
  stop : Nat → Hp → Prop
def FpOk (X : Cx) (pins : List (Addr × Obj)) (H : Hp) (b : Addr) : Prop :=
  H b = none ∧ b ≠ X.env.locals ∧ b ∉ X.fs ∧ (b ∈ X.ex ∨ X.s₀.heap.objs.size ≤ b) ∧ (∀ x c, X.env.cells.lookup x = some c → c ≠ b) ∧ ∀ p ∈ X.pn ++ pins, p.1 ≠ b
theorem Inv.fpOk {X : Cx} {pins : List (Addr × Obj)} {σ : St} {H H' : Hp} {s : Shared} {b : Addr} (I : Inv X pins σ H s) (hb : s.heap.objs.size ≤ b) (hn : H' b = none) : FpOk X pins H' b := by
  refine ⟨hn, Nat.ne_of_gt (Nat.lt_of_lt_of_le I.lt hb), I.nofs hb, .inr (Nat.le_trans I.sz hb), fun x c e z => ?_, fun p hp z => ?_⟩
  · obtain ⟨v, q⟩ := I.cell x c e
    exact absurd (Nat.lt_of_lt_of_le q.lt (by rw [z]; exact hb)) (Nat.lt_irrefl _)
  · exact absurd (Nat.lt_of_lt_of_le (Heap.lt_size (I.pin p hp).1) (by rw [z]; exact hb)) (Nat.lt_irrefl _)
structure Turn (P : Program) (w : World) (K : PySem.W.Frag) (tg : Expr) (J : It) (fp : List Addr) (it : Addr) (tn : Nat → Heap → Prop) : Prop where
  mem : it ∈ fp
  obj : ∀ i h, tn i h → ∀ b ∈ fp, ∃ o, h.get? b = some o ∧ ∀ v, o.data ≠ .cell v
  keep : ∀ i h h', tn i h → (∀ b ∈ fp, ∀ o, h.get? b = some o → h'.get? b = some o) → tn i h'
  item : ∀ (X : Cx), X.prog = P → X.w = w → X.K = K → X.calm = true → ∀ (i : Nat) (pins : List (Addr × Obj)) (s : Shared) (σ : St) (H : Hp) (E : Value → Shared → Prop), Inv X pins σ H s → (∀ b ∈ fp, FpOk X pins H b) → tn i s.heap → J.go i H →
    wpAny (model P w) X.A (pyNext (.ref it)) (fun r s1 => ∃ u, r = some u ∧
      wpAny (model P w) X.A (letOwnedTupleGo tg (.ref it) u) (fun _ s2 => ∃ x H', Inv X pins σ H' s2 ∧ RelV x u ∧ J.yld i H x H' ∧ tn (i + 1) s2.heap ∧ ∀ b ∈ fp, H' b = none) E s1) E s
  done : ∀ (X : Cx), X.prog = P → X.w = w → X.K = K → X.calm = true → ∀ (i : Nat) (pins : List (Addr × Obj)) (s : Shared) (σ : St) (H : Hp) (E : Value → Shared → Prop), Inv X pins σ H s → (∀ b ∈ fp, FpOk X pins H b) → tn i s.heap → J.stop i H →
    wpAny (model P w) X.A (pyNext (.ref it)) (fun r s1 => r = none ∧ Inv X pins σ H s1) E s
  self : ∀ (A : Around) (i : Nat) (s : Shared) (Q : Value → Shared → Prop) (E : Value → Shared → Prop), tn i s.heap → Q (.ref it) s → wpAny (model P w) A (pyIter (.ref it)) Q E s
abbrev TI := St → Hp → (It → Hp → Prop) → Prop
def PIE (X : Cx) (pins : List (Addr × Obj)) (σ : St) (tg : Expr) (R : It → Hp → Prop) (itv : Value) (s2 : Shared) : Prop :=
  ∃ (it : Addr) (fp : List Addr) (tn : Nat → Heap → Prop) (J : It) (H' : Hp), itv = .ref it ∧ Inv X pins σ H' s2 ∧ Turn X.prog X.w X.K tg J fp it tn ∧ tn 0 s2.heap ∧ (∀ b ∈ fp, FpOk X pins H' b) ∧ R J H'
def PI (X : Cx) (tg iter : Expr) (wi : TI) : Prop :=
  ∀ (pins : List (Addr × Obj)) (s : Shared) (σ : St) (H : Hp) (R : It → Hp → Prop), Inv X pins σ H s → wi σ H R →
    wpAny (model X.prog X.w) X.A (eval iter X.env) (fun v s1 => wpAny (model X.prog X.w) X.A (pyIter v) (PIE X pins σ tg R) X.xe s1) X.xe s

theorem go_of {M : Model} {A : Around} {E : Value → Shared → Prop} {s : Shared} {tg : Expr} {it : Addr} {u : Value} {o : Obj} {n : String} {vs : Array Value} {Q : Unit → Shared → Prop} (ho : s.heap.get? it = some o) (hc : o.cls = .type n) (hd : o.data = .fields vs)
    (hn : ["enumerate", "zip", "dict_itemiterator", "dict_reverseitemiterator", "odict_iterator", "itertools.zip_longest", "itertools.pairwise"].contains n = false) (hQ : Q () s) : wpAny M A (letOwnedTupleGo tg (.ref it) u) Q E s := by
  unfold letOwnedTupleGo
  cases tg <;> first
    | exact wpAny_pure hQ
    | (cases u <;> first
        | exact wpAny_pure hQ
        | (refine wpAny_bind (wpAny_load ho ?_)
           rw [hc, hd]
           show wpAny M A (if (["enumerate", "zip", "dict_itemiterator", "dict_reverseitemiterator", "odict_iterator", "itertools.zip_longest", "itertools.pairwise"].contains n && vs[0]? == some (rawInt _)) = true then _ else _) Q E s
           rw [if_neg (by intro h; rw [hn, Bool.false_and] at h; cases h)]
           exact wpAny_pure hQ))

def Itl (K : PySem.W.Frag) (a : Addr) : It :=
  ⟨fun i H => ∃ xs x, SqL K H a xs ∧ xs[i]? = some x, fun i H x H' => H' = H ∧ ∀ xs, SqL K H a xs → xs[i]? = some x, fun i H => ∃ xs, SqL K H a xs ∧ xs.length ≤ i⟩
def Itr (lo : Int) (n : Nat) : It := ⟨fun i _ => i < n, fun i H x H' => H' = H ∧ x = .int (lo + i), fun i _ => n ≤ i⟩
theorem turn_list {P : Program} {w : World} {K : PySem.W.Frag} {tg : Expr} (a it : Addr) : Turn P w K tg (Itl K a) [it] it (fun i h => h.IsListIter it a i) where
  mem := by simp
  obj := fun i h st b hb => by
    have e : b = it := by simpa using hb
    subst e
    obtain ⟨o, e, c, d⟩ := st
    exact ⟨o, e, fun v z => by rw [d] at z; cases z⟩
  keep := fun i h h' st k => st.at fun o e => k it (by simp) o e
  item := by
    intro X hP hw hK hc i pins s σ H E I hf st hg
    subst hP hw hK
    obtain ⟨xs, x, hq, hx⟩ := hg
    obtain ⟨its, rv, p, hz⟩ := I.list hq
    obtain ⟨u, hu, ru⟩ := rv.get hx
    obtain ⟨f0, f1, f2, f3, f4, f5⟩ := hf it (by simp)
    refine wpAny_pyNext_list_item st p.isList (x := u) (by simpa using hu) fun h' st' sb => ?_
    have I1 : Inv X pins σ H { s with heap := h' } := I.turned (t' := s.toks) (fun b o hb e => (sb.2 b hb).trans e) f0 f1 f3 f4 f5
    obtain ⟨o, e, c, d⟩ := id st'
    exact ⟨u, rfl, go_of (s := { s with heap := h' }) e c d (by decide) ⟨x, H, I1, ru, ⟨rfl, fun ys hy => by rw [I.list_inj hy hq]; exact hx⟩, st', fun b hb => (hf b hb).1⟩⟩
  done := by
    intro X hP hw hK hc i pins s σ H E I hf st hg
    subst hP hw hK
    obtain ⟨xs, hq, hx⟩ := hg
    obtain ⟨its, rv, p, hz⟩ := I.list hq
    obtain ⟨f0, f1, f2, f3, f4, f5⟩ := hf it (by simp)
    have hl := rv.length
    exact wpAny_pyNext_list_end (I.ok.hd hc) st p.isList (by simp; omega) fun h' eb => ⟨rfl, I.turned (t' := s.toks) (fun b o hb e => eb b o hb e) f0 f1 f3 f4 f5⟩
  self := fun _ _ _ _ _ st h => wpAny_pyIter_listiter st h
theorem turn_range {P : Program} {w : World} {K : PySem.W.Frag} {tg : Expr} (it : Addr) (lo : Int) (n : Nat) : Turn P w K tg (Itr lo n) [it] it (fun i h => IsRangeIter h it (lo + (i : Nat) * 1) ((n : Int) - (i : Nat)) 1) where
  mem := by simp
  obj := fun i h st b hb => by
    have e : b = it := by simpa using hb
    subst e
    exact ⟨_, st, fun v z => by
      have z' : Data.fields _ = Data.cell v := z
      cases z'⟩
  keep := fun i h h' st k => k it (by simp) _ st
  item := by
    intro X hP hw hK hc i pins s σ H E I hf st hg
    subst hP hw hK
    obtain ⟨f0, f1, f2, f3, f4, f5⟩ := hf it (by simp)
    have W := Walks.range (prog := X.prog) (w := X.w) (I.ok.hd hc) it lo 1 n
    refine W.item i s _ _ hg st fun v h' tk hv st' kk => ?_
    obtain ⟨t, rfl⟩ := hv
    have I1 : Inv X pins σ H { s with heap := h', toks := tk } := I.turned (fun b o hb e => kk b o (by simpa using hb) e) f0 f1 f3 f4 f5
    refine ⟨_, rfl, go_of (s := { s with heap := h', toks := tk }) (n := "range_iterator") st' rfl rfl (by decide) ⟨.int (lo + i), H, I1, ⟨t, ?_⟩, ⟨rfl, rfl⟩, st', fun b hb => (hf b hb).1⟩⟩
    rw [Int.mul_one]
  done := by
    intro X hP hw hK hc i pins s σ H E I hf st hg
    subst hP hw hK
    obtain ⟨f0, f1, f2, f3, f4, f5⟩ := hf it (by simp)
    exact wpAny_pyNext_range_end (I.ok.hd hc) st (by have : n ≤ i := hg; omega) fun h' eb => ⟨rfl, I.turned (t' := s.toks) (fun b o hb e => eb b o hb e) f0 f1 f3 f4 f5⟩
  self := fun _ _ _ _ _ st h => wpAny_pyIter_rangeiter st h
end L2

namespace L2
open PySem PySem.Spec PyProof.Rows
section
variable {X : Cx} {tg : Expr}
def iList (K : PySem.W.Frag) (tl : TE) : TI := fun σ H R => tl σ H fun x H1 => ∃ a, x = .ref a ∧ (∃ xs, SqL K H1 a xs) ∧ R (Itl K a) H1
theorem pi_list {l : Expr} {tl : TE} (hl : PE X l tl) : PI X tg l (iList X.K tl) := by
  intro pins s σ H R I h
  refine thn (hl pins s σ H _ I h) fun v s1 ⟨x, H1, I1, r1, q1⟩ => ?_
  obtain ⟨a, e, ⟨xs, hq⟩, q⟩ := q1
  subst e
  cases r1
  obtain ⟨its, rv, p, hz⟩ := I1.list hq
  refine wpAny_pyIter_list p.isList ?_
  refine ⟨s1.heap.objs.size, [s1.heap.objs.size], _, _, H1, rfl, I1.kept (t' := s1.toks) fun b o e => Heap.get?_push_of_some _ e, turn_list a _, ⟨_, Heap.get?_push_size _ rfl, rfl, rfl⟩, fun b hb => ?_, q⟩
  have e : b = s1.heap.objs.size := by simpa using hb
  subst e
  exact I1.fpOk (Nat.le_refl _) (I1.hok.fresh (Nat.le_refl _))
theorem range_it {pins : List (Addr × Obj)} {σ : St} {H : Hp} {s : Shared} {R : It → Hp → Prop} {E : Value → Shared → Prop} {lo hi : Int} {t u v : Tok} {tk : Nat} (I : Inv X pins σ H s) (h1 : -(2 ^ 62) ≤ lo) (h2 : lo < 2 ^ 62) (h3 : -(2 ^ 62) ≤ hi) (h4 : hi < 2 ^ 62)
    (q : R (Itr lo (hi - lo).toNat) H) : wpAny (model X.prog X.w) X.A (pyIter (.ref s.heap.objs.size)) (PIE X pins σ tg R) E { s with heap := s.heap.push { cls := .type "range", data := .fields #[.int lo t, .int hi u, .int 1 v] }, toks := tk } := by
  refine wpAny_pyIter_range (IsRange.new ..) (small_one h1 h2 h3 h4) ?_
  have I1 : Inv X pins σ H { s with heap := s.heap.push { cls := .type "range", data := .fields #[.int lo t, .int hi u, .int 1 v] }, toks := tk } := I.kept fun b o e => Heap.get?_push_of_some _ e
  refine ⟨(s.heap.push { cls := .type "range", data := .fields #[.int lo t, .int hi u, .int 1 v] }).objs.size, [(s.heap.push { cls := .type "range", data := .fields #[.int lo t, .int hi u, .int 1 v] }).objs.size], _, _, H, rfl,
    I1.kept (t' := tk) fun b o e => Heap.get?_push_of_some _ e, turn_range _ lo (hi - lo).toNat, ?_, fun b hb => ?_, q⟩
  · have e1 : lo + ((0 : Nat) : Int) * 1 = lo := by simp
    have e2 : (((hi - lo).toNat : Nat) : Int) - ((0 : Nat) : Int) = Builtin.Range.rangeSize lo hi 1 := by rw [rangeSize_one]; split <;> omega
    show IsRangeIter _ _ (lo + ((0 : Nat) : Int) * 1) ((((hi - lo).toNat : Nat) : Int) - ((0 : Nat) : Int)) 1
    rw [e1, e2]
    exact Heap.get?_push_size _ rfl
  · have e : b = (s.heap.push { cls := .type "range", data := .fields #[.int lo t, .int hi u, .int 1 v] }).objs.size := by simpa using hb
    subst e
    exact I1.fpOk (Nat.le_refl _) (I1.hok.fresh (Nat.le_refl _))
def iRng1 (ta : TA) : TI := fun σ H R => ta σ H fun vs H1 => ∃ j : Int, vs = [.int j] ∧ -(2 ^ 62) ≤ j ∧ j < 2 ^ 62 ∧ R (Itr 0 j.toNat) H1
theorem pi_range1 {a : Expr} {ta : TA} {p pos : Pos} (hg : Gl X "range") (hm : X.mg "range" = none) (ha : PA X [a] ta) (hs : starEach [a] X.env = [(false, eval a X.env)] := by rfl) : PI X tg (.Call (.Name "range" p) [a] [] pos) (iRng1 ta) := by
  intro pins s σ H R I h
  refine Call_ (ld_blt I hg hm boot_range (PyProof.Rows.callWith_type1 (thn (ha pos pins s σ H _ I h) fun us s1 ⟨vs, H1, I1, r1, q1⟩ => ?_) hs rfl))
  obtain ⟨j, e, q1, q2, q⟩ := q1
  subst e
  cases r1 with
  | cons r rr =>
    cases rr
    obtain ⟨t, rfl⟩ := r
    exact call_range_1 (range_it I1 (by omega) (by omega) q1 q2 (by simpa using q))
def tFor (wi : TI) (g : TG) (tb : TS) : TS := fun D σ H => wi σ H fun J H1 => ∃ W : Nat → Nat → St → Hp → Prop, (∃ m, W 0 m σ H1) ∧ ∀ i m σ H, W i m σ H →
  (J.stop i H ∧ D.nx σ H) ∨ (J.go i H ∧ ∃ N : St → Hp → Prop, (∀ σ' H', N σ' H' → ∃ m', m' < m ∧ W (i + 1) m' σ' H') ∧ ∀ x H', J.yld i H x H' → g x σ H' fun σ2 H2 => tb { D with nx := N, ct := N, bk := D.nx } σ2 H2)
def pinsAt (fp : List Addr) (h : Heap) : List (Addr × Obj) := fp.filterMap fun b => (h.get? b).map fun o => (b, o)
theorem mem_pinsAt {fp : List Addr} {h : Heap} {b : Addr} {o : Obj} (hb : b ∈ fp) (e : h.get? b = some o) : (b, o) ∈ pinsAt fp h := List.mem_filterMap.mpr ⟨b, hb, by rw [e]; rfl⟩
theorem of_pinsAt {fp : List Addr} {h : Heap} {p : Addr × Obj} (hp : p ∈ pinsAt fp h) : p.1 ∈ fp ∧ h.get? p.1 = some p.2 := by
  obtain ⟨b, hb, e⟩ := List.mem_filterMap.mp hp
  cases q : h.get? b with
  | none => rw [q] at e; cases e
  | some o =>
    rw [q] at e
    have e' : (b, o) = p := Option.some.inj e
    subst e'
    exact ⟨hb, q⟩
theorem Inv.pinned {pins : List (Addr × Obj)} {σ : St} {H : Hp} {s : Shared} {fp : List Addr} (I : Inv X pins σ H s) (hf : ∀ b ∈ fp, FpOk X pins H b) (ho : ∀ b ∈ fp, ∃ o, s.heap.get? b = some o ∧ ∀ v, o.data ≠ .cell v) : Inv X (pins ++ pinsAt fp s.heap) σ H s :=
  I.pins_of fun p hp => (List.mem_append.mp hp).elim (fun z => I.pin p (List.mem_append_right _ z)) fun z => by
    obtain ⟨hb, e⟩ := of_pinsAt z
    obtain ⟨f0, f1, f2, _⟩ := hf p.1 hb
    obtain ⟨o, e', d⟩ := ho p.1 hb
    rw [e] at e'; cases e'
    exact ⟨e, f0, f1, f2, d⟩
theorem Inv.unpinned {pins pl : List (Addr × Obj)} {σ : St} {H : Hp} {s : Shared} (I : Inv X (pins ++ pl) σ H s) : Inv X pins σ H s := I.pins_of fun p hp => I.pin p (List.mem_append_right _ (List.mem_append_left _ hp))
theorem ps_for {iter : Expr} {body : List Stmt} {wi : TI} {g : TG} {tb : TS} {pos : Pos} (hp : PassesOwn (model X.prog X.w) X.A X.env X.xe) (hc : X.calm = true) (hi : PI X tg iter wi) (hg : PG X tg g) (hb : PSs X body tb)
    (hs : ∀ x, foldedSetIterable iter X.env x = pure x := by intro _; rfl) : PS X (.For tg iter body [] pos) (tFor wi g tb) := by
  intro pins s σ H D I h
  refine wpAny_For (thn (hi pins s σ H _ I h) fun v s1 h1 => thn h1 fun itv s2 h2 => ?_) hs
  obtain ⟨it, fp, tn, J, H2, e, I2, T, st2, f2, W, ⟨m0, w0⟩, turn⟩ := h2
  subst e
  -- what stays true of the iterator's objects through the loop
  have stat : ∀ {H' : Hp}, (∀ b ∈ fp, H' b = none) → ∀ b ∈ fp, FpOk X pins H' b := fun hn b hb => ⟨hn b hb, (f2 b hb).2⟩
  refine codeAny_forLoop_any (fun n s' => ∃ i σ' H', Inv X pins σ' H' s' ∧ tn i s'.heap ∧ (∀ b ∈ fp, H' b = none) ∧ W i n σ' H') ?_ m0 ⟨0, σ, H2, I2, st2, fun b hb => (f2 b hb).1, w0⟩
  rintro n s3 ⟨i, σ3, H3, I3, st3, fr3, w3⟩
  rcases turn i n σ3 H3 w3 with ⟨stop, qn⟩ | ⟨go, N, hN, step⟩
  · refine wpAny_passesOwn hp (thn (T.done X rfl rfl rfl hc i pins s3 σ3 H3 X.xe I3 (stat fr3) st3 stop) fun r s4 ⟨hr, I4⟩ => ?_)
    subst hr
    exact wpAny_execs_nil ⟨σ3, H3, I4, qn⟩
  · refine wpAny_passesOwn hp (thn (T.item X rfl rfl rfl hc i pins s3 σ3 H3 X.xe I3 (stat fr3) st3 go) fun r s4 ⟨u, hr, h4⟩ => ?_)
    subst hr
    refine wpAny_passesOwn hp (thn h4 fun _ s5 ⟨x, H5, I5, r5, y5, st5, fr5⟩ => ?_)
    have I5' := I5.pinned (stat fr5) (T.obj _ _ st5)
    refine wpAny_passesOwn hp (thn (hg _ s5 σ3 H5 x u _ I5' r5 (step x H5 y5)) fun _ s6 ⟨σ6, H6, I6, q6⟩ => ?_)
    refine wpAny_passesOwn hp (thn (hb _ s6 σ6 H6 _ I6 q6) fun f s7 q7 => ?_)
    have again : ∀ {σ7 : St} {H7 : Hp}, Inv X (pins ++ pinsAt fp s5.heap) σ7 H7 s7 → N σ7 H7 → ∃ m, m < n ∧ ∃ i σ' H', Inv X pins σ' H' s7 ∧ tn i s7.heap ∧ (∀ b ∈ fp, H' b = none) ∧ W i m σ' H' := fun {σ7 H7} I7 n7 => by
      obtain ⟨m', hm, w7⟩ := hN σ7 H7 n7
      refine ⟨m', hm, i + 1, σ7, H7, I7.unpinned, T.keep _ _ _ st5 fun b hb o e => (I7.pin (b, o) (List.mem_append_right _ (List.mem_append_right _ (mem_pinsAt hb e)))).1, fun b hb => ?_, w7⟩
      obtain ⟨o, e, d⟩ := T.obj _ _ st5 b hb
      exact (I7.pin (b, o) (List.mem_append_right _ (List.mem_append_right _ (mem_pinsAt hb e)))).2.1
    cases f with
    | next => obtain ⟨σ7, H7, I7, n7⟩ := q7; exact again I7 n7
    | cont => obtain ⟨σ7, H7, I7, n7⟩ := q7; exact again I7 n7
    | brk => obtain ⟨σ7, H7, I7, q7⟩ := q7; exact ⟨σ7, H7, I7.unpinned, q7⟩
    | ret v => obtain ⟨x7, σ7, H7, I7, r7, q7⟩ := q7; exact ⟨x7, σ7, H7, I7.unpinned, r7, q7⟩
end

end L2

namespace L2
open PySem PySem.Spec PyProof.Rows

abbrev R2 := V → V → Hp → VK → Prop
def OpR (X : Cx) (f : Value → Value → Sem Value) (r : R2) : Prop :=
  ∀ (pins : List (Addr × Obj)) (s : Shared) (σ : St) (H : Hp) (x y : V) (v u : Value) (Q : VK), Inv X pins σ H s → RelV x v → RelV y u → r x y H Q →
    wpAny (model X.prog X.w) X.A (f v u) (EP X pins σ Q) X.xe s
def UnR (X : Cx) (f : Value → Sem Value) (r : V → Hp → VK → Prop) : Prop :=
  ∀ (pins : List (Addr × Obj)) (s : Shared) (σ : St) (H : Hp) (x : V) (v : Value) (Q : VK), Inv X pins σ H s → RelV x v → r x H Q →
    wpAny (model X.prog X.w) X.A (f v) (EP X pins σ Q) X.xe s
def CallR (X : Cx) (f : Value) (r : List V → Hp → VK → Prop) : Prop :=
  ∀ (pins : List (Addr × Obj)) (s : Shared) (σ : St) (H : Hp) (xs : List V) (us : List Value) (Q : VK), Inv X pins σ H s → Vals xs us → r xs H Q →
    wpAny (model X.prog X.w) X.A (call f us) (EP X pins σ Q) X.xe s
def TruR (X : Cx) (r : V → Hp → (Bool → Hp → Prop) → Prop) : Prop :=
  ∀ (pins : List (Addr × Obj)) (s : Shared) (σ : St) (H : Hp) (x : V) (v : Value) (Q : Bool → Hp → Prop), Inv X pins σ H s → RelV x v → r x H Q →
    wpAny (model X.prog X.w) X.A (truthy v) (TP X pins σ Q) X.xe s

def tOp (r : R2) (ta tb : TE) : TE := fun σ H Q => ta σ H fun x H1 => tb σ H1 fun y H2 => r x y H2 Q
def tUn (r : V → Hp → VK → Prop) (ta : TE) : TE := fun σ H Q => ta σ H fun x H1 => r x H1 Q
def rI (C : Int → Int → Prop) (g : Int → Int → V) : R2 := fun x y H Q => ∃ i j, x = .int i ∧ y = .int j ∧ C i j ∧ Q (g i j) H
def rI0 (g : Int → Int → V) : R2 := fun x y H Q => ∃ i j, x = .int i ∧ y = .int j ∧ Q (g i j) H
def rU (g : Int → V) : V → Hp → VK → Prop := fun x H Q => ∃ i, x = .int i ∧ Q (g i) H

section
variable {X : Cx} {a b c : Expr} {ta tb tc : TE} {pos : Pos}

theorem binT (ha : PE X a ta) (hb : PE X b tb) {pins : List (Addr × Obj)} {s : Shared} {σ : St} {H : Hp} {R : V → V → Hp → Prop} (I : Inv X pins σ H s)
    (h : ta σ H fun x H1 => tb σ H1 fun y H2 => R x y H2) {Q : Value → Shared → Prop} {f : Value → Value → Sem Value}
    (hf : ∀ v u s2 x y H2, Inv X pins σ H2 s2 → RelV x v → RelV y u → R x y H2 → wpAny (model X.prog X.w) X.A (f v u) Q X.xe s2) :
    wpAny (model X.prog X.w) X.A (eval a X.env) (fun v s₁ => wpAny (model X.prog X.w) X.A (eval b X.env) (fun u s₂ => wpAny (model X.prog X.w) X.A (f v u) Q X.xe s₂) X.xe s₁) X.xe s := by
  refine thn (ha pins s σ H _ I h) fun v s1 ⟨x, H1, I1, r1, q1⟩ => ?_
  refine thn (hb pins s1 σ H1 _ I1 q1) fun u s2 ⟨y, H2, I2, r2, q2⟩ => ?_
  exact hf v u s2 x y H2 I2 r1 r2 q2

theorem pe_op {op : Operator} {r : R2} (ho : OpR X (binaryOp op) r) (ha : PE X a ta) (hb : PE X b tb) : PE X (.BinOp a op b pos) (tOp r ta tb) := by
  intro pins s σ H Q I h
  exact wpAny_BinOp (binT ha hb I h fun v u s2 x y H2 I2 rx ry q => ho pins s2 σ H2 x y v u Q I2 rx ry q)
theorem pe_un {op : UnaryOp} {r : V → Hp → VK → Prop} (ho : UnR X (unaryOp op) r) (ha : PE X a ta) : PE X (.UnaryOp op a pos) (tUn r ta) := by
  intro pins s σ H Q I h
  exact UnaryOp_ (thn (ha pins s σ H _ I h) fun v s1 ⟨x, H1, I1, r1, q1⟩ => ho pins s1 σ H1 x v Q I1 r1 q1)
theorem opI {f : Value → Value → Sem Value} {C : Int → Int → Prop} {g : Int → Int → Int}
    (rule : ∀ (i j : Int) (t u : Tok) (s : Shared) (Q : Value → Shared → Prop) (E : Value → Shared → Prop), C i j → Q (.int (g i j) s.toks) { s with toks := s.toks + 1 } → wpAny (model X.prog X.w) X.A (f (.int i t) (.int j u)) Q E s) :
    OpR X f (rI C fun i j => .int (g i j)) := by
  intro pins s σ H x y v u Q I rx ry h
  obtain ⟨i, j, rfl, rfl, hc, q⟩ := h
  obtain ⟨t, rfl⟩ := rx
  obtain ⟨t', rfl⟩ := ry
  exact rule i j t t' s _ _ hc ⟨.int (g i j), H, I.tok _, ⟨_, rfl⟩, q⟩
theorem opI0 {f : Value → Value → Sem Value} {g : Int → Int → Int}
    (rule : ∀ (i j : Int) (t u : Tok) (s : Shared) (Q : Value → Shared → Prop) (E : Value → Shared → Prop), Q (.int (g i j) s.toks) { s with toks := s.toks + 1 } → wpAny (model X.prog X.w) X.A (f (.int i t) (.int j u)) Q E s) :
    OpR X f (rI0 fun i j => .int (g i j)) := by
  intro pins s σ H x y v u Q I rx ry h
  obtain ⟨i, j, rfl, rfl, q⟩ := h
  obtain ⟨t, rfl⟩ := rx
  obtain ⟨t', rfl⟩ := ry
  exact rule i j t t' s _ _ ⟨.int (g i j), H, I.tok _, ⟨_, rfl⟩, q⟩
theorem opB0 {f : Value → Value → Sem Value} {g : Int → Int → Bool}
    (rule : ∀ (i j : Int) (t u : Tok) (s : Shared) (Q : Value → Shared → Prop) (E : Value → Shared → Prop), Q (.bool (g i j)) s → wpAny (model X.prog X.w) X.A (f (.int i t) (.int j u)) Q E s) :
    OpR X f (rI0 fun i j => .bl (g i j)) := by
  intro pins s σ H x y v u Q I rx ry h
  obtain ⟨i, j, rfl, rfl, q⟩ := h
  obtain ⟨t, rfl⟩ := rx
  obtain ⟨t', rfl⟩ := ry
  exact rule i j t t' s _ _ ⟨.bl (g i j), H, I, rfl, q⟩

def CDiv (i j : Int) : Prop := 0 < j ∧ j < 1073741824
def CMul (i j : Int) : Prop := (-(2 ^ 64) < i ∧ i < 2 ^ 64) ∨ (-(2 ^ 64) < j ∧ j < 2 ^ 64)
theorem CMul.ok {i j : Int} (h : CMul i j) : IntMulOk i j := by
  rcases h with ⟨h1, h2⟩ | ⟨h1, h2⟩
  · exact .of_left (intBits_le_64 h1 h2)
  · exact .of_right (intBits_le_64 h1 h2)
theorem op_add : OpR X (binaryOp .Add) (rI0 fun i j => .int (i + j)) := opI0 fun _ _ _ _ _ _ _ q => add_int q
theorem op_mul : OpR X (binaryOp .Mult) (rI CMul fun i j => .int (i * j)) := opI fun _ _ _ _ _ _ _ hc q => mul_int q hc.ok
theorem op_fdiv : OpR X (binaryOp .FloorDiv) (rI CDiv fun i j => .int (i / j)) := opI fun i j _ _ _ _ _ hc q => by
  have h1 : (0 : Int) < j := hc.1
  have h2 : j < 1073741824 := hc.2
  exact floordiv_int (by omega) (by rw [Int.fdiv_eq_ediv_of_nonneg i (by omega)]; exact q) (.inl (PyProof.noPylong_small (by omega)))
theorem op_mod : OpR X (binaryOp .Mod) (rI (fun _ j => 0 < j) fun i j => .int (i % j)) := opI fun i j _ _ _ _ _ hc q => by
  have h1 : (0 : Int) < j := hc
  exact mod_int' (by omega) (by rw [Int.fmod_eq_emod_of_nonneg i (by omega)]; exact q)
theorem unI {f : Value → Sem Value} {g : Int → Int}
    (rule : ∀ (i : Int) (t : Tok) (s : Shared) (Q : Value → Shared → Prop) (E : Value → Shared → Prop), Q (.int (g i) s.toks) { s with toks := s.toks + 1 } → wpAny (model X.prog X.w) X.A (f (.int i t)) Q E s) :
    UnR X f (rU fun i => .int (g i)) := by
  intro pins s σ H x v Q I rx h
  obtain ⟨i, rfl, q⟩ := h
  obtain ⟨t, rfl⟩ := rx
  exact rule i t s _ _ ⟨.int (g i), H, I.tok _, ⟨_, rfl⟩, q⟩
theorem un_neg : UnR X (unaryOp .USub) (rU fun i => .int (-i)) := unI fun _ _ _ _ _ q => neg_int q
end

def scal : V → V → Bool
  | .non, .non => true | .non, .int _ => true | .int _, .non => true | .non, .bl _ => true | .bl _, .non => true | .non, .str _ => true | .str _, .non => true
  | .int _, .int _ => true | .bl _, .bl _ => true | .str _, .str _ => true | .byt _, .byt _ => true
  | .int _, .str _ => true | .str _, .int _ => true | .bl _, .str _ => true | .str _, .bl _ => true
  | _, _ => false
def rEq : R2 := fun x y H Q => scal x y = true ∧ Q (.bl (decide (x = y))) H
def rNe : R2 := fun x y H Q => scal x y = true ∧ Q (.bl (!decide (x = y))) H

theorem dec_int {i j : Int} : decide (V.int i = V.int j) = (i == j) := by
  rw [Bool.eq_iff_iff]
  simp
theorem dec_bl {i j : Bool} : decide (V.bl i = V.bl j) = (i == j) := by
  rw [Bool.eq_iff_iff]
  simp
theorem dec_str {i j : Str} : decide (V.str i = V.str j) = (i == j) := by
  rw [Bool.eq_iff_iff]
  simp
theorem dec_byt {i j : Array UInt8} : decide (V.byt i = V.byt j) = (i.toList == j.toList) := by
  rw [Bool.eq_iff_iff]
  cases i
  cases j
  simp

section
variable {X : Cx} {a b c : Expr} {ta tb tc : TE} {pos : Pos}
theorem fin_bl {pins : List (Addr × Obj)} {σ : St} {H : Hp} {s : Shared} {Q : VK} {k k' : Bool} (I : Inv X pins σ H s) (q : Q (.bl k) H) (e : k = k') : EP X pins σ Q (.bool k') s := by
  subst e
  exact ⟨.bl k, H, I, rfl, q⟩
theorem op_eq : OpR X (compareOp .Eq) rEq := by
  intro pins s σ H x y v u Q I rx ry h
  obtain ⟨hs, q⟩ := h
  cases x with
  | non =>
    cases rx
    cases y with
    | non => cases ry; exact PySem.EqNone.eq_none_none (fin_bl I q (by simp))
    | bl j => cases ry; exact PySem.EqNone.eq_none_bool (fin_bl I q (by simp))
    | int j => obtain ⟨t', rfl⟩ := ry; exact PySem.EqNone.eq_none_int (fin_bl I q (by simp))
    | str j => obtain ⟨t', rfl⟩ := ry; exact PySem.EqNone.eq_none_str (fin_bl I q (by simp))
    | _ => exact absurd (show false = true from hs) Bool.false_ne_true
  | bl i =>
    cases rx
    cases y with
    | non => cases ry; exact PySem.EqNone.eq_bool_none (fin_bl I q (by simp))
    | bl j => cases ry; exact eq_bool (fin_bl I q dec_bl)
    | str j => obtain ⟨t', rfl⟩ := ry; exact PySem.EqMixed.eq_bool_str (fin_bl I q (by simp))
    | _ => exact absurd (show false = true from hs) Bool.false_ne_true
  | int i =>
    obtain ⟨t, rfl⟩ := rx
    cases y with
    | non => cases ry; exact PySem.EqNone.eq_int_none (fin_bl I q (by simp))
    | int j => obtain ⟨t', rfl⟩ := ry; exact eq_int (fin_bl I q dec_int)
    | str j => obtain ⟨t', rfl⟩ := ry; exact PySem.EqMixed.eq_int_str (fin_bl I q (by simp))
    | _ => exact absurd (show false = true from hs) Bool.false_ne_true
  | str i =>
    obtain ⟨t, rfl⟩ := rx
    cases y with
    | non => cases ry; exact PySem.EqNone.eq_str_none (fin_bl I q (by simp))
    | bl j => cases ry; exact PySem.EqMixed.eq_str_bool (fin_bl I q (by simp))
    | int j => obtain ⟨t', rfl⟩ := ry; exact PySem.EqMixed.eq_str_int (fin_bl I q (by simp))
    | str j => obtain ⟨t', rfl⟩ := ry; exact eq_str (fin_bl I q dec_str)
    | _ => exact absurd (show false = true from hs) Bool.false_ne_true
  | byt i =>
    obtain ⟨t, rfl⟩ := rx
    cases y with
    | byt j => obtain ⟨t', rfl⟩ := ry; exact PySem.W.eq_bytes (fin_bl I q dec_byt)
    | _ => exact absurd (show false = true from hs) Bool.false_ne_true
  | _ => cases y <;> exact absurd (show false = true from hs) Bool.false_ne_true
theorem op_ne : OpR X (compareOp .NotEq) rNe := by
  intro pins s σ H x y v u Q I rx ry h
  obtain ⟨hs, q⟩ := h
  cases x with
  | non =>
    cases rx
    cases y with
    | non => cases ry; exact PySem.EqNone.ne_none_none (fin_bl I q (by simp))
    | bl j => cases ry; exact PySem.EqNone.ne_none_bool (fin_bl I q (by simp))
    | int j => obtain ⟨t', rfl⟩ := ry; exact PySem.EqNone.ne_none_int (fin_bl I q (by simp))
    | str j => obtain ⟨t', rfl⟩ := ry; exact PySem.EqNone.ne_none_str (fin_bl I q (by simp))
    | _ => exact absurd (show false = true from hs) Bool.false_ne_true
  | bl i =>
    cases rx
    cases y with
    | non => cases ry; exact PySem.EqNone.ne_bool_none (fin_bl I q (by simp))
    | bl j => cases ry; exact ne_bool (fin_bl I q (congrArg not dec_bl))
    | str j => obtain ⟨t', rfl⟩ := ry; exact PySem.EqMixed.ne_bool_str (fin_bl I q (by simp))
    | _ => exact absurd (show false = true from hs) Bool.false_ne_true
  | int i =>
    obtain ⟨t, rfl⟩ := rx
    cases y with
    | non => cases ry; exact PySem.EqNone.ne_int_none (fin_bl I q (by simp))
    | int j => obtain ⟨t', rfl⟩ := ry; exact ne_int (fin_bl I q (congrArg not dec_int))
    | str j => obtain ⟨t', rfl⟩ := ry; exact PySem.EqMixed.ne_int_str (fin_bl I q (by simp))
    | _ => exact absurd (show false = true from hs) Bool.false_ne_true
  | str i =>
    obtain ⟨t, rfl⟩ := rx
    cases y with
    | non => cases ry; exact PySem.EqNone.ne_str_none (fin_bl I q (by simp))
    | bl j => cases ry; exact PySem.EqMixed.ne_str_bool (fin_bl I q (by simp))
    | int j => obtain ⟨t', rfl⟩ := ry; exact PySem.EqMixed.ne_str_int (fin_bl I q (by simp))
    | str j => obtain ⟨t', rfl⟩ := ry; exact ne_str (fin_bl I q (congrArg not dec_str))
    | _ => exact absurd (show false = true from hs) Bool.false_ne_true
  | byt i =>
    obtain ⟨t, rfl⟩ := rx
    cases y with
    | byt j => obtain ⟨t', rfl⟩ := ry; exact PySem.W.ne_bytes (fin_bl I q (congrArg not dec_byt))
    | _ => exact absurd (show false = true from hs) Bool.false_ne_true
  | _ => cases y <;> exact absurd (show false = true from hs) Bool.false_ne_true

theorem op_lt : OpR X (compareOp .Lt) (rI0 fun i j => .bl (decide (i < j))) := opB0 fun _ _ _ _ _ _ _ q => lt_int q
theorem op_ge : OpR X (compareOp .GtE) (rI0 fun i j => .bl (decide (j ≤ i))) := opB0 fun _ _ _ _ _ _ _ q => ge_int q
theorem op_lt_str : OpR X (compareOp .Lt) (fun x y H Q => ∃ i j, x = .str i ∧ y = .str j ∧ Q (.bl (decide (i.cps.toList < j.cps.toList))) H) := by
  intro pins s σ H x y v u Q I rx ry h
  obtain ⟨i, j, rfl, rfl, q⟩ := h
  obtain ⟨t, rfl⟩ := rx
  obtain ⟨t', rfl⟩ := ry
  exact lt_str (fin_bl I q rfl)
theorem op_in_str : OpR X (compareOp .In) (fun x y H Q => ∃ i j, x = .str i ∧ y = .str j ∧ Q (.bl (!(Builtin.Str.occurrences j i 0 j.length 1).isEmpty)) H) := by
  intro pins s σ H x y v u Q I rx ry h
  obtain ⟨i, j, rfl, rfl, q⟩ := h
  obtain ⟨t, rfl⟩ := rx
  obtain ⟨t', rfl⟩ := ry
  exact in_str (fin_bl I q rfl)

theorem op_notin_str : OpR X (compareOp .NotIn) (fun x y H Q => ∃ i j, x = .str i ∧ y = .str j ∧ Q (.bl (!(!(Builtin.Str.occurrences j i 0 j.length 1).isEmpty))) H) := by
  intro pins s σ H x y v u Q I rx ry h
  obtain ⟨i, j, rfl, rfl, q⟩ := h
  obtain ⟨t, rfl⟩ := rx
  obtain ⟨t', rfl⟩ := ry
  exact notIn_str (fin_bl I q rfl)
theorem OpR.or {f : Value → Value → Sem Value} {r r' : R2} (h : OpR X f r) (h' : OpR X f r') : OpR X f (fun x y H Q => r x y H Q ∨ r' x y H Q) := by
  intro pins s σ H x y v u Q I rx ry q
  rcases q with q | q
  · exact h pins s σ H x y v u Q I rx ry q
  · exact h' pins s σ H x y v u Q I rx ry q

theorem nomark (b : Expr) {op : CmpOp} (h : op ≠ .In := by decide) (h2 : op ≠ .NotIn := by decide) : behindInMarks op b = false := by
  have e1 : (op == CmpOp.In) = false := by cases op <;> first | rfl | exact absurd rfl h
  have e2 : (op == CmpOp.NotIn) = false := by cases op <;> first | rfl | exact absurd rfl h2
  cases b <;> simp [behindInMarks, e1, e2]
theorem pe_cmpR {op : CmpOp} {r : R2} (ho : OpR X (compareOp op) r) (ha : PE X a ta) (hb : PE X b tb) (hm : behindInMarks op b = false) : PE X (.Compare a [op] [b] pos) (tOp r ta tb) := by
  intro pins s σ H Q I h
  exact wpAny_Compare1 (binT ha hb I h fun v u s2 x y H2 I2 rx ry q => ho pins s2 σ H2 x y v u Q I2 rx ry q) hm
def tTest (t : TE) : TT := fun σ H Q => t σ H fun x H' => ∃ k, x = .bl k ∧ Q k H'
theorem pt_cmpR {op : CmpOp} {r : R2} (ho : OpR X (compareOp op) r) (ha : PE X a ta) (hb : PE X b tb) (hm : behindInMarks op b = false) : PT X (.Compare a [op] [b] pos) (tTest (tOp r ta tb)) := by
  intro pins s σ H Q I h
  refine wpAny_isTrue_Compare1 (thn (ha pins s σ H _ I h) fun v s1 ⟨x, H1, I1, r1, q1⟩ => thn (hb pins s1 σ H1 _ I1 q1) fun u s2 ⟨y, H2, I2, r2, q2⟩ =>
    thn (ho pins s2 σ H2 x y v u _ I2 r1 r2 q2) fun c s3 ⟨z, H3, I3, r3, k, e, q3⟩ => ?_) hm
  subst e
  cases r3
  exact wpAny_truthy_bool ⟨H3, I3, q3⟩
def TruV (K : PySem.W.Frag) (x : V) (H : Hp) (k : Bool) : Prop :=
  match x with
  | .non => k = false
  | .bl b => k = b
  | .int i => k = (i != 0)
  | .str y => y.length ≤ sizeLine ∧ k = ((y.length : Int) != 0)
  | .byt y => y.size ≤ sizeLine ∧ k = ((y.size : Int) != 0)
  | .ref p => (∃ xs, SqL K H p xs ∧ k = !xs.isEmpty) ∨ (∃ xs, SqT K H p xs ∧ k = !xs.isEmpty) ∨ ∃ kvs, H p = some (.dK kvs) ∧ k = !kvs.isEmpty
  | _ => False
theorem isEmpty_kv {κ : Type} {kvs : List (κ × V)} {vs : List (κ × Value)} (r : KV kvs vs) : (!vs.isEmpty) = !kvs.isEmpty := by
  cases r <;> rfl
theorem isEmpty_of {xs : List V} {its : List Value} (r : Vals xs its) : (!its.toArray.isEmpty) = !xs.isEmpty := by
  cases r <;> simp
theorem line63 : (sizeLine : Nat) < 2 ^ 63 := by rw [sizeLine_eq]; decide
theorem tru_ok : TruR X (fun x H Q => ∃ k, TruV X.K x H k ∧ Q k H) := by
  intro pins s σ H x v Q I rx h
  obtain ⟨k, e, q⟩ := h
  have hl := line63
  have hs : sizeLine = 16777216 := sizeLine_eq
  cases x with
  | non =>
    cases rx
    have e' : k = false := e
    subst e'
    exact truthy_none ⟨H, I, q⟩
  | bl b =>
    cases rx
    have e' : k = b := e
    subst e'
    exact wpAny_truthy_bool ⟨H, I, q⟩
  | int i =>
    obtain ⟨t, rfl⟩ := rx
    have e' : k = (i != 0) := e
    subst e'
    exact PySem.P.truthy_int ⟨H, I, q⟩
  | str y =>
    obtain ⟨t, rfl⟩ := rx
    obtain ⟨hy, e'⟩ : y.length ≤ sizeLine ∧ k = ((y.length : Int) != 0) := e
    subst e'
    exact PySem.P.truthy_str (by omega) ⟨H, I.tok _, q⟩
  | byt y =>
    obtain ⟨t, rfl⟩ := rx
    obtain ⟨hy, e'⟩ : y.size ≤ sizeLine ∧ k = ((y.size : Int) != 0) := e
    subst e'
    exact PySem.W.truthy_bytes (by omega) ⟨H, I.tok _, q⟩
  | ref p =>
    cases rx
    have e' : (∃ xs, SqL X.K H p xs ∧ k = !xs.isEmpty) ∨ (∃ xs, SqT X.K H p xs ∧ k = !xs.isEmpty) ∨ ∃ kvs, H p = some (.dK kvs) ∧ k = !kvs.isEmpty := e
    rcases e' with ⟨xs, hx, e'⟩ | ⟨xs, hx, e'⟩ | ⟨kvs, hx, e'⟩
    · subst e'
      obtain ⟨its, r, pl, hz⟩ := I.list hx
      have hlen := r.length
      exact wpAny_truthy_list pl.isList (by simp only [List.size_toArray]; omega) ⟨H, I.tok _, by rw [isEmpty_of r]; exact q⟩
    · subst e'
      obtain ⟨its, r, pl, hz⟩ := I.tuple hx
      have hlen := r.length
      exact truthy_tuple pl (by simp only [List.size_toArray]; omega) ⟨H, I.tok _, by rw [isEmpty_of r]; exact q⟩
    · subst e'
      obtain ⟨hz, hS, vs, r, m⟩ : kvs.length ≤ sizeLine ∧ (p == sysModules) = false ∧ ∃ vs, KV kvs vs ∧ s.heap.DictOf (mixKind X.prog X.w) p vs := I.hok p _ hx
      have hlen : kvs.length = vs.length := Paired.length r
      exact wpAny_truthy_dict hS m (by omega) ⟨H, I.tok _, by rw [isEmpty_kv r]; exact q⟩
  | _ => exact (show False from e).elim
theorem pt_truth (ha : PE X a ta) (he : ∀ whole, isTrue a X.env whole = (do let v ← whole; standAt a.pos; holding [v] (truthy v))) :
    PT X a (fun σ H Q => ta σ H fun x H' => ∃ k, TruV X.K x H' k ∧ Q k H') := by
  intro pins s σ H Q I h
  exact isTrue_plain (thn (ha pins s σ H _ I h) fun v s1 ⟨x, H1, I1, r1, q1⟩ => tru_ok pins s1 σ H1 x v Q I1 r1 q1) (he _)

theorem op_add_str : OpR X (binaryOp .Add) (fun x y H Q => ∃ i j, x = .str i ∧ y = .str j ∧ i.length + j.length ≤ sizeLine ∧ Q (.str (i ++ j)) H) := by
  intro pins s σ H x y v u Q I rx ry h
  obtain ⟨i, j, rfl, rfl, hz, q⟩ := h
  obtain ⟨t, rfl⟩ := rx
  obtain ⟨t', rfl⟩ := ry
  exact add_str (fun t' tk => ⟨.str (i ++ j), H, I.tok _, ⟨_, rfl⟩, q⟩) hz
theorem vals1 {x : V} {us : List Value} (r : Vals [x] us) : ∃ u, us = [u] ∧ RelV x u := by
  cases r with
  | cons r1 r2 => cases r2; exact ⟨_, rfl, r1⟩
def LenV (K : PySem.W.Frag) (x : V) (H : Hp) (n : Nat) : Prop :=
  match x with
  | .str y => y.length ≤ sizeLine ∧ n = y.length
  | .byt y => y.size ≤ sizeLine ∧ n = y.size
  | .ref p => (∃ xs, SqL K H p xs ∧ n = xs.length) ∨ ∃ xs, SqT K H p xs ∧ n = xs.length
  | _ => False
theorem call_len : CallR X (.builtin "len") (fun xs H Q => ∃ x n, xs = [x] ∧ LenV X.K x H n ∧ Q (.int n) H) := by
  intro pins s σ H xs us Q I r h
  obtain ⟨x, n, rfl, e, q⟩ := h
  obtain ⟨u, rfl, rx⟩ := vals1 r
  have hl := line63
  have hs : sizeLine = 16777216 := sizeLine_eq
  cases x with
  | str y =>
    obtain ⟨t, rfl⟩ := rx
    obtain ⟨hy, e'⟩ : y.length ≤ sizeLine ∧ n = y.length := e
    subst e'
    exact len_str (by omega) ⟨.int _, H, I.tok _, ⟨_, rfl⟩, q⟩
  | byt y =>
    obtain ⟨t, rfl⟩ := rx
    obtain ⟨hy, e'⟩ : y.size ≤ sizeLine ∧ n = y.size := e
    subst e'
    exact PySem.W.len_bytes (by omega) ⟨.int _, H, I.tok _, ⟨_, rfl⟩, q⟩
  | ref p =>
    cases rx
    have e' : (∃ xs, SqL X.K H p xs ∧ n = xs.length) ∨ ∃ xs, SqT X.K H p xs ∧ n = xs.length := e
    rcases e' with ⟨xs, hx, e'⟩ | ⟨xs, hx, e'⟩
    · subst e'
      obtain ⟨its, r', pl, hz⟩ := I.list hx
      have hlen := r'.length
      exact Calls.call_len_list pl.isList (by simp only [List.size_toArray]; omega) ⟨.int xs.length, H, I.tok _, ⟨_, by simp only [List.size_toArray]; rw [hlen]⟩, q⟩
    · subst e'
      obtain ⟨its, r', pl, hz⟩ := I.tuple hx
      have hlen := r'.length
      exact len_tuple pl (by simp only [List.size_toArray]; omega) ⟨.int xs.length, H, I.tok _, ⟨_, by simp only [List.size_toArray]; rw [hlen]⟩, q⟩
  | _ => exact (show False from e).elim
end
end L2

namespace L2
open PySem PySem.Spec PyProof.Rows

structure ObjM (h : Heap) (x dx C : Addr) (mA : Str → Option Value) : Prop where
  obj : h.get? x = some (PySem.W.instObj C dx)
  ns : h.Ns1 dx mA
  ne : dx ≠ x

theorem lookIn_ns {h : Heap} {dx : Addr} {mA : Str → Option Value} (n : h.Ns1 dx mA) : ∃ od, h.get? dx = some od ∧ ∀ name, PySem.W.lookIn name od = some (mA name) := by
  obtain ⟨o, es, ep, ho, hd, hk, _, hm⟩ := n
  refine ⟨o, ho, fun name => ?_⟩
  have e := hm name
  unfold nsFind findBy at e
  rw [← Array.find?_toList] at e
  unfold PySem.W.lookIn
  rw [hd]
  dsimp only
  split
  · rename_i y q
    rw [q] at e
    exact congrArg some e
  · rename_i q
    rw [q] at e
    have a : es.toList.any (·.refKey) = false := by
      rw [List.any_eq_false]
      intro y hy
      obtain ⟨z, t, hkey⟩ := hk y (Array.mem_toList_iff.mp hy)
      simp [DictEntry.refKey, hkey]
    have a' : ¬ es.toList.any (·.refKey) = true := by rw [a]; exact Bool.false_ne_true
    rw [if_neg a']
    exact congrArg some e

theorem ObjM.look {h : Heap} {x dx C : Addr} {mA : Str → Option Value} (I : ObjM h x dx C mA) : ∃ od, PySem.W.InstAt h x (PySem.W.instObj C dx) C (some od) ∧ ∀ name, PySem.W.lookIn name od = some (mA name) :=
  let ⟨od, ho, hl⟩ := lookIn_ns I.ns
  ⟨od, ⟨I.obj, rfl, rfl, ho⟩, hl⟩

section
variable {prog : Program} {w : World} {A : Around} {E : Value → Shared → Prop} {s : Shared} {K : PySem.W.Frag} {x dx C f : Addr} {mA : Str → Option Value} {name : Str} {v : Value}

end

theorem RelO.some_of {v : V} {o : Option Value} (r : RelO (some v) o) : ∃ u, o = some u ∧ RelV v u := by
  cases o with
  | none => exact (show False from r).elim
  | some u => exact ⟨u, rfl, r⟩
section
variable {P : Program} {w : World} {H H' : Hp} {h h' : Heap} {a C dx : Addr} {fs fs' : List (Str × V)}
theorem ins_get (hok : HOk P w H h) (e : H a = some (.ins C dx fs)) : ∃ mA, ObjM h a dx C mA ∧ (∀ f, RelO (fs.lookup f) (mA f)) ∧ PySem.Within mA (fs.map (·.1)) ∧ fs.length ≤ 1000 ∧ H dx = some (.own a) := by
  obtain ⟨d, z, ne, ob, mA, n, r, q⟩ := (show ObjOk P w H h a (.ins C dx fs) from hok a _ e)
  exact ⟨mA, ⟨ob, n, ne⟩, r, q, z, d⟩
end

structure Cls (K : PySem.W.Frag) (C : Addr) : Prop where
  pg : PySem.W.plainGet K C Str.empty = true
  hd : PySem.W.hasDictIn K C = true
  po : PySem.W.plainOver K C = true
  sa : PySem.W.findIn K (.ref C) "__setattr__" = some (some (.builtin "object.__setattr__"))
theorem Cls.get {K : PySem.W.Frag} {C : Addr} (c : Cls K C) (f : Str) : PySem.W.plainGet K C f = true := c.pg
structure Con (K : PySem.W.Frag) (C : Addr) (f : Str) (v : V) (u : Value) : Prop where
  at_ : PySem.W.findIn K (.ref C) f = some (some u)
  rel : RelV v u
  get : PySem.W.specialIn K u "__get__" = some none
  cp : PySem.W.copiedNames.contains f = false
structure Meth (K : PySem.W.Frag) (C : Addr) (m : Str) (f : Addr) : Prop where
  at_ : PySem.W.findIn K (.ref C) m = some (some (.ref f))
  fn : PySem.W.isFn K (.ref f) = true
  kp : PySem.W.keepIn K (.ref f) = true

section
variable {X : Cx} {pins : List (Addr × Obj)} {σ : St} {H : Hp} {s : Shared} {a C dx : Addr} {fs : List (Str × V)} {f : Str} {v : V} {A : Around} {E : Value → Shared → Prop}

end

section
variable {X : Cx} {o e value : Expr} {f : Str} {pos pos' tpos : Pos} {ta tv : TE}
end

section
variable {X : Cx} {pins : List (Addr × Obj)} {σ : St} {H : Hp} {s : Shared} {A : Around} {E : Value → Shared → Prop} {Q : Value → Shared → Prop} {c : Value} {b : Bool}
inductive TyOf (K : PySem.W.Frag) (H : Hp) : V → Value → Prop where
  | non : TyOf K H .non (.type "NoneType")
  | bl (x : Bool) : TyOf K H (.bl x) (.type "bool")
  | int (i : Int) : TyOf K H (.int i) (.type "int")
  | str (x : Str) : TyOf K H (.str x) (.type "str")
  | flt (x : UInt64) : TyOf K H (.flt x) (.type "float")
  | lst {a : Addr} {xs : List V} (e : H a = some (.lst xs)) : TyOf K H (.ref a) (.type "list")
  | frz {a : Addr} {o : Obj} {xs : List V} (e : H a = some (.frz o (.lst xs))) : TyOf K H (.ref a) (.type "list")
  | tup {a : Addr} {xs : List V} (e : H a = some (.tup xs)) : TyOf K H (.ref a) (.type "tuple")
  | dK {a : Addr} {kvs : List (Key × V)} (e : H a = some (.dK kvs)) : TyOf K H (.ref a) (.type "dict")
  | dT {a : Addr} {kvs : List (List Key × V)} (e : H a = some (.dT kvs)) : TyOf K H (.ref a) (.type "dict")
  | ins {a C dx : Addr} {fs : List (Str × V)} (e : H a = some (.ins C dx fs)) (cl : Cls K C) (ha : PySem.W.findIn K (.ref C) "__class__" = some (some (.builtin "object.__class__")))
      (hn : PySem.W.specialIn K (.builtin "object.__class__") "__get__" = some (some (.builtin "getset_descriptor.__get__"))) (htk : PySem.W.takesIn K (.builtin "object.__class__") = some true)
      (hm : PySem.W.mroIn K C (.type "object") = some true) : TyOf K H (.ref a) (.ref C)
theorem isinst_ok {x : V} {u t : Value} (I : Inv X pins σ H s) (rx : RelV x u) (ty : TyOf X.K H x t) (e : PySem.W.kitOne X.K t c = some b) (h : ∀ tk, Q (.bool b) { s with toks := tk }) :
    wpAny (model X.prog X.w) A (call (.builtin "isinstance") [u, c]) Q E s := by
  cases ty with
  | non => cases (show u = Value.none from rx); exact PySem.W.kia_one PySem.W.kitx_none I.kIn True.intro e (fun z => nomatch z) h
  | bl y => cases (show u = Value.bool y from rx); exact PySem.W.kia_one PySem.W.kitx_bool I.kIn True.intro e (fun z => nomatch z) h
  | int i => obtain ⟨t, q⟩ := (show ∃ t, u = Value.int i t from rx); cases q; exact PySem.W.kia_one PySem.W.kitx_int I.kIn True.intro e (fun z => nomatch z) h
  | str y => obtain ⟨t, q⟩ := (show ∃ t, u = Value.str y t from rx); cases q; exact PySem.W.kia_one PySem.W.kitx_str I.kIn True.intro e (fun z => nomatch z) h
  | flt y => obtain ⟨t, q⟩ := (show ∃ t, u = Value.float y t from rx); cases q; exact PySem.W.kia_one PySem.W.kitx_float I.kIn True.intro e (fun z => nomatch z) h
  | @lst a xs ea =>
    cases (show u = Value.ref a from rx)
    obtain ⟨_, _, n, _, h1⟩ := (show ObjOk X.prog X.w H s.heap a (.lst xs) from I.hok a _ ea)
    exact PySem.W.kia_one PySem.W.kitx_list I.kIn ⟨_, h1, rfl⟩ e (fun z => nomatch z) h
  | @frz a ob xs ea =>
    cases (show u = Value.ref a from rx)
    obtain ⟨_, _, _, n, _, h1⟩ := (show ObjOk X.prog X.w H s.heap a (.frz ob (.lst xs)) from I.hok a _ ea)
    exact PySem.W.kia_one PySem.W.kitx_list I.kIn ⟨_, h1, rfl⟩ e (fun z => nomatch z) h
  | @tup a xs ea =>
    cases (show u = Value.ref a from rx)
    obtain ⟨_, _, _, p⟩ := (show ObjOk X.prog X.w H s.heap a (.tup xs) from I.hok a _ ea)
    obtain ⟨o, h1, h2, _⟩ := p
    exact PySem.W.kia_one PySem.W.kitx_tuple I.kIn ⟨o, h1, h2⟩ e (fun z => nomatch z) h
  | @dK a kvs ea =>
    cases (show u = Value.ref a from rx)
    obtain ⟨_, _, vs, _, p⟩ := (show ObjOk X.prog X.w H s.heap a (.dK kvs) from I.hok a _ ea)
    obtain ⟨o, es, ep, h1, h2, _⟩ := p
    exact PySem.W.kia_one PySem.W.kitx_dict I.kIn ⟨o, h1, h2.1⟩ e (fun z => nomatch z) h
  | @dT a kvs ea =>
    cases (show u = Value.ref a from rx)
    obtain ⟨_, _, xs, _, o, es, ep, h1, h2, _⟩ := (show ObjOk X.prog X.w H s.heap a (.dT kvs) from I.hok a _ ea)
    exact PySem.W.kia_one PySem.W.kitx_dict I.kIn ⟨o, h1, h2.1⟩ e (fun z => nomatch z) h
  | @ins a C dx fs ea cl ha hn htk hm =>
    cases (show u = Value.ref a from rx)
    obtain ⟨mA, O, _⟩ := ins_get I.hok ea
    obtain ⟨od, J, _⟩ := O.look
    exact PySem.W.kia_one (PySem.W.kitx_own (cl.get _) cl.hd ha hn htk hm) I.kIn J e (fun z => nomatch z) h
end
end L2

namespace L2
open PySem PySem.Spec PyProof.Rows

structure Room (k : Nat) (A : Around) : Prop where
  hd : A.handled = none
  dp : A.depth + 3 * k + 5 < recursionLimit
  un : A.units + 16 * k + 200 < cLine
theorem Room.mono {j k : Nat} {A : Around} (r : Room k A) (h : j ≤ k) : Room j A := ⟨r.hd, by have := r.dp; omega, by have := r.un; omega⟩
theorem Room.deeper {k : Nat} {A : Around} (r : Room (k + 1) A) (env : Env) : Room k (A.deeper env) :=
  ⟨r.hd, by have := r.dp; show A.depth + 1 + 3 * k + 5 < _; omega, by have := r.un; show A.units + 3 + 16 * k + 200 < _; omega⟩
theorem Room.in1 {k : Nat} {A : Around} (r : Room (k + 1) A) : Room k A.in1 :=
  ⟨r.hd, by have := r.dp; show A.depth + 3 * k + 5 < _; omega, by have := r.un; show A.units + 1 + 16 * k + 200 < _; omega⟩
theorem Room.depth {k : Nat} {A : Around} (r : Room k A) : A.depth < recursionLimit := by have := r.dp; omega
theorem Room.units {k : Nat} {A : Around} (r : Room k A) : A.units + 64 < cLine := by have := r.un; omega
def tNil : TA := fun _ H Q => Q [] H
def tCons (ta : TE) (tr : TA) : TA := fun σ H Q => ta σ H fun x H1 => tr σ H1 fun xs H2 => Q (x :: xs) H2
section
variable {X : Cx} {e : Expr} {es : List Expr} {te : TE} {t : TA} {pos : Pos}
theorem pa_nil : PA X [] tNil := fun _ _ _ _ H Q I h => Calls.spliced_nil ⟨[], H, I, .nil, h⟩
theorem pa_cons (ha : PE X e te) (hr : PA X es t) (hs : starEach (e :: es) X.env = (false, eval e X.env) :: starEach es X.env := by rfl) : PA X (e :: es) (tCons te t) := by
  intro pos pins s σ H Q I h
  rw [hs]
  show wpAny _ _ (spliced ((false, eval e X.env) :: backTo pos (starEach es X.env))) _ _ s
  refine Calls.spliced_cons (thn (ha pins s σ H _ I h) fun u s1 ⟨x, H1, I1, r1, q1⟩ => ?_)
  exact thn (hr pos pins s1 σ H1 _ I1 q1) fun us s2 ⟨xs, H2, I2, r2, q2⟩ => ⟨x :: xs, H2, I2, .cons r1 r2, q2⟩

def tTup (t : TA) : TE := fun σ H Q => t σ H fun xs H1 => xs.length ≤ sizeLine ∧ ∀ p, H1 p = none → Q (.ref p) (upd H1 p (.tup xs))
def tLst (t : TA) : TE := fun σ H Q => t σ H fun xs H1 => xs.length ≤ sizeLine ∧ ∀ p, H1 p = none → Q (.ref p) (upd H1 p (.lst xs))
theorem pe_tup {x1} (h : PA X es t) : PE X (.Tuple es x1 pos) (tTup t) := by
  intro pins s σ H Q I hq
  refine wpAny_Tuple_spliced (thn (h pos pins s σ H _ I hq) fun us s1 ⟨xs, H1, I1, r, z, q⟩ => ⟨by rw [← r.length]; exact z, ?_⟩)
  have hf : H1 s1.heap.objs.size = none := I1.hok.fresh (Nat.le_refl _)
  refine ⟨.ref s1.heap.objs.size, upd H1 s1.heap.objs.size (.tup xs), I1.laid (t' := s1.toks) (fun b u e => Heap.get?_push_of_some _ e) (Nat.le_refl _) ?_, rfl, q _ hf⟩
  exact ⟨z, us, r, ⟨_, Heap.get?_push_size _ rfl, rfl, _, rfl⟩⟩
theorem pe_lst (h : PA X es t) : PE X (.List es pos) (tLst t) := by
  intro pins s σ H Q I hq
  refine wpAny_List_spliced (thn (h pos pins s σ H _ I hq) fun us s1 ⟨xs, H1, I1, r, z, q⟩ => ⟨by rw [← r.length]; exact z, ?_⟩)
  have hf : H1 s1.heap.objs.size = none := I1.hok.fresh (Nat.le_refl _)
  refine ⟨.ref s1.heap.objs.size, upd H1 s1.heap.objs.size (.lst xs), I1.laid (t' := s1.toks) (fun b u e => Heap.get?_push_of_some _ e) (Nat.le_refl _) ?_, rfl, q _ hf⟩
  exact ⟨z, us, 0, r, Heap.get?_push_size _ rfl⟩
end

abbrev Sp := List V → Hp → VK → XK → Prop
abbrev CXT := List Env → Hp → Shared → XK → Value → Shared → Prop

structure Env0 (P : Program) (w : World) (K : PySem.W.Frag) (mg : Str → Option Value) (base : Heap) (A : Around) (outer : List Env) (s : Shared) (H : Hp) : Prop where
  frames : A.frames = some outer
  mod : Mod K mg base
  bs : ∀ b o, base.get? b = some o → s.heap.get? b = some o ∧ H b = none
  bsz : base.objs.size ≤ s.heap.objs.size
  funs : s.heap.FunFrames base outer
  frf : ∀ b ∈ frs outer, H b = none
  hok : HOk P w H s.heap
  bare : AllBare s.gens
def CE (outer : List Env) (P : Program) (w : World) (H : Hp) (s : Shared) (Q : VK) (u : Value) (s' : Shared) : Prop :=
  ∃ v H', s'.os = s.os ∧ AllBare s'.gens ∧ Un (frs outer) [] H H' s.heap s'.heap ∧ HOk P w H' s'.heap ∧ RelV v u ∧ Q v H'
def CR (CX : CXT) (outer : List Env) (P : Program) (w : World) (H : Hp) (s : Shared) (Q : VK) (E : XK) (r : Result) (s' : Shared) : Prop :=
  match r with
  | .ok (.ret u) => CE outer P w H s Q u s'
  | .ok _ => False
  | .error e => CX outer H s E e s'
structure FnOk (P : Program) (w : World) (K : PySem.W.Frag) (mg : Str → Option Value) (base : Heap) (CX : CXT) (k : Nat) (f : Addr) (fd : FuncData) (ps : List Str) (sp : Sp) : Prop where
  len : ∀ vs H Q E, sp vs H Q E → vs.length = ps.length
  run : ∀ (A : Around) (outer : List Env) (s : Shared) (H : Hp) (args : Args) (us : List Value) (vs : List V) (Q : VK) (E : XK), Room k A → Env0 P w K mg base A outer s H → BindsTo s fd args (ps.zip us) → Vals vs us → sp vs H Q E →
    codeAny (model P w) A (.call (.ref f) args) (CR CX outer P w H s Q E) s
theorem FnOk.mono {P : Program} {w : World} {K : PySem.W.Frag} {mg : Str → Option Value} {base : Heap} {CX : CXT} {j k : Nat} {f : Addr} {fd : FuncData} {ps : List Str} {sp : Sp} (F : FnOk P w K mg base CX j f fd ps sp) (h : j ≤ k) :
    FnOk P w K mg base CX k f fd ps sp := ⟨F.len, fun A outer s H args us vs Q E hr => F.run A outer s H args us vs Q E (hr.mono h)⟩
theorem FnOk.imp {P : Program} {w : World} {K : PySem.W.Frag} {mg : Str → Option Value} {base : Heap} {CX : CXT} {k : Nat} {f : Addr} {fd : FuncData} {ps : List Str} {sp sp' : Sp} (F : FnOk P w K mg base CX k f fd ps sp)
    (h : ∀ vs H Q E, sp' vs H Q E → sp vs H Q E) : FnOk P w K mg base CX k f fd ps sp' :=
  ⟨fun vs H Q E q => F.len vs H Q E (h _ _ _ _ q), fun A outer s H args us vs Q E hr he hb hv hs => F.run A outer s H args us vs Q E hr he hb hv (h _ _ _ _ hs)⟩

theorem Env0.in1 {P : Program} {w : World} {K : PySem.W.Frag} {mg : Str → Option Value} {base : Heap} {A : Around} {outer : List Env} {s : Shared} {H : Hp} (e : Env0 P w K mg base A outer s H) :
    Env0 P w K mg base A.in1 outer s H := ⟨e.frames, e.mod, e.bs, e.bsz, e.funs, e.frf, e.hok, e.bare⟩

section
variable {X : Cx} {pins : List (Addr × Obj)} {σ : St} {H : Hp} {s s' : Shared}
theorem Inv.env0 (I : Inv X pins σ H s) : Env0 X.prog X.w X.K X.mg X.base X.A X.stack s H :=
  ⟨I.ok.frames, I.ok.mod, I.bs, Nat.le_trans I.ok.bsz I.sz, I.stack, I.stkFree, I.hok, I.bare⟩
theorem Inv.after {Q : VK} {u : Value} (I : Inv X pins σ H s) (h : CE X.stack X.prog X.w H s Q u s') : EP X pins σ Q u s' := by
  obtain ⟨v, H', os, bare, un, hok, r, q⟩ := h
  obtain ⟨hh, g, d, t, os'⟩ := s'
  obtain rfl : os' = s.os := os
  exact ⟨v, H', I.call (h' := hh) (g' := g) (d' := d) (t' := t) (ch := []) un hok bare (fun b z => absurd z (by simp)), r, q⟩
end

def tCall (sp : Sp) (dvs : List V) (E : XK) (t : TA) : TE := fun σ H Q => t σ H fun vs H1 => sp (vs ++ dvs) H1 Q E
def Binds (K : PySem.W.Frag) (fd : FuncData) (ps : List Str) (ds : List Value) : Prop :=
  ∀ (s : Shared) (us : List Value), K.In s.heap → (us ++ ds).length = ps.length → BindsTo s fd ⟨us, []⟩ (ps.zip (us ++ ds))
theorem Binds.all {K : PySem.W.Frag} {fd : FuncData} {ps : List Str} (h : ∀ us : List Value, us.length = ps.length → bindArgs fd ⟨us, []⟩ = pure (ps.zip us)) : Binds K fd ps [] := fun s us _ hl => by
  rw [List.append_nil] at hl ⊢
  exact .of_eq (h us hl)

def Passes (CX : CXT) (X : Cx) (E : XK) : Prop := ∀ (pins : List (Addr × Obj)) (σ : St) (H : Hp) (s : Shared) (e : Value) (s' : Shared), Inv X pins σ H s → CX X.stack H s E e s' → X.xe e s'

section
variable {X : Cx} {CX : CXT} {k : Nat} {f C : Addr} {fd : FuncData} {ps : List Str} {sp : Sp} {dvs : List V} {ds : List Value} {E : XK} {x m : Str} {p pos apos : Pos} {e o : Expr} {es : List Expr} {ta : TE} {t : TA}

theorem run_fn {pins : List (Addr × Obj)} {σ : St} {H : Hp} {s : Shared} {Q : VK} {us : List Value} {vs : List V} (F : FnOk X.prog X.w X.K X.mg X.base CX k f fd ps sp) (hr : Room k X.A) (hb : Binds X.K fd ps ds) (hd : Vals dvs ds) (hx : Passes CX X E)
    (I : Inv X pins σ H s) (r : Vals vs us) (h : sp (vs ++ dvs) H Q E) : wpAny (model X.prog X.w) X.A (call (.ref f) us) (EP X pins σ Q) X.xe s := by
  have r2 : Vals (vs ++ dvs) (us ++ ds) := r.append hd
  have hl : (us ++ ds).length = ps.length := by rw [← r2.length]; exact F.len _ _ _ _ h
  refine wpAny_call (codeAny_mono (F.run X.A X.stack s H ⟨us, []⟩ (us ++ ds) (vs ++ dvs) Q E hr I.env0 (hb s us I.kIn hl) r2 h) fun r s' hq => ?_)
  cases r with
  | error e => exact hx pins σ H s e s' I hq
  | ok fl =>
    cases fl with
    | ret u => exact I.after hq
    | next => exact False.elim hq
    | brk => exact False.elim hq
    | cont => exact False.elim hq

theorem pe_call (F : FnOk X.prog X.w X.K X.mg X.base CX k f fd ps sp) (hr : Room k X.A) (hg : Gl X x) (hm : X.mg x = some (.ref f)) (hk : PySem.W.keepIn X.K (.ref f) = true) (hb : Binds X.K fd ps ds) (hd : Vals dvs ds) (hx : Passes CX X E)
    (ha : PA X (e :: es) t) (hdb : (x == ("__debug__" : Str)) = false := by decide) (he : starEach (e :: es) X.env = (false, eval e X.env) :: starEach es X.env := by rfl) (hpl : (backTo pos (starEach es X.env)).any (·.1) = false := by rfl) :
    PE X (.Call (.Name x p) (e :: es) [] pos) (tCall sp dvs E t) := by
  intro pins s σ H Q I h
  refine wpAny_Call_Name_kw (ld_glob I hg hm ?_ hdb)
  refine PySem.W.callWith_K (h₀ := X.base) I.ok.mod.kin hk (thn (ha pos pins s σ H _ I h) fun us s1 ⟨vs, H1, I1, r, q⟩ => ⟨I1.kIn, ?_⟩) he hpl
  exact run_fn F hr hb hd hx I1 r q
structure Mk (K : PySem.W.Frag) (C f : Addr) : Prop where
  makes : PySem.W.makesIn K C = true
  init : PySem.W.findIn K (.ref C) "__init__" = some (some (.ref f))
  fn : PySem.W.isFn K (.ref f) = true
  kp : PySem.W.keepIn K (.ref C) = true

end

section
variable {X : Cx} {CX : CXT} {k : Nat} {f C : Addr} {fd : FuncData} {ps ks : List Str} {sp : Sp} {E : XK} {x m : Str} {p pos apos kpos : Pos} {e o : Expr} {es : List Expr} {kws : List Keyword} {te ta : TE} {t tk : TA} {nm : Option Str}
structure KBinds (K : PySem.W.Frag) (fd : FuncData) (ps ks : List Str) (g : List Value → List Value → List Value) (gV : List V → List V → List V) : Prop where
  to : ∀ (s : Shared) (us ws : List Value), K.In s.heap → (g us ws).length = ps.length → BindsTo s fd ⟨us, ks.zip ws⟩ (ps.zip (g us ws))
  rel : ∀ {vs : List V} {us : List Value} {zs : List V} {ws : List Value}, Vals vs us → Vals zs ws → Vals (gV vs zs) (g us ws)
variable {g : List Value → List Value → List Value} {gV : List V → List V → List V}
end

structure FnScope (N P : List Str) (sc : Scope) : Prop where
  kind : sc.kind = .function
  co : sc.isCoroutine = false
  gen : sc.isGenerator = false
  nd : N.Nodup
  pre : N.take P.length = P
  par : ∀ x ∈ P, sc.names.lookup x = some .local ∨ sc.names.lookup x = some .cell
  nofree : ∀ y ∈ sc.names, y.2 ≠ .free

theorem bindL_out {kindOf : Str → Option NameKind} {x : Str} : ∀ {binds : List (Str × Value)} {m : Str → Option Value}, (∀ v, (x, v) ∉ binds) → bindL kindOf binds m x = m x
  | [], _, _ => rfl
  | (n, v) :: r, m, h => by
    unfold bindL
    rw [bindL_out fun w hw => h w (List.mem_cons_of_mem _ hw)]
    split
    · have : x ≠ n := by rintro rfl; exact h v List.mem_cons_self
      simp [this]
    · rfl
theorem bindC_out {kindOf : Str → Option NameKind} {x : Str} : ∀ {binds : List (Str × Value)} {m : Str → Option Value}, (∀ v, (x, v) ∉ binds) → bindC kindOf binds m x = m x
  | [], _, _ => rfl
  | (n, v) :: r, m, h => by
    unfold bindC
    rw [bindC_out fun w hw => h w (List.mem_cons_of_mem _ hw)]
    split
    · rfl
    · have : x ≠ n := by rintro rfl; exact h v List.mem_cons_self
      simp [this]
theorem bindL_get {kindOf : Str → Option NameKind} {x : Str} {v : Value} : ∀ {P : List Str} {vs : List Value} {i : Nat} {m : Str → Option Value}, P.Nodup → P[i]? = some x → vs[i]? = some v → kindOf x = some .local →
    bindL kindOf (P.zip vs) m x = some v
  | [], _, _, _, _, h, _, _ => by simp at h
  | _ :: _, [], _, _, _, _, h, _ => by simp at h
  | p :: P, w :: vs, 0, m, nd, h1, h2, hk => by
    simp at h1 h2; subst h1; subst h2
    show bindL kindOf ((p, w) :: P.zip vs) m p = _
    unfold bindL
    rw [bindL_out fun v hv => (List.nodup_cons.mp nd).1 (List.of_mem_zip hv).1, if_pos hk]
    simp
  | p :: P, w :: vs, i + 1, m, nd, h1, h2, hk => by
    show bindL kindOf ((p, w) :: P.zip vs) m x = _
    unfold bindL
    exact bindL_get (i := i) (List.nodup_cons.mp nd).2 (by simpa using h1) (by simpa using h2) hk
theorem bindC_get {kindOf : Str → Option NameKind} {x : Str} {v : Value} : ∀ {P : List Str} {vs : List Value} {i : Nat} {m : Str → Option Value}, P.Nodup → P[i]? = some x → vs[i]? = some v → kindOf x ≠ some .local →
    bindC kindOf (P.zip vs) m x = some v
  | [], _, _, _, _, h, _, _ => by simp at h
  | _ :: _, [], _, _, _, _, h, _ => by simp at h
  | p :: P, w :: vs, 0, m, nd, h1, h2, hk => by
    simp at h1 h2; subst h1; subst h2
    show bindC kindOf ((p, w) :: P.zip vs) m p = _
    unfold bindC
    rw [bindC_out fun v hv => (List.nodup_cons.mp nd).1 (List.of_mem_zip hv).1, if_neg hk]
    simp
  | p :: P, w :: vs, i + 1, m, nd, h1, h2, hk => by
    show bindC kindOf ((p, w) :: P.zip vs) m x = _
    unfold bindC
    exact bindC_get (i := i) (List.nodup_cons.mp nd).2 (by simpa using h1) (by simpa using h2) hk

def start (N : List Str) (vs : List V) : St := vs.map some ++ List.replicate (N.length - vs.length) none

def cxOf (CX : CXT) (P : Program) (w : World) (K : PySem.W.Frag) (mg : Str → Option Value) (base : Heap) (N : List Str) (qual : Str) (scope : Scope) (f : Addr) (cd : Value) (A : Around) (outer : List Env) (s : Shared) (H : Hp) (E : XK) : Cx where
  prog := P
  w := w
  K := K
  mg := mg
  base := base
  A := A.deeper (envOfC qual scope s.heap.objs.size f cd)
  N := N
  s₀ := s
  H₀ := H
  env := envOfC qual scope s.heap.objs.size f cd
  outer := outer
  stack := envOfC qual scope s.heap.objs.size f cd :: outer
  ex := []
  calm := true
  fn := fun _ => true
  pn := []
  xe := fun e s' => wpAny (model P w) (A.deeper (envOfC qual scope s.heap.objs.size f cd)) (leaving (envOfC qual scope s.heap.objs.size f cd) e) (fun _ s'' => CX outer H s E e s'') (fun e' s'' => CX outer H s E e' s'') s'

theorem cell_has {sc : Scope} {n : Nat} {x : Str} (h : sc.names.lookup x = some .cell) : ∃ c, (cellsFrom n sc.names []).lookup x = some c := by
  have q := PySem.W.cellsFrom_some sc.names n [] (.inl h)
  exact Option.isSome_iff_exists.mp q

theorem inv_start {CX : CXT} {P : Program} {w : World} {K : PySem.W.Frag} {mg : Str → Option Value} {base : Heap} {N ps : List Str} {qual : Str} {scope : Scope} {f : Addr} {cd : Value} {A : Around} {outer : List Env} {s s1 : Shared} {H : Hp} {E : XK} {us : List Value} {vs : List V}
    (S : FnScope N ps scope) (hd : A.handled = none) (e0 : Env0 P w K mg base A outer s H) (hl : vs.length = ps.length) (r : Vals vs us)
    (x : InCallC s s.heap.objs.size (bindL (envOfC qual scope s.heap.objs.size f cd).kindOf (ps.zip us) fun _ => none) (cellsFrom (s.heap.objs.size + 1) scope.names []) (bindC (envOfC qual scope s.heap.objs.size f cd).kindOf (ps.zip us) fun _ => none) s1) :
    Inv (cxOf CX P w K mg base N qual scope f cd A outer s H E) [] (start N vs) H s1 := by
  have hpl : ps.length ≤ N.length := by have := congrArg List.length S.pre; rw [List.length_take] at this; omega
  obtain ⟨h1, tk, rfl, hk⟩ := x.done
  have noA : ∀ b : Addr, b ∉ (cxOf CX P w K mg base N qual scope f cd A outer s H E).ex := fun b z => absurd (show b ∈ ([] : List Addr) from z) (by simp)
  refine ⟨⟨e0.mod, S.kind, rfl, rfl, Nat.le_refl _, fun y z c h1 h2 => ?_, fun y hy => ?_, fun y c _ h => ?_, fun _ => hd, Around.frames_deeper e0.frames, .inr ⟨rfl, rfl⟩, fun b z => absurd z (noA b), e0.bs, e0.bsz, fun b _ _ => noA b, fun b z => absurd z (noA b), e0.funs, e0.frf⟩,
    rfl, e0.bare, Un.kept hk, ⟨_, x.toInCall.ns, fun i y v h1 h2 h3 => ?_⟩, fun y c h => ⟨_, x.cell y c h⟩, e0.hok.fresh (Nat.le_refl _), fun y c h => ?_, fun p hp => absurd (show p ∈ ([] : List (Addr × Obj)) from hp) (by simp), e0.hok.kept hk, ?_⟩
  · exact name_of_addr x.apart (PySem.mem_of_lookup h1) (PySem.mem_of_lookup h2)
  · have hy : scope.names.lookup y = some .cell ∨ scope.names.lookup y = some .free := hy
    rcases hy with hy | hy
    · exact cell_has hy
    · exact absurd rfl (S.nofree _ (PySem.mem_of_lookup hy))
  · exact Nat.le_of_lt (x.above y c (PySem.mem_of_lookup h))
  · have hi : i < vs.length := by
      unfold start at h2
      by_cases hi : i < vs.length
      · exact hi
      · rw [List.getElem?_append_right (by simpa using hi)] at h2
        rw [List.getElem?_replicate] at h2
        split at h2 <;> cases h2
    have ha : vs[i]? = some v := by
      unfold start at h2
      rw [List.getElem?_append_left (by simpa using hi), List.getElem?_map] at h2
      cases e : vs[i]? with
      | none => rw [e] at h2; cases h2
      | some a => rw [e] at h2; cases h2; rfl
    obtain ⟨u, hu, rv⟩ := r.get ha
    have hp : ps[i]? = some y := by
      rw [← S.pre, List.getElem?_take_of_lt (by omega)]; exact h1
    have ndP : ps.Nodup := by rw [← S.pre]; exact S.nd.sublist (List.take_sublist _ _)
    refine ⟨u, rv, ?_⟩
    rcases S.par y (List.mem_of_getElem? hp) with k | k
    · exact .inl ⟨k, bindL_get ndP hp hu k⟩
    · obtain ⟨c, e⟩ := cell_has (n := s.heap.objs.size + 1) k
      refine .inr ⟨.inl k, c, e, ?_⟩
      have q := x.cell y c e
      rw [bindC_get ndP hp hu (by show scope.names.lookup y ≠ _; rw [k]; decide)] at q
      exact q
  · exact e0.hok.fresh (Nat.le_of_lt (x.above y c (PySem.mem_of_lookup h)))
  · unfold start
    show _ = N.length
    rw [List.length_append, List.length_map, List.length_replicate]
    omega

theorem fn_of {CX : CXT} {P : Program} {w : World} {K : PySem.W.Frag} {mg : Str → Option Value} {base : Heap} {k : Nat} {f : Addr} {name qual : Str} {params : Arguments} {body : List Stmt} {scope : Scope} {dV kV doc pm cdv ct oc : Value} {an od : Option Addr}
    {osl : Array (Option Value)} {N ps : List Str} {sp : Sp} (lk : K.lookup f = some ⟨oc, od, .func (PySem.W.fnOf name qual params body scope dV kV doc pm an cdv ct), osl⟩) (hcd : PySem.W.codeIn K cdv qual = true) (S : FnScope N ps scope)
    (len : ∀ vs H Q E, sp vs H Q E → vs.length = ps.length)
    (hbody : ∀ (A : Around) (outer : List Env) (s : Shared) (H : Hp) (vs : List V) (Q : VK) (E : XK), Room k (A.deeper (envOfC qual scope s.heap.objs.size f cdv)) → sp vs H Q E →
      ∃ t, PSs (cxOf CX P w K mg base N qual scope f cdv A outer s H E) body t ∧ t { nx := fun _ H' => Q .non H', rt := Q } (start N vs) H) :
    FnOk P w K mg base CX (k + 1) f (PySem.W.fnOf name qual params body scope dV kV doc pm an cdv ct) ps sp := by
  refine ⟨len, fun A outer s H args us vs Q E hr e0 hb r hsp => ?_⟩
  have hl := len _ _ _ _ hsp
  have KX : K.In s.heap := e0.mod.kin.keeps fun b o e => (e0.bs b o e).1
  have lim : s.heap.NoLimit := e0.mod.nolimit.keeps fun b o e => (e0.bs b o e).1
  have hkind : ∀ y ∈ ps.zip us, scope.names.lookup y.1 = some .local ∨ (scope.names.lookup y.1 = some .cell ∧ ((cellsFrom (s.heap.objs.size + 1) scope.names []).lookup y.1).isSome = true) := fun ⟨n, v⟩ hy => by
    rcases S.par n (List.of_mem_zip hy).1 with q | q
    · exact .inl q
    · exact .inr ⟨q, PySem.W.cellsFrom_some _ _ _ (.inl q)⟩
  refine codeAny_call_function hr.depth (KX _ _ lk) rfl S.co S.gen rfl (PySem.W.codeRec_of KX hcd) (hb _ _ _ _ ?_)
  refine wpAny_newFunctionEnv_cells S.kind hkind fun env he s1 x => ?_
  subst he
  refine ⟨lim.keeps x.toInCall.keep, codeAny_func ?_⟩
  obtain ⟨t, ht, hq⟩ := hbody A outer s H vs Q E (hr.deeper _) hsp
  have I : Inv (cxOf CX P w K mg base N qual scope f cdv A outer s H E) [] (start N vs) H s1 := inv_start S hr.hd e0 hl r x
  refine wpAny_mono (ht [] s1 (start N vs) H _ I hq) (fun fl s' hs => ?_) fun e s' hs => hs
  have fin : ∀ {σ' : St} {H' : Hp} {v : V} {u : Value}, Inv (cxOf CX P w K mg base N qual scope f cdv A outer s H E) [] σ' H' s' → RelV v u → Q v H' → CE outer P w H s Q u s' :=
    fun {σ' H' v u} J rv q => ⟨v, H', J.os, J.bare, J.base, J.hok, rv, q⟩
  cases fl with
  | ret u =>
    obtain ⟨v, σ', H', J, rv, q⟩ := hs
    exact fin J rv q
  | next =>
    obtain ⟨σ', H', J, q⟩ := hs
    exact fin (v := V.non) (u := Value.none) J rfl q
  | brk =>
    obtain ⟨_, _, _, q⟩ := hs
    exact False.elim q
  | cont =>
    obtain ⟨_, _, _, q⟩ := hs
    exact False.elim q
end L2

namespace L2
open PySem PySem.Spec PyProof.Rows
section
variable {X : Cx} {x : Str} {p pos : Pos} {e : Expr} {es : List Expr} {t : TA} {id T : String} {r : List V → Hp → VK → Prop}

def tCB (r : List V → Hp → VK → Prop) (t : TA) : TE := fun σ H Q => t σ H fun vs H1 => r vs H1 Q
theorem pe_callB (hc : CallR X (.builtin id) r) (hg : Gl X x) (hm : X.mg x = none) (hv : bootBuiltins x = some (.builtin id)) (ha : PA X (e :: es) t) (hn : x ≠ "__name__" := by decide) (hdb : (x == ("__debug__" : Str)) = false := by decide)
    (he : starEach (e :: es) X.env = (false, eval e X.env) :: starEach es X.env := by rfl) (hpl : (backTo pos (starEach es X.env)).any (·.1) = false := by rfl) : PE X (.Call (.Name x p) (e :: es) [] pos) (tCB r t) := by
  intro pins s σ H Q I h
  refine wpAny_Call_Name_kw (ld_blt I hg hm hv ?_ hn hdb)
  exact PyProof.Rows.callWith_builtin1 (thn (ha pos pins s σ H _ I h) fun us s1 ⟨vs, H1, I1, r1, q1⟩ => hc pins s1 σ H1 vs us Q I1 r1 q1) he hpl
theorem pe_callTy (hc : CallR X (.type T) r) (hg : Gl X x) (hm : X.mg x = none) (hv : bootBuiltins x = some (.type T)) (ha : PA X (e :: es) t) (hn : x ≠ "__name__" := by decide) (hdb : (x == ("__debug__" : Str)) = false := by decide)
    (he : starEach (e :: es) X.env = (false, eval e X.env) :: starEach es X.env := by rfl) (hpl : (backTo pos (starEach es X.env)).any (·.1) = false := by rfl) : PE X (.Call (.Name x p) (e :: es) [] pos) (tCB r t) := by
  intro pins s σ H Q I h
  refine wpAny_Call_Name_kw (ld_blt I hg hm hv ?_ hn hdb)
  exact PyProof.Rows.callWith_type1 (thn (ha pos pins s σ H _ I h) fun us s1 ⟨vs, H1, I1, r1, q1⟩ => hc pins s1 σ H1 vs us Q I1 r1 q1) he hpl
end
end L2

namespace HT
open PySem PyProof.Rows

section
open PySem.SeqAt
open PySem.AutoSeq1 (wpAny_loadPart')
open PySem.MeetsSeq PySem.MeetsSeq2 PySem.MeetsSeq3

end

section
variable {prog : Program} {w : World} {A : Around} {E : Value → Shared → Prop} {s : Shared}

theorem cat_tup {t b : Addr} {vs ws : List Value} {Q : Value → Shared → Prop} (ht : IsTup s.heap t vs.toArray) (hb : IsTup s.heap b ws.toArray) (hv : vs ≠ [])
    (h1 : ws = [] → Q (.ref t) s) (h2 : ws ≠ [] → Q (.ref s.heap.objs.size) { s with heap := s.heap.push { cls := .type "tuple", data := .seq (vs ++ ws).toArray } })
    (hsz : vs.length + ws.length ≤ sizeLine) : wpAny (model prog w) A (binaryOp .Add (.ref t) (.ref b)) Q E s := by
  obtain ⟨⟨cls, dd, data, sl⟩, ho, hc, n, hd⟩ := id ht
  obtain ⟨⟨cls2, dd2, data2, sl2⟩, ho2, hc2, n2, hd2⟩ := id hb
  simp only at hc hd hc2 hd2
  subst hc hd hc2 hd2
  have e : vs.toArray ++ ws.toArray = (vs ++ ws).toArray := by simp
  by_cases hw : ws = []
  · exact concat_meets ⟨_, ho, rfl⟩ ⟨_, ho2, rfl⟩ noFill_tuple_add seq_tuple_add PySem.F.slot_tuple_add PySem.F.entry_tuple_add (PySem.F.args_tuple_add_2 _ _)
      (tuple_addW1 t b vs.toArray ws.toArray n n2 dd dd2 sl sl2 (by simpa using hv) (by simp [hw])) ⟨ho, ho2, h1 hw⟩
  · refine concat_meets ⟨_, ho, rfl⟩ ⟨_, ho2, rfl⟩ noFill_tuple_add seq_tuple_add PySem.F.slot_tuple_add PySem.F.entry_tuple_add (PySem.F.args_tuple_add_2 _ _)
      (tuple_addW2 t b vs.toArray ws.toArray n n2 dd dd2 sl sl2 (by simpa using hv) (by simpa using hw) (by rw [List.size_toArray, List.size_toArray]; exact hsz)) ⟨ho, ho2, ?_⟩
    rw [e]
    exact h2 hw

def sIx (n d : Nat) : Option Int → Nat
  | none => d
  | some v => if v < 0 then (v + (n : Int)).toNat else min v.toNat n
theorem sIx_le (n d : Nat) (hd : d ≤ n) (o : Option Int) : sIx n d o ≤ n := by
  cases o with
  | none => exact hd
  | some v =>
    show (if v < 0 then (v + (n : Int)).toNat else min v.toNat n) ≤ n
    by_cases hv : v < 0
    · rw [if_pos hv]; omega
    · rw [if_neg hv]; exact Nat.min_le_right _ _
theorem clip_eq (v : Int) (n d : Nat) : (if v < 0 then max (v + (n : Int)) 0 else min v (n : Int)) = ((sIx n d (some v) : Nat) : Int) := by
  show (if v < 0 then max (v + (n : Int)) 0 else min v (n : Int)) = (((if v < 0 then (v + (n : Int)).toNat else min v.toNat n) : Nat) : Int)
  by_cases hv : v < 0
  · simp only [if_pos hv]; omega
  · simp only [if_neg hv]; omega
theorem adjust_gen (lo hi : Option Int) (n : Nat) : Builtin.Slice.sliceAdjust lo hi 1 (n : Int) = (((sIx n 0 lo : Nat) : Int), ((sIx n n hi : Nat) : Int)) := by
  have h1 : ¬ ((1 : Int) < 0) := by omega
  unfold Builtin.Slice.sliceAdjust
  simp only [h1, if_false]
  refine Prod.ext ?_ ?_
  · cases lo with
    | none => rfl
    | some v => exact clip_eq v n 0
  · cases hi with
    | none => rfl
    | some v => exact clip_eq v n n
theorem places_gen (i j : Nat) : Builtin.Slice.slicePlaces (i : Int) (j : Int) 1 = j - i := by
  unfold Builtin.Slice.slicePlaces
  have h1 : (1 : Int) > 0 := by omega
  simp only [h1, if_true, Int.ediv_one]
  split <;> omega
theorem slicePart_ {v : Value} {o : Option Int} {Q : Option Int → Shared → Prop} (p : IsPart v o) (h : Q o s) : wpAny (model prog w) A (Builtin.Slice.slicePartIndex v) Q E s := by
  cases p with
  | none => exact slicePart_none h
  | int i t => exact slicePart_int h
theorem sliceApplied_gen {sl : Addr} {vl vu : Value} {lo hi : Option Int} {n : Nat} {Q : Int × Int × Nat → Shared → Prop} (hs : s.heap.IsSliceOf sl vl vu .none) (pl : IsPart vl lo) (pu : IsPart vu hi)
    (h : Q (((sIx n 0 lo : Nat) : Int), 1, sIx n n hi - sIx n 0 lo) s) : wpAny (model prog w) A (Builtin.Slice.sliceApplied (.ref sl) (pure (n : Int))) Q E s := by
  obtain ⟨os, hos, hcs, hds⟩ := id hs
  unfold Builtin.Slice.sliceApplied Builtin.Slice.sliceFields
  refine wpAny_bind (wpAny_bind (wpAny_field hos hds (x := vl) rfl (wpAny_bind (wpAny_field hos hds (x := vu) rfl (wpAny_bind (wpAny_field hos hds (x := .none) rfl (wpAny_pure ?_)))))))
  refine wpAny_bind (slicePart_none ?_)
  show wpAny _ _ (if ((1 : Int) == 0) = true then _ else _) _ _ s
  rw [if_neg (by decide)]
  refine wpAny_bind (slicePart_ pl (wpAny_bind (slicePart_ pu (wpAny_bind (wpAny_pure ?_)))))
  show wpAny _ _ (match Builtin.Slice.sliceAdjust lo hi 1 (n : Int) with | (lo, hi) => pure (lo, (1 : Int), Builtin.Slice.slicePlaces lo hi 1)) _ _ s
  rw [adjust_gen lo hi n]
  show wpAny _ _ (pure (((sIx n 0 lo : Nat) : Int), (1 : Int), Builtin.Slice.slicePlaces ((sIx n 0 lo : Nat) : Int) ((sIx n n hi : Nat) : Int) 1)) _ _ s
  rw [places_gen]
  exact wpAny_pure h
theorem pick_gen (xs : Array Value) (i k : Nat) : ((List.range k).filterMap fun (m : Nat) => xs[((i : Int) + (m : Int) * 1).toNat]?).toArray = ((xs.toList.drop i).take k).toArray := by
  have e : (fun (m : Nat) => xs[((i : Int) + (m : Int) * 1).toNat]?) = fun m => xs[i + m]? := by
    funext m
    have : ((i : Int) + (m : Int) * 1).toNat = i + m := by omega
    rw [this]
  rw [e]
  have := pick_run xs i k
  rw [List.filterMap_map] at this
  have e2 : ((fun x => xs[x]?) ∘ fun x => i + x) = fun m => xs[i + m]? := rfl
  rw [e2] at this
  rw [this]

theorem getItem_tuple_cut {t sl : Addr} {items : Array Value} {vl vu : Value} {lo hi : Option Int} {Q : Value → Shared → Prop} (ht : IsTup s.heap t items) (hs : s.heap.IsSliceOf sl vl vu .none) (pl : IsPart vl lo) (pu : IsPart vu hi)
    (hw : ¬ (sIx items.size 0 lo = 0 ∧ sIx items.size items.size hi = items.size))
    (h : Q (.ref s.heap.objs.size) { s with heap := s.heap.push { cls := .type "tuple", data := .seq ((items.toList.drop (sIx items.size 0 lo)).take (sIx items.size items.size hi - sIx items.size 0 lo)).toArray } })
    (hsz : items.size ≤ sizeLine) : wpAny (model prog w) A (getItem (.ref t) (.ref sl)) Q E s := by
  have htake : sizeOk (.seq ((items.toList.drop (sIx items.size 0 lo)).take (sIx items.size items.size hi - sIx items.size 0 lo)).toArray) := by
    show ((items.toList.drop (sIx items.size 0 lo)).take (sIx items.size items.size hi - sIx items.size 0 lo)).toArray.size ≤ sizeLine
    rw [List.size_toArray, List.length_take, List.length_drop, Array.length_toList]
    omega
  have hj : sIx items.size items.size hi ≤ items.size := sIx_le _ _ (Nat.le_refl _) hi
  obtain ⟨os, hos, hcs, hds⟩ := id hs
  have hTs : s.TypeIs (.ref sl) "slice" := ⟨os, hos, hcs⟩
  unfold getItem
  try with_reducible refine wpAny_holding ?_
  first | refine wpAny_bind (wpAny_pure ?_) | skip
  refine wpAny_bind (wpAny_sequenceKey ht.typeIs (by decide) ?_)
  refine wpAny_bind (wpAny_callSpecial?_slot (name := Str.ofString "__getitem__") ht.typeIs PyProof.Rows.slot_tuple_getitem
    (wpAny_call_entry PyProof.Rows.slot_tuple_getitem ht.typeIs entry_tuple_getitem ?_ (args_tuple_getitem _ _)))
  show wpAny _ _ (Builtin.Tuple.tupleItemsOf (.ref t) >>= _) _ _ s
  refine wpAny_bind (tupleItemsOf_ ht ?_)
  refine wpAny_bind (wpAny_typeOf hTs ?_)
  rw [if_pos (by decide)]
  refine wpAny_bind (sliceApplied_gen hs pl pu ?_)
  have hno : ¬ ((((sIx items.size 0 lo : Nat) : Int) == 0 && (1 : Int) == 1 && (sIx items.size items.size hi - sIx items.size 0 lo) == items.size) = true) := by
    intro q
    rw [Bool.and_eq_true, Bool.and_eq_true] at q
    have q1 : ((sIx items.size 0 lo : Nat) : Int) = 0 := eq_of_beq q.1.1
    have q2 : sIx items.size items.size hi - sIx items.size 0 lo = items.size := eq_of_beq q.2
    exact hw ⟨by omega, by omega⟩
  show wpAny _ _ (if (((sIx items.size 0 lo : Nat) : Int) == 0 && (1 : Int) == 1 && (sIx items.size items.size hi - sIx items.size 0 lo) == items.size) = true then _ else _) _ _ s
  rw [if_neg hno, pick_gen]
  first
    | exact wpAny_bind (m := Builtin.Tuple.tupleExact _) (wpAny_newObj_type (wpAny_pure ⟨_, rfl, wpAny_pure h⟩) htake)
    | exact wpAny_bind (m := Builtin.Tuple.tupleExact _) (wpAny_newObj_type (wpAny_bind (wpAny_pure (wpAny_pure ⟨_, rfl, wpAny_pure h⟩))) htake)
    | exact wpAny_bind (wpAny_bind (m := Builtin.Tuple.tupleExact _) (wpAny_newObj_type (wpAny_pure (wpAny_pure ⟨_, rfl, wpAny_pure h⟩)) htake))
    | exact wpAny_bind (wpAny_bind (m := Builtin.Tuple.tupleExact _) (wpAny_newObj_type (wpAny_pure ⟨_, rfl, wpAny_pure h⟩) htake))
end
end HT

namespace L2
open PySem PySem.Spec PyProof.Rows

abbrev TO := St → Hp → (Option Int → Hp → Prop) → Prop
def PO (X : Cx) (e : Option Expr) (t : TO) : Prop :=
  ∀ (pins : List (Addr × Obj)) (s : Shared) (σ : St) (H : Hp) (Q : Option Int → Hp → Prop), Inv X pins σ H s → t σ H Q →
    wpAny (model X.prog X.w) X.A (evalPart e X.env) (fun u s' => ∃ o H', Inv X pins σ H' s' ∧ IsPart u o ∧ Q o H') X.xe s
def tNoPart : TO := fun _ H Q => Q none H
def tPart (t : TE) : TO := fun σ H Q => t σ H fun x H1 => ∃ i, x = .int i ∧ Q (some i) H1

section
variable {X : Cx} {e : Expr} {te : TE} {lo hi : Option Expr} {tl th : TO} {pos p2 : Pos}

theorem po_none : PO X none tNoPart := by
  intro pins s σ H Q I h
  rw [evalPart_none]
  exact wpAny_pure ⟨none, H, I, .none, h⟩
theorem po_some (h : PE X e te) : PO X (some e) (tPart te) := by
  intro pins s σ H Q I hw
  rw [evalPart_some]
  refine thn (h pins s σ H _ I hw) fun u s1 ⟨x, H1, I1, r1, q1⟩ => ?_
  obtain ⟨i, rfl, q⟩ := q1
  obtain ⟨t, rfl⟩ := r1
  exact ⟨some i, H1, I1, .int i t, q⟩

def SlR (X : Cx) (r : V → Option Int → Option Int → Hp → VK → Prop) : Prop :=
  ∀ (pins : List (Addr × Obj)) (s : Shared) (σ : St) (H : Hp) (x : V) (v vl vu : Value) (lo hi : Option Int) (sl : Addr) (Q : VK), Inv X pins σ H s → RelV x v → s.heap.IsSliceOf sl vl vu .none → IsPart vl lo → IsPart vu hi → r x lo hi H Q →
    ∃ T id, typeLookup (.type T) "__getitem__" = pure (some (.builtin id)) ∧ s.TypeIs v T ∧ wpAny (model X.prog X.w) X.A (getItem v (.ref sl)) (EP X pins σ Q) X.xe s
theorem SlR.or {r r' : V → Option Int → Option Int → Hp → VK → Prop} (h : SlR X r) (h' : SlR X r') : SlR X (fun x lo hi H Q => r x lo hi H Q ∨ r' x lo hi H Q) := by
  intro pins s σ H x v vl vu lo hi sl Q I rx hs pl pu q
  rcases q with q | q
  · exact h pins s σ H x v vl vu lo hi sl Q I rx hs pl pu q
  · exact h' pins s σ H x v vl vu lo hi sl Q I rx hs pl pu q
def tSl (r : V → Option Int → Option Int → Hp → VK → Prop) (te : TE) (tl th : TO) : TE := fun σ H Q => te σ H fun x H1 => tl σ H1 fun l H2 => th σ H2 fun u H3 => r x l u H3 Q
theorem pe_slice {r : V → Option Int → Option Int → Hp → VK → Prop} (hr : SlR X r) (he : PE X e te) (hl : PO X lo tl) (hu : PO X hi th) : PE X (.Subscript e (.Slice lo hi none p2) pos) (tSl r te tl th) := by
  intro pins s σ H Q I h
  refine Subscript_ (thn (he pins s σ H _ I h) fun v s1 ⟨x, H1, I1, r1, q1⟩ => ?_)
  refine wpAny_Slice (thn (hl pins s1 σ H1 _ I1 q1) fun vl s2 ⟨l, H2, I2, pl, q2⟩ => thn (hu pins s2 σ H2 _ I2 q2) fun vu s3 ⟨u, H3, I3, pu, q3⟩ => ?_)
  rw [evalPart_none]
  refine wpAny_pure ?_
  have I4 : Inv X pins σ H3 { s3 with heap := s3.heap.push { cls := .type "slice", data := .fields #[vl, vu, .none] } } := I3.kept (t' := s3.toks) fun b ob q => Heap.get?_push_of_some _ q
  obtain ⟨T, id, hT, ht, hg⟩ := hr pins { s3 with heap := s3.heap.push { cls := .type "slice", data := .fields #[vl, vu, .none] } } σ H3 x v vl vu l u s3.heap.objs.size Q I4 r1 (Heap.IsSliceOf.new ..) pl pu q3
  show wpAny (model X.prog X.w) X.A (subscriptTail e (.Slice lo hi none p2) v (.ref s3.heap.objs.size)) (EP X pins σ Q) X.xe { s3 with heap := s3.heap.push { cls := .type "slice", data := .fields #[vl, vu, .none] } }
  exact tail_any (ops := [.ref s3.heap.objs.size, v]) ht hT hg (by with_unfolding_all rfl)

def cutV (xs : List V) (lo hi : Option Int) : List V := (xs.drop (HT.sIx xs.length 0 lo)).take (HT.sIx xs.length xs.length hi - HT.sIx xs.length 0 lo)
theorem cutV_length (xs : List V) (lo hi : Option Int) : (cutV xs lo hi).length ≤ xs.length := by
  unfold cutV
  rw [List.length_take, List.length_drop]
  omega
def rSlT (K : PySem.W.Frag) : V → Option Int → Option Int → Hp → VK → Prop := fun x lo hi H Q => ∃ a xs, x = .ref a ∧ SqT K H a xs ∧
  ¬ (HT.sIx xs.length 0 lo = 0 ∧ HT.sIx xs.length xs.length hi = xs.length) ∧ ∀ p, H p = none → Q (.ref p) (upd H p (.tup (cutV xs lo hi)))
theorem sl_tup : SlR X (rSlT X.K) := by
  intro pins s σ H x v vl vu lo hi sl Q I rx hs pl pu h
  obtain ⟨a, xs, rfl, hx, hw, q⟩ := h
  cases rx
  obtain ⟨its, r, ht, hz⟩ := I.tuple hx
  have hlen : its.toArray.size = xs.length := by rw [List.size_toArray]; exact r.length.symm
  refine ⟨"tuple", _, PyProof.Rows.slot_tuple_getitem.lookup, ht.typeIs, ?_⟩
  refine HT.getItem_tuple_cut ht hs pl pu (by rw [hlen]; exact hw) ?_ (by rw [hlen]; exact hz)
  rw [hlen]
  refine ⟨.ref s.heap.objs.size, _, I.laid (t' := s.toks) (o := .tup (cutV xs lo hi)) (fun b ob q => Heap.get?_push_of_some _ q) (Nat.le_refl _) ?_, rfl, q _ (I.hok.fresh (Nat.le_refl _))⟩
  exact ⟨Nat.le_trans (cutV_length xs lo hi) hz, _, (r.drop (HT.sIx xs.length 0 lo)).take (HT.sIx xs.length xs.length hi - HT.sIx xs.length 0 lo), IsTup.new _ _⟩

def rCatT (K : PySem.W.Frag) : R2 := fun x y H Q => ∃ a b xs ys, x = .ref a ∧ y = .ref b ∧ SqT K H a xs ∧ SqT K H b ys ∧ xs ≠ [] ∧ xs.length + ys.length ≤ sizeLine ∧
  (ys = [] → Q (.ref a) H) ∧ (ys ≠ [] → ∀ p, H p = none → Q (.ref p) (upd H p (.tup (xs ++ ys))))
theorem Vals.nil_iff {xs : List V} {us : List Value} (r : Vals xs us) : us = [] ↔ xs = [] := by
  cases r with
  | nil => simp
  | cons _ _ => simp
theorem op_catT : OpR X (binaryOp .Add) (rCatT X.K) := by
  intro pins s σ H x y v u Q I rx ry h
  obtain ⟨a, b, xs, ys, rfl, rfl, ha, hb, hx, hz, q1, q2⟩ := h
  cases rx
  cases ry
  obtain ⟨its, r1, p1, _⟩ := I.tuple ha
  obtain ⟨its2, r2, p2, _⟩ := I.tuple hb
  refine HT.cat_tup p1 p2 (fun z => hx (r1.nil_iff.mp z)) (fun z => ⟨.ref a, H, I, rfl, q1 (r2.nil_iff.mp z)⟩) (fun z => ?_) (by rw [← r1.length, ← r2.length]; exact hz)
  refine ⟨.ref s.heap.objs.size, _, I.laid (t' := s.toks) (o := .tup (xs ++ ys)) (fun b ob q => Heap.get?_push_of_some _ q) (Nat.le_refl _) ?_, rfl, q2 (fun w => z (r2.nil_iff.mpr w)) _ (I.hok.fresh (Nat.le_refl _))⟩
  exact ⟨by rw [List.length_append]; exact hz, _, r1.append r2, IsTup.new _ _⟩
end
end L2

namespace L2
open PySem PySem.Spec PyProof.Rows

def ixN (n : Nat) (i : Int) : Option Nat := if 0 ≤ i then (if i < n then some i.toNat else none) else if -(n : Int) ≤ i then some (i + n).toNat else none
def atI {α : Type} (xs : List α) (i : Int) : Option α := (ixN xs.length i).bind fun j => xs[j]?
theorem ixN_seq {n : Nat} {i : Int} {j : Nat} (h : ixN n i = some j) : seqIndex? i n = some j ∧ j < n ∧ -(n : Int) ≤ i ∧ i < n := by
  unfold ixN at h
  by_cases h0 : 0 ≤ i
  · rw [if_pos h0] at h
    by_cases h1 : i < n
    · rw [if_pos h1] at h
      have e : i.toNat = j := Option.some.inj h
      exact ⟨by rw [seqIndex_of h0 h1, e], by omega, by omega, h1⟩
    · rw [if_neg h1] at h; cases h
  · rw [if_neg h0] at h
    by_cases h1 : -(n : Int) ≤ i
    · rw [if_pos h1] at h
      have e : (i + n).toNat = j := Option.some.inj h
      exact ⟨by rw [seqIndex_neg (by omega) h1, e], by omega, h1, by omega⟩
    · rw [if_neg h1] at h; cases h
theorem atI_get {α : Type} {xs : List α} {i : Int} {v : α} (h : atI xs i = some v) : ∃ j, seqIndex? i xs.length = some j ∧ xs[j]? = some v ∧ j < xs.length ∧ -(xs.length : Int) ≤ i ∧ i < xs.length := by
  unfold atI at h
  cases e : ixN xs.length i with
  | none => rw [e] at h; cases h
  | some j =>
    rw [e] at h
    obtain ⟨h1, h2, h3, h4⟩ := ixN_seq e
    exact ⟨j, h1, h, h2, h3, h4⟩
theorem atI_nat {α : Type} {xs : List α} {j : Nat} {v : α} (h : xs[j]? = some v) : atI xs (j : Int) = some v := by
  have hj : j < xs.length := (List.getElem?_eq_some_iff.mp h).1
  have e : ixN xs.length (j : Int) = some j := by
    unfold ixN
    rw [if_pos (by omega), if_pos (by omega)]; simp
  unfold atI; rw [e]; exact h
theorem atI_last {α : Type} (xs : List α) (v : α) : atI (xs ++ [v]) (-1) = some v := by
  have hl : (xs ++ [v]).length = xs.length + 1 := by simp
  have e : ixN (xs ++ [v]).length (-1) = some xs.length := by
    unfold ixN
    rw [hl, if_neg (by decide), if_pos (by omega)]
    congr 1
    omega
  unfold atI
  rw [e]
  show (xs ++ [v])[xs.length]? = some v
  simp

def PlainIx (b : Expr) : Prop := ∀ o i, subscripted b false o i = operate [o, i] (getItem o i)
def IxR (X : Cx) (r : R2) : Prop :=
  ∀ (value slice : Expr) (pins : List (Addr × Obj)) (s : Shared) (σ : St) (H : Hp) (x y : V) (v u : Value) (Q : VK), Inv X pins σ H s → RelV x v → RelV y u → r x y H Q →
    subscripted slice false v u = operate [v, u] (getItem v u) → wpAny (model X.prog X.w) X.A (subscriptTail value slice v u) (EP X pins σ Q) X.xe s
def MtR (X : Cx) (id : String) (r : V → List V → Hp → VK → Prop) : Prop :=
  ∀ (pins : List (Addr × Obj)) (s : Shared) (σ : St) (H : Hp) (x : V) (xs : List V) (v : Value) (us : List Value) (Q : VK), Inv X pins σ H s → RelV x v → Vals xs us → r x xs H Q →
    wpAny (model X.prog X.w) X.A (call (.builtin id) (v :: us)) (EP X pins σ Q) X.xe s
section
variable {X : Cx} {a b : Expr} {ta tb : TE} {pos : Pos}
theorem IxR.or {r r' : R2} (h : IxR X r) (h' : IxR X r') : IxR X (fun x y H Q => r x y H Q ∨ r' x y H Q) := by
  intro value slice pins s σ H x y v u Q I rx ry q hs
  rcases q with q | q
  · exact h value slice pins s σ H x y v u Q I rx ry q hs
  · exact h' value slice pins s σ H x y v u Q I rx ry q hs
theorem MtR.or {id : String} {r r' : V → List V → Hp → VK → Prop} (h : MtR X id r) (h' : MtR X id r') : MtR X id (fun x xs H Q => r x xs H Q ∨ r' x xs H Q) := by
  intro pins s σ H x xs v us Q I rx rs q
  rcases q with q | q
  · exact h pins s σ H x xs v us Q I rx rs q
  · exact h' pins s σ H x xs v us Q I rx rs q
theorem pe_ix {r : R2} (hr : IxR X r) (ha : PE X a ta) (hb : PE X b tb) (hs : PlainIx b) : PE X (.Subscript a b pos) (tOp r ta tb) := by
  intro pins s σ H Q I h
  exact Subscript_ (binT ha hb I h fun v u s2 x y H2 I2 rx ry q => hr a b pins s2 σ H2 x y v u Q I2 rx ry q (hs _ _))

def rIxL (K : PySem.W.Frag) : R2 := fun x y H Q => ∃ p xs i v, x = .ref p ∧ y = .int i ∧ SqL K H p xs ∧ atI xs i = some v ∧ Q v H
def rIxT (K : PySem.W.Frag) : R2 := fun x y H Q => ∃ p xs i v, x = .ref p ∧ y = .int i ∧ SqT K H p xs ∧ atI xs i = some v ∧ Q v H
def rIxS : R2 := fun x y H Q => ∃ z i c, x = .str z ∧ y = .int i ∧ z.length ≤ sizeLine ∧ atI z.cps.toList i = some c ∧ Q (.str ⟨#[c]⟩) H
theorem ix_list : IxR X (rIxL X.K) := by
  intro value slice pins s σ H x y v u Q I rx ry h hs
  obtain ⟨p, xs, i, z, rfl, rfl, hq, he, q⟩ := h
  cases rx
  obtain ⟨t, rfl⟩ := ry
  obtain ⟨its, r, pl, hz⟩ := I.list hq
  obtain ⟨j, h1, h2, h3, h4, h5⟩ := atI_get he
  obtain ⟨w, ew, rw'⟩ := r.get h2
  have hl := r.length
  have hn := line63
  have fin : EP X pins σ Q w s := ⟨z, H, I, rw', q⟩
  by_cases h0 : 0 ≤ i
  · have hj : i.toNat = j := by
      rw [seqIndex_of h0 h5] at h1
      exact Option.some.inj h1
    exact item_listR pl.isList h0 (by omega) (by rw [hj]; simpa using ew) fin hs
  · have hj : (i + (its.toArray.size : Int)).toNat = j := by
      rw [seqIndex_neg (by omega) h4] at h1
      rw [List.size_toArray, ← hl]
      exact Option.some.inj h1
    exact subscriptTail_builtinR (x := w) pl.isList.typeIs slot_list_getitem.lookup
      (wpAny_getItem_list_neg (Q := fun r s' => r = w ∧ EP X pins σ Q r s') pl.isList (by omega) (by rw [List.size_toArray] <;> omega) (by omega) (by rw [hj]; simpa using ew) ⟨rfl, fin⟩) hs
theorem ix_tup : IxR X (rIxT X.K) := by
  intro value slice pins s σ H x y v u Q I rx ry h hs
  obtain ⟨p, xs, i, z, rfl, rfl, hq, he, q⟩ := h
  cases rx
  obtain ⟨t, rfl⟩ := ry
  obtain ⟨its, r, pl, hz⟩ := I.tuple hq
  obtain ⟨j, h1, h2, h3, h4, h5⟩ := atI_get he
  obtain ⟨w, ew, rw'⟩ := r.get h2
  have hl := r.length
  have hn := line63
  have fin : EP X pins σ Q w s := ⟨z, H, I, rw', q⟩
  exact subscriptTail_builtinR (x := w) pl.typeIs slot_tuple_getitem.lookup
    (getItem_tuple (j := j) (Q := fun r s' => r = w ∧ EP X pins σ Q r s') pl (by omega) (by omega) (by rw [List.size_toArray, ← hl]; exact h1) (by simpa using ew) ⟨rfl, fin⟩) hs
theorem ix_str : IxR X rIxS := by
  intro value slice pins s σ H x y v u Q I rx ry h hs
  obtain ⟨z, i, c, rfl, rfl, hz, he, q⟩ := h
  obtain ⟨t, rfl⟩ := rx
  obtain ⟨t', rfl⟩ := ry
  obtain ⟨j, h1, h2, h3, h4, h5⟩ := atI_get he
  have hl : z.cps.toList.length = z.length := by simp [Str.length]
  rw [hl] at h1 h4 h5
  have hn := line63
  exact tail_any (typeIs_str s z t) slot_str_getitem.lookup (getItem_str (c := c) (by
    have e1 : decide (i < -(2 ^ 63 : Int)) = false := decide_eq_false (by omega)
    have e2 : decide (i ≥ 2 ^ 63) = false := decide_eq_false (by omega)
    rw [e1, e2, Bool.or_false]) (by rw [h1]; simpa using h2) ⟨.str ⟨#[c]⟩, H, I.tok _, ⟨_, rfl⟩, q⟩) hs
def rIx (K : PySem.W.Frag) : R2 := fun x y H Q => rIxL K x y H Q ∨ rIxT K x y H Q ∨ rIxS x y H Q
theorem ix_seq : IxR X (rIx X.K) := ix_list.or (ix_tup.or ix_str)

theorem Inv.lst {pins : List (Addr × Obj)} {σ : St} {H : Hp} {s : Shared} {p : Addr} {xs : List V} (I : Inv X pins σ H s) (h : H p = some (.lst xs)) :
    ∃ (its : List Value) (n : Nat), Vals xs its ∧ s.heap.get? p = some { cls := .type "list", data := .seq its.toArray n } ∧ xs.length ≤ sizeLine := by
  obtain ⟨z, its, n, r, e⟩ := I.hok p _ h
  exact ⟨its, n, r, e, z⟩
theorem slice_bounds (lo hi : Option Int) (n : Nat) : (sliceBounds lo hi none n).1 = ((HT.sIx n 0 lo : Nat) : Int) ∧ (sliceBounds lo hi none n).2.1 = ((HT.sIx n n hi : Nat) : Int) ∧ (sliceBounds lo hi none n).2.2 = 1 := by
  refine ⟨?_, ?_, rfl⟩
  · cases lo with
    | none => simp [sliceBounds, HT.sIx]
    | some i =>
      simp only [sliceBounds, HT.sIx, Option.getD_none, show (1 : Int) > 0 by decide, if_true]
      by_cases h : i < 0
      · simp only [h, if_true] <;> omega
      · simp only [h, if_false] <;> omega
  · cases hi with
    | none => simp [sliceBounds, HT.sIx]
    | some i =>
      simp only [sliceBounds, HT.sIx, Option.getD_none, show (1 : Int) > 0 by decide, if_true]
      by_cases h : i < 0
      · simp only [h, if_true] <;> omega
      · simp only [h, if_false] <;> omega
theorem slicePick_cut (its : List Value) (lo hi : Option Int) : slicePick its.toArray lo hi none = ((its.drop (HT.sIx its.length 0 lo)).take (HT.sIx its.length its.length hi - HT.sIx its.length 0 lo)).toArray := by
  obtain ⟨h1, h2, h3⟩ := slice_bounds lo hi its.toArray.size
  unfold slicePick
  rw [h1, h2, h3]
  simp only [sliceRange_one, pick_run, List.size_toArray] <;> rfl
def rSlL (K : PySem.W.Frag) : V → Option Int → Option Int → Hp → VK → Prop := fun x lo hi H Q => ∃ a xs, x = .ref a ∧ SqL K H a xs ∧ ∀ p, H p = none → Q (.ref p) (upd H p (.lst (cutV xs lo hi)))
theorem sl_list : SlR X (rSlL X.K) := by
  intro pins s σ H x v vl vu lo hi sl Q I rx hs pl pu h
  obtain ⟨a, xs, rfl, hx, q⟩ := h
  cases rx
  obtain ⟨its, r, ht, hz⟩ := I.list hx
  have hlen := r.length
  refine ⟨"list", _, slot_list_getitem.lookup, ht.isList.typeIs, ?_⟩
  refine wpAny_getItem_list_slice ht.isList hs pl pu .none (by simp) ?_ (by rw [List.size_toArray] <;> omega)
  rw [slicePick_cut, ← hlen]
  refine ⟨.ref s.heap.objs.size, _, I.laid (t' := s.toks) (o := .lst (cutV xs lo hi)) (fun b ob q => Heap.get?_push_of_some _ q) (Nat.le_refl _) ?_, rfl, q _ (I.hok.fresh (Nat.le_refl _))⟩
  exact ⟨Nat.le_trans (cutV_length xs lo hi) hz, _, 0, (r.drop (HT.sIx xs.length 0 lo)).take (HT.sIx xs.length xs.length hi - HT.sIx xs.length 0 lo), Heap.get?_push_size _ rfl⟩

def flatV : V → Bool
  | .non => true
  | .bl _ => true
  | .int _ => true
  | .str _ => true
  | _ => false
def eqV : V → V → Bool
  | .non, .non => true
  | .bl a, .bl b => a == b
  | .bl a, .int b => (if a then 1 else 0) == b
  | .int a, .bl b => a == (if b then 1 else 0)
  | .int a, .int b => a == b
  | .str a, .str b => a == b
  | _, _ => false
theorem eqAt_V {A : Around} {s : Shared} {y x : V} {u v : Value} (ry : RelV y u) (rx : RelV x v) (fy : flatV y = true) (fx : flatV x = true) : SeqAt.EqAt A s u v (eqV y x) := by
  cases y with
  | non =>
    cases ry
    cases x with
    | non => cases rx; exact SeqAt.EqAt.same _
    | bl b => cases rx; exact SeqAt.EqAt.none_bool b
    | int b => obtain ⟨t, rfl⟩ := rx; exact SeqAt.EqAt.none_int b t
    | str b => obtain ⟨t, rfl⟩ := rx; exact SeqAt.EqAt.none_str b t
    | _ => exact absurd (show false = true from fx) Bool.false_ne_true
  | bl a =>
    cases ry
    cases x with
    | non => cases rx; exact SeqAt.EqAt.bool_none a
    | bl b => cases rx; exact SeqAt.EqAt.bool_bool a b
    | int b => obtain ⟨t, rfl⟩ := rx; exact SeqAt.EqAt.bool_int a b t
    | str b => obtain ⟨t, rfl⟩ := rx; exact SeqAt.EqAt.bool_str a b t
    | _ => exact absurd (show false = true from fx) Bool.false_ne_true
  | int a =>
    obtain ⟨t', rfl⟩ := ry
    cases x with
    | non => cases rx; exact SeqAt.EqAt.int_none a t'
    | bl b => cases rx; exact SeqAt.EqAt.int_bool a t' b
    | int b => obtain ⟨t, rfl⟩ := rx; exact SeqAt.EqAt.int_int a t' b t
    | str b => obtain ⟨t, rfl⟩ := rx; exact SeqAt.EqAt.int_str a t' b t
    | _ => exact absurd (show false = true from fx) Bool.false_ne_true
  | str a =>
    obtain ⟨t', rfl⟩ := ry
    cases x with
    | non => cases rx; exact SeqAt.EqAt.str_none a t'
    | bl b => cases rx; exact SeqAt.EqAt.str_bool a t' b
    | int b => obtain ⟨t, rfl⟩ := rx; exact SeqAt.EqAt.str_int a t' b t
    | str b => obtain ⟨t, rfl⟩ := rx; exact SeqAt.EqAt.str_str a t' b t
    | _ => exact absurd (show false = true from fx) Bool.false_ne_true
  | _ => exact absurd (show false = true from fy) Bool.false_ne_true
def eqU (x : V) (u : Value) : Bool := match u with
  | .none => eqV .non x
  | .bool b => eqV (.bl b) x
  | .int i _ => eqV (.int i) x
  | .str z _ => eqV (.str z) x
  | _ => false
theorem eqU_of {x y : V} {u : Value} (r : RelV y u) (f : flatV y = true) : eqU x u = eqV y x := by
  cases y with
  | non => cases r; rfl
  | bl b => cases r; rfl
  | int i => obtain ⟨t, rfl⟩ := r; rfl
  | str z => obtain ⟨t, rfl⟩ := r; rfl
  | _ => exact absurd (show false = true from f) Bool.false_ne_true
theorem any_eqU {x : V} : ∀ {xs : List V} {us : List Value}, Vals xs us → xs.all flatV = true → us.any (eqU x) = xs.any fun y => eqV y x
  | _, _, .nil, _ => rfl
  | y :: xs, u :: us, .cons r t, f => by
    rw [List.all_cons, Bool.and_eq_true] at f
    rw [List.any_cons, List.any_cons, eqU_of r f.1, any_eqU t f.2]
theorem mem_eqAt {A : Around} {s : Shared} {x : V} {v : Value} (rx : RelV x v) (fx : flatV x = true) : ∀ {xs : List V} {us : List Value}, Vals xs us → xs.all flatV = true → ∀ u ∈ us, SeqAt.EqAt A s u v (eqU x u)
  | _, _, .nil, _ => fun u hu => by cases hu
  | y :: xs, u :: us, .cons r t, f => fun u' hu => by
    rw [List.all_cons, Bool.and_eq_true] at f
    rcases List.mem_cons.mp hu with rfl | hu
    · rw [eqU_of r f.1]; exact eqAt_V r rx f.1 fx
    · exact mem_eqAt rx fx t f.2 u' hu
def inV (x : V) (xs : List V) : Bool := xs.any fun y => eqV y x
def rIn (K : PySem.W.Frag) (neg : Bool) : R2 := fun x y H Q => ∃ p xs, y = .ref p ∧ (SqL K H p xs ∨ SqT K H p xs) ∧ flatV x = true ∧ xs.all flatV = true ∧ Q (.bl (if neg then !inV x xs else inV x xs)) H
theorem op_in_seq : OpR X (compareOp .In) (rIn X.K false) := by
  intro pins s σ H x y v u Q I rx ry h
  obtain ⟨p, xs, rfl, hq, fx, fs, q⟩ := h
  cases ry
  rcases hq with hq | hq
  · obtain ⟨its, r, pl, hz⟩ := I.list hq
    refine SeqAt.in_listAt (eqU x) pl.isList (fun w hw => mem_eqAt rx fx r fs w (by simpa using hw)) ⟨.bl _, H, I, rfl, ?_⟩
    rw [show its.toArray.any (eqU x) = its.any (eqU x) by simp, any_eqU r fs]
    exact q
  · obtain ⟨its, r, pl, hz⟩ := I.tuple hq
    refine SeqAt.in_tupleAt (eqU x) pl (fun w hw => mem_eqAt rx fx r fs w (by simpa using hw)) ⟨.bl _, H, I, rfl, ?_⟩
    rw [show its.toArray.any (eqU x) = its.any (eqU x) by simp, any_eqU r fs]
    exact q
theorem op_notIn_seq : OpR X (compareOp .NotIn) (rIn X.K true) := by
  intro pins s σ H x y v u Q I rx ry h
  obtain ⟨p, xs, rfl, hq, fx, fs, q⟩ := h
  cases ry
  rcases hq with hq | hq
  · obtain ⟨its, r, pl, hz⟩ := I.list hq
    refine SeqAt.notIn_listAt (eqU x) pl.isList (fun w hw => mem_eqAt rx fx r fs w (by simpa using hw)) ⟨.bl _, H, I, rfl, ?_⟩
    rw [show its.toArray.any (eqU x) = its.any (eqU x) by simp, any_eqU r fs]
    exact q
  · obtain ⟨its, r, pl, hz⟩ := I.tuple hq
    refine SeqAt.notIn_tupleAt (eqU x) pl (fun w hw => mem_eqAt rx fx r fs w (by simpa using hw)) ⟨.bl _, H, I, rfl, ?_⟩
    rw [show its.toArray.any (eqU x) = its.any (eqU x) by simp, any_eqU r fs]
    exact q
theorem CallR.or {f : Value} {r r' : List V → Hp → VK → Prop} (h : CallR X f r) (h' : CallR X f r') : CallR X f (fun xs H Q => r xs H Q ∨ r' xs H Q) := by
  intro pins s σ H xs us Q I rs q
  rcases q with q | q
  · exact h pins s σ H xs us Q I rs q
  · exact h' pins s σ H xs us Q I rs q
theorem call_list_of : CallR X (.type "list") (fun xs H Q => ∃ p ys, xs = [.ref p] ∧ (SqL X.K H p ys ∨ SqT X.K H p ys) ∧ ∀ l, H l = none → Q (.ref l) (upd H l (.lst ys))) := by
  intro pins s σ H xs us Q I r h
  obtain ⟨p, ys, rfl, hq, q⟩ := h
  obtain ⟨u, rfl, rx⟩ := vals1 r
  cases rx
  have fin : ∀ (its : List Value), Vals ys its → ys.length ≤ sizeLine → ∀ (h' : Heap) (c' : Nat), (∀ b o', s.heap.get? b = some o' → h'.get? b = some o') →
      h'.get? s.heap.objs.size = some { cls := .type "list", dict := none, data := .seq its.toArray c', slots := #[] } → EP X pins σ Q (.ref s.heap.objs.size) { s with heap := h' } := fun its r' hz h' c' kp e =>
    ⟨.ref s.heap.objs.size, _, I.laid (t' := s.toks) kp (Nat.le_refl _) (show ObjOk X.prog X.w _ h' _ (.lst ys) from ⟨hz, its, c', r', e⟩), rfl, q _ (I.hok.fresh (Nat.le_refl _))⟩
  rcases hq with hq | hq
  · obtain ⟨its, r', pl, hz⟩ := I.list hq
    have hlen := r'.length
    obtain ⟨o, ho, hc, n, hd⟩ := pl.isList
    exact call_list_seq p (.inl rfl) ho hc hd (fun h' c' kp e => fin its r' hz h' c' kp e) (by simp only [List.size_toArray] <;> omega)
  · obtain ⟨its, r', pl, hz⟩ := I.tuple hq
    have hlen := r'.length
    obtain ⟨o, ho, hc, n, hd⟩ := pl
    exact call_list_seq p (.inr rfl) ho hc hd (fun h' c' kp e => fin its r' hz h' c' kp e) (by simp only [List.size_toArray] <;> omega)
def tyV (K : PySem.W.Frag) (T : String) (x : V) (H : Hp) : Prop := match x with
  | .str _ => T = "str"
  | .int _ => T = "int"
  | .ref p => (T = "list" ∧ ∃ xs, SqL K H p xs) ∨ (T = "tuple" ∧ ∃ o, K.lookup p = some o ∧ o.cls = .type "tuple" ∧ o.dict = none) ∨
      (T = "dict" ∧ ((∃ kvs, H p = some (.dK kvs)) ∨ ∃ kvs, H p = some (.dT kvs))) ∨ (T = "set" ∧ ∃ S n, H p = some (.set S n))
  | _ => False
theorem tyV_is {pins : List (Addr × Obj)} {σ : St} {H : Hp} {s : Shared} {T : String} {x : V} {v : Value} (I : Inv X pins σ H s) (r : RelV x v) (ty : tyV X.K T x H) :
    s.TypeIs v T ∧ ∀ a, v = .ref a → ∃ ob, s.heap.get? a = some ob ∧ ob.dict = none := by
  cases x with
  | str z =>
    obtain ⟨t, rfl⟩ := r
    cases (show T = "str" from ty)
    exact ⟨typeIs_str s z t, fun _ e => nomatch e⟩
  | int i =>
    obtain ⟨t, rfl⟩ := r
    cases (show T = "int" from ty)
    exact ⟨typeIs_int s i t, fun _ e => nomatch e⟩
  | ref p =>
    cases r
    rcases ty with ⟨rfl, xs, hq⟩ | ⟨rfl, o, hk, hc, hd⟩ | ⟨rfl, hk⟩ | ⟨rfl, S, n, hk⟩
    · obtain ⟨its, _, pl, _⟩ := I.list hq
      refine ⟨pl.isList.typeIs, fun a e => ?_⟩
      cases e
      obtain ⟨o, n, e, c, hd, _⟩ := pl
      exact ⟨o, e, hd⟩
    · refine ⟨⟨o, I.kIn p o hk, hc⟩, fun a e => ?_⟩
      cases e
      exact ⟨o, I.kIn _ o hk, hd⟩
    · have z : ∃ o, s.heap.get? p = some o ∧ o.ExactDict := by
        rcases hk with ⟨kvs, hk⟩ | ⟨kvs, hk⟩
        · obtain ⟨_, _, _, _, o, _, _, e, ex, _⟩ := I.hok p _ hk
          exact ⟨o, e, ex⟩
        · obtain ⟨_, _, _, _, o, _, _, e, ex, _⟩ := I.hok p _ hk
          exact ⟨o, e, ex⟩
      obtain ⟨o, e, ex⟩ := z
      refine ⟨⟨o, e, ex.1⟩, fun a e2 => ?_⟩
      cases e2
      exact ⟨o, e, ex.2.1⟩
    · obtain ⟨o, _, _, _, e, ex, _⟩ := I.hok p _ hk
      refine ⟨⟨o, e, ex.1⟩, fun a e2 => ?_⟩
      cases e2
      exact ⟨o, e, ex.2.1⟩
  | _ => exact False.elim ty
def tBM0 (K : PySem.W.Frag) (T : String) (r : V → List V → Hp → VK → Prop) (to : TE) : TE := fun σ H Q => to σ H fun x H1 => tyV K T x H1 ∧ r x [] H1 Q
def tBM (K : PySem.W.Frag) (T : String) (r : V → List V → Hp → VK → Prop) (to : TE) (t : TA) : TE := fun σ H Q => to σ H fun x H1 => tyV K T x H1 ∧ t σ H1 fun xs H2 => r x xs H2 Q
variable {o e : Expr} {es : List Expr} {to : TE} {t : TA} {name : Str} {apos cpos : Pos} {T id : String} {r : V → List V → Hp → VK → Prop}
theorem pe_bm0 (pa : PlainAttrs T) (slot : Slot T name id) (hty : typeOf (.builtin id) = pure (.type "method_descriptor")) (hm : MtR X id r) (ho : PE X o to)
    (hbase : attributeBase o name X.env (eval o X.env) = eval o X.env := by rfl) (hline : (apos.endLine == cpos.line) = true := by rfl) : PE X (.Call (.Attribute o name apos) [] [] cpos) (tBM0 X.K T r to) := by
  intro pins s σ H Q I h
  refine wpAny_Call_method0_late hbase hline (thn (ho pins s σ H _ I h) fun v s1 ⟨x, H1, I1, r1, ty, q1⟩ => ?_)
  obtain ⟨h1, h2⟩ := tyV_is I1 r1 ty
  exact ⟨T, id, pa, slot, hty, h1, h2, Calls.callWith_builtin rfl (PySem.evalArgs_none (hm pins s1 σ H1 x [] v [] Q I1 r1 .nil q1))⟩
theorem pe_bm (pa : PlainAttrs T) (slot : Slot T name id) (hty : typeOf (.builtin id) = pure (.type "method_descriptor")) (hm : MtR X id r) (ho : PE X o to) (ha : PA X (e :: es) t)
    (hbase : attributeBase o name X.env (eval o X.env) = eval o X.env := by rfl)
    (hfew : ((backTo cpos (starEach (e :: es) X.env)).all (fun x => !x.1) && (backToKw cpos (keywordEach [] X.env)).all (fun x => x.1.isSome)
      && decide ((e :: es).length + ([] : List Keyword).length + (if ([] : List Keyword).isEmpty then 0 else 1) < 30)) = true := by rfl)
    (hline : (apos.endLine == cpos.line) = true := by rfl) (hs : starEach (e :: es) X.env = (false, eval e X.env) :: starEach es X.env := by rfl) (hplain : (backTo cpos (starEach es X.env)).any (·.1) = false := by rfl) :
    PE X (.Call (.Attribute o name apos) (e :: es) [] cpos) (tBM X.K T r to t) := by
  intro pins s σ H Q I h
  refine wpAny_Call_method_late hbase hfew hline rfl (thn (ho pins s σ H _ I h) fun v s1 ⟨x, H1, I1, r1, ty, q1⟩ => ?_)
  obtain ⟨h1, h2⟩ := tyV_is I1 r1 ty
  refine ⟨T, id, pa, slot, hty, h1, h2, ?_⟩
  have hA := ha cpos pins s1 σ H1 _ I1 q1
  rw [hs] at hA ⊢
  refine Calls.callWith_builtin (by show (false || (backTo cpos (starEach es X.env)).any (·.1)) = false; rw [hplain] <;> rfl) (Calls.evalArgs_plain ?_)
  exact thn hA fun us s2 ⟨vs, H2, I2, r2, q2⟩ => hm pins s2 σ H2 x vs v us Q I2 r1 r2 q2
end
end L2

namespace L2
open PySem PySem.Spec PyProof.Rows

def MtM (X : Cx) (id : String) (r : V → List V → Hp → VK → Prop) : Prop :=
  ∀ (pins : List (Addr × Obj)) (s : Shared) (σ : St) (H : Hp) (x : V) (xs : List V) (v : Value) (us : List Value) (Q : VK), Inv X pins σ H s → RelV x v → Vals xs us → r x xs H Q →
    wpAny (model X.prog X.w) X.A (call (.builtin id) (v :: us)) (EP X pins σ Q) X.xe s

theorem Vals.one : ∀ {x : V} {us : List Value}, Vals [x] us → ∃ u, us = [u] ∧ RelV x u
  | _, _, .cons r .nil => ⟨_, rfl, r⟩
theorem Vals.two : ∀ {x y : V} {us : List Value}, Vals [x, y] us → ∃ u v, us = [u, v] ∧ RelV x u ∧ RelV y v
  | _, _, _, .cons r (.cons q .nil) => ⟨_, _, rfl, r, q⟩
theorem Vals.zero : ∀ {us : List Value}, Vals [] us → us = []
  | _, .nil => rfl
theorem Vals.dropLast {xs : List V} {us : List Value} (h : Vals xs us) : Vals xs.dropLast us.dropLast := by
  induction h with
  | nil => exact .nil
  | cons r t ih =>
    cases t with
    | nil => exact .nil
    | cons q t' => exact .cons r ih
theorem Vals.eraseIdx : ∀ {xs : List V} {us : List Value} (i : Nat), Vals xs us → Vals (xs.eraseIdx i) (us.eraseIdx i)
  | _, _, _, .nil => .nil
  | _, _, 0, .cons _ t => t
  | _, _, i + 1, .cons r t => .cons r (Vals.eraseIdx i t)
theorem Vals.reverse {xs : List V} {us : List Value} (h : Vals xs us) : Vals xs.reverse us.reverse := by
  induction h with
  | nil => exact .nil
  | cons r t ih => rw [List.reverse_cons, List.reverse_cons]; exact Vals.append ih (.cons r .nil)
theorem Vals.rep {xs : List V} {us : List Value} (h : Vals xs us) : ∀ k : Nat, Vals (List.replicate k xs).flatten (List.replicate k us).flatten
  | 0 => .nil
  | k + 1 => by
    rw [List.replicate_succ, List.replicate_succ, List.flatten_cons, List.flatten_cons]
    exact Vals.append h (Vals.rep h k)
theorem erase_last {α : Type} (l : List α) : l.eraseIdx (l.length - 1) = l.dropLast := by
  induction l with
  | nil => rfl
  | cons a r ih =>
    cases r with
    | nil => rfl
    | cons b r =>
      have e : (a :: b :: r).length - 1 = ((b :: r).length - 1) + 1 := by
        have h1 : (a :: b :: r).length = r.length + 2 := rfl
        have h2 : (b :: r).length = r.length + 1 := rfl
        omega
      rw [e, List.eraseIdx_cons_succ, ih]
      all_goals rfl
theorem len_erase {α : Type} : ∀ (l : List α) (i : Nat), (l.eraseIdx i).length ≤ l.length
  | [], _ => Nat.le_refl _
  | _ :: _, 0 => Nat.le_succ _
  | _ :: r, i + 1 => Nat.succ_le_succ (len_erase r i)
section
variable {X : Cx} {pins : List (Addr × Obj)} {σ : St} {H : Hp} {s : Shared} {l b : Addr} {xs ys zs : List V}

theorem Inv.lset {its its' : List Value} {n : Nat} {f : Array Value → Array Value} {t' : Nat} (I : Inv X pins σ H s) (hH : H l = some (.lst xs))
    (e : s.heap.get? l = some { cls := .type "list", data := .seq its.toArray n }) (hf : f its.toArray = its'.toArray) (hv : Vals ys its') (hz : ys.length ≤ sizeLine) :
    Inv X pins σ (upd H l (.lst ys)) { s with heap := s.heap.update l (Obj.mapSeq f), toks := t' } := by
  have q := PySem.IsL.update e f
  rw [hf] at q
  refine I.write (x := l) (e := l) (by rw [hH]; exact trivial) (.inl rfl) (fun b' u hb hu => (Heap.get?_update_other s.heap (Obj.mapSeq f) (Ne.symm hb)).trans hu) ⟨_, q⟩ ?_
  exact ⟨hz, its', _, hv, q⟩
theorem Inv.lnew {its : List Value} {t' : Nat} (I : Inv X pins σ H s) (hv : Vals ys its) (hz : ys.length ≤ sizeLine) :
    Inv X pins σ (upd H s.heap.objs.size (.lst ys)) { s with heap := s.heap.push { cls := .type "list", data := .seq its.toArray }, toks := t' } :=
  I.laid (fun _ _ q => Heap.get?_push_of_some _ q) (Nat.le_refl _) ⟨hz, its, 0, hv, Heap.get?_push_size _ rfl⟩
theorem Inv.fresh (I : Inv X pins σ H s) : H s.heap.objs.size = none := I.hok.fresh (Nat.le_refl _)
theorem Inv.lstM (I : Inv X pins σ H s) (hH : H l = some (.lst xs)) : xs.length ≤ sizeLine ∧ ∃ (its : List Value) (n : Nat), Vals xs its ∧ xs.length = its.length ∧ s.heap.get? l = some { cls := .type "list", data := .seq its.toArray n } := by
  obtain ⟨z, its, n, r, e⟩ := I.hok l _ hH
  exact ⟨z, its, n, r, r.length, e⟩

end

section
variable {X : Cx}

def rAppend : V → List V → Hp → VK → Prop := fun x vs H Q => ∃ l xs y, x = .ref l ∧ vs = [y] ∧ H l = some (.lst xs) ∧ xs.length < sizeLine ∧ Q .non (upd H l (.lst (xs ++ [y])))
theorem mt_append : MtM X "list.append" rAppend := by
  intro pins s σ H x vs v us Q I rx rv h
  obtain ⟨l, xs, y, rfl, rfl, hH, hz, q⟩ := h
  cases rx
  obtain ⟨u, rfl, ru⟩ := rv.one
  obtain ⟨z, its, n, r, hl, e⟩ := I.lstM hH
  refine call_meets F.slot_list_append ⟨_, e, rfl⟩ F.entry_list_append (F.args_list_append_2 _ _) (PySem.list_append l its.toArray n u (by rw [List.size_toArray]; omega)) ⟨e, ?_⟩
  refine ⟨.non, _, I.lset (its' := its ++ [u]) hH e (by simp) (r.append (.cons ru .nil)) ?_, rfl, q⟩
  rw [List.length_append, List.length_singleton]
  omega

def rPop : V → List V → Hp → VK → Prop := fun x vs H Q => ∃ l xs y, x = .ref l ∧ vs = [] ∧ H l = some (.lst xs) ∧ xs[xs.length - 1]? = some y ∧ Q y (upd H l (.lst xs.dropLast))
theorem mt_pop : MtM X "list.pop" rPop := by
  intro pins s σ H x vs v us Q I rx rv h
  obtain ⟨l, xs, y, rfl, rfl, hH, hy, q⟩ := h
  cases rx
  have hus := rv.zero
  subst hus
  obtain ⟨z, its, n, r, hl, e⟩ := I.lstM hH
  obtain ⟨u, hu, ru⟩ := r.get hy
  have hy' : its.toArray[its.toArray.size - 1]? = some u := by
    show its.toArray[its.length - 1]? = some u
    rw [← Array.getElem?_toList, ← hl]
    exact hu
  refine call_meets F.slot_list_pop ⟨_, e, rfl⟩ F.entry_list_pop (F.args_list_pop_1 _) (MeetsSeq.list_pop_last l its.toArray n u hy' (by rw [List.size_toArray]; omega)) ⟨e, ?_⟩
  refine ⟨y, _, I.lset (its' := its.dropLast) hH e ?_ r.dropLast ?_, ru, q⟩
  · show its.toArray.eraseIdxIfInBounds (its.toArray.size - 1) = its.dropLast.toArray
    rw [List.size_toArray, List.eraseIdxIfInBounds_toArray, erase_last]
  · rw [List.length_dropLast]
    omega

def rPopAt : V → List V → Hp → VK → Prop := fun x vs H Q => ∃ l xs i k y, x = .ref l ∧ vs = [.int i] ∧ H l = some (.lst xs) ∧ -(2 ^ 63) ≤ i ∧ i < 2 ^ 63 ∧ seqIndex? i xs.length = some k ∧ xs[k]? = some y ∧ Q y (upd H l (.lst (xs.eraseIdx k)))
theorem mt_popAt : MtM X "list.pop" rPopAt := by
  intro pins s σ H x vs v us Q I rx rv h
  obtain ⟨l, xs, i, k, y, rfl, rfl, hH, h1, h2, hk, hy, q⟩ := h
  cases rx
  obtain ⟨u, rfl, ru⟩ := rv.one
  obtain ⟨t, rfl⟩ := ru
  obtain ⟨z, its, n, r, hl, e⟩ := I.lstM hH
  obtain ⟨w, hw, rw'⟩ := r.get hy
  refine call_meets F.slot_list_pop ⟨_, e, rfl⟩ F.entry_list_pop (F.args_list_pop_2 _ _)
    (MeetsSeq.list_pop_at l its.toArray n i t k w (fitsIndex_both h1 h2) (by rw [List.size_toArray, ← hl]; exact hk) (by rw [← Array.getElem?_toList]; exact hw) (by rw [List.size_toArray]; omega)) ⟨e, ?_⟩
  refine ⟨y, _, I.lset (its' := its.eraseIdx k) hH e ?_ (r.eraseIdx k) ?_, rw', q⟩
  · show its.toArray.eraseIdxIfInBounds k = (its.eraseIdx k).toArray
    rw [List.eraseIdxIfInBounds_toArray]
  · have := len_erase xs k
    omega

def rClear : V → List V → Hp → VK → Prop := fun x vs H Q => ∃ l xs, x = .ref l ∧ vs = [] ∧ H l = some (.lst xs) ∧ Q .non (upd H l (.lst []))
theorem mt_clear : MtM X "list.clear" rClear := by
  intro pins s σ H x vs v us Q I rx rv h
  obtain ⟨l, xs, rfl, rfl, hH, q⟩ := h
  cases rx
  have hus := rv.zero
  subst hus
  obtain ⟨z, its, n, r, hl, e⟩ := I.lstM hH
  refine call_meets F.slot_list_clear ⟨_, e, rfl⟩ F.entry_list_clear (F.args_list_clear_1 _) (AutoSeq1.list_clear_list_0 l its.toArray n (by rw [List.size_toArray]; omega)) ⟨e, ?_⟩
  exact ⟨.non, _, I.lset (its' := []) (ys := []) hH e rfl .nil (Nat.zero_le _), rfl, q⟩

end

section
variable {prog : Program} {w : World} {A : Around} {E : Value → Shared → Prop} {s : Shared}
set_option maxRecDepth 100000 in
end

section
variable {X : Cx}
end
end L2

namespace L2
open PySem PySem.Spec PyProof.Rows

section
variable {κ : Type} [DecidableEq κ]
def valV (kvs : List (κ × V)) (k : κ) : Option V := (kvs.find? fun kv => decide (kv.1 = k)).map (·.2)
def putK (kvs : List (κ × V)) (k : κ) (v : V) : List (κ × V) :=
  if (kvs.any fun kv => decide (kv.1 = k)) = true then kvs.map (fun kv => if kv.1 = k then (kv.1, v) else kv) else kvs ++ [(k, v)]
def dropK (kvs : List (κ × V)) (k : κ) : List (κ × V) := kvs.filter fun kv => decide (kv.1 ≠ k)

theorem valV_pos {p : κ × V} {r : List (κ × V)} {k : κ} (e : p.1 = k) : valV (p :: r) k = some p.2 := by simp [valV, List.find?_cons, e]
theorem valV_neg {p : κ × V} {r : List (κ × V)} {k : κ} (e : ¬ p.1 = k) : valV (p :: r) k = valV r k := by simp [valV, List.find?_cons, e]
theorem valV_any (k : κ) : ∀ kvs : List (κ × V), (kvs.any fun kv => decide (kv.1 = k)) = (valV kvs k).isSome
  | [] => rfl
  | p :: r => by
    rw [List.any_cons]
    by_cases e : p.1 = k
    · simp only [valV_pos e, decide_eq_true e, Bool.true_or, Option.isSome_some]
    · rw [valV_neg e, decide_eq_false e, Bool.false_or]; exact valV_any k r
theorem length_putK (kvs : List (κ × V)) (k : κ) (v : V) : (putK kvs k v).length ≤ kvs.length + 1 := by
  unfold putK
  split
  · rw [List.length_map]; omega
  · rw [List.length_append, List.length_cons, List.length_nil]; omega
theorem RelO.isSome_eq {o : Option V} {u : Option Value} (r : RelO o u) : o.isSome = u.isSome := by
  cases o with
  | none => cases u with
    | none => rfl
    | some _ => exact (show False from r).elim
  | some _ => cases u with
    | none => exact (show False from r).elim
    | some _ => rfl
theorem RelO.getD {o : Option V} {u : Option Value} {d : V} {d' : Value} (r : RelO o u) (rd : RelV d d') : RelV (o.getD d) (u.getD d') := by
  cases o with
  | none => cases u with
    | none => exact rd
    | some _ => exact (show False from r).elim
  | some _ => cases u with
    | none => exact (show False from r).elim
    | some _ => exact r

theorem KV.val {kvs : List (κ × V)} {vs : List (κ × Value)} (r : KV kvs vs) (k : κ) : RelO (valV kvs k) (valueAt vs k) := by
  unfold KV at r
  induction r with
  | nil => exact True.intro
  | @cons p q ps qs h t ih =>
    obtain ⟨h1, h2⟩ := h
    by_cases e : p.1 = k
    · have e' : q.1 = k := h1.symm.trans e
      have b : valueAt (q :: qs) k = some q.2 := by simp [valueAt, List.find?_cons, e']
      rw [valV_pos e, b]; exact h2
    · have e' : ¬ q.1 = k := fun z => e (h1.trans z)
      have b : valueAt (q :: qs) k = valueAt qs k := by simp [valueAt, List.find?_cons, e']
      rw [valV_neg e, b]; exact ih
theorem KV.any {kvs : List (κ × V)} {vs : List (κ × Value)} (r : KV kvs vs) (k : κ) : (kvs.any fun kv => decide (kv.1 = k)) = vs.any fun kv => decide (kv.1 = k) := by
  unfold KV at r
  induction r with
  | nil => rfl
  | cons h t ih => rw [List.any_cons, List.any_cons, ih, h.1]
theorem KV.repl {kvs : List (κ × V)} {vs : List (κ × Value)} (r : KV kvs vs) (k : κ) {y : V} {u : Value} (ry : RelV y u) :
    KV (kvs.map fun kv => if kv.1 = k then (kv.1, y) else kv) (vs.map fun kv => if kv.1 = k then (kv.1, u) else kv) := by
  unfold KV at r ⊢
  induction r with
  | nil => exact .nil
  | @cons p q ps qs h t ih =>
    rw [List.map_cons, List.map_cons]
    refine .cons ?_ ih
    obtain ⟨h1, h2⟩ := h
    by_cases e : p.1 = k
    · rw [if_pos e, if_pos (h1.symm.trans e)]; exact ⟨h1, ry⟩
    · rw [if_neg e, if_neg (fun z => e (h1.trans z))]; exact ⟨h1, h2⟩
theorem KV.put {kvs : List (κ × V)} {vs : List (κ × Value)} (r : KV kvs vs) (k : κ) {y : V} {u : Value} (ry : RelV y u) : KV (putK kvs k y) (stored vs k u) := by
  unfold putK stored
  rw [r.any k]
  by_cases e : (vs.any fun kv => decide (kv.1 = k)) = true
  · rw [if_pos e, if_pos e]; exact r.repl k ry
  · rw [if_neg e, if_neg e]; exact Paired.snoc r ⟨rfl, ry⟩
theorem KV.drop {kvs : List (κ × V)} {vs : List (κ × Value)} (r : KV kvs vs) (k : κ) : KV (dropK kvs k) (without vs k) := by
  unfold KV at r ⊢
  unfold dropK without
  induction r with
  | nil => exact .nil
  | @cons p q ps qs h t ih =>
    obtain ⟨h1, h2⟩ := h
    rw [List.filter_cons, List.filter_cons]
    by_cases e : p.1 = k
    · have a : ¬ decide (p.1 ≠ k) = true := by simp [e]
      have b : ¬ decide (q.1 ≠ k) = true := by simp [h1.symm.trans e]
      rw [if_neg a, if_neg b]; exact ih
    · have e' : ¬ q.1 = k := fun z => e (h1.trans z)
      have a : decide (p.1 ≠ k) = true := by simp [e]
      have b : decide (q.1 ≠ k) = true := by simp [e']
      rw [if_pos a, if_pos b]; exact .cons ⟨h1, h2⟩ ih
theorem KV.keys {kvs : List (κ × V)} {vs : List (κ × Value)} (r : KV kvs vs) : kvs.map (·.1) = vs.map (·.1) := by
  unfold KV at r
  induction r with
  | nil => rfl
  | cons h t ih => rw [List.map_cons, List.map_cons, ih, h.1]
theorem KV.length {kvs : List (κ × V)} {vs : List (κ × Value)} (r : KV kvs vs) : kvs.length = vs.length := Paired.length r
end


theorem kV_is {P : Program} {w : World} {k : Key} {u : Value} (r : RelV (kV k) u) : (mixKind P w).is k u = true := by
  cases k with
  | inl i => obtain ⟨t, e⟩ := (show ∃ t, u = Value.int i t from r); subst e; exact mixKind_int P w i t
  | inr x => obtain ⟨t, e⟩ := (show ∃ t, u = Value.str x t from r); subst e; exact mixKind_str P w x t
theorem items_are {P : Program} {w : World} : ∀ {ks : List Key} {us : List Value}, Vals (ks.map kV) us → ItemsAre (mixKind P w) ks us
  | [], _, r => by rw [List.map_nil] at r; cases r; exact .nil
  | k :: ks, _, r => by
    rw [List.map_cons] at r
    cases r with
    | cons h t => exact .cons (kV_is h) (items_are t)

abbrev KT (H : Hp) : List (List Key × V) → List (List Key × Addr × Value) → Prop := Paired fun p q => p.1 = q.1 ∧ H q.2.1 = some (.tup (p.1.map kV)) ∧ RelV p.2 q.2.2
theorem KT.val {H : Hp} {kvs : List (List Key × V)} {xs : List (List Key × Addr × Value)} (r : KT H kvs xs) (k : List Key) : RelO (valV kvs k) ((atKey xs k).map (·.2)) := by
  induction r with
  | nil => exact True.intro
  | @cons p q ps qs h t ih =>
    obtain ⟨h1, _, h2⟩ := h
    by_cases e : p.1 = k
    · have e' : q.1 = k := h1.symm.trans e
      have b : atKey (q :: qs) k = some q.2 := by simp [atKey, List.find?_cons, e']
      rw [valV_pos e, b]; exact h2
    · have e' : ¬ q.1 = k := fun z => e (h1.trans z)
      have b : atKey (q :: qs) k = atKey qs k := by simp [atKey, List.find?_cons, e']
      rw [valV_neg e, b]; exact ih
theorem KT.repl {H : Hp} {kvs : List (List Key × V)} {xs : List (List Key × Addr × Value)} (r : KT H kvs xs) (k : List Key) {y : V} {u : Value} (ry : RelV y u) :
    KT H (kvs.map fun kv => if kv.1 = k then (kv.1, y) else kv) (xs.map (putAt k u)) := by
  induction r with
  | nil => exact .nil
  | @cons p q ps qs h t ih =>
    rw [List.map_cons, List.map_cons]
    refine .cons ?_ ih
    obtain ⟨h1, h2, h3⟩ := h
    unfold putAt
    by_cases e : p.1 = k
    · rw [if_pos e, if_pos (h1.symm.trans e)]; exact ⟨h1, h2, ry⟩
    · rw [if_neg e, if_neg (fun z => e (h1.trans z))]; exact ⟨h1, h2, h3⟩
theorem KT.put {H : Hp} {kvs : List (List Key × V)} {xs : List (List Key × Addr × Value)} (r : KT H kvs xs) (k : List Key) {b : Addr} {y : V} {u : Value} (hb : H b = some (.tup (k.map kV))) (ry : RelV y u) :
    KT H (putK kvs k y) (storedH xs k b u) := by
  have e : (kvs.any fun kv => decide (kv.1 = k)) = (atKey xs k).isSome := by
    rw [valV_any, (r.val k).isSome_eq, Option.isSome_map]
  unfold putK storedH
  rw [e]
  by_cases q : (atKey xs k).isSome = true
  · rw [if_pos q, if_pos q]; exact r.repl k ry
  · rw [if_neg q, if_neg q]; exact Paired.snoc r ⟨rfl, hb, ry⟩
theorem KT.keeps {H H' : Hp} {kvs : List (List Key × V)} {xs : List (List Key × Addr × Value)} (r : KT H kvs xs) (ht : ∀ b ys, H b = some (.tup ys) → H' b = some (.tup ys)) : KT H' kvs xs :=
  Paired.mapP r fun _ _ z => ⟨z.1, ht _ _ z.2.1, z.2.2⟩

section
variable {P : Program} {w : World} {H : Hp} {h : Heap} {a : Addr}
theorem rd_of {u : HO} (ok : HOk P w H h) (e : Rd H a u) : ObjOk P w H h a u := e.ok ok
theorem dk_rd {kvs : List (Key × V)} (ok : HOk P w H h) (e : Rd H a (.dK kvs)) : kvs.length ≤ sizeLine ∧ (a == sysModules) = false ∧ ∃ vs, KV kvs vs ∧ h.DictOf (mixKind P w) a vs :=
  show ObjOk P w H h a (.dK kvs) from rd_of ok e
theorem dk_of {kvs : List (Key × V)} (ok : HOk P w H h) (e : H a = some (.dK kvs)) : kvs.length ≤ sizeLine ∧ (a == sysModules) = false ∧ ∃ vs, KV kvs vs ∧ h.DictOf (mixKind P w) a vs := dk_rd ok (.inl e)
theorem key_of {ks : List Key} (ok : HOk P w H h) (e : H a = some (.tup (ks.map kV))) : (tupleKind (mixKind P w)).is h ks a := by
  obtain ⟨_, its, r, o, h1, h2, n, h3⟩ := (show ObjOk P w H h a (.tup (ks.map kV)) from ok a _ e)
  exact ⟨o, its.toArray, n, h1, h2, h3, by simpa using items_are r⟩
theorem dt_rd {kvs : List (List Key × V)} (ok : HOk P w H h) (e : Rd H a (.dT kvs)) : kvs.length ≤ sizeLine ∧ (a == sysModules) = false ∧
    ∃ xs, KT H kvs xs ∧ h.DictOfH (tupleKind (mixKind P w)) a xs := by
  obtain ⟨z, y, xs, r, o, es, ep, h1, h2, h3, h4, h5⟩ := (show ObjOk P w H h a (.dT kvs) from rd_of ok e)
  refine ⟨z, y, xs, r, o, es, ep, h1, h2, h3, h4, fun x hx => ?_, h5⟩
  have all : ∀ {l : List (List Key × V)} {m : List (List Key × Addr × Value)}, KT H l m → ∀ x ∈ m, (tupleKind (mixKind P w)).is h x.1 x.2.1 := by
    intro l m q
    induction q with
    | nil => intro x hx; exact nomatch hx
    | @cons p q ps qs hq t ih =>
      intro x hx
      rcases List.mem_cons.mp hx with e | hx
      · subst e
        exact key_of ok (by rw [← hq.1]; exact hq.2.1)
      · exact ih x hx
  exact all r x hx
theorem dt_of {kvs : List (List Key × V)} (ok : HOk P w H h) (e : H a = some (.dT kvs)) : kvs.length ≤ sizeLine ∧ (a == sysModules) = false ∧
    ∃ xs, KT H kvs xs ∧ h.DictOfH (tupleKind (mixKind P w)) a xs := dt_rd ok (.inl e)
end

def DGet (H : Hp) (a : Addr) (y : V) (r : Option V) : Prop :=
  (∃ kvs k, Rd H a (.dK kvs) ∧ y = kV k ∧ r = valV kvs k) ∨ ∃ kvs k b, Rd H a (.dT kvs) ∧ y = .ref b ∧ H b = some (.tup (k.map kV)) ∧ r = valV kvs k
def DPut (H : Hp) (a : Addr) (y v : V) (H' : Hp) : Prop :=
  (∃ kvs k, H a = some (.dK kvs) ∧ y = kV k ∧ kvs.length < sizeLine ∧ H' = upd H a (.dK (putK kvs k v))) ∨
  ∃ kvs k b, H a = some (.dT kvs) ∧ y = .ref b ∧ H b = some (.tup (k.map kV)) ∧ kvs.length < sizeLine ∧ H' = upd H a (.dT (putK kvs k v))
theorem DGet.k {H : Hp} {a : Addr} {kvs : List (Key × V)} {k : Key} (e : H a = some (.dK kvs)) : DGet H a (kV k) (valV kvs k) := .inl ⟨kvs, k, .inl e, rfl, rfl⟩
theorem DGet.t {H : Hp} {a b : Addr} {kvs : List (List Key × V)} {k : List Key} (e : H a = some (.dT kvs)) (eb : H b = some (.tup (k.map kV))) : DGet H a (.ref b) (valV kvs k) := .inr ⟨kvs, k, b, .inl e, rfl, eb, rfl⟩
theorem DPut.k {H : Hp} {a : Addr} {kvs : List (Key × V)} {k : Key} {v : V} (e : H a = some (.dK kvs)) (hl : kvs.length < sizeLine) : DPut H a (kV k) v (upd H a (.dK (putK kvs k v))) := .inl ⟨kvs, k, e, rfl, hl, rfl⟩
theorem DPut.t {H : Hp} {a b : Addr} {kvs : List (List Key × V)} {k : List Key} {v : V} (e : H a = some (.dT kvs)) (eb : H b = some (.tup (k.map kV))) (hl : kvs.length < sizeLine) :
    DPut H a (.ref b) v (upd H a (.dT (putK kvs k v))) := .inr ⟨kvs, k, b, e, rfl, eb, hl, rfl⟩


section
variable {X : Cx} {pins : List (Addr × Obj)} {σ : St} {H : Hp} {s : Shared} {a : Addr} {y v : V} {u r : Value} {o : Option V} {A : Around} {E : Value → Shared → Prop}

theorem Inv.big (I : Inv X pins σ H s) : sysModules < s.heap.objs.size := by
  have h : mainGlobals < s.heap.objs.size := (I.mod.glob.keeps I.bk).lt
  exact Nat.lt_trans (by decide) h

theorem d_getItem {Q : Value → Shared → Prop} (hu : A.units + 1 < cLine) (I : Inv X pins σ H s) (g : DGet H a y (some v)) (ry : RelV y u) (h : ∀ w' s', Inv X pins σ H s' → RelV v w' → Q w' s') :
    wpAny (model X.prog X.w) A (getItem (.ref a) u) Q E s := by
  rcases g with ⟨kvs, k, e, ey, l⟩ | ⟨kvs, k, b, e, ey, eb, l⟩
  · subst ey
    obtain ⟨z, hd, vs, rel, dd⟩ := dk_rd I.hok e
    obtain ⟨w', hw, rw'⟩ := RelO.some_of (v := v) (o := valueAt vs k) (by rw [l]; exact rel.val k)
    exact wpAny_getItem_of (kV_is ry) dd.mapOf hw (h w' _ (I.tok _) rw')
  · subst ey
    cases (show u = Value.ref b from ry)
    obtain ⟨z, hd, xs, rel, dd⟩ := dt_rd I.hok e
    obtain ⟨w', hw, rw'⟩ := RelO.some_of (v := v) (o := (atKey xs k).map (·.2)) (by rw [l]; exact rel.val k)
    obtain ⟨p, hp, hp2⟩ := Option.map_eq_some_iff.mp hw
    refine wpAny_getItem_heap (tupleKind_room_in1 hu) (key_of I.hok eb) dd hp ?_
    rw [hp2]
    exact h w' _ (I.tok _) rw'
theorem d_in {Q : Value → Shared → Prop} (hu : A.units + 1 < cLine) (I : Inv X pins σ H s) (g : DGet H a y o) (ry : RelV y u) (h : ∀ s', Inv X pins σ H s' → Q (.bool o.isSome) s') :
    wpAny (model X.prog X.w) A (compareOp .In u (.ref a)) Q E s := by
  rcases g with ⟨kvs, k, e, ey, l⟩ | ⟨kvs, k, b, e, ey, eb, l⟩
  · subst ey
    obtain ⟨z, hd, vs, rel, dd⟩ := dk_rd I.hok e
    refine wpAny_in_of (kV_is ry) hd dd.mapOf ?_
    rw [← (rel.val k).isSome_eq, ← l]
    exact h _ (I.tok _)
  · subst ey
    cases (show u = Value.ref b from ry)
    obtain ⟨z, hd, xs, rel, dd⟩ := dt_rd I.hok e
    refine wpAny_in_heap (tupleKind_room_in1 hu) (key_of I.hok eb) hd dd ?_
    have q := (rel.val k).isSome_eq
    rw [Option.isSome_map] at q
    rw [← q, ← l]
    exact h _ (I.tok _)
theorem d_notIn {Q : Value → Shared → Prop} (hu : A.units + 1 < cLine) (I : Inv X pins σ H s) (g : DGet H a y o) (ry : RelV y u) (h : ∀ s', Inv X pins σ H s' → Q (.bool (!o.isSome)) s') :
    wpAny (model X.prog X.w) A (compareOp .NotIn u (.ref a)) Q E s := by
  rcases g with ⟨kvs, k, e, ey, l⟩ | ⟨kvs, k, b, e, ey, eb, l⟩
  · subst ey
    obtain ⟨z, hd, vs, rel, dd⟩ := dk_rd I.hok e
    refine wpAny_notIn_of (kV_is ry) hd dd.mapOf ?_
    rw [← (rel.val k).isSome_eq, ← l]
    exact h _ (I.tok _)
  · subst ey
    cases (show u = Value.ref b from ry)
    obtain ⟨z, hd, xs, rel, dd⟩ := dt_rd I.hok e
    refine wpAny_notIn_heap (tupleKind_room_in1 hu) (key_of I.hok eb) hd dd ?_
    have q := (rel.val k).isSome_eq
    rw [Option.isSome_map] at q
    rw [← q, ← l]
    exact h _ (I.tok _)
theorem d_write {h' : Heap} {t' : Nat} {ob : HO} (I : Inv X pins σ H s) (mu : Mut (H a)) (hs : Heap.SameBut a s.heap h') (he : ∃ q, h'.get? a = some q) (new : ObjOk X.prog X.w (upd H a ob) h' a ob) :
    Inv X pins σ (upd H a ob) { s with heap := h', toks := t' } :=
  I.write (x := a) (e := a) mu (.inl rfl) (fun b q hb z => (hs.2 b hb).trans z) he new
theorem dk_new {P : Program} {w : World} {H' : Hp} {h' : Heap} {kvs : List (Key × V)} {vs : List (Key × Value)} (z : kvs.length ≤ sizeLine) (hd : (a == sysModules) = false) (rel : KV kvs vs) (dd : h'.DictOf (mixKind P w) a vs) :
    ObjOk P w H' h' a (.dK kvs) := ⟨z, hd, vs, rel, dd⟩
theorem d_setItem {H' : Hp} {Q : Unit → Shared → Prop} (hu : A.units + 1 < cLine) (I : Inv X pins σ H s) (g : DPut H a y v H') (ry : RelV y u) (rv : RelV v r) (h : ∀ s', Inv X pins σ H' s' → Q () s') :
    wpAny (model X.prog X.w) A (setItem (.ref a) u r) Q E s := by
  rcases g with ⟨kvs, k, e, ey, l, eH⟩ | ⟨kvs, k, b, e, ey, eb, l, eH⟩
  · subst ey eH
    obtain ⟨z, hd, vs, rel, dd⟩ := dk_of I.hok e
    have hz : vs.length ≤ sizeLine := by rw [← rel.length]; exact z
    have hl : (putK kvs k v).length ≤ sizeLine := by have := length_putK kvs k v; omega
    refine wpAny_setItem_pairs (hsz := hz) (kV_is ry) dd fun h' dd' hs => h _ ?_
    have he : ∃ q, h'.get? a = some q := let ⟨q, _, _, hq, _⟩ := dd'; ⟨q, hq⟩
    exact d_write I (by rw [e]; exact True.intro) hs he (dk_new hl hd (rel.put k rv) dd')
  · subst ey eH
    cases (show u = Value.ref b from ry)
    obtain ⟨z, hd, xs, rel, dd⟩ := dt_of I.hok e
    have hz : xs.length ≤ sizeLine := by rw [← Paired.length rel]; exact z
    have hl : (putK kvs k v).length ≤ sizeLine := by have := length_putK kvs k v; omega
    refine wpAny_setItem_heap (hsz := hz) (tupleKind_room_in1 hu) (key_of I.hok eb) dd fun h' dd' hs => h _ ?_
    obtain ⟨q, es, ep, hq, h2, h3, h4, _, h5⟩ := dd'
    refine d_write I (by rw [e]; exact True.intro) hs ⟨q, hq⟩ ⟨hl, hd, _, (rel.put k eb rv).keeps fun c ys ec => ?_, q, es, ep, hq, h2, h3, h4, h5⟩
    rw [upd_ne (ne_of ec e (fun z => nomatch z))]
    exact ec
end

section
variable {X : Cx} {pins : List (Addr × Obj)} {σ : St} {H : Hp} {s : Shared} {a : Addr} {kvs : List (Key × V)} {k : Key} {u : Value} {A : Around} {E : Value → Shared → Prop}
theorem d_len {Q : Value → Shared → Prop} (I : Inv X pins σ H s) (e : Rd H a (.dK kvs)) (h : ∀ t s', Inv X pins σ H s' → Q (.int kvs.length t) s') : wpAny (model X.prog X.w) A (call (.builtin "len") [.ref a]) Q E s := by
  obtain ⟨z, hd, vs, rel, dd⟩ := dk_rd I.hok e
  refine call_len_dict hd dd (by rw [← rel.length]; rw [sizeLine_eq] at z; omega) ?_
  rw [← rel.length]
  exact h _ _ (I.tok _)
end


theorem dict_typeIs {X : Cx} {pins : List (Addr × Obj)} {σ : St} {H : Hp} {s : Shared} {a : Addr} {y : V} {o : Option V} (I : Inv X pins σ H s) (g : DGet H a y o) : s.TypeIs (.ref a) "dict" := by
  rcases g with ⟨kvs, k, e, _, _⟩ | ⟨kvs, k, b, e, _, _, _⟩
  · obtain ⟨_, _, vs, _, dd⟩ := dk_rd I.hok e
    exact dd.typeIs
  · obtain ⟨_, _, xs, _, dd⟩ := dt_rd I.hok e
    exact dd.typeIs
def sDPut (td ty tv : TE) : TS := fun D σ H => tv σ H fun v H1 => td σ H1 fun x H2 => ty σ H2 fun y H3 => ∃ a H4, x = .ref a ∧ DPut H3 a y v H4 ∧ D.nx σ H4
section
variable {X : Cx} {o i e value : Expr} {pos pos' tpos : Pos} {td ty tv : TE}
theorem ps_dput (hu : X.A.units + 1 < cLine) (ho : PE X o td) (hi : PE X i ty) (hv : PE X value tv) (hs : swapsWith value (some (.Subscript o i pos')) pos.line X.env = pure false) :
    PS X (.Assign [.Subscript o i pos'] value pos) (sDPut td ty tv) := by
  intro pins s σ H D I h
  refine wpAny_Assign_Subscript (thn (hv pins s σ H _ I h) fun r s1 ⟨v, H1, I1, rv, q1⟩ => thn (ho pins s1 σ H1 _ I1 q1) fun u s2 ⟨x, H2, I2, rx, q2⟩ => thn (hi pins s2 σ H2 _ I2 q2) fun iv s3 ⟨y, H3, I3, ry, a, H4, ex, g, q3⟩ => ?_) hs
  subst ex
  obtain rfl : u = Value.ref a := rx
  exact d_setItem hu I3 g ry rv fun s4 I4 => ⟨σ, H4, I4, q3⟩
end


theorem dk_empty {P : Program} {w : World} {H : Hp} (h : Heap) (hb : sysModules < h.objs.size) : ObjOk P w H (h.push { cls := .type "dict", data := .dict #[] }) h.objs.size (.dK []) :=
  ⟨Nat.zero_le _, beq_eq_false_iff_ne.mpr (Ne.symm (Nat.ne_of_lt hb)), [], .nil, Heap.DictOf.new h⟩
theorem dt_empty {P : Program} {w : World} {H : Hp} (h : Heap) (hb : sysModules < h.objs.size) : ObjOk P w H (h.push { cls := .type "dict", data := .dict #[] }) h.objs.size (.dT []) :=
  ⟨Nat.zero_le _, beq_eq_false_iff_ne.mpr (Ne.symm (Nat.ne_of_lt hb)), [], .nil, _, #[], 0, Heap.get?_push_size _ rfl, ⟨rfl, rfl, rfl⟩, rfl, rfl, List.nodup_nil⟩
def tDNewK : TE := fun _ H Q => ∀ p, H p = none → Q (.ref p) (upd H p (.dK []))
def tDNewT : TE := fun _ H Q => ∀ p, H p = none → Q (.ref p) (upd H p (.dT []))
section
variable {X : Cx} {pos : Pos}
theorem pe_dnewK : PE X (.Dict [] [] pos) tDNewK := fun pins s σ H Q I h =>
  wpAny_Dict_empty ⟨.ref s.heap.objs.size, _, I.laid (a := s.heap.objs.size) (o := .dK []) (t' := s.toks) (fun _ _ q => Heap.get?_push_of_some _ q) (Nat.le_refl _) (dk_empty s.heap I.big), rfl, h _ (I.hok.fresh (Nat.le_refl _))⟩
theorem pe_dnewT : PE X (.Dict [] [] pos) tDNewT := fun pins s σ H Q I h =>
  wpAny_Dict_empty ⟨.ref s.heap.objs.size, _, I.laid (a := s.heap.objs.size) (o := .dT []) (t' := s.toks) (fun _ _ q => Heap.get?_push_of_some _ q) (Nat.le_refl _) (dt_empty s.heap I.big), rfl, h _ (I.hok.fresh (Nat.le_refl _))⟩
end

def tPairs : List (TE × TE) → St → Hp → (List (V × V) → Hp → Prop) → Prop
  | [], _, H, Q => Q [] H
  | (tk, tv) :: r, σ, H, Q => tk σ H fun x H1 => tv σ H1 fun y H2 => tPairs r σ H2 fun ps H3 => Q ((x, y) :: ps) H3
abbrev VV : List (V × V) → List (Value × Value) → Prop := Paired fun p q => RelV p.1 q.1 ∧ RelV p.2 q.2
def PPs (X : Cx) (pos : Pos) (keys : List (Option Expr)) (values : List Expr) (trs : List (TE × TE)) : Prop :=
  ∀ (pins : List (Addr × Obj)) (s : Shared) (σ : St) (H : Hp) (Q : List (V × V) → Hp → Prop), Inv X pins σ H s → tPairs trs σ H Q →
    wpAny (model X.prog X.w) X.A (evalPairs (pairTrees keys values X.env pos)) (fun vs s' => ∃ ps H', Inv X pins σ H' s' ∧ VV ps vs ∧ Q ps H') X.xe s
theorem pps_nil {X : Cx} {pos : Pos} : PPs X pos [] [] [] := fun pins s σ H Q I h => pairTrees_nil_walk ⟨[], H, I, .nil, h⟩
theorem pps_cons {X : Cx} {pos : Pos} {k v : Expr} {ks : List (Option Expr)} {vs : List Expr} {tk tv : TE} {trs : List (TE × TE)} (hk : PE X k tk) (hv : PE X v tv) (hr : PPs X pos ks vs trs) :
    PPs X pos (some k :: ks) (v :: vs) ((tk, tv) :: trs) := fun pins s σ H Q I h =>
  pairTrees_cons_walk (thn (hk pins s σ H _ I h) fun u s1 ⟨x, H1, I1, rx, q1⟩ => thn (hv pins s1 σ H1 _ I1 q1) fun w2 s2 ⟨y, H2, I2, ry, q2⟩ =>
    thn (hr pins s2 σ H2 _ I2 q2) fun ws s3 ⟨ps, H3, I3, rel, q3⟩ => ⟨(x, y) :: ps, H3, I3, .cons ⟨rx, ry⟩ rel, q3⟩)

def mergeK (kvs more : List (Key × V)) : List (Key × V) := more.foldl (fun acc kv => putK acc kv.1 kv.2) kvs
theorem KV.merge : ∀ {more : List (Key × V)} {rs : List (Key × Value)} {kvs : List (Key × V)} {vs : List (Key × Value)}, KV more rs → KV kvs vs → KV (mergeK kvs more) (merged vs rs) := by
  intro more rs kvs vs r
  unfold KV at r
  induction r generalizing kvs vs with
  | nil => intro q; exact q
  | @cons p q ps qs h t ih =>
    intro r0
    have e : KV (putK kvs p.1 p.2) (stored vs q.1 q.2) := by
      have := r0.put p.1 h.2
      rw [← h.1]; exact this
    exact ih e
theorem length_mergeK : ∀ (more kvs : List (Key × V)), (mergeK kvs more).length ≤ kvs.length + more.length
  | [], kvs => by show kvs.length ≤ kvs.length + 0; omega
  | p :: r, kvs => by
    have h1 := length_mergeK r (putK kvs p.1 p.2)
    have h2 := length_putK kvs p.1 p.2
    show (mergeK (putK kvs p.1 p.2) r).length ≤ _
    rw [List.length_cons]; omega
theorem carries_of {P : Program} {w : World} : ∀ {kvs : List (Key × V)} {ws : List (Value × Value)}, VV (kvs.map fun kv => (kV kv.1, kv.2)) ws → ∃ rs, Carries (mixKind P w) ws rs ∧ KV kvs rs
  | [], _, r => by rw [List.map_nil] at r; cases r; exact ⟨[], True.intro, .nil⟩
  | p :: kvs, _, r => by
    rw [List.map_cons] at r
    cases r with
    | @cons a b as bs h t =>
      obtain ⟨rs, c, q⟩ := carries_of (P := P) (w := w) t
      obtain ⟨b1, b2⟩ := b
      exact ⟨(p.1, b2) :: rs, ⟨kV_is h.1, rfl, c⟩, .cons ⟨rfl, h.2⟩ q⟩
def tDisp (trs : List (TE × TE)) : TE := fun σ H Q => ∀ p, H p = none → tPairs trs σ (upd H p (.dK [])) fun ps H2 => H2 p = some (.dK []) ∧ ∃ kvs : List (Key × V), ps = kvs.map (fun kv => (kV kv.1, kv.2)) ∧ kvs.length ≤ 15 ∧ Q (.ref p) (upd H2 p (.dK (mergeK [] kvs)))
theorem pe_disp {X : Cx} {pos : Pos} {keys : List (Option Expr)} {values : List Expr} {trs : List (TE × TE)} (h : PPs X pos keys values trs) (hall : keys.all (·.isSome) = true) (hl : keys.length = values.length) (h0 : keys ≠ [])
    (h15 : keys.length ≤ 15) : PE X (.Dict keys values pos) (tDisp trs) := by
  intro pins s σ H Q I q
  have hn := I.hok.fresh (Nat.le_refl s.heap.objs.size)
  have I1 := I.laid (a := s.heap.objs.size) (o := .dK []) (h' := s.heap.push { cls := .type "dict", data := .dict #[] }) (t' := s.toks) (fun _ _ q => Heap.get?_push_of_some _ q) (Nat.le_refl _) (dk_empty s.heap I.big)
  refine wpAny_Dict_walk (knd := mixKind X.prog X.w) hall hl h0 h15 (thn (h pins _ σ _ _ I1 (q _ hn)) fun ws s2 ⟨ps, H2, I2, rel, e, kvs, ep, lk, q2⟩ => ?_)
  subst ep
  obtain ⟨rs, c, rk⟩ := carries_of (P := X.prog) (w := X.w) rel
  obtain ⟨z, hd, vs0, r0, dd⟩ := dk_of I2.hok e
  cases r0
  refine ⟨rs, c, dd, fun h' dd' hs => ⟨.ref s.heap.objs.size, _, ?_, rfl, q2⟩⟩
  have hz : (mergeK [] kvs).length ≤ sizeLine := by
    have h1 := length_mergeK kvs []
    rw [List.length_nil] at h1
    rw [sizeLine_eq]; omega
  have he : ∃ q, h'.get? s.heap.objs.size = some q := let ⟨q, _, _, hq, _⟩ := dd'; ⟨q, hq⟩
  exact d_write I2 (by rw [e]; exact True.intro) hs he (dk_new hz hd (rk.merge .nil) dd')


structure M1 (X : Cx) (o : Expr) (m : Str) (apos : Pos) (e : Expr) (cpos : Pos) : Prop where
  base : attributeBase o m X.env (eval o X.env) = eval o X.env
  few : ((backTo cpos (starEach [e] X.env)).all (fun x => !x.1) && (backToKw cpos (keywordEach [] X.env)).all (fun x => x.1.isSome)
    && decide (([e] : List Expr).length + ([] : List Keyword).length + (if ([] : List Keyword).isEmpty then 0 else 1) < 30)) = true
  line : (apos.endLine == cpos.line) = true
  trees : backTo cpos (starEach [e] X.env) = [(false, eval e X.env)]
structure M2 (X : Cx) (o : Expr) (m : Str) (apos : Pos) (e f : Expr) (cpos : Pos) : Prop where
  base : attributeBase o m X.env (eval o X.env) = eval o X.env
  few : ((backTo cpos (starEach [e, f] X.env)).all (fun x => !x.1) && (backToKw cpos (keywordEach [] X.env)).all (fun x => x.1.isSome)
    && decide (([e, f] : List Expr).length + ([] : List Keyword).length + (if ([] : List Keyword).isEmpty then 0 else 1) < 30)) = true
  line : (apos.endLine == cpos.line) = true
  trees : backTo cpos (starEach [e, f] X.env) = [(false, eval e X.env), (false, eval f X.env)]

section
variable {X : Cx} {pins : List (Addr × Obj)} {σ : St} {H : Hp} {s : Shared} {a : Addr} {y d : V} {u r : Value} {o : Option V} {A : Around} {E : Value → Shared → Prop}
end

section
variable {X : Cx} {o e f : Expr} {apos cpos : Pos} {td ty tx : TE}
end

section
variable {X : Cx} {pins : List (Addr × Obj)} {σ : St} {H : Hp} {s : Shared} {a : Addr} {kvs : List (Key × V)} {A : Around} {E : Value → Shared → Prop}
end


section
variable {X : Cx} {pins : List (Addr × Obj)} {σ : St} {H : Hp} {s : Shared} {a : Addr} {y : V} {u : Value} {A : Around} {E : Value → Shared → Prop}
end
end L2

namespace Att
open PySem PySem.W PySem.Calls PyProof.Rows

theorem ints_of_wellAll {P : Params} {h : Heap} : ∀ (ns : List Int) (vs : List Value), WellAll P h vs (ns.map WData.int) → IntsAre vs ns := by
  intro ns
  induction ns with
  | nil =>
    intro vs w
    rw [List.map_nil] at w
    cases w
    exact .nil
  | cons n ns ih =>
    intro vs w
    rw [List.map_cons] at w
    cases w with
    | cons a b =>
      cases a
      exact .cons _ _ (ih _ b)

theorem script_of {l : OpenLaw} {n : Nat} (hn : l.most = some n) {P : Params} {h : Heap} {args : List WData} {vals : List Value}
    (hpre : l.row.toRowW.claim.pre args = true) (hwl : WellAll P h vals args) :
    ∃ a vs ns, vals = [Value.ref a] ∧ args = [WData.list (ns.map WData.int)] ∧ h.get? a = some { cls := .type "list", data := .seq vs.toArray } ∧ IntsAre vs ns ∧ ns.length ≤ n := by
  have hsh : WShape.hasAll [] args [.list .int] = true := (pre_splitW hpre).1
  have hc : l.pre.holds [] { args := args } = true := (pre_splitW hpre).2
  obtain ⟨d, r, rfl, h1, h2⟩ := hasAllW_cons hsh
  obtain rfl := hasAllW_nil h2
  obtain ⟨xs, rfl, h3⟩ := hasW_list h1
  obtain ⟨ns, rfl⟩ := items_int h3
  have hlen : ns.length ≤ n := by
    unfold OpenLaw.pre at hc
    have h4 : (WTm.not (.lt (.lit (.int (n : Int))) (.len (.arg 0)))).holds [] { args := [.list (ns.map .int)] } = true := by
      have h4 := (holds_andW hc).1
      rw [hn] at h4
      exact h4
    have h5 := condW_of h4 (w_not (w_lt w_lit (w_len_list (w_arg rfl))))
    rw [List.length_map] at h5
    refine Nat.le_of_not_lt fun q => ?_
    have q' : (n : Int) < ((ns.length : Nat) : Int) := by omega
    first
      | (rw [decide_eq_true q'] at h5; exact absurd h5 (by decide))
      | (simp at h5; omega)
  cases hwl with
  | cons w1 w2 =>
    cases w2
    cases w1 with
    | list ho hall => exact ⟨_, _, ns, rfl, rfl, ho, ints_of_wellAll ns _ hall, hlen⟩

theorem post_true (l : OpenLaw) (args : List WData) : l.row.toRowW.claim.post args (.bool true) args = true :=
  postW_of (r := l.row.toRowW) (X := (true == true))
    (show WShape.has [] (.bool true) .bool = true by first | rfl | decide | simp [WShape.has, WShape.arms, WShape.armsAll])
    (show (WTm.eq .res (.lit (.bool true))).value [] { args := args, res := some (.bool true), after := args } = some (.bool (true == true)) from w_eq_bool (w_res rfl) w_lit) rfl

theorem attach_call {l : OpenLaw} {n : Nat} {q : Program} {loose : List Str} {XP : (Str → Option Value) → Heap → Prop} {YP : World → Heap → Prop} {d : DefRec}
    (hn : l.most = some n) (hdf : d.params.defaults = [])
    (call : ∀ (w : World) (s₀ s₁ : Shared) (mg mb : Str → Option Value) (fa : Addr) (o : Obj) (pm cd doc : Value) (a : Addr) (vs : List Value) (ns : List Int),
      Ground q loose [] XP w s₀ mg mb s₁.heap → YP w s₁.heap →
      s₁.heap.get? fa = some o → o.data = .func (docDef d.name d.params d.body d.scope pm cd doc) → s₁.heap.CodeRec cd d.name → mg d.name = some (.ref fa) →
      s₁.heap.get? a = some { cls := .type "list", data := .seq vs.toArray } → IntsAre vs ns → ns.length ≤ n → s₁.gens = #[] →
      codeAny (model l.prog w) callerA (.call (.ref fa) ⟨[.ref a], []⟩) (fun r s' => r = .ok (.ret (.bool true)) ∧ OldK s₁.heap s'.heap ∧ s'.os = s₁.os ∧ AllBare s'.gens) s₁) :
    WalkO q loose XP YP l.row.toRowW d [] (fun f vs => PySem.call f vs) := by
  intro w s₀ s₁ mg mb G Y fa o pm cd doc dV kV ho hd hcd hD hmg hg args vals as hpre hlay hrd hwl hlo
  obtain rfl : dV = .none := Dflts.none hD hdf
  obtain rfl : kV = .none := Dflts.noKw hD
  obtain ⟨a, vs, ns, rfl, rfl, hobj, hints, hlen⟩ := script_of hn hpre hwl
  refine enter_call (codeAny_mono (call w s₀ s₁ mg mb fa o pm cd doc a vs ns G Y ho (fd_plain hd) hcd hmg hobj hints hlen hg) fun r s' hq => ?_)
  obtain ⟨rfl, h2, h3, h4⟩ := hq
  exact ⟨.inl ⟨.bool true, .bool true, [], rfl, fun _ => rfl, .bool true, post_true l _, fun _ => ⟨List.Pairwise.nil, fun _ hm => (nomatch hm)⟩⟩, h2, h3, h4⟩

section
variable {prog : Program} {w : World} {A : Around} {E : Value → Shared → Prop} {s : Shared} {K : Frag}

end
end Att

namespace L2
open PySem PySem.Spec PyProof.Rows

theorem vals_ints : ∀ {vs : List Value} {ns : List Int}, IntsAre vs ns → Vals (ns.map V.int) vs
  | _, _, .nil => .nil
  | _, _, .cons n t h => .cons ⟨t, rfl⟩ (vals_ints h)

def Only (H : Hp) : Prop := ∀ b, H b = none ∨ ∃ o xs, H b = some (.frz o (.lst xs))

theorem law_call {P : Program} {w : World} {K : PySem.W.Frag} {mg mb : Str → Option Value} {CX : CXT} {k : Nat} {fa a : Addr} {fd : FuncData} {x : Str} {sp : Sp} {s₁ : Shared} {vs : List Value} {ns : List Int}
    (KX : K.In s₁.heap) (hns : s₁.heap.Ns mainGlobals mg) (hb : s₁.heap.Ns builtinsNs mb) (hbb : ∀ x : Str, x ≠ "__name__" → mb x = bootBuiltins x) (hlim : s₁.heap.NoLimit) (hg : s₁.gens = #[])
    (ha : s₁.heap.get? a = some { cls := .type "list", data := .seq vs.toArray }) (hi : IntsAre vs ns) (hl : ns.length ≤ sizeLine) (hr : Room k callerA)
    (F : ∀ base : Heap, K.In base → base.Ns mainGlobals mg → FnOk P w K mg base CX k fa fd [x] sp) (hbind : ∀ (s : Shared) (u : Value), BindsTo s fd ⟨[u], []⟩ [(x, u)])
    (hsp : ∀ H : Hp, Only H → SqL K H a (ns.map V.int) → sp [.ref a] H (fun v _ => v = .bl true) fun _ _ _ => False)
    (hCX : ∀ H e s', CX [] H s₁ (fun _ _ _ => False) e s' → False) :
    codeAny (model P w) callerA (.call (.ref fa) ⟨[.ref a], []⟩) (fun r s' => r = .ok (.ret (.bool true)) ∧ OldK s₁.heap s'.heap ∧ s'.os = s₁.os ∧ AllBare s'.gens) s₁ := by
  have rv := vals_ints hi
  have lenV := hi.length
  -- from an abstract heap in which nothing but the script may be tracked
  have core : ∀ H : Hp, Only H → SqL K H a (ns.map V.int) → HOk P w H s₁.heap → (∀ b, H b ≠ none → b = a) → (H a ≠ none → K.lookup a = none) →
      codeAny (model P w) callerA (.call (.ref fa) ⟨[.ref a], []⟩) (fun r s' => r = .ok (.ret (.bool true)) ∧ OldK s₁.heap s'.heap ∧ s'.os = s₁.os ∧ AllBare s'.gens) s₁ := by
    intro H hO hS hok hA hK
    have base_of : ∀ {b : Addr} {o : Obj}, s₁.heap.get? b = some o → H b = none → (hidT s₁.heap H).get? b = some o := fun e n => hidT_get e n
    have noA : ∀ {b : Addr} {o : Obj} {es : Array DictEntry} {ep : Nat}, s₁.heap.get? b = some o → o.data = .dict es ep → H b = none := fun {b o es ep} e d => by
      cases q : H b with
      | none => rfl
      | some u =>
        have e' : b = a := hA b (by rw [q]; simp)
        subst e'
        rw [ha] at e; cases e
        have d' : Data.seq vs.toArray _ = Data.dict es ep := d
        cases d'
    have nsK : ∀ {b : Addr} {m : Str → Option Value}, s₁.heap.Ns b m → (hidT s₁.heap H).Ns b m := fun {b m} ⟨o, es, ep, e, d, r⟩ => ⟨o, es, ep, base_of e (noA e d), d, r⟩
    have hKb : K.In (hidT s₁.heap H) := fun b o e => base_of (KX b o e) (by
      cases q : H b with
      | none => rfl
      | some u =>
        have e' : b = a := hA b (by rw [q]; simp)
        subst e'
        rw [hK (by rw [q]; simp)] at e; cases e)
    have hM : Mod K mg (hidT s₁.heap H) := ⟨hKb, nsK hns, ⟨mb, nsK hb, hbb⟩, let ⟨mc, h1, h2⟩ := hlim; ⟨mc, nsK h1, h2⟩⟩
    have e0 : Env0 P w K mg (hidT s₁.heap H) callerA [] s₁ H := ⟨rfl, hM, fun b o e => of_hidT e, Nat.le_of_eq (hidT_size _ _), trivial, fun b hb => absurd (show b ∈ ([] : List Addr) from hb) (by simp), hok, .of_eq hg⟩
    refine codeAny_mono ((F _ hKb (nsK hns)).run callerA [] s₁ H ⟨[.ref a], []⟩ [.ref a] [.ref a] _ _ hr e0 (hbind s₁ (.ref a)) (.cons rfl .nil) (hsp H hO hS)) fun r s' h => ?_
    cases r with
    | error e => exact (hCX H e s' h).elim
    | ok fl =>
      cases fl with
      | next => exact False.elim h
      | brk => exact False.elim h
      | cont => exact False.elim h
      | ret u =>
        obtain ⟨v, H', os, bare, un, hok', r', q⟩ := h
        have q' : v = .bl true := q
        subst q'
        obtain rfl : u = Value.bool true := r'
        refine ⟨rfl, OldK.of_keep fun b o e => ?_, os, bare⟩
        cases q : H b with
        | none => exact un.keep b o e q (by intro z; exact absurd (show b ∈ ([] : List Addr) from z) (by simp)) (by simp)
        | some u =>
          rcases hO b with z | ⟨ob, xs, z⟩
          · rw [q] at z; cases z
          · have z2 := un.frzs b ob _ z
            obtain ⟨e1, _⟩ := hok b _ z
            obtain ⟨e2, _⟩ := hok' b _ z2
            rw [e] at e1; cases e1
            exact e2
  cases hk : K.lookup a with
  | some o =>
    -- the script is one of the module's own objects
    have e := KX a o hk
    rw [ha] at e
    cases e
    refine core (fun _ => none) (fun _ => .inl rfl) (.inr ⟨_, vs.toArray, _, hk, rfl, rfl, rfl, by rw [List.size_toArray, lenV]; exact hl, by simpa using rv⟩) (fun b u z => by have z' : (none : Option HO) = some u := z; cases z') (fun b z => absurd rfl z) fun z => absurd rfl z
  | none =>
    refine core (fun b => if b = a then some (.frz { cls := .type "list", data := .seq vs.toArray } (.lst (ns.map V.int))) else none) (fun b => ?_) (.inl (.inr ⟨{ cls := .type "list", data := .seq vs.toArray }, if_pos rfl⟩)) (fun b u z => ?_) (fun b z => ?_) fun _ => hk
    · by_cases hb : b = a
      · exact .inr ⟨_, _, if_pos hb⟩
      · exact .inl (if_neg hb)
    · by_cases hb : b = a
      · have z' := (if_pos hb).symm.trans z
        cases z'
        subst hb
        exact ⟨ha, by rw [List.length_map]; exact hl, vs, _, rv, ha⟩
      · have z' := (if_neg hb).symm.trans z
        cases z'
    · by_cases hb : b = a
      · exact hb
      · exact absurd (if_neg hb) z
end L2

namespace L2
open PySem PySem.Spec PyProof.Rows

theorem walk_of {l : PySem.W.OpenLaw} {n k : Nat} {q : Program} {loose : List Str} {XP : (Str → Option Value) → Heap → Prop} {YP : World → Heap → Prop} {d : DefRec} {K : Params → PySem.W.Frag} {CX : World → CXT} {sp : World → Sp} {x : Str}
    (hn : l.most = some n) (hn2 : n ≤ sizeLine) (hdf : d.params.defaults = []) (hr : Room k callerA)
    (hY : ∀ (w : World) (h : Heap), YP w h → (K w.params).In h)
    (F : ∀ (w : World) (mg : Str → Option Value) (fa : Addr) (h : Heap), (K w.params).In h → h.Ns mainGlobals mg → mg d.name = some (.ref fa) →
      ∃ fd : FuncData, (∀ (s : Shared) (u : Value), BindsTo s fd ⟨[u], []⟩ [(x, u)]) ∧
        ∀ base : Heap, (K w.params).In base → base.Ns mainGlobals mg → FnOk l.prog w (K w.params) mg base (CX w) k fa fd [x] (sp w))
    (hsp : ∀ (w : World) (H : Hp) (a : Addr) (ns : List Int), ns.length ≤ n → Only H → SqL (K w.params) H a (ns.map V.int) → sp w [.ref a] H (fun v _ => v = .bl true) fun _ _ _ => False)
    (hCX : ∀ (w : World) (H : Hp) (s : Shared) (e : Value) (s' : Shared), CX w [] H s (fun _ _ _ => False) e s' → False) :
    PySem.W.WalkO q loose XP YP l.row.toRowW d [] (fun f vs => PySem.call f vs) := by
  refine Att.attach_call hn hdf fun w s₀ s₁ mg mb fa o pm cd doc a vs ns G Y ho hd hcd hmg hobj hints hlen hg => ?_
  have KX := hY w _ Y
  obtain ⟨fd, hb, hF⟩ := F w mg fa _ KX G.T.g hmg
  exact law_call KX G.T.g G.T.b G.T.builtins G.T.nolimit hg hobj hints (Nat.le_trans hlen hn2) hr hF hb (fun H hO hS => hsp w H a ns hlen hO hS) fun H e s' => hCX w H s₁ e s'
end L2


namespace L2
open PySem PySem.Spec PyProof.Rows

def defArgs (s : Stmt) : Arguments := match s with
  | .FunctionDef _ a _ _ _ _ _ _ _ _ => a
  | _ => { posonlyargs := [], args := [], vararg := none, kwonlyargs := [], kw_defaults := [], kwarg := none, defaults := [] }
def defBody (s : Stmt) : List Stmt := match s with
  | .FunctionDef _ _ b _ _ _ _ _ _ _ => b
  | _ => []
def defScope (s : Stmt) : Scope := match s with
  | .FunctionDef _ _ _ _ _ _ sc _ _ _ => sc
  | _ => { kind := .function, names := [], isGenerator := false, isCoroutine := false }

abbrev CX0 : CXT := fun _ _ _ _ _ _ => False
abbrev E0 : XK := fun _ _ _ => False
theorem pass0 {X : Cx} : Passes CX0 X E0 := fun _ _ _ _ _ _ _ h => h.elim

structure Fun (K : PySem.W.Frag) (x qual : Str) (st : Stmt) (f : Addr) (fd : FuncData) : Prop where
  ex : ∃ (oc : Value) (od : Option Addr) (kV doc pm : Value) (an : Option Addr) (cdv ct : Value) (osl : Array (Option Value)),
    fd = PySem.W.fnOf x qual (defArgs st) (defBody st) (defScope st) .none kV doc pm an cdv ct ∧ K.lookup f = some ⟨oc, od, .func fd, osl⟩ ∧ PySem.W.codeIn K cdv qual = true
  kp : PySem.W.keepIn K (.ref f) = true
section
variable {P : Program} {w : World} {K : PySem.W.Frag} {mg : Str → Option Value} {base : Heap}
theorem Fun.ok {x qual : Str} {st : Stmt} {f : Addr} {fd : FuncData} {N ps : List Str} {k : Nat} {sp : Sp} (F : Fun K x qual st f fd) (S : FnScope N ps (defScope st)) (len : ∀ vs H Q E, sp vs H Q E → vs.length = ps.length)
    (hbody : ∀ (cdv : Value) (A : Around) (outer : List Env) (s : Shared) (H : Hp) (vs : List V) (Q : VK) (E : XK), Room k (A.deeper (envOfC qual (defScope st) s.heap.objs.size f cdv)) → sp vs H Q E →
      ∃ t, PSs (cxOf CX0 P w K mg base N qual (defScope st) f cdv A outer s H E).nox (defBody st) t ∧ t { nx := fun _ H' => Q .non H', rt := Q } (start N vs) H) : FnOk P w K mg base CX0 (k + 1) f fd ps sp := by
  obtain ⟨oc, od, kV, doc, pm, an, cdv, ct, osl, rfl, lk, hcd⟩ := F.ex
  refine fn_of lk hcd S len fun A outer s H vs Q E hr hsp => ?_
  obtain ⟨t, h, q⟩ := hbody cdv A outer s H vs Q E hr hsp
  exact ⟨t, h.nox, q⟩
theorem Fun.binds {x qual : Str} {st : Stmt} {f : Addr} {fd : FuncData} {ps : List Str} (F : Fun K x qual st f fd)
    (h : ∀ (kV doc pm : Value) (an : Option Addr) (cdv ct : Value) (us : List Value), us.length = ps.length → bindArgs (PySem.W.fnOf x qual (defArgs st) (defBody st) (defScope st) .none kV doc pm an cdv ct) ⟨us, []⟩ = pure (ps.zip us)) : Binds K fd ps [] := by
  obtain ⟨oc, od, kV, doc, pm, an, cdv, ct, osl, rfl, lk, hcd⟩ := F.ex
  exact .all (h kV doc pm an cdv ct)
theorem fun_mk {x qual : Str} {st : Stmt} {f : Addr} {oc : Value} {od an : Option Addr} {osl : Array (Option Value)} {kV doc pm cdv ct : Value} (l : K.lookup f = some ⟨oc, od, .func (PySem.W.fnOf x qual (defArgs st) (defBody st) (defScope st) .none kV doc pm an cdv ct), osl⟩)
    (c : PySem.W.codeIn K cdv qual = true) (k : PySem.W.keepIn K (.ref f) = true) : Fun K x qual st f (PySem.W.fnOf x qual (defArgs st) (defBody st) (defScope st) .none kV doc pm an cdv ct) := ⟨⟨oc, od, kV, doc, pm, an, cdv, ct, osl, rfl, l, c⟩, k⟩
end
section
variable {X : Cx}
theorem pv (i : Nat) {x : Str} {pos : Pos} (hN : X.N[i]? = some x := by rfl) (hv : Vis X.env.scope x := by first | exact Or.inl rfl | exact Or.inr (Or.inl rfl) | exact Or.inr (Or.inr rfl)) (hd : (x == ("__debug__" : Str)) = false := by decide)
    (hcd : (x == ("__classdict__" : Str)) = false := by decide) : PE X (.Name x pos) (tVar i) := pe_var hN hv hd hcd
theorem call_lenD : CallR X (.builtin "len") (fun xs H Q => ∃ a kvs, xs = [V.ref a] ∧ H a = some (.dK kvs) ∧ Q (.int kvs.length) H) := by
  intro pins s σ H xs us Q I r h
  obtain ⟨a, kvs, rfl, ha, q⟩ := h
  obtain ⟨u, rfl, ru⟩ := vals1 r
  cases ru
  exact d_len I (.inl ha) fun t s' I' => ⟨.int kvs.length, H, I', ⟨t, rfl⟩, q⟩
end

def Same (H H' : Hp) : Prop := ∀ b o, H b = some o → H' b = some o
theorem Same.refl (H : Hp) : Same H H := fun _ _ h => h
theorem Same.trans {H H1 H2 : Hp} (a : Same H H1) (b : Same H1 H2) : Same H H2 := fun c o h => b c o (a c o h)
theorem Same.free {H H' : Hp} (e : Same H H') {l : Addr} (h : H' l = Option.none) : H l = Option.none := by
  cases q : H l with
  | none => rfl
  | some o =>
    rw [e l o q] at h
    cases h
theorem Same.seq {K : PySem.W.Frag} {H H' : Hp} {a : Addr} {xs : List V} (e : Same H H') (h : SqL K H a xs) : SqL K H' a xs := by
  rcases h with (h | ⟨o, h⟩) | h
  · exact .inl (.inl (e _ _ h))
  · exact .inl (.inr ⟨o, e _ _ h⟩)
  · exact .inr h

section
variable {κ : Type} [DecidableEq κ]
end
end L2

set_option Elab.async false
set_option linter.all false
set_option maxRecDepth 100000
set_option maxHeartbeats 4000000

namespace L2
open PySem PySem.Spec PyProof.Rows

def clOf (env : Env) : List (Str × NameKind) → List (Str × Addr) → List (Str × Addr)
  | [], cs => cs
  | (n, k) :: r, cs => clOf env r (if k == NameKind.free then (n, (env.cells.lookup n).getD 0) :: cs else cs)

theorem closure_forIn (env : Env) : ∀ (names : List (Str × NameKind)) (cs : List (Str × Addr)), (∀ y ∈ names, y.2 = .free → ∃ c, env.cells.lookup y.1 = some c) →
    (forIn names cs fun x r => match x with
      | (name, kind) => if (kind == NameKind.free) = true then do let a ← cellOf env name; pure (ForInStep.yield ((name, a) :: r)) else pure (ForInStep.yield r) : Sem (List (Str × Addr))) = pure (clOf env names cs)
  | [], cs, _ => rfl
  | (n, k) :: r, cs, h => by
    rw [List.forIn_cons]
    have ih := closure_forIn env r
    by_cases hk : k = .free
    · subst hk
      obtain ⟨c, e⟩ := h (n, .free) List.mem_cons_self rfl
      have e : env.cells.lookup n = some c := e
      have e2 : cellOf env n = pure c := by unfold cellOf; rw [e]
      have e3 : clOf env ((n, .free) :: r) cs = clOf env r ((n, c) :: cs) := by
        show clOf env r (if (NameKind.free == NameKind.free) = true then (n, (env.cells.lookup n).getD 0) :: cs else cs) = _
        rw [e]; rfl
      rw [e3, ← ih ((n, c) :: cs) fun y hy => h y (List.mem_cons_of_mem _ hy)]
      simp only [beq_self_eq_true, if_true, e2]
      rfl
    · have hb : (k == NameKind.free) = false := by simpa using hk
      have e3 : clOf env ((n, k) :: r) cs = clOf env r cs := by
        show clOf env r (if (k == NameKind.free) = true then _ else cs) = _
        rw [hb]; rfl
      rw [e3, ← ih cs fun y hy => h y (List.mem_cons_of_mem _ hy)]
      simp only [hb, Bool.false_eq_true, if_false]
      rfl
theorem closureFor_cl {scope : Scope} {env : Env} (h : ∀ y ∈ scope.names, y.2 = .free → ∃ c, env.cells.lookup y.1 = some c) : closureFor scope env = pure (clOf env scope.names []) := by
  have := closure_forIn env scope.names [] h
  unfold closureFor
  rw [← bind_pure (forIn scope.names [] _)] at this
  exact this

theorem clOf_sub {env : Env} {x : Str} {c : Addr} : ∀ {names : List (Str × NameKind)} {cs : List (Str × Addr)}, (∀ y ∈ names, y.2 = .free → ∃ c, env.cells.lookup y.1 = some c) → (∀ y d, cs.lookup y = some d → env.cells.lookup y = some d) →
    (clOf env names cs).lookup x = some c → env.cells.lookup x = some c
  | [], cs, _, h, e => h x c e
  | (n, k) :: r, cs, hf, h, e => by
    refine clOf_sub (names := r) (fun y hy => hf y (List.mem_cons_of_mem _ hy)) ?_ e
    intro y d hd
    by_cases hk : k = .free
    · subst hk
      obtain ⟨c', e'⟩ := hf (n, .free) List.mem_cons_self rfl
      have e' : env.cells.lookup n = some c' := e'
      simp only [beq_self_eq_true, if_true, e', Option.getD_some, List.lookup_cons] at hd
      cases hb : y == n with
      | true => rw [hb] at hd; have : y = n := eq_of_beq hb; subst this; rw [e']; exact hd
      | false => rw [hb] at hd; exact h y d hd
    · have hb : (k == NameKind.free) = false := by simpa using hk
      simp only [hb, Bool.false_eq_true, if_false] at hd
      exact h y d hd
theorem clOf_some {env : Env} {x : Str} : ∀ {names : List (Str × NameKind)} {cs : List (Str × Addr)}, ((x, NameKind.free) ∈ names ∨ ∃ c, cs.lookup x = some c) → ∃ c, (clOf env names cs).lookup x = some c
  | [], cs, h => by
    rcases h with h | h
    · exact nomatch h
    · exact h
  | (n, k) :: r, cs, h => by
    refine clOf_some (names := r) ?_
    rcases h with h | ⟨c, h⟩
    · rcases List.mem_cons.mp h with e | h
      · cases e
        refine .inr ⟨(env.cells.lookup x).getD 0, ?_⟩
        simp only [beq_self_eq_true, if_true, List.lookup_cons]
      · exact .inl h
    · refine .inr ?_
      by_cases hk : (k == NameKind.free) = true
      · simp only [hk, if_true, List.lookup_cons]
        cases hb : x == n with
        | true => exact ⟨_, rfl⟩
        | false => exact ⟨c, h⟩
      · simp only [hk, if_false]
        exact ⟨c, h⟩

def cxComp (X : Cx) (scope : Scope) (C : Addr) (N : List Str) (fp : List Addr) (s₃ : Shared) (H₃ : Hp) : Cx :=
  { X with N := N, s₀ := s₃, H₀ := H₃, env := compEnvC scope (clOf X.env scope.names []) C X.env, outer := X.stack, stack := X.stack, ex := fp, fn := fun _ => false, pn := [], xe := fun _ _ => False }

def PTs (X : Cx) (ifs : List Expr) (t : TT) : Prop :=
  ∀ (pins : List (Addr × Obj)) (s : Shared) (σ : St) (H : Hp) (Q : Bool → Hp → Prop), Inv X pins σ H s → t σ H Q →
    wpAny (model X.prog X.w) X.A (forIn ifs true fun c r => if r = true then do let ok ← isTrue c X.env (eval c X.env); pure (ForInStep.yield ok) else pure (ForInStep.yield r)) (TP X pins σ Q) X.xe s
theorem pts_one {X : Cx} {c : Expr} {t : TT} (h : PT X c t) : PTs X [c] t := fun pins s σ H Q I hw => wpAny_tests_one (h pins s σ H Q I hw)

theorem codeAny_compLoop_all {prog : Program} {w : World} {A : Around} {R : Result → Shared → Prop} {s : Shared} {elt target iter : Expr} {ifs : List Expr} {scope : Scope} {pos : Pos} {it acc : Value} {env : Env} (I : Nat → Shared → Prop) (E : Value → Shared → Prop)
    (turn : ∀ n s, I n s → wpAny (model prog w) A (pyNext it) (fun r s₁ => match r with
      | none => R (.ok .next) s₁
      | some v => wpAny (model prog w) A (letOwnedTupleGo target it v) (fun _ s₀ => wpAny (model prog w) A (assign target env v) (fun _ s₂ =>
          wpAny (model prog w) A (forIn ifs true fun c r => if r = true then do let ok ← isTrue c env (eval c env); pure (ForInStep.yield ok) else pure (ForInStep.yield r)) (fun ok s₃ =>
            if ok = true then wpAny (model prog w) A (eval elt env) (fun x s₄ =>
              wpAny (model prog w) A (call (.builtin "list.append") [acc, x]) (fun _ s₅ => ∃ m, m < n ∧ I m s₅) E s₄) E s₃
            else ∃ m, m < n ∧ I m s₃) E s₂) E s₀) E s₁) E s)
    (hE : ∀ e s', E e s' → notedBy (model prog w) A env (fun e s' => R (.error e) s') e s')
    (n : Nat) (h : I n s) :
    codeAny (model prog w) A (.compLoop (.ListComp elt [⟨target, iter, ifs, 0⟩] scope pos) 0 it acc env) R s := by
  refine codeAny_loop rfl I (fun n s hI => ?_) n h
  show wpAny _ A ((compTurn (.ListComp elt [⟨target, iter, ifs, 0⟩] scope pos) 0 it acc env).onRaise (fun x => do noteFrame x env; theTreesLotGoes x)) _ _ s
  refine wpAny_noted ?_
  rw [compTurn_list]
  refine wpAny_mono (Q := _) (E := E) ?_ (fun _ _ q => q) hE
  refine wpAny_bind (wpAny_standAt (wpAny_bind (wpAny_mono (turn n s hI) (fun r s₁ h₁ => ?_) fun _ _ h' => h')))
  cases r with
  | none => exact wpAny_pure h₁
  | some v =>
    refine wpAny_bind (wpAny_mono h₁ (fun _ s₀ h₀ => ?_) fun _ _ h' => h')
    refine wpAny_bind (wpAny_mono h₀ (fun _ s₂ h₂ => wpAny_bind (wpAny_mono h₂ (fun ok s₃ h₃ => ?_) fun _ _ h' => h')) fun _ _ h' => h')
    cases ok with
    | false => exact wpAny_pure ⟨rfl, h₃⟩
    | true =>
      exact wpAny_bind (wpAny_bind (wpAny_mono h₃ (fun x s₄ h₄ => wpAny_bind (wpAny_mono h₄ (fun _ s₅ h₅ => wpAny_pure (wpAny_pure ⟨rfl, h₅⟩)) fun _ _ h' => h')) fun _ _ h' => h'))

def compσ (tn : Nat) (ix : List Nat) (σ : St) : St := List.replicate tn none ++ ix.map fun j => (σ[j]?).join
def tComp (wi : TI) (g : TG) (tc : TT) (te : TE) (tn : Nat) (ix : List Nat) : TE := fun σ H Q => wi σ H fun J H1 => ∀ D, H1 D = none →
  ∃ W : Nat → Nat → St → Hp → Prop, (∃ m, W 0 m (compσ tn ix σ) (upd H1 D (.lst []))) ∧ ∀ i m τ H, W i m τ H →
    (J.stop i H ∧ Q (.ref D) H) ∨ (J.go i H ∧ ∃ (N1 : St → V → Hp → Prop) (N2 : St → Hp → Prop),
      (∀ τ2 v H4, N1 τ2 v H4 → ∃ ys m', H4 D = some (.lst ys) ∧ ys.length < sizeLine ∧ m' < m ∧ W (i + 1) m' τ2 (upd H4 D (.lst (ys ++ [v])))) ∧
      (∀ τ2 H3, N2 τ2 H3 → ∃ m', m' < m ∧ W (i + 1) m' τ2 H3) ∧
      ∀ x H', J.yld i H x H' → g x τ H' fun τ2 H2 => tc τ2 H2 fun b H3 => if b = true then te τ2 H3 (N1 τ2) else N2 τ2 H3)

section
variable {X : Cx} {tg iter elt : Expr} {ifs : List Expr} {scope : Scope} {pos : Pos} {wi : TI} {g : TG} {tc : TT} {te : TE} {tn cn : List Str} {ix : List Nat}

structure CompOk (X : Cx) (scope : Scope) (tn cn : List Str) (ix : List Nat) : Prop where
  kind : scope.kind = .function
  nocell : ∀ y ∈ scope.names, y.2 ≠ .cell
  free : ∀ y ∈ scope.names, y.2 = .free → X.env.scope.names.lookup y.1 = some .cell ∨ X.env.scope.names.lookup y.1 = some .free
  names : ∀ y ∈ scope.names, y.2 = .local → scope.names.lookup y.1 = some .local
  len : ix.length = cn.length
  cap : ∀ (k j : Nat), ix[k]? = some j → ∃ y, cn[k]? = some y ∧ X.N[j]? = some y ∧ (X.env.scope.names.lookup y = some .cell ∨ X.env.scope.names.lookup y = some .free) ∧ (y, NameKind.free) ∈ scope.names ∧
    ((relabel scope X.env).names.lookup y = some .cell ∨ (relabel scope X.env).names.lookup y = some .free)
  all : ∀ x, (relabel scope X.env).names.lookup x = some .cell ∨ (relabel scope X.env).names.lookup x = some .free → (x, NameKind.free) ∈ scope.names

theorem comp_cxOk {pins : List (Addr × Obj)} {σ : St} {H : Hp} {s : Shared} {fp : List Addr} {C : Addr} (O : CompOk X scope tn cn ix) (I : Inv X pins σ H s) (hf : ∀ b ∈ fp, FpOk X pins H b) (hfs : ∀ b ∈ fp, b < s.heap.objs.size) (hC : s.heap.objs.size ≤ C) :
    (cxComp X scope C (tn ++ cn) fp s H).Ok := by
  have hcl : ∀ y ∈ scope.names, y.2 = .free → ∃ c, X.env.cells.lookup y.1 = some c := fun y hy hk => I.ok.has y.1 (O.free y hy hk)
  have sub : ∀ x c, (clOf X.env scope.names []).lookup x = some c → X.env.cells.lookup x = some c := fun x c e => clOf_sub hcl (fun y d h => by simp at h) e
  refine ⟨I.ok.mod, O.kind, I.ok.glob, I.ok.blt, hC, fun x y c h1 h2 => I.ok.inj x y c (sub x c h1) (sub y c h2), fun x hx => clOf_some (.inl (O.all x hx)), (fun x c h _ => nomatch h), I.ok.hd, I.ok.frames, .inl rfl, fun b hb => ⟨?_, fun x c e => ?_⟩,
    I.bs, Nat.le_trans I.ok.bsz I.sz, fun b o e hb => ?_, fun b hb => ?_, I.stack, I.stkFree⟩
  · exact Nat.ne_of_lt (Nat.lt_of_lt_of_le (hfs b hb) hC)
  · exact (hf b hb).2.2.2.2.1 x c (sub x c e)
  · rcases (hf b hb).2.2.2.1 with z | z
    · exact I.ok.noex b o e z
    · exact absurd (Nat.lt_of_lt_of_le (Heap.lt_size e) (Nat.le_trans I.ok.bsz z)) (Nat.lt_irrefl _)
  · intro hz
    rcases List.mem_cons.mp (I.stkSub b hz) with e | e
    · exact (hf b hb).2.1 e
    · exact (hf b hb).2.2.1 e

theorem comp_gen {pos1 : Pos} {use : Option (Value → Sem Unit)} {P : Value → Shared → Prop} (hc : X.calm = true) (hi : PI X tg iter wi) (O : CompOk X scope tn cn ix)
    (hg : ∀ C fp s₃ H₃, PG (cxComp X scope C (tn ++ cn) fp s₃ H₃) tg g) (hcs : ∀ C fp s₃ H₃, PTs (cxComp X scope C (tn ++ cn) fp s₃ H₃) ifs tc) (he : ∀ C fp s₃ H₃, PE (cxComp X scope C (tn ++ cn) fp s₃ H₃) elt te)
    (hs : ∀ x, foldedSetIterable iter X.env x = pure x) {pins : List (Addr × Obj)} {s : Shared} {σ : St} {H : Hp} {Q : V → Hp → Prop} (I : Inv X pins σ H s) (h : tComp wi g tc te tn.length ix σ H Q)
    (fin : ∀ (C D : Addr) (m : Str → Option Value) (H5 : Hp) (s6 : Shared) (r : Flow), Inv X pins σ H5 s6 → s6.heap.Ns C m → H5 C = none → FpOk X pins H5 C → Q (.ref D) H5 → compPost (model X.prog X.w) X.A X.xe use P (.ref D) C (.ok r) s6) :
    wpAny (model X.prog X.w) X.A (comprehension (.ListComp elt [⟨tg, iter, ifs, 0⟩] scope pos) scope X.env pos1 (newList []) false (eval iter X.env) use) P X.xe s := by
  have hcl : ∀ y ∈ scope.names, y.2 = .free → ∃ c, X.env.cells.lookup y.1 = some c := fun y hy hk => I.ok.has y.1 (O.free y hy hk)
  have sub : ∀ x c, (clOf X.env scope.names []).lookup x = some c → X.env.cells.lookup x = some c := fun x c e => clOf_sub hcl (fun y d h => by simp at h) e
  refine wpAny_comprehension_free (use := use) rfl hs (closureFor_cl hcl) O.kind O.names (thn (hi pins s σ H _ I h) fun v s1 h1 => thn h1 fun itv s2 h2 => ?_)
  obtain ⟨it, fp, tnn, J, H2, e, I2, T, st2, f2, h2⟩ := h2
  subst e
  obtain ⟨W, ⟨m0, w0⟩, turn⟩ := h2 s2.heap.objs.size (I2.hok.fresh (Nat.le_refl _))
  refine wpAny_newObj_type ?_
  have I3 : Inv X pins σ (upd H2 s2.heap.objs.size (.lst [])) { s2 with heap := s2.heap.push { cls := .type "list", data := .seq ([] : List Value).toArray } } := I2.lnew (its := []) (t' := s2.toks) .nil (Nat.zero_le _)
  generalize hD : s2.heap.objs.size = D at *
  generalize hs3 : ({ s2 with heap := s2.heap.push { cls := .type "list", data := .seq ([] : List Value).toArray } } : Shared) = s3 at *
  have k23 : ∀ b o, s2.heap.get? b = some o → s3.heap.get? b = some o := fun b o e => by rw [← hs3]; exact Heap.get?_push_of_some _ e
  have sz3 : s3.heap.objs.size = D + 1 := by rw [← hs3, ← hD]; exact Heap.size_push ..
  have f3 : ∀ b ∈ fp, FpOk X pins (upd H2 D (.lst [])) b := fun b hb => by
    obtain ⟨f0, fr⟩ := f2 b hb
    obtain ⟨o, ho, _⟩ := T.obj _ _ st2 b hb
    refine ⟨?_, fr⟩
    rw [upd_ne (Nat.ne_of_lt (by rw [← hD]; exact Heap.lt_size ho))]
    exact f0
  have st3 : tnn 0 s3.heap := T.keep _ _ _ st2 fun b hb o e => k23 b o e
  have lt3 : ∀ b ∈ fp, b < s3.heap.objs.size := fun b hb => by
    obtain ⟨o, ho, _⟩ := T.obj _ _ st3 b hb
    exact Heap.lt_size ho
  refine wpAny_newFunctionEnv O.nocell (by intro y hy; simp at hy) (fun h₁ hns₁ hsb₁ => ?_) O.kind
  have k34 : ∀ b o, s3.heap.get? b = some o → h₁.get? b = some o := fun b o e => hsb₁.extBut b o (Nat.ne_of_lt (Heap.lt_size e)) (Heap.get?_push_of_some _ e)
  -- the block's context
  have ok' := comp_cxOk (C := s3.heap.objs.size) O I3 f3 lt3 (Nat.le_refl _)
  have I4 : Inv (cxComp X scope s3.heap.objs.size (tn ++ cn) fp s3 (upd H2 D (.lst []))) [] (compσ tn.length ix σ) (upd H2 D (.lst [])) { s3 with heap := h₁, toks := s3.toks + ([] : List (Str × Value)).length } := by
    refine ⟨ok', rfl, I3.bare, Un.kept k34, ⟨_, hns₁, fun i x v e1 e2 e3 => ?_⟩, fun x c e => ?_, I3.hok.fresh (Nat.le_refl _), fun x c e => I3.freeC x c (sub x c e), fun p hp => absurd hp (by simp [cxComp]), I3.hok.kept k34, ?_⟩
    · have hi' : tn.length ≤ i := by
        by_cases q : i < tn.length
        · unfold compσ at e2
          rw [List.getElem?_append_left (by simpa using q), List.getElem?_replicate] at e2
          simp [q] at e2
        · omega
      unfold compσ at e2
      rw [List.getElem?_append_right (by simpa using hi'), List.length_replicate, List.getElem?_map] at e2
      have e1 : (tn ++ cn)[i]? = some x := e1
      rw [List.getElem?_append_right hi'] at e1
      cases q : ix[i - tn.length]? with
      | none => rw [q] at e2; cases e2
      | some j =>
        rw [q] at e2
        obtain ⟨y, c1, c2, c3, c4, c5⟩ := O.cap _ _ q
        rw [c1] at e1; cases e1
        have e2 : σ[j]?.join = some v := Option.some.inj e2
        have ej : σ[j]? = some (some v) := by
          cases z : σ[j]? with
          | none => rw [z] at e2; cases e2
          | some o => rw [z] at e2; exact congrArg some e2
        obtain ⟨m, hn, hl⟩ := I3.loc
        obtain ⟨u, r, l⟩ := hl j x v c2 ej (c3.elim (fun z => .inr (.inl z)) fun z => .inr (.inr z))
        refine ⟨u, r, .inr ⟨c5, ?_⟩⟩
        rcases l with ⟨hk, _⟩ | ⟨hk, c, hcc, hce⟩
        · have hk : X.env.scope.names.lookup x = some .local := hk
          rcases c3 with z | z
          · rw [z] at hk; cases hk
          · rw [z] at hk; cases hk
        · obtain ⟨c', hc'⟩ := clOf_some (env := X.env) (cs := []) (Or.inl c4)
          have := sub x c' hc'
          rw [hcc] at this; cases this
          obtain ⟨o, ho, hd⟩ := hce
          exact ⟨c, hc', o, k34 _ _ ho, hd⟩
    · obtain ⟨v, o, ho, hd⟩ := I3.cell x c (sub x c e)
      exact ⟨v, o, k34 _ _ ho, hd⟩
    · show (compσ tn.length ix σ).length = (tn ++ cn).length
      unfold compσ
      simp [O.len]
  -- from the block back to the body
  have back : ∀ {τ : St} {H' : Hp} {s' : Shared}, Inv (cxComp X scope s3.heap.objs.size (tn ++ cn) fp s3 (upd H2 D (.lst []))) [] τ H' s' → Inv X pins σ H' s' := fun {τ H' s'} I' =>
    Inv.call' (ch := fp) I3 I'.os I'.base I'.hok I'.bare fun b hb => by
      obtain ⟨_, f1, _, f3', f4, f5⟩ := f3 b hb
      exact ⟨f3', f1, f4, f5⟩
  have fpC : ∀ {H' : Hp}, (∀ b ∈ fp, H' b = none) → ∀ b ∈ fp, FpOk (cxComp X scope s3.heap.objs.size (tn ++ cn) fp s3 (upd H2 D (.lst []))) [] H' b := fun hn b hb =>
    ⟨hn b hb, (ok'.exf b hb).1, ok'.exfs b hb, .inl hb, (ok'.exf b hb).2, fun p hp => absurd hp (by simp [cxComp])⟩
  have loop : ∀ s4 : Shared, Inv (cxComp X scope s3.heap.objs.size (tn ++ cn) fp s3 (upd H2 D (.lst []))) [] (compσ tn.length ix σ) (upd H2 D (.lst [])) s4 → tnn 0 s4.heap →
      codeAny (model X.prog X.w) X.A (.compLoop (.ListComp elt [⟨tg, iter, ifs, 0⟩] scope pos) 0 (.ref it) (.ref D) (compEnvC scope (clOf X.env scope.names []) s3.heap.objs.size X.env))
        (compPost (model X.prog X.w) X.A X.xe use P (.ref D) s3.heap.objs.size) s4 := by
    intro s4 I4 st4
    refine codeAny_compLoop_all (fun n s' => ∃ i τ H', Inv (cxComp X scope s3.heap.objs.size (tn ++ cn) fp s3 (upd H2 D (.lst []))) [] τ H' s' ∧ tnn i s'.heap ∧ (∀ b ∈ fp, H' b = none) ∧ W i n τ H') (fun _ _ => False) ?_ (fun _ _ z => z.elim) m0
      ⟨0, _, _, I4, st4, fun b hb => (f3 b hb).1, w0⟩
    rintro n s5 ⟨i, τ, H5, I5, st5, fr5, w5⟩
    rcases turn i n τ H5 w5 with ⟨stop, qn⟩ | ⟨go, N1, N2, hN1, hN2, step⟩
    · refine thn (T.done (cxComp X scope s3.heap.objs.size (tn ++ cn) fp s3 (upd H2 D (.lst []))) rfl rfl rfl hc i [] s5 τ H5 (fun _ _ => False) I5 (fpC fr5) st5 stop) fun r s6 ⟨hr, I6⟩ => ?_
      subst hr
      have J6 := back I6
      obtain ⟨m, hn, _⟩ := I6.loc
      exact fin _ D m H5 s6 _ J6 hn I6.free (I3.fpOk (b := s3.heap.objs.size) (H' := H5) (Nat.le_refl _) I6.free) qn
    · refine thn (T.item (cxComp X scope s3.heap.objs.size (tn ++ cn) fp s3 (upd H2 D (.lst []))) rfl rfl rfl hc i [] s5 τ H5 (fun _ _ => False) I5 (fpC fr5) st5 go) fun r s6 ⟨u, hr, h6⟩ => ?_
      subst hr
      refine thn h6 fun _ s7 ⟨x, H7, I7, r7, y7, st7, fr7⟩ => ?_
      have I7' := I7.pinned (fpC fr7) (T.obj _ _ st7)
      refine thn (hg _ _ _ _ _ s7 τ H7 x u _ I7' r7 (step x H7 y7)) fun _ s8 ⟨τ8, H8, I8, q8⟩ => ?_
      refine thn (hcs _ _ _ _ _ s8 τ8 H8 _ I8 q8) fun ok s9 ⟨H9, I9, q9⟩ => ?_
      have again : ∀ {s' : Shared} {H' : Hp} {m' : Nat}, Inv (cxComp X scope s3.heap.objs.size (tn ++ cn) fp s3 (upd H2 D (.lst []))) ([] ++ pinsAt fp s7.heap) τ8 H' s' → m' < n → W (i + 1) m' τ8 H' →
          ∃ m, m < n ∧ ∃ i τ H', Inv (cxComp X scope s3.heap.objs.size (tn ++ cn) fp s3 (upd H2 D (.lst []))) [] τ H' s' ∧ tnn i s'.heap ∧ (∀ b ∈ fp, H' b = none) ∧ W i m τ H' := fun {s' H' m'} J hm w' => by
        refine ⟨m', hm, i + 1, τ8, H', J.unpinned, T.keep _ _ _ st7 fun b hb o e => (J.pin (b, o) (List.mem_append_right _ (List.mem_append_right _ (mem_pinsAt hb e)))).1, fun b hb => ?_, w'⟩
        obtain ⟨o, e, d⟩ := T.obj _ _ st7 b hb
        exact (J.pin (b, o) (List.mem_append_right _ (List.mem_append_right _ (mem_pinsAt hb e)))).2.1
      cases ok with
      | false =>
        rw [if_neg Bool.false_ne_true] at q9 ⊢
        obtain ⟨m', hm, w'⟩ := hN2 _ _ q9
        exact again I9 hm w'
      | true =>
        rw [if_pos rfl] at q9 ⊢
        refine thn (he _ _ _ _ _ s9 τ8 H9 _ I9 q9) fun x9 s10 ⟨v10, H10, I10, r10, q10⟩ => ?_
        obtain ⟨ys, m', hH, hz, hm, w'⟩ := hN1 _ _ _ q10
        refine thn (mt_append _ s10 τ8 H10 (.ref D) [v10] (.ref D) [x9] (fun _ H' => H' = upd H10 D (.lst (ys ++ [v10]))) I10 rfl (.cons r10 .nil) ⟨D, ys, v10, rfl, rfl, hH, hz, rfl⟩) fun _ s11 ⟨_, H11, I11, _, q11⟩ => ?_
        subst q11
        exact again I11 hm w'
  exact codeAny_compStart_list (loop _ I4 (T.keep _ _ _ st3 fun b hb o e => k34 b o e)) (T.self _ 0 _ _ _ (T.keep _ _ _ st3 fun b hb o e => k34 b o e) (loop _ I4 (T.keep _ _ _ st3 fun b hb o e => k34 b o e)))
theorem pe_comp (hc : X.calm = true) (hi : PI X tg iter wi) (O : CompOk X scope tn cn ix)
    (hg : ∀ C fp s₃ H₃, PG (cxComp X scope C (tn ++ cn) fp s₃ H₃) tg g) (hcs : ∀ C fp s₃ H₃, PTs (cxComp X scope C (tn ++ cn) fp s₃ H₃) ifs tc) (he : ∀ C fp s₃ H₃, PE (cxComp X scope C (tn ++ cn) fp s₃ H₃) elt te)
    (hs : ∀ x, foldedSetIterable iter X.env x = pure x := by intro _; rfl) : PE X (.ListComp elt [⟨tg, iter, ifs, 0⟩] scope pos) (tComp wi g tc te tn.length ix) := by
  intro pins s σ H Q I h
  rw [eval_ListComp]
  refine comp_gen (use := none) (P := EP X pins σ Q) hc hi O hg hcs he hs I h fun C D m H5 s6 r J6 hn hf ⟨_, g1, _, g3, g4, g5⟩ qn => ⟨m, hn, fun h' hsb => ⟨.ref D, H5, ?_, rfl, qn⟩⟩
  exact J6.turned (t' := s6.toks) (fun b o hb e => hsb.extBut b o hb e) hf g1 g3 g4 g5
end
end L2

set_option Elab.async false
set_option linter.all false
set_option maxRecDepth 100000
set_option maxHeartbeats 4000000

namespace L2
open PySem PySem.Spec PyProof.Rows
section
variable {X : Cx} {tg iter elt : Expr} {ifs : List Expr} {scope : Scope} {pos : Pos} {wi : TI} {g : TG} {tc : TT} {te : TE} {tn cn : List Str} {ix : List Nat}
theorem ps_setComp {i : Nat} {x : Str} {pos' spos : Pos} (hN : X.N.Nodup) (hi0 : X.N[i]? = some x) (hx : Loc X.env.scope x) (hc : X.calm = true) (hi : PI X tg iter wi) (O : CompOk X scope tn cn ix)
    (hg : ∀ C fp s₃ H₃, PG (cxComp X scope C (tn ++ cn) fp s₃ H₃) tg g) (hcs : ∀ C fp s₃ H₃, PTs (cxComp X scope C (tn ++ cn) fp s₃ H₃) ifs tc) (he : ∀ C fp s₃ H₃, PE (cxComp X scope C (tn ++ cn) fp s₃ H₃) elt te)
    (hsw : swapsWith (.ListComp elt [⟨tg, iter, ifs, 0⟩] scope pos) (some (.Name x pos')) spos.line X.env = pure true)
    (hs : ∀ x, foldedSetIterable iter X.env x = pure x := by intro _; rfl) (hf : X.fn x = true ∨ X.env.scope.names.lookup x = some .local := by first | exact .inl rfl | exact .inr rfl | assumption) :
    PS X (.Assign [.Name x pos'] (.ListComp elt [⟨tg, iter, ifs, 0⟩] scope pos) spos) (tAsg (tComp wi g tc te tn.length ix) (gName i)) := by
  intro pins s σ H D0 I h
  rw [exec_Assign_Name_used _ _ _ _ hsw]
  refine wpAny_bind (wpAny_standAt (wpAny_bind ?_))
  show wpAny _ _ (do let _ ← comprehension (.ListComp elt [⟨tg, iter, ifs, 0⟩] scope pos) scope X.env _ (newList []) false (eval iter X.env) (some (assign (.Name x pos') X.env))) _ _ s
  refine wpAny_bind (wpAny_mono (comp_gen (use := some (assign (.Name x pos') X.env)) (P := fun _ s' => SP X pins D0 .next s') hc hi O hg hcs he hs I h fun C D m H5 s6 r J6 hn hfr ⟨_, g1, _, g3, g4, g5⟩ qn => ?_) (fun _ s' hq => wpAny_pure (wpAny_pure hq)) fun _ _ e => e)
  refine (show wpAny _ _ (assign (.Name x pos') X.env (.ref D)) _ _ s6 from wpAny_assign_Name (store_ok2 J6 hN hi0 hx (v := .ref D) rfl (fun s7 I7 ⟨a, sb, ha⟩ => ?_) hf))
  have hCa : C ≠ a := by
    rcases ha with rfl | ha
    · exact g1
    · exact Ne.symm (g4 _ a ha)
  refine ⟨m, hn.sameBut sb hCa, fun h' hsb => ⟨_, H5, ?_, qn⟩⟩
  exact I7.turned (t' := s7.toks) (fun b o hb e => hsb.extBut b o hb e) hfr g1 g3 g4 g5
end
end L2

set_option Elab.async false
set_option linter.all false
set_option maxRecDepth 100000
set_option maxHeartbeats 4000000

namespace L2
open PySem PySem.Spec PyProof.Rows

def isiT (a b : String) : Bool := a == b || (a == "bool" && b == "int")
def okTy (b : String) : Bool := ["str", "int", "bool", "list", "tuple", "dict"].contains b
theorem kit_ok (K : PySem.W.Frag) (a b : String) (ha : a ∈ ["NoneType", "bool", "int", "str", "list", "tuple", "dict"]) (hb : b ∈ ["str", "int", "bool", "list", "tuple", "dict"]) : PySem.W.kitOne K (.type a) (.type b) = some (isiT a b) := by
  simp only [List.mem_cons, List.not_mem_nil, or_false] at ha hb
  rcases ha with rfl | rfl | rfl | rfl | rfl | rfl | rfl <;> rcases hb with rfl | rfl | rfl | rfl | rfl | rfl <;> kernel_rfl
section
variable {X : Cx}
theorem OpR.imp {f : Value → Value → Sem Value} {r r' : R2} (h : OpR X f r) (hi : ∀ x y H Q, r' x y H Q → r x y H Q) : OpR X f r' :=
  fun pins s σ H x y v u Q I rx ry q => h pins s σ H x y v u Q I rx ry (hi x y H Q q)
def rCatL (K : PySem.W.Frag) : R2 := fun x y H Q => ∃ l b xs zs, x = .ref l ∧ y = .ref b ∧ SqL K H l xs ∧ SqL K H b zs ∧ xs.length + zs.length ≤ sizeLine ∧ ∀ p, H p = none → Q (.ref p) (upd H p (.lst (xs ++ zs)))
theorem op_catL : OpR X (binaryOp .Add) (rCatL X.K) := by
  intro pins s σ H x y v u Q I rx ry h
  obtain ⟨l, b, xs, zs, rfl, rfl, hH, hB, hz, q⟩ := h
  cases rx
  cases ry
  obtain ⟨its, r, pl, z⟩ := I.list hH
  obtain ⟨its2, r2, pl2, z2⟩ := I.list hB
  have hl := r.length
  have hl2 := r2.length
  obtain ⟨⟨cls, dd, data, sl⟩, ho, hc, n, hd⟩ := id pl.isList
  obtain ⟨⟨cls2, dd2, data2, sl2⟩, ho2, hc2, n2, hd2⟩ := id pl2.isList
  simp only at hc hd hc2 hd2
  subst hc hd hc2 hd2
  have ea : its.toArray ++ its2.toArray = (its ++ its2).toArray := by simp
  refine concat_meets ⟨_, ho, rfl⟩ ⟨_, ho2, rfl⟩ noFill_list_add seq_list_add PySem.F.slot_list_add PySem.F.entry_list_add (PySem.F.args_list_add_2 _ _) (list_addW l b its.toArray its2.toArray n n2 dd dd2 sl sl2 (by simp only [List.size_toArray]; omega)) ⟨ho, ho2, ?_⟩
  rw [ea]
  exact ⟨.ref _, _, I.lnew (t' := s.toks) (r.append r2) (by rw [List.length_append]; omega), rfl, q _ I.fresh⟩
def rAddU (K : PySem.W.Frag) : R2 := fun x y H Q => match x, y with
  | .int i, .int j => Q (.int (i + j)) H
  | .str i, .str j => i.length + j.length ≤ sizeLine ∧ Q (.str (i ++ j)) H
  | .ref a, .ref b => ∃ xs zs, SqL K H a xs ∧ SqL K H b zs ∧ xs.length + zs.length ≤ sizeLine ∧ ∀ p, H p = none → Q (.ref p) (upd H p (.lst (xs ++ zs)))
  | _, _ => False
theorem op_addU : OpR X (binaryOp .Add) (rAddU X.K) := by
  refine (op_add.or (op_add_str.or op_catL)).imp fun x y H Q h => ?_
  unfold rAddU at h
  split at h
  · exact .inl ⟨_, _, rfl, rfl, h⟩
  · exact .inr (.inl ⟨_, _, rfl, rfl, h.1, h.2⟩)
  · obtain ⟨xs, zs, h1, h2, h3, h4⟩ := h
    exact .inr (.inr ⟨_, _, xs, zs, rfl, rfl, h1, h2, h3, h4⟩)
  · exact h.elim
def rMulU : R2 := fun x y H Q => match x, y with
  | .int i, .int j => CMul i j ∧ Q (.int (i * j)) H
  | _, _ => False
theorem op_mulU : OpR X (binaryOp .Mult) rMulU := op_mul.imp fun x y H Q h => by
  unfold rMulU at h
  split at h
  · exact ⟨_, _, rfl, rfl, h.1, h.2⟩
  · exact h.elim
def rDivU : R2 := fun x y H Q => match x, y with
  | .int i, .int j => (0 < j ∧ j < 1073741824) ∧ Q (.int (i / j)) H
  | _, _ => False
theorem op_divU : OpR X (binaryOp .FloorDiv) rDivU := op_fdiv.imp fun x y H Q h => by
  unfold rDivU at h
  split at h
  · exact ⟨_, _, rfl, rfl, h.1, h.2⟩
  · exact h.elim
def rModU : R2 := fun x y H Q => match x, y with
  | .int i, .int j => 0 < j ∧ Q (.int (i % j)) H
  | _, _ => False
theorem op_modU : OpR X (binaryOp .Mod) rModU := op_mod.imp fun x y H Q h => by
  unfold rModU at h
  split at h
  · exact ⟨_, _, rfl, rfl, h.1, h.2⟩
  · exact h.elim
def ltS (x y : Str) : Bool := decide (x.cps.toList < y.cps.toList)
def rLtU : R2 := fun x y H Q => match x, y with
  | .int i, .int j => Q (.bl (decide (i < j))) H
  | .str i, .str j => Q (.bl (ltS i j)) H
  | _, _ => False
theorem op_ltU : OpR X (compareOp .Lt) rLtU := (op_lt.or op_lt_str).imp fun x y H Q h => by
  unfold rLtU at h
  split at h
  · exact .inl ⟨_, _, rfl, rfl, h⟩
  · exact .inr ⟨_, _, rfl, rfl, h⟩
  · exact h.elim
def rGeU : R2 := fun x y H Q => match x, y with
  | .int i, .int j => Q (.bl (decide (j ≤ i))) H
  | _, _ => False
theorem op_geU : OpR X (compareOp .GtE) rGeU := op_ge.imp fun x y H Q h => by
  unfold rGeU at h
  split at h
  · exact ⟨_, _, rfl, rfl, h⟩
  · exact h.elim

def rLen (K : PySem.W.Frag) : List V → Hp → VK → Prop := fun xs H Q => match xs with
  | [.str y] => y.length ≤ sizeLine ∧ Q (.int y.length) H
  | [.ref p] => (∃ ys, SqL K H p ys ∧ Q (.int ys.length) H) ∨ (∃ ys, SqT K H p ys ∧ Q (.int ys.length) H) ∨ ∃ kvs, H p = some (.dK kvs) ∧ Q (.int kvs.length) H
  | _ => False
theorem call_lenU : CallR X (.builtin "len") (rLen X.K) := by
  intro pins s σ H xs us Q I r h
  unfold rLen at h
  split at h
  · exact call_len pins s σ H _ us Q I r ⟨_, _, rfl, ⟨h.1, rfl⟩, h.2⟩
  · rcases h with ⟨ys, h1, h2⟩ | ⟨ys, h1, h2⟩ | ⟨kvs, h1, h2⟩
    · exact call_len pins s σ H _ us Q I r ⟨_, _, rfl, .inl ⟨ys, h1, rfl⟩, h2⟩
    · exact call_len pins s σ H _ us Q I r ⟨_, _, rfl, .inr ⟨ys, h1, rfl⟩, h2⟩
    · exact call_lenD pins s σ H _ us Q I r ⟨_, kvs, rfl, h1, h2⟩
  · exact h.elim

def rIxU (K : PySem.W.Frag) : R2 := fun x y H Q => match x, y with
  | .ref p, .int i => (∃ xs v, SqL K H p xs ∧ atI xs i = some v ∧ Q v H) ∨ ∃ xs v, SqT K H p xs ∧ atI xs i = some v ∧ Q v H
  | .str z, .int i => z.length ≤ sizeLine ∧ ∃ c, atI z.cps.toList i = some c ∧ Q (.str ⟨#[c]⟩) H
  | _, _ => False
theorem ix_all : IxR X (rIxU X.K) := by
  intro value slice pins s σ H x y v u Q I rx ry h hs
  refine ix_seq value slice pins s σ H x y v u Q I rx ry ?_ hs
  unfold rIxU at h
  split at h
  · rcases h with ⟨xs, w, h1, h2, h3⟩ | ⟨xs, w, h1, h2, h3⟩
    · exact .inl ⟨_, xs, _, w, rfl, rfl, h1, h2, h3⟩
    · exact .inr (.inl ⟨_, xs, _, w, rfl, rfl, h1, h2, h3⟩)
  · obtain ⟨h1, c, h2, h3⟩ := h
    exact .inr (.inr ⟨_, _, c, rfl, rfl, h1, h2, h3⟩)
  · exact h.elim

def cutS (z : Str) (lo hi : Option Int) : Str := ⟨((z.cps.toList.drop (HT.sIx z.length 0 lo)).take (HT.sIx z.length z.length hi - HT.sIx z.length 0 lo)).toArray⟩
end
end L2

namespace L2
open PySem PySem.Spec PyProof.Rows
theorem cut_whole (l : List Nat) (lo hi : Option Int) (h : ((l.drop (HT.sIx l.length 0 lo)).take (HT.sIx l.length l.length hi - HT.sIx l.length 0 lo)).length = l.length) :
    (l.drop (HT.sIx l.length 0 lo)).take (HT.sIx l.length l.length hi - HT.sIx l.length 0 lo) = l := by
  generalize HT.sIx l.length 0 lo = a at *
  generalize HT.sIx l.length l.length hi = b at *
  by_cases hl : l.length = 0
  · have : l = [] := List.length_eq_zero_iff.mp hl
    subst this; simp
  · rw [List.length_take, List.length_drop] at h
    have h1 : a = 0 := by omega
    subst h1
    rw [List.drop_zero]
    exact List.take_of_length_le (by omega)
theorem slice_idx (lo hi : Option Int) (n : Nat) : Builtin.Str.strSliceIndices lo hi 1 n = (List.range (HT.sIx n n hi - HT.sIx n 0 lo)).map (HT.sIx n 0 lo + ·) := by
  unfold Builtin.Str.strSliceIndices
  have e1 : (match lo with | none => (0 : Int) | some i => max 0 (min (if i < 0 then i + n else i) n)) = ((HT.sIx n 0 lo : Nat) : Int) := by
    cases lo with
    | none => simp [HT.sIx]
    | some i =>
      simp only [HT.sIx]
      by_cases h : i < 0
      · simp only [h, if_true] <;> omega
      · simp only [h, if_false] <;> omega
  have e2 : (match hi with | none => (n : Int) | some i => max 0 (min (if i < 0 then i + n else i) n)) = ((HT.sIx n n hi : Nat) : Int) := by
    cases hi with
    | none => simp [HT.sIx]
    | some i =>
      simp only [HT.sIx]
      by_cases h : i < 0
      · simp only [h, if_true] <;> omega
      · simp only [h, if_false] <;> omega
  rw [← sliceRange_one, ← e1, ← e2]
  simp only [show (1 : Int) > 0 by decide, if_true]
  cases lo <;> cases hi <;> rfl
section
variable {X : Cx}
theorem part_of {v : Value} {o : Option Int} (h : IsPart v o) : ∃ p : Option (Int × Tok), v = partValue p ∧ p.map (·.1) = o := by
  cases h with
  | none => exact ⟨none, rfl, rfl⟩
  | int i t => exact ⟨some (i, t), rfl, rfl⟩
def rSlS (K : PySem.W.Frag) : V → Option Int → Option Int → Hp → VK → Prop := fun x lo hi H Q => match x with
  | .str z => z.length ≤ sizeLine ∧ Q (.str (cutS z lo hi)) H
  | .ref a => ∃ xs, SqL K H a xs ∧ ∀ p, H p = none → Q (.ref p) (upd H p (.lst (cutV xs lo hi)))
  | _ => False
theorem sl_str : SlR X (fun x lo hi H Q => ∃ z, x = .str z ∧ z.length ≤ sizeLine ∧ Q (.str (cutS z lo hi)) H) := by
  intro pins s σ H x v vl vu lo hi sl Q I rx hs pl pu h
  obtain ⟨z, rfl, hz, q⟩ := h
  obtain ⟨t, rfl⟩ := rx
  obtain ⟨p1, rfl, e1⟩ := part_of pl
  obtain ⟨p2, rfl, e2⟩ := part_of pu
  refine ⟨"str", _, F.slot_str_getitem.lookup, typeIs_str s z t, wpAny_getItem_str_slice (l := p1) (u := p2) (st := none) hs rfl ?_⟩
  have hl : z.cps.toList.length = z.length := by simp [Str.length]
  have ep : slicePicked z p1 p2 none = (List.range (HT.sIx z.length z.length hi - HT.sIx z.length 0 lo)).map (HT.sIx z.length 0 lo + ·) := by
    unfold slicePicked
    rw [e1, e2]
    exact slice_idx lo hi z.length
  have ef : (slicePicked z p1 p2 none).filterMap (z.cps[·]?) = (z.cps.toList.drop (HT.sIx z.length 0 lo)).take (HT.sIx z.length z.length hi - HT.sIx z.length 0 lo) := by
    rw [ep]; exact pick_run z.cps _ _
  unfold sliceMade
  split
  · rename_i hc
    have hw : (slicePicked z p1 p2 none).length = z.length := by simpa using hc
    have : cutS z lo hi = z := by
      unfold cutS
      have e3 : ((z.cps.toList.drop (HT.sIx z.cps.toList.length 0 lo)).take (HT.sIx z.cps.toList.length z.cps.toList.length hi - HT.sIx z.cps.toList.length 0 lo)).length = z.cps.toList.length := by
        rw [hl, List.length_take, List.length_drop, hl]
        rw [ep, List.length_map, List.length_range] at hw
        have h0 : HT.sIx z.length 0 lo ≤ z.length := by
          cases lo with
          | none => simp [HT.sIx]
          | some i => simp only [HT.sIx]; split <;> omega
        have h1 : HT.sIx z.length z.length hi ≤ z.length := by
          cases hi with
          | none => simp [HT.sIx]
          | some i => simp only [HT.sIx]; split <;> omega
        omega
      have := cut_whole z.cps.toList lo hi e3
      rw [hl] at this
      rw [this]
    rw [this] at q
    exact ⟨.str z, H, I, ⟨t, rfl⟩, q⟩
  · rw [ef]
    exact ⟨by
      show (cutS z lo hi).length ≤ sizeLine
      unfold cutS Str.length
      simp only [List.size_toArray, List.length_take, List.length_drop, hl]
      have : z.cps.toList.length = z.length := hl
      omega, ⟨.str (cutS z lo hi), H, I.tok _, ⟨_, rfl⟩, q⟩⟩
theorem sl_all : SlR X (rSlS X.K) := by
  intro pins s σ H x v vl vu lo hi sl Q I rx hs pl pu h
  unfold rSlS at h
  split at h
  · exact sl_str pins s σ H _ v vl vu lo hi sl Q I rx hs pl pu ⟨_, rfl, h.1, h.2⟩
  · obtain ⟨xs, h1, h2⟩ := h
    exact sl_list pins s σ H _ v vl vu lo hi sl Q I rx hs pl pu ⟨_, xs, rfl, h1, h2⟩
  · exact h.elim

end
end L2

set_option Elab.async false
set_option linter.all false
set_option maxRecDepth 100000
set_option maxHeartbeats 4000000

namespace L2
open PySem PySem.Spec PyProof.Rows

structure SeqIt (J : It) (its : List V) (cond : Hp → Prop) : Prop where
  go : ∀ i H, cond H → i < its.length → J.go i H
  yld : ∀ i H x H', cond H → i < its.length → J.yld i H x H' → H' = H ∧ its[i]? = some x
  stop : ∀ H, cond H → J.stop its.length H
theorem seq_list (K : PySem.W.Frag) (a : Addr) (xs : List V) : SeqIt (Itl K a) xs (fun H => SqL K H a xs) where
  go := fun i H h hi => ⟨xs, xs[i], h, by simp [hi]⟩
  yld := fun i H x H' h _ y => ⟨y.1, y.2 xs h⟩
  stop := fun H h => ⟨xs, h, Nat.le_refl _⟩
def intsR (lo : Int) (n : Nat) : List V := (List.range n).map fun i => .int (lo + (i : Nat))
theorem seq_rng (lo : Int) (n : Nat) : SeqIt (Itr lo n) (intsR lo n) (fun _ => True) where
  go := fun i H _ h => by simpa [intsR, Itr] using h
  yld := fun i H x H' _ hi h => by
    have hi : i < n := by simpa [intsR] using hi
    obtain ⟨rfl, rfl⟩ := h
    refine ⟨rfl, ?_⟩
    simp [intsR, hi]
  stop := fun H _ => by simp [intsR, Itr]

def ForW (J : It) (g : TG) (tb : TS) (D : Ends) (σ : St) (H : Hp) : Prop :=
  ∃ W : Nat → Nat → St → Hp → Prop, (∃ m, W 0 m σ H) ∧ ∀ i m σ H, W i m σ H →
      (J.stop i H ∧ D.nx σ H) ∨ (J.go i H ∧ ∃ N : St → Hp → Prop, (∀ σ' H', N σ' H' → ∃ m', m' < m ∧ W (i + 1) m' σ' H') ∧ ∀ x H', J.yld i H x H' → g x σ H' fun σ2 H2 => tb { D with nx := N, ct := N, bk := D.nx } σ2 H2)
theorem tFor_eq (wi : TI) (g : TG) (tb : TS) (D : Ends) (σ : St) (H : Hp) : tFor wi g tb D σ H = wi σ H fun J H1 => ForW J g tb D σ H1 := rfl
def CompW (J : It) (g : TG) (tc : TT) (te : TE) (τ0 : St) (H1 : Hp) (D : Addr) (Q : VK) : Prop :=
  ∃ W : Nat → Nat → St → Hp → Prop, (∃ m, W 0 m τ0 (upd H1 D (.lst []))) ∧ ∀ i m τ H, W i m τ H →
    (J.stop i H ∧ Q (.ref D) H) ∨ (J.go i H ∧ ∃ (N1 : St → V → Hp → Prop) (N2 : St → Hp → Prop),
      (∀ τ2 v H4, N1 τ2 v H4 → ∃ ys m', H4 D = some (.lst ys) ∧ ys.length < sizeLine ∧ m' < m ∧ W (i + 1) m' τ2 (upd H4 D (.lst (ys ++ [v])))) ∧
      (∀ τ2 H3, N2 τ2 H3 → ∃ m', m' < m ∧ W (i + 1) m' τ2 H3) ∧
      ∀ x H', J.yld i H x H' → g x τ H' fun τ2 H2 => tc τ2 H2 fun b H3 => if b = true then te τ2 H3 (N1 τ2) else N2 τ2 H3)
theorem tComp_eq (wi : TI) (g : TG) (tc : TT) (te : TE) (tn : Nat) (ix : List Nat) (σ : St) (H : Hp) (Q : VK) : tComp wi g tc te tn ix σ H Q = wi σ H fun J H1 => ∀ D, H1 D = none → CompW J g tc te (compσ tn ix σ) H1 D Q := rfl
mutual
inductive Rep (K : PySem.W.Frag) (H : Hp) : PyData → V → Prop
  | none : Rep K H .none .non
  | bool (b : Bool) : Rep K H (.bool b) (.bl b)
  | int (i : Int) : Rep K H (.int i) (.int i)
  | str (x : Str) : Rep K H (.str x) (.str x)
  | list {a : Addr} {vs : List V} {ds : List PyData} : SqL K H a vs → Reps K H ds vs → Rep K H (.list ds) (.ref a)
  | tuple {a : Addr} {vs : List V} {ds : List PyData} : SqT K H a vs → Reps K H ds vs → Rep K H (.tuple ds) (.ref a)
inductive Reps (K : PySem.W.Frag) (H : Hp) : List PyData → List V → Prop
  | nil : Reps K H [] []
  | cons {d : PyData} {v : V} {ds : List PyData} {vs : List V} : Rep K H d v → Reps K H ds vs → Reps K H (d :: ds) (v :: vs)
end
section
variable {X : Cx} {pins : List (Addr × Obj)} {σ : St} {H : Hp} {s : Shared}
mutual
theorem Rep.reads (I : Inv X pins σ H s) : ∀ {d : PyData} {v : V} {u : Value}, Rep X.K H d v → RelV v u → ∃ as, Reads s.heap u d as
  | _, _, _, .none, r => by cases (show _ = Value.none from r); exact ⟨_, .none⟩
  | _, _, _, .bool b, r => by cases (show _ = Value.bool b from r); exact ⟨_, .bool b⟩
  | _, _, _, .int i, r => by obtain ⟨t, e⟩ := r; subst e; exact ⟨_, .int i t⟩
  | _, _, _, .str x, r => by obtain ⟨t, e⟩ := r; subst e; exact ⟨_, .str x t⟩
  | _, _, _, .list h hs, r => by
    cases r
    obtain ⟨its, rv, pl, _⟩ := I.list h
    obtain ⟨o, e, c, n, d⟩ := pl.isList
    obtain ⟨as, q⟩ := Reps.reads I hs rv
    exact ⟨_, .list e c d q⟩
  | _, _, _, .tuple h hs, r => by
    cases r
    obtain ⟨its, rv, ⟨o, e, c, n, d⟩, _⟩ := I.tuple h
    obtain ⟨as, q⟩ := Reps.reads I hs rv
    exact ⟨_, .tuple e c d q⟩
theorem Reps.reads (I : Inv X pins σ H s) : ∀ {ds : List PyData} {vs : List V} {us : List Value}, Reps X.K H ds vs → Vals vs us → ∃ as, ReadsAll s.heap us ds as
  | _, _, _, .nil, .nil => ⟨_, .nil⟩
  | _, _, _, .cons h hs, .cons r rs => by
    obtain ⟨as, q⟩ := Rep.reads I h r
    obtain ⟨bs, q'⟩ := Reps.reads I hs rs
    exact ⟨_, .cons q q'⟩
end
def rEqD (K : PySem.W.Frag) : R2 := fun x y H Q => ∃ d e, Rep K H d x ∧ Rep K H e y ∧ d.canLay0 = true ∧ e.canLay0 = true ∧ d.depth ≤ 60 ∧ Q (.bl (PyData.eqv d e)) H
def rNeD (K : PySem.W.Frag) : R2 := fun x y H Q => ∃ d e, Rep K H d x ∧ Rep K H e y ∧ d.canLay0 = true ∧ e.canLay0 = true ∧ d.depth ≤ 60 ∧ Q (.bl (!PyData.eqv d e)) H
theorem op_eqD (hu : X.A.units + 64 < cLine) : OpR X (compareOp .Eq) (rEqD X.K) := by
  intro pins s σ H x y v u Q I rx ry h
  obtain ⟨d, e, h1, h2, h3, h4, h5, q⟩ := h
  obtain ⟨as, r1⟩ := h1.reads I rx
  obtain ⟨bs, r2⟩ := h2.reads I ry
  exact PySem.SeqAt.rcAt_reads r1 r2 h3 h4 (by omega) X.prog X.w X.xe _ ⟨.bl _, H, I, rfl, q⟩
theorem op_neD (hu : X.A.units + 64 < cLine) : OpR X (compareOp .NotEq) (rNeD X.K) := by
  intro pins s σ H x y v u Q I rx ry h
  obtain ⟨d, e, h1, h2, h3, h4, h5, q⟩ := h
  obtain ⟨as, r1⟩ := h1.reads I rx
  obtain ⟨bs, r2⟩ := h2.reads I ry
  exact PySem.SeqAt.rcNeAt_reads r1 r2 h3 h4 (by omega) X.prog X.w X.xe _ ⟨.bl _, H, I, rfl, q⟩
def rEqU (K : PySem.W.Frag) : R2 := fun x y H Q => match x, y with
  | .int i, .int j => Q (.bl (decide (i = j))) H
  | .str i, .str j => Q (.bl (decide (i = j))) H
  | .bl i, .bl j => Q (.bl (decide (i = j))) H
  | _, _ => rEqD K x y H Q
theorem op_eqU (hu : X.A.units + 64 < cLine) : OpR X (compareOp .Eq) (rEqU X.K) := (op_eq.or (op_eqD hu)).imp fun x y H Q h => by
  unfold rEqU at h
  split at h
  · refine .inl ⟨rfl, ?_⟩; simpa using h
  · refine .inl ⟨rfl, ?_⟩; simpa using h
  · refine .inl ⟨rfl, ?_⟩; simpa using h
  · exact .inr h
def rNeU (K : PySem.W.Frag) : R2 := fun x y H Q => match x, y with
  | .int i, .int j => Q (.bl (!decide (i = j))) H
  | .str i, .str j => Q (.bl (!decide (i = j))) H
  | .bl i, .bl j => Q (.bl (!decide (i = j))) H
  | _, _ => rNeD K x y H Q
theorem op_neU (hu : X.A.units + 64 < cLine) : OpR X (compareOp .NotEq) (rNeU X.K) := (op_ne.or (op_neD hu)).imp fun x y H Q h => by
  unfold rNeU at h
  split at h
  · refine .inl ⟨rfl, ?_⟩; simpa using h
  · refine .inl ⟨rfl, ?_⟩; simpa using h
  · refine .inl ⟨rfl, ?_⟩; simpa using h
  · exact .inr h

end
end L2

set_option Elab.async false
set_option linter.all false
set_option maxRecDepth 100000
set_option maxHeartbeats 4000000

namespace L2
open PySem PySem.Spec PyProof.Rows
section
variable {X : Cx} {pins : List (Addr × Obj)} {σ : St} {H : Hp} {s : Shared} {h' : Heap}
theorem Inv.turnN {t' : Nat} {fp : List Addr} (I : Inv X pins σ H s) (hf : ∀ b ∈ fp, FpOk X pins H b) (k : ∀ b o, b ∉ fp → s.heap.get? b = some o → h'.get? b = some o) : Inv X pins σ H { s with heap := h', toks := t' } := by
  have nit : ∀ b u, H b = some u → b ∉ fp := fun b u e z => by rw [(hf b z).1] at e; cases e
  refine I.step (g' := s.gens) (d' := s.drawn) (ch := fp) (fun b hb => ?_) (fun b o _ _ hc e _ => k b o hc e) (fun b o _ _ hc e _ => ⟨o.slots, k b o hc e⟩) (fun _ _ _ _ n => n)
    (fun b o hc e => ⟨o, k b o hc e⟩) (fun _ _ e => e) (fun _ _ _ e => e) (fun b ps e => ⟨#[], by rw [e]; simp⟩) (fun m hm => ?_) (fun b u e => ?_) I.bare
  · obtain ⟨f0, f1, f2, f3, f4, f5⟩ := hf b hb
    exact ⟨f3, f1, f4, f5⟩
  · obtain ⟨o, es, ep, ho, r⟩ := hm
    exact ⟨o, es, ep, k _ o (fun z => (hf _ z).2.1 rfl) ho, r⟩
  · refine (I.hok b u e).stay (fun c v hc q => k c v ?_ q) (fun _ q => q) fun _ _ q => q
    rcases hc with z | z
    · rw [z]; exact nit b u e
    · exact nit c _ z
theorem Inv.turnT {t' : Nat} {fp : List Addr} {p : Addr} {xs : List V} (I : Inv X pins σ H s) (hf : ∀ b ∈ fp, FpOk X pins H b) (k : ∀ b o, b ∉ fp → s.heap.get? b = some o → h'.get? b = some o) (hp : s.heap.objs.size ≤ p)
    (new : ObjOk X.prog X.w (upd H p (.tup xs)) h' p (.tup xs)) : Inv X pins σ (upd H p (.tup xs)) { s with heap := h', toks := t' } := by
  have hn := I.hok.fresh hp
  have nit : ∀ b u, H b = some u → b ∉ fp := fun b u e z => by rw [(hf b z).1] at e; cases e
  have lt : ∀ b o, s.heap.get? b = some o → b ≠ p := fun b o e => Nat.ne_of_lt (Nat.lt_of_lt_of_le (Heap.lt_size e) hp)
  refine I.step (g' := s.gens) (d' := s.drawn) (ch := fp) (fun b hb => ?_) (fun b o _ _ hc e _ => k b o hc e) (fun b o _ _ hc e _ => ⟨o.slots, k b o hc e⟩) (fun b o _ e n => by rw [upd_ne (lt b o e)]; exact n)
    (fun b o hc e => ⟨o, k b o hc e⟩) (fun _ _ e => by rw [upd_ne (ne_of_none e hn)]; exact e) (fun _ _ _ e => by rw [upd_ne (ne_of_none e hn)]; exact e) (fun b ps e => ⟨#[], by rw [upd_ne (ne_of_none e hn), e]; simp⟩) (fun m hm => ?_) (fun b u e => ?_) I.bare
  · obtain ⟨f0, f1, f2, f3, f4, f5⟩ := hf b hb
    exact ⟨f3, f1, f4, f5⟩
  · obtain ⟨o, es, ep, ho, r⟩ := hm
    exact ⟨o, es, ep, k _ o (fun z => (hf _ z).2.1 rfl) ho, r⟩
  · by_cases hb : b = p
    · subst hb; rw [upd_same] at e; cases e; exact new
    · rw [upd_ne hb] at e
      refine (I.hok b u e).stay (fun c v hc q => k c v ?_ q) (fun c q => by rw [upd_ne (ne_of_none q hn)]; exact q) fun c xs q => by rw [upd_ne (ne_of_none q hn)]; exact q
      rcases hc with z | z
      · rw [z]; exact nit b u e
      · exact nit c _ z
end
def Ite (K : PySem.W.Frag) (a : Addr) : It :=
  ⟨fun i H => ∃ xs x, SqL K H a xs ∧ xs[i]? = some x, fun i H x H' => ∃ p v, x = .ref p ∧ H p = none ∧ H' = upd H p (.tup [.int i, v]) ∧ ∀ xs, SqL K H a xs → xs[i]? = some v, fun i H => ∃ xs, SqL K H a xs ∧ xs.length ≤ i⟩
theorem two_le : (2 : Nat) ≤ sizeLine := by rw [sizeLine_eq]; decide
theorem turn_enum {P : Program} {w : World} {K : PySem.W.Frag} {elts : List Expr} {k : Nat} {pos : Pos} (a e it : Addr) (hei : e ≠ it) : Turn P w K (.Tuple elts k pos) (Ite K a) [e, it] e (fun i h => (∃ old, IsEnum h e it i old) ∧ h.IsListIter it a i) where
  mem := by simp
  obj := fun i h ⟨⟨old, he⟩, st⟩ b hb => by
    rcases List.mem_cons.mp hb with rfl | hb
    · exact ⟨_, he, fun v z => nomatch z⟩
    · have e : b = it := by simpa using hb
      subst e
      obtain ⟨o, e, c, d⟩ := st
      exact ⟨o, e, fun v z => by rw [d] at z; cases z⟩
  keep := fun i h h' ⟨⟨old, he⟩, st⟩ k => ⟨⟨old, k e (by simp) _ he⟩, st.at fun o e => k it (by simp) o e⟩
  item := by
    intro X hP hw hK hc i pins s σ H E I hf st hg
    subst hP hw hK
    obtain ⟨xs, x, hq, hx⟩ := hg
    obtain ⟨its, rv, p, hz⟩ := I.list hq
    obtain ⟨u, hu, ru⟩ := rv.get hx
    obtain ⟨⟨old, he⟩, hit⟩ := st
    refine wpAny_pyNext_enum_item he hit p.isList (x := u) (by simpa using hu) hei fun h1 ho hit1 hT hsz hk => ⟨_, rfl, ?_⟩
    refine wpAny_letOwnedTupleGo_enum (s := { s with heap := h1, toks := s.toks + 1 }) ho fun h2 he2 hs2 => ?_
    have ke : ∀ b o, b ∉ [e, it] → s.heap.get? b = some o → h2.get? b = some o := fun b o hb q => (hs2.2 b fun z => hb (by simp [z])).trans (hk b o (fun z => hb (by simp [z])) (fun z => hb (by simp [z])) q)
    have hlt : e < s.heap.objs.size := Heap.lt_size he
    have hT2 : h2.get? s.heap.objs.size = some { cls := .type "tuple", data := .seq #[.int i s.toks, u] } := (hs2.2 _ (Nat.ne_of_gt hlt)).trans hT
    have I1 : Inv X pins σ (upd H s.heap.objs.size (.tup [.int i, x])) { s with heap := h2, toks := s.toks + 1 } :=
      I.turnT hf ke (Nat.le_refl _) ⟨two_le, [.int i s.toks, u], .cons ⟨s.toks, rfl⟩ (.cons ru .nil), _, hT2, rfl, _, rfl⟩
    refine ⟨.ref s.heap.objs.size, _, I1, rfl, ⟨_, x, rfl, I.fresh, rfl, fun ys hy => by rw [I.list_inj hy hq]; exact hx⟩, ⟨⟨u, by simpa using he2⟩, hit1.at fun o q => (hs2.2 it hei.symm).trans q⟩, fun b hb => ?_⟩
    rw [upd_ne]
    · exact (hf b hb).1
    · rcases List.mem_cons.mp hb with rfl | hb
      · exact Nat.ne_of_lt hlt
      · have e : b = it := by simpa using hb
        subst e
        obtain ⟨o, q, _⟩ := hit
        exact Nat.ne_of_lt (Heap.lt_size q)
  done := by
    intro X hP hw hK hc i pins s σ H E I hf st hg
    subst hP hw hK
    obtain ⟨xs, hq, hx⟩ := hg
    obtain ⟨its, rv, p, hz⟩ := I.list hq
    obtain ⟨⟨old, he⟩, hit⟩ := st
    have hl := rv.length
    exact wpAny_pyNext_enum_end (I.ok.hd hc) he hit p.isList (by simp; omega) fun h' eb => ⟨rfl, I.turnN (t' := s.toks) hf fun b o hb q => eb b o (fun z => hb (by simp [z])) q⟩
  self := fun _ _ _ _ _ ⟨⟨old, he⟩, _⟩ h => wpAny_pyIter_enum he h
def Itz (K : PySem.W.Frag) (a b : Addr) : It :=
  ⟨fun i H => ∃ xs ys x y, SqL K H a xs ∧ SqL K H b ys ∧ xs[i]? = some x ∧ ys[i]? = some y, fun i H x H' => ∃ p u v, x = .ref p ∧ H p = none ∧ H' = upd H p (.tup [u, v]) ∧ (∀ xs, SqL K H a xs → xs[i]? = some u) ∧ ∀ ys, SqL K H b ys → ys[i]? = some v,
   fun i H => ∃ xs ys, SqL K H a xs ∧ SqL K H b ys ∧ (xs.length ≤ i ∨ ys.length ≤ i)⟩
theorem turn_zip {P : Program} {w : World} {K : PySem.W.Frag} {elts : List Expr} {k : Nat} {pos : Pos} (z TI TO i1 i2 l1 l2 : Addr) (D : ZipApart z TI TO i1 i2 l1 l2) : Turn P w K (.Tuple elts k pos) (Itz K l1 l2) [z, TI, TO, i1, i2] z
    (fun i h => IsZip h z TI TO .none ∧ IsPair h TI (.ref i1) (.ref i2) ∧ (∃ a b, IsPair h TO a b) ∧ h.IsListIter i1 l1 i ∧ h.IsListIter i2 l2 i) where
  mem := by simp
  obj := fun i h ⟨hz, hTI, ⟨_, _, hTO⟩, ⟨o1, e1, c1, d1⟩, ⟨o2, e2, c2, d2⟩⟩ b hb => by
    simp only [List.mem_cons, List.not_mem_nil, or_false] at hb
    rcases hb with rfl | rfl | rfl | rfl | rfl
    · exact ⟨_, hz, fun v z => nomatch z⟩
    · exact ⟨_, hTI, fun v z => nomatch z⟩
    · exact ⟨_, hTO, fun v z => nomatch z⟩
    · exact ⟨o1, e1, fun v z => by rw [d1] at z; cases z⟩
    · exact ⟨o2, e2, fun v z => by rw [d2] at z; cases z⟩
  keep := fun i h h' ⟨hz, hTI, ⟨a, b, hTO⟩, h1, h2⟩ k => ⟨k z (by simp) _ hz, k TI (by simp) _ hTI, ⟨a, b, k TO (by simp) _ hTO⟩, h1.at fun o e => k i1 (by simp) o e, h2.at fun o e => k i2 (by simp) o e⟩
  item := by
    intro X hP hw hK hc i pins s σ H E I hf st hg
    subst hP hw hK
    obtain ⟨xs, ys, x, y, hq, hq2, hx, hy⟩ := hg
    obtain ⟨its, rv, p, _⟩ := I.list hq
    obtain ⟨its2, rv2, p2, _⟩ := I.list hq2
    obtain ⟨u, hu, ru⟩ := rv.get hx
    obtain ⟨v, hv, rv'⟩ := rv2.get hy
    obtain ⟨hz, hTI, ⟨a, b, hTO⟩, h1, h2⟩ := st
    refine wpAny_pyNext_zip_item D hz hTI hTO h1 h2 p.isList p2.isList (x := u) (y := v) (by simpa using hu) (by simpa using hv) fun h3 z3 o3 j1 j2 t3 s3 hk => ⟨_, rfl, ?_⟩
    refine wpAny_letOwnedTupleGo_zip (s := { s with heap := h3 }) z3 fun h4 z4 hs4 => ?_
    have ke : ∀ b o, b ∉ [z, TI, TO, i1, i2] → s.heap.get? b = some o → h4.get? b = some o := fun b o hb q => (hs4.2 b fun z => hb (by simp [z])).trans (hk b o (fun z => hb (by simp [z])) (fun z => hb (by simp [z])) (fun z => hb (by simp [z])) (fun z => hb (by simp [z])) q)
    have hlt : z < s.heap.objs.size := Heap.lt_size hz
    have hT4 : IsPair h4 s.heap.objs.size u v := (hs4.2 _ (Nat.ne_of_gt hlt)).trans t3
    have I1 : Inv X pins σ (upd H s.heap.objs.size (.tup [x, y])) { s with heap := h4, toks := s.toks } :=
      I.turnT hf ke (Nat.le_refl _) ⟨two_le, [u, v], .cons ru (.cons rv' .nil), _, hT4, rfl, _, rfl⟩
    refine ⟨.ref s.heap.objs.size, _, I1, rfl, ⟨_, x, y, rfl, I.fresh, rfl, (fun ys hy => by rw [I.list_inj hy hq]; exact hx), fun zs hzs => by rw [I.list_inj hzs hq2]; exact hy⟩,
      ⟨z4, hs4.extBut _ _ D.TIz (hk _ _ D.TIz D.TITO D.TIi1 D.TIi2 hTI), ⟨_, _, hs4.extBut _ _ D.TOz o3⟩, j1.extBut hs4.extBut D.i1z, j2.extBut hs4.extBut D.i2z⟩, fun b hb => ?_⟩
    rw [upd_ne]
    · exact (hf b hb).1
    · obtain ⟨o1, e1, _, _⟩ := h1
      obtain ⟨o2, e2, _, _⟩ := h2
      simp only [List.mem_cons, List.not_mem_nil, or_false] at hb
      rcases hb with rfl | rfl | rfl | rfl | rfl
      · exact Nat.ne_of_lt hlt
      · exact Nat.ne_of_lt (Heap.lt_size hTI)
      · exact Nat.ne_of_lt (Heap.lt_size hTO)
      · exact Nat.ne_of_lt (Heap.lt_size e1)
      · exact Nat.ne_of_lt (Heap.lt_size e2)
  done := by
    intro X hP hw hK hc i pins s σ H E I hf st hg
    subst hP hw hK
    obtain ⟨xs, ys, hq, hq2, hx⟩ := hg
    obtain ⟨its, rv, p, _⟩ := I.list hq
    obtain ⟨its2, rv2, p2, _⟩ := I.list hq2
    obtain ⟨hz, hTI, ⟨a, b, hTO⟩, h1, h2⟩ := st
    have hl := rv.length
    have hl2 := rv2.length
    refine wpAny_pyNext_zip_end (I.ok.hd hc) D hz hTI hTO h1 h2 p.isList p2.isList (hx.imp (fun z => by simp; omega) fun z => by simp; omega) fun h' hk => ⟨rfl, I.turnN (t' := s.toks) hf fun b o hb q => ?_⟩
    exact hk b o (fun z => hb (by simp [z])) (fun z => hb (by simp [z])) (fun z => hb (by simp [z])) (fun z => hb (by simp [z])) q
  self := fun _ _ _ _ _ ⟨hz, _⟩ h => wpAny_pyIter_zip hz h
theorem zapart (n l1 l2 : Nat) (h1 : l1 < n) (h2 : l2 < n) : ZipApart (n + 4) (n + 2) (n + 3) n (n + 1) l1 l2 := by
  constructor <;> exact fun h => by
    have h : (_ : Nat) = _ := h
    omega
theorem two_in {n b : Nat} (h : b ∈ [n + 1, n]) : n ≤ b := by simp at h; omega
theorem five_in {n b : Nat} (h : b ∈ [n + 4, n + 2, n + 3, n, n + 1]) : n ≤ b := by simp at h; omega
section
variable {X : Cx}
def iEnum (K : PySem.W.Frag) (ta : TA) : TI := fun σ H R => ta σ H fun vs H1 => ∃ a, vs = [.ref a] ∧ (∃ xs, SqL K H1 a xs) ∧ R (Ite K a) H1
theorem pi_enum {elts : List Expr} {k : Nat} {tp : Pos} {a : Expr} {ta : TA} {p pos : Pos} (hg : Gl X "enumerate") (hm : X.mg "enumerate" = none) (ha : PA X [a] ta) (hs : starEach [a] X.env = [(false, eval a X.env)] := by rfl) :
    PI X (.Tuple elts k tp) (.Call (.Name "enumerate" p) [a] [] pos) (iEnum X.K ta) := by
  intro pins s σ H R I h
  refine Call_ (ld_blt I hg hm boot_enumerate (PyProof.Rows.callWith_type1 (thn (ha pos pins s σ H _ I h) fun us s1 ⟨vs, H1, I1, r1, q1⟩ => ?_) hs rfl))
  obtain ⟨l, e, ⟨xs, hq⟩, q⟩ := q1
  subst e
  cases r1 with
  | cons r rr =>
    cases rr
    cases r
    obtain ⟨its, rv, pl, hz⟩ := I1.list hq
    refine call_enumerate_list pl.isList fun h2 he hit hsz hk => ?_
    refine wpAny_pyIter_enum (s := { s1 with heap := h2 }) he ?_
    refine ⟨s1.heap.objs.size + 1, [s1.heap.objs.size + 1, s1.heap.objs.size], _, _, H1, rfl, I1.kept (t' := s1.toks) hk, turn_enum l _ _ (Nat.succ_ne_self _), ⟨⟨_, he⟩, hit⟩, fun b hb => ?_, q⟩
    have e : s1.heap.objs.size ≤ b := two_in hb
    exact I1.fpOk e (I1.hok.fresh e)
def iZip (K : PySem.W.Frag) (ta : TA) : TI := fun σ H R => ta σ H fun vs H1 => ∃ a b, vs = [.ref a, .ref b] ∧ (∃ xs, SqL K H1 a xs) ∧ (∃ ys, SqL K H1 b ys) ∧ R (Itz K a b) H1
theorem pi_zip {elts : List Expr} {k : Nat} {tp : Pos} {a b : Expr} {ta : TA} {p pos : Pos} (hg : Gl X "zip") (hm : X.mg "zip" = none) (ha : PA X [a, b] ta) (hs : starEach [a, b] X.env = [(false, eval a X.env), (false, eval b X.env)] := by rfl) (hs2 : starEach [b] X.env = [(false, eval b X.env)] := by rfl) :
    PI X (.Tuple elts k tp) (.Call (.Name "zip" p) [a, b] [] pos) (iZip X.K ta) := by
  intro pins s σ H R I h
  refine Call_ (ld_blt I hg hm boot_zip (PyProof.Rows.callWith_type1 (thn (ha pos pins s σ H _ I h) fun us s1 ⟨vs, H1, I1, r1, q1⟩ => ?_) (by rw [hs, hs2]) (by rw [hs2]; rfl)))
  obtain ⟨l1, l2, e, ⟨xs, hq⟩, ⟨ys, hq2⟩, q⟩ := q1
  subst e
  cases r1 with
  | cons r rr =>
    cases rr with
    | cons r' rr =>
      cases rr
      cases r
      cases r'
      obtain ⟨its, rv, pl, hz⟩ := I1.list hq
      obtain ⟨its2, rv2, pl2, _⟩ := I1.list hq2
      have lt1 : l1 < s1.heap.objs.size := by obtain ⟨o, e, _⟩ := pl.isList; exact Heap.lt_size e
      have lt2 : l2 < s1.heap.objs.size := by obtain ⟨o, e, _⟩ := pl2.isList; exact Heap.lt_size e
      refine call_zip_2 pl.isList pl2.isList fun h2 hz hTI hTO h1 h2' hsz hk => ?_
      refine wpAny_pyIter_zip (s := { s1 with heap := h2 }) hz ?_
      refine ⟨s1.heap.objs.size + 4, [s1.heap.objs.size + 4, s1.heap.objs.size + 2, s1.heap.objs.size + 3, s1.heap.objs.size, s1.heap.objs.size + 1], _, _, H1, rfl, I1.kept (t' := s1.toks) hk,
        turn_zip _ _ _ _ _ l1 l2 (zapart _ _ _ lt1 lt2), ⟨hz, hTI, ⟨_, _, hTO⟩, h1, h2'⟩, fun b hb => ?_, q⟩
      have e : s1.heap.objs.size ≤ b := five_in hb
      exact I1.fpOk e (I1.hok.fresh e)
end
end L2

set_option Elab.async false
set_option linter.all false
set_option maxRecDepth 100000
set_option maxHeartbeats 4000000

namespace L2
open PySem PySem.Spec PyProof.Rows

def rlN (sc : Scope) (names : List (Str × NameKind)) : List (Str × NameKind) := names.map fun y => if (y.2 == NameKind.free && sc.kind == .function && sc.names.lookup y.1 == some .cell) = true then (y.1, NameKind.cell) else (y.1, y.2)
def vis2 (o : Option NameKind) : Bool := o == some .cell || o == some .free
def compB (sc scope : Scope) (N cn : List Str) (ix : List Nat) : Bool :=
  scope.kind == .function && scope.names.all (fun y => y.2 != .cell) && scope.names.all (fun y => y.2 != .free || vis2 (sc.names.lookup y.1)) && scope.names.all (fun y => y.2 != .local || scope.names.lookup y.1 == some .local) &&
  ix.length == cn.length && (List.range ix.length).all (fun k => match ix[k]?, cn[k]? with
    | some j, some y => N[j]? == some y && vis2 (sc.names.lookup y) && scope.names.contains (y, NameKind.free) && vis2 ((rlN sc scope.names).lookup y)
    | _, _ => false) &&
  (rlN sc scope.names).all (fun y => !(y.2 == .cell || y.2 == .free) || scope.names.contains (y.1, NameKind.free))
theorem vis2_or {o : Option NameKind} (h : vis2 o = true) : o = some .cell ∨ o = some .free := by
  unfold vis2 at h
  simpa using h
theorem CompOk.of {X : Cx} {sc scope : Scope} {N tn cn : List Str} {ix : List Nat} (hsc : X.env.scope = sc) (hN : X.N = N) (h : compB sc scope N cn ix = true) : CompOk X scope tn cn ix := by
  unfold compB at h
  simp only [Bool.and_eq_true] at h
  obtain ⟨⟨⟨⟨⟨⟨h1, h2⟩, h3⟩, h4⟩, h5⟩, h6⟩, h7⟩ := h
  rw [List.all_eq_true] at h2 h3 h4 h6 h7
  have erl : (relabel scope X.env).names = rlN sc scope.names := by
    unfold relabel rlN
    rw [← hsc]
    rfl
  refine ⟨by simpa using h1, fun y hy => by simpa using h2 y hy, fun y hy hk => ?_, fun y hy hk => ?_, by simpa using h5, fun k j hk => ?_, fun x hx => ?_⟩
  · have := h3 y hy
    rw [hk] at this
    rw [hsc]
    exact vis2_or (by simpa using this)
  · have := h4 y hy
    rw [hk] at this
    simpa using this
  · have hk' : k < ix.length := (List.getElem?_eq_some_iff.mp hk).1
    have := h6 k (List.mem_range.mpr hk')
    rw [hk] at this
    cases e : cn[k]? with
    | none => rw [e] at this; cases this
    | some y =>
      rw [e] at this
      simp only [Bool.and_eq_true] at this
      obtain ⟨⟨⟨a1, a2⟩, a3⟩, a4⟩ := this
      refine ⟨y, rfl, by rw [hN]; simpa using a1, by rw [hsc]; exact vis2_or a2, by simpa using a3, by rw [erl]; exact vis2_or a4⟩
  · rw [erl] at hx
    have mem : ∃ k, (x, k) ∈ rlN sc scope.names ∧ (k = .cell ∨ k = .free) := by
      rcases hx with hx | hx
      · exact ⟨_, PySem.mem_of_lookup hx, .inl rfl⟩
      · exact ⟨_, PySem.mem_of_lookup hx, .inr rfl⟩
    obtain ⟨k, hm, hk⟩ := mem
    have := h7 _ hm
    rcases hk with rfl | rfl <;> simpa using this

structure Cal (P : Program) (w : World) (K : PySem.W.Frag) (mg : Str → Option Value) (base : Heap) (k : Nat) (x : Str) (ps : List Str) (sp : Sp) : Prop where
  ex : ∃ (g : Addr) (fd : FuncData), mg x = some (.ref g) ∧ PySem.W.keepIn K (.ref g) = true ∧ Binds K fd ps [] ∧ FnOk P w K mg base CX0 k g fd ps sp
section
variable {X : Cx} {k : Nat} {x : Str} {ps : List Str} {sp : Sp} {p pos : Pos} {e : Expr} {es : List Expr} {t : TA}
theorem pe_own (C : Cal X.prog X.w X.K X.mg X.base k x ps sp) (hr : Room k X.A) (ha : PA X (e :: es) t) (hg : Gl X x := by rfl) (hdb : (x == ("__debug__" : Str)) = false := by decide) (he : starEach (e :: es) X.env = (false, eval e X.env) :: starEach es X.env := by rfl)
    (hpl : (backTo pos (starEach es X.env)).any (·.1) = false := by rfl) : PE X (.Call (.Name x p) (e :: es) [] pos) (tCall sp [] E0 t) := by
  obtain ⟨g, fd, hm, hk, hb, F⟩ := C.ex
  exact pe_call F hr hg hm hk hb .nil pass0 ha hdb he hpl
end
theorem Fun.cal {P : Program} {w : World} {K : PySem.W.Frag} {mg : Str → Option Value} {base : Heap} {k : Nat} {x qual : Str} {st : Stmt} {f : Addr} {fd : FuncData} {ps : List Str} {sp : Sp} (F : Fun K x qual st f fd) (hm : mg x = some (.ref f))
    (G : FnOk P w K mg base CX0 k f fd ps sp)
    (h : ∀ (kV doc pm : Value) (an : Option Addr) (cdv ct : Value) (us : List Value), us.length = ps.length → bindArgs (PySem.W.fnOf x qual (defArgs st) (defBody st) (defScope st) .none kV doc pm an cdv ct) ⟨us, []⟩ = pure (ps.zip us)) : Cal P w K mg base k x ps sp :=
  ⟨f, fd, hm, F.kp, F.binds h, G⟩
theorem kb_int : bootBuiltins "int" = some (.type "int") := by decide +kernel
theorem kb_bool : bootBuiltins "bool" = some (.type "bool") := by decide +kernel
theorem kb_list : bootBuiltins "list" = some (.type "list") := by decide +kernel
theorem kb_tuple : bootBuiltins "tuple" = some (.type "tuple") := by decide +kernel
theorem kb_isinstance : bootBuiltins "isinstance" = some (.builtin "isinstance") := by decide +kernel
theorem kb_len : bootBuiltins "len" = some (.builtin "len") := by decide +kernel
theorem pe_ty {X : Cx} {x : Str} {T : String} {pos : Pos} (hm : X.mg x = none) (hv : bootBuiltins x = some (.type T)) (hg : Gl X x := by rfl) (hn : x ≠ "__name__" := by decide) (hd : (x == ("__debug__" : Str)) = false := by decide) : PE X (.Name x pos) (tC (.ty T)) :=
  pe_bltn hg hm hv rfl hn hd

def inS (i j : Str) : Bool := !(Builtin.Str.occurrences j i 0 j.length 1).isEmpty
def rInU (K : PySem.W.Frag) (neg : Bool) : R2 := fun x y H Q => match x, y with
  | .str i, .str j => Q (.bl (if neg then !inS i j else inS i j)) H
  | _, .ref p => (∃ o, DGet H p x o ∧ Q (.bl (if neg then !o.isSome else o.isSome)) H) ∨ rIn K neg x y H Q
  | _, _ => False
theorem op_inU {X : Cx} (hu : X.A.units + 64 < cLine) : OpR X (compareOp .In) (rInU X.K false) := by
  intro pins s σ H x y v u Q I rx ry h
  unfold rInU at h
  split at h
  · exact op_in_str pins s σ H _ _ v u Q I rx ry ⟨_, _, rfl, rfl, h⟩
  · rcases h with ⟨o, g, q⟩ | h
    · cases ry
      exact d_in (by omega) I g rx fun s3 I3 => ⟨.bl o.isSome, H, I3, rfl, q⟩
    · exact op_in_seq pins s σ H _ _ v u Q I rx ry h
  · exact h.elim
theorem op_notInU {X : Cx} (hu : X.A.units + 64 < cLine) : OpR X (compareOp .NotIn) (rInU X.K true) := by
  intro pins s σ H x y v u Q I rx ry h
  unfold rInU at h
  split at h
  · exact op_notin_str pins s σ H _ _ v u Q I rx ry ⟨_, _, rfl, rfl, h⟩
  · rcases h with ⟨o, g, q⟩ | h
    · cases ry
      exact d_notIn (by omega) I g rx fun s3 I3 => ⟨.bl (!o.isSome), H, I3, rfl, q⟩
    · exact op_notIn_seq pins s σ H _ _ v u Q I rx ry h
  · exact h.elim
theorem Same.upd {H H' : Hp} {p : Addr} {o : HO} (h : Same H H') (hp : H' p = none) : Same H (upd H' p o) := fun b u e => by
  have e' := h b u e
  rw [upd_ne (ne_of_none e' hp)]
  exact e'
theorem Same.lst {K : PySem.W.Frag} {H H' : Hp} {a : Addr} {xs : List V} (e : Same H H') (h : SqL K H a xs) : SqL K H' a xs := e.seq h
theorem Same.tup {K : PySem.W.Frag} {H H' : Hp} {a : Addr} {xs : List V} (e : Same H H') (h : SqT K H a xs) : SqT K H' a xs := by
  rcases h with (h | ⟨o, h⟩) | h
  · exact .inl (.inl (e _ _ h))
  · exact .inl (.inr ⟨o, e _ _ h⟩)
  · exact .inr h
mutual
theorem Rep.same {K : PySem.W.Frag} {H H' : Hp} (s : Same H H') : ∀ {d : PyData} {v : V}, Rep K H d v → Rep K H' d v
  | _, _, .none => .none
  | _, _, .bool b => .bool b
  | _, _, .int i => .int i
  | _, _, .str x => .str x
  | _, _, .list h hs => .list (s.lst h) (Reps.same s hs)
  | _, _, .tuple h hs => .tuple (s.tup h) (Reps.same s hs)
theorem Reps.same {K : PySem.W.Frag} {H H' : Hp} (s : Same H H') : ∀ {ds : List PyData} {vs : List V}, Reps K H ds vs → Reps K H' ds vs
  | _, _, .nil => .nil
  | _, _, .cons h hs => .cons (Rep.same s h) (Reps.same s hs)
end
theorem SqL.new {K : PySem.W.Frag} {H : Hp} {p : Addr} {xs : List V} : SqL K (upd H p (.lst xs)) p xs := .inl (.inl upd_same)
theorem SqT.new {K : PySem.W.Frag} {H : Hp} {p : Addr} {xs : List V} : SqT K (upd H p (.tup xs)) p xs := .inl (.inl upd_same)
section
variable {X : Cx} {K : PySem.W.Frag}
theorem kEq (hu : X.A.units + 64 < cLine) (hK : X.K = K := by rfl) : OpR X (compareOp .Eq) (rEqU K) := by subst hK; exact op_eqU hu
theorem kNe (hu : X.A.units + 64 < cLine) (hK : X.K = K := by rfl) : OpR X (compareOp .NotEq) (rNeU K) := by subst hK; exact op_neU hu
theorem kIn (hu : X.A.units + 64 < cLine) (hK : X.K = K := by rfl) : OpR X (compareOp .In) (rInU K false) := by subst hK; exact op_inU hu
theorem kNotIn (hu : X.A.units + 64 < cLine) (hK : X.K = K := by rfl) : OpR X (compareOp .NotIn) (rInU K true) := by subst hK; exact op_notInU hu
variable {tg l : Expr} {tl : TE}
end

theorem ex_eq {α : Type} {a : α} {p : α → Prop} : (∃ v, a = v ∧ p v) ↔ p a := ⟨fun ⟨_, e, h⟩ => e ▸ h, fun h => ⟨a, rfl, h⟩⟩
end L2

set_option Elab.async false
set_option linter.all false
set_option maxRecDepth 100000
set_option maxHeartbeats 4000000

namespace L2
open PySem PySem.Spec PyProof.Rows

abbrev Ents := Array DictEntry
def RawD (h : Heap) (d : Addr) (es : Ents) (ep : Nat) : Prop := ∃ o, h.get? d = some o ∧ o.ExactDict ∧ o.data = .dict es ep
theorem RawD.typ {s : Shared} {d : Addr} {es : Ents} {ep : Nat} (x : RawD s.heap d es ep) : s.TypeIs (.ref d) "dict" := let ⟨o, e, c, _⟩ := x; ⟨o, e, c.1⟩
section
variable {prog : Program} {w : World} {A : Around} {E : Value → Shared → Prop} {s : Shared} {d it : Addr} {es : Ents} {ep i : Nat}
theorem raw_iter {Q : Value → Shared → Prop} (lo : (d == sysModules) = false) (x : RawD s.heap d es ep)
    (q : Q (.ref s.heap.objs.size) { s with heap := s.heap.push { cls := .type "dict_keyiterator", data := .fields #[.ref d, .int 0 0, .int es.size 0, .int ep 0] } }) : wpAny (model prog w) A (pyIter (.ref d)) Q E s := by
  obtain ⟨o, ho, hc, hdat⟩ := id x
  refine wpAny_pyIter_slot x.typ F.slot_dict_iter (wpAny_call_entry F.slot_dict_iter x.typ F.entry_dict_iter ?_ (F.args_dict_iter_1 _))
  unfold Builtin.«dict.__iter__»
  refine wpAny_bind ?_
  unfold Builtin.Dict.dictSlotNone
  refine wpAny_bind (wpAny_notOrdered_dict x.typ ?_)
  refine (show wpAny _ _ (pure (Value.ref d)) _ _ s from wpAny_pure ?_)
  refine (show wpAny _ _ (Builtin.Dict.showsAll d >>= _) _ _ s from ?_)
  unfold Builtin.Dict.showsAll
  rw [if_neg (by rw [lo]; decide)]
  refine wpAny_bind (wpAny_pure (wpAny_bind (wpAny_dictEntries ho hdat (wpAny_bind (wpAny_dictEpoch ho hdat (wpAny_bind (wpAny_newObj_type (wpAny_pure ⟨_, rfl, "dict_keyiterator", _, ⟨_, Heap.get?_push_size _ rfl, rfl⟩, F.slot_dict_keyiterator_next.lookup, ?_⟩))))))))
  simpa [rawInt] using q
theorem raw_item {Q : Option Value → Shared → Prop} (hit : s.heap.IsKeyIter it d i es.size ep) (x : RawD s.heap d es ep) (hx : i < es.size)
    (q : ∀ h', h'.IsKeyIter it d (i + 1) es.size ep → Heap.SameBut it s.heap h' → Q (some es[i].key) { s with heap := h' }) : wpAny (model prog w) A (pyNext (.ref it)) Q E s := by
  obtain ⟨o, ho, hc, hd⟩ := id hit
  obtain ⟨od, hod, hcd, hdd⟩ := id x
  have ty := hit.typeIs
  unfold pyNext
  refine wpAny_bind (wpAny_attempt (wpAny_callSpecial?_slot (name := Str.ofString "__next__") ty F.slot_dict_keyiterator_next (wpAny_call_entry F.slot_dict_keyiterator_next ty F.entry_dict_keyiterator_next ?_ (F.args_dict_keyiterator_next_1 _))))
  refine wpAny_bind (wpAny_pure (wpAny_bind (wpAny_bind ?_)))
  first | refine wpAny_bind (wpAny_typeNameOfWhole_keyiter ty (wpAny_pure ?_)) | refine wpAny_bind (wpAny_typeNameOf_keyiter ty (wpAny_pure ?_))
  refine wpAny_bind (wpAny_fieldsOf ho hd ?_)
  simp only [show Builtin.Dict_items.ownsTuple "dict_keyiterator" = false by decide, Bool.false_eq_true, if_false]
  refine (show wpAny _ _ (if (Value.ref d == Value.none) = true then _ else _) _ _ s from ?_)
  rw [if_neg (show ¬ ((Value.ref d == Value.none) = true) by intro h; cases h)]
  refine wpAny_bind (wpAny_pure (wpAny_bind (wpAny_dictEntries hod hdd ?_)))
  rw [if_neg (by intro h; simp at h)]
  refine wpAny_bind (wpAny_pure (wpAny_bind (wpAny_dictEpoch hod hdd ?_)))
  rw [if_neg (by intro h; simp at h)]
  refine wpAny_pure ?_
  simp only [show ¬ ((i : Int) < 0) by omega, if_false, Int.toNat_natCast, Array.getElem?_eq_getElem hx]
  refine wpAny_bind ?_
  first | refine wpAny_bind (wpAny_typeNameOfWhole_keyiter ty (wpAny_pure ?_)) | refine wpAny_bind (wpAny_typeNameOf_keyiter ty (wpAny_pure ?_))
  refine wpAny_bind (wpAny_isOneOf_keyiter ty ?_)
  refine (show wpAny _ _ (setField (.ref it) 1 (rawInt ((i : Int) + 1)) >>= _) _ _ s from wpAny_bind (wpAny_setField ho hd (by simp) ?_))
  have hit' : (s.heap.update it (Obj.mapFields (·.setIfInBounds 1 (rawInt ((i : Int) + 1))))).IsKeyIter it d (i + 1) es.size ep :=
    ⟨_, Heap.get?_update_self _ ho (Obj.isFreed_of_fields (Obj.data_mapFields hd _)), (Obj.cls_mapFields ..).trans hc, by rw [Obj.data_mapFields hd]; simp [rawInt]⟩
  refine wpAny_bind (wpAny_holding (wpAny_bind (wpAny_isOneOf_keyiter (s := { s with heap := s.heap.update it (Obj.mapFields (·.setIfInBounds 1 (rawInt ((i : Int) + 1)))) }) hit'.typeIs ?_)))
  refine (show wpAny _ _ (pure es[i].key) _ _ _ from wpAny_pure (wpAny_pure ⟨_, rfl, wpAny_pure (q _ hit' (Heap.SameBut.update ..))⟩))
theorem raw_done {Q : Option Value → Shared → Prop} (hh : A.handled = none) (hit : s.heap.IsKeyIter it d es.size es.size ep) (x : RawD s.heap d es ep) (q : ∀ h', Heap.ExtBut it s.heap h' → Q none { s with heap := h' }) :
    wpAny (model prog w) A (pyNext (.ref it)) Q E s := by
  obtain ⟨o, ho, hc, hd⟩ := id hit
  obtain ⟨od, hod, hcd, hdd⟩ := id x
  have ty := hit.typeIs
  unfold pyNext
  refine wpAny_bind (wpAny_attempt (wpAny_callSpecial?_slot (name := Str.ofString "__next__") ty F.slot_dict_keyiterator_next (wpAny_call_entry F.slot_dict_keyiterator_next ty F.entry_dict_keyiterator_next ?_ (F.args_dict_keyiterator_next_1 _))))
  refine wpAny_bind (wpAny_pure (wpAny_bind (wpAny_bind ?_)))
  first | refine wpAny_bind (wpAny_typeNameOfWhole_keyiter ty (wpAny_pure ?_)) | refine wpAny_bind (wpAny_typeNameOf_keyiter ty (wpAny_pure ?_))
  refine wpAny_bind (wpAny_fieldsOf ho hd ?_)
  simp only [show Builtin.Dict_items.ownsTuple "dict_keyiterator" = false by decide, Bool.false_eq_true, if_false]
  refine (show wpAny _ _ (if (Value.ref d == Value.none) = true then _ else _) _ _ s from ?_)
  rw [if_neg (show ¬ ((Value.ref d == Value.none) = true) by intro h; cases h)]
  refine wpAny_bind (wpAny_pure (wpAny_bind (wpAny_dictEntries hod hdd ?_)))
  rw [if_neg (by intro h; simp at h)]
  refine wpAny_bind (wpAny_pure (wpAny_bind (wpAny_dictEpoch hod hdd ?_)))
  rw [if_neg (by intro h; simp at h)]
  refine wpAny_pure ?_
  simp only [show ¬ ((es.size : Int) < 0) by omega, if_false, Int.toNat_natCast, Array.getElem?_eq_none (Nat.le_refl es.size)]
  refine wpAny_bind ?_
  first | refine wpAny_bind (wpAny_typeNameOfWhole_keyiter ty (wpAny_pure ?_)) | refine wpAny_bind (wpAny_typeNameOf_keyiter ty (wpAny_pure ?_))
  refine (show wpAny _ _ (setField (.ref it) 0 .none >>= _) _ _ s from wpAny_bind (wpAny_setField ho hd (by simp) ?_))
  refine (show wpAny _ _ (newExc (.type "StopIteration") [] >>= _) _ _ _ from wpAny_bind ?_)
  simp only [newExc, newTuple]
  refine wpAny_bind (wpAny_newObj_type ?_ (by size_fits))
  refine wpAny_bind (m := firstArgMember _ _) (wpAny_of_eq (a := Value.none) (by first | rfl | (simp only [firstArgMember]; rfl)) (wpAny_newObj_type ?_ (by size_fits)))
  simp only [raiseNew]
  refine wpAny_bind (wpAny_handled ?_)
  rw [show A.in1.handled = none from hh]
  refine wpAny_bind (wpAny_pure (wpAny_throw ?_))
  refine wpAny_bind (wpAny_isInstance (b := true) (T := "StopIteration") ⟨_, Heap.get?_push_size _ rfl, rfl⟩ isSubtype_stop ?_)
  exact wpAny_pure (q _ (((Heap.SameBut.update ..).extBut.push _).push _))
theorem RawD.at {h h' : Heap} (x : RawD h d es ep) (e : ∀ o, h.get? d = some o → h'.get? d = some o) : RawD h' d es ep := let ⟨o, ho, r⟩ := x; ⟨o, e o ho, r⟩
theorem RawD.lt {h : Heap} (x : RawD h d es ep) : d < h.objs.size := let ⟨_, e, _⟩ := x; Heap.lt_size e
theorem raw_walks (hh : A.handled = none) (I : Addr) (hne : d ≠ I) : Walks prog w A I [I, d] [I] es.size (fun i v => ∃ e, es[i]? = some e ∧ v = e.key) (fun i h => h.IsKeyIter I d i es.size ep ∧ RawD h d es ep) where
  sub := fun b hb => by simp at hb; simp [hb]
  frame := fun _ _ _ st hk => ⟨st.1.at fun o e => hk I (by simp) o e, st.2.at fun o e => hk d (by simp) o e⟩
  item := fun i s Q E hi st hQ => raw_item st.1 st.2 hi fun h' a b => hQ _ h' s.toks ⟨es[i], by simp [hi], rfl⟩ ⟨a, st.2.at fun o e => b.extBut d o hne e⟩ fun c o hb e => b.extBut c o (fun h => hb (by simp [h])) e
  done := fun s Q E st hQ => raw_done hh st.1 st.2 fun h' he' => hQ h' s.toks fun b o hb e => he' b o (fun h => hb (by simp [h])) e
  self := fun _ _ _ _ st hQ => wpAny_pyIter_keyiter st.1 hQ
theorem raw_src (lo : (d == sysModules) = false) : PySem.W.KdlSrc prog w "dict" d d es.size (fun i v => ∃ e, es[i]? = some e ∧ v = e.key) (fun h => RawD h d es ep) where
  type := fun _ x => x.typ
  there := fun _ x => ⟨x.lt, x.lt⟩
  keep := fun _ _ x hk => x.at fun o e => hk d (.inl rfl) o e
  notList := by decide
  notTuple := by decide
  hint := fun _ _ _ _ x hq => PySem.W.kdl_hint_dict x.typ hq
  iter := fun _ _ hh x => ⟨_, _, (fun _ _ hq => raw_iter lo x hq), raw_walks hh _ (Nat.ne_of_lt x.lt), ⟨⟨_, Heap.get?_push_size _ rfl, rfl, rfl⟩, x.at fun o e => Heap.get?_push_of_some _ e⟩⟩
end

def TupsAt (H : Hp) (ys : List V) (ks : List (List Key)) : Prop := Paired (fun (v : V) (k : List Key) => ∃ b, v = .ref b ∧ H b = some (.tup (k.map kV))) ys ks
section
variable {X : Cx}
def rListD : List V → Hp → VK → Prop := fun xs H Q => match xs with
  | [.ref p] => ∃ kvs, H p = some (.dT kvs) ∧ ∀ ys l, TupsAt H ys (kvs.map (·.1)) → H l = none → Q (.ref l) (upd H l (.lst ys))
  | _ => False
theorem tups_of {prog : Program} {w : World} {H : Hp} : ∀ {kvs : List (List Key × V)} {xs : List (List Key × Addr × Value)},
    Paired (fun (p : List Key × V) (q : List Key × Addr × Value) => p.1 = q.1 ∧ H q.2.1 = some (.tup (p.1.map kV)) ∧ RelV p.2 q.2.2) kvs xs →
    TupsAt H (xs.map fun q => .ref q.2.1) (kvs.map (·.1)) ∧ Vals (xs.map fun q => .ref q.2.1) ((xs.map (entryOfKey (tupleKind (mixKind prog w)))).map (·.key))
  | _, _, .nil => ⟨.nil, .nil⟩
  | _, _, .cons r t => by
    obtain ⟨a, b⟩ := tups_of (prog := prog) (w := w) t
    exact ⟨.cons ⟨_, rfl, r.2.1⟩ a, .cons rfl b⟩
theorem call_listD (hc : X.calm = true) : CallR X (.type "list") rListD := by
  intro pins s σ H xs us Q I r h
  unfold rListD at h
  split at h
  · rename_i p
    obtain ⟨kvs, e, q⟩ := h
    obtain ⟨u, rfl, ru⟩ := Vals.one r
    cases ru
    obtain ⟨z, y, ps, rel, o, es, ep, h1, h2, h3, h4, h5⟩ := (show ObjOk X.prog X.w H s.heap p (.dT kvs) from I.hok p _ e)
    obtain ⟨ta, va⟩ := tups_of (prog := X.prog) (w := X.w) rel
    have hlen : es.size = kvs.length := by
      have := congrArg List.length h4
      rw [Array.length_toList, List.length_map] at this
      rw [this]; exact rel.length.symm
    refine PySem.W.kdl_call (raw_src (es := es) (ep := ep) y) (I.ok.hd hc) ⟨o, h1, h2, h3⟩ (by omega) fun h' tk acc c kp eo hacc => ?_
    have hv : acc.toList = (ps.map (entryOfKey (tupleKind (mixKind X.prog X.w)))).map (·.key) := by
      apply List.ext_getElem?
      intro i
      by_cases hi : i < es.size
      · have hi2 : i < acc.size := by rw [hacc.1]; exact hi
        obtain ⟨en, e1, e2⟩ := hacc.2 i acc[i] (by simp [hi2])
        rw [← h4, List.getElem?_map, Array.getElem?_toList, Array.getElem?_toList, e1]
        simp [hi2, e2]
      · rw [← h4, List.getElem?_map, Array.getElem?_toList, Array.getElem?_toList, Array.getElem?_eq_none (by rw [hacc.1]; omega), Array.getElem?_eq_none (by omega)]
        rfl
    refine ⟨.ref s.heap.objs.size, _, I.laid (t' := tk) kp (Nat.le_refl _) (show ObjOk X.prog X.w _ h' _ (.lst (ps.map fun q => .ref q.2.1)) from ⟨?_, acc.toList, c, ?_, ?_⟩), rfl, q _ _ ta (I.hok.fresh (Nat.le_refl _))⟩
    · rw [List.length_map, ← rel.length]; exact z
    · rw [hv]; exact va
    · rw [Array.toArray_toList]; exact eo
  · exact h.elim
end
end L2

set_option Elab.async false
set_option linter.all false
set_option maxRecDepth 100000
set_option maxHeartbeats 4000000
namespace Tim
open PySem PyProof.Rows

def R (r : Value → Int) (xs : Array Keyed) (i : Nat) : Int := match xs[i]? with
  | some p => r p.1
  | none => 0
theorem R_congr {r : Value → Int} {xs ys : Array Keyed} {i j : Nat} (h : xs[i]? = ys[j]?) : R r xs i = R r ys j := by unfold R; rw [h]
def Cmp (prog : Program) (w : World) (A : Around) (s : Shared) (κ : SortKind) (r : Value → Int) (P : Value → Prop) : Prop :=
  ∀ x y, P x → P y → ∀ (Q : Bool → Shared → Prop) (E : Value → Shared → Prop), Q (decide (r x < r y)) s → wpAny (model prog w) A (keyLt' κ x y) Q E s
def AllP (P : Value → Prop) (xs : Array Keyed) : Prop := ∀ p ∈ xs.toList, P p.1
theorem AllP.perm {P : Value → Prop} {xs ys : Array Keyed} (h : AllP P xs) (hp : ys.Perm xs) : AllP P ys := fun p hm => h p ((Array.perm_iff_toList_perm.mp hp).mem_iff.mp hm)
theorem AllP.at {P : Value → Prop} {xs : Array Keyed} (h : AllP P xs) {i : Nat} {p : Keyed} (e : xs[i]? = some p) : P p.1 := h p (by
  obtain ⟨hi, rfl⟩ := Array.getElem?_eq_some_iff.mp e
  simp)
structure Win (lo hi : Nat) (st st' : SortSt) : Prop where
  kind : kindOf st' = kindOf st
  failed : failedOf st' = failedOf st
  pend : pendingOf st' = pendingOf st
  perm : (arrOf st').Perm (arrOf st)
  out : ∀ k, k < lo ∨ hi ≤ k → (arrOf st')[k]? = (arrOf st)[k]?
theorem Win.refl (lo hi : Nat) (st : SortSt) : Win lo hi st st := ⟨rfl, rfl, rfl, Array.Perm.refl _, fun _ _ => rfl⟩
theorem Win.trans {lo hi : Nat} {a b c : SortSt} (h : Win lo hi a b) (g : Win lo hi b c) : Win lo hi a c :=
  ⟨g.kind.trans h.kind, g.failed.trans h.failed, g.pend.trans h.pend, g.perm.trans h.perm, fun k hk => (g.out k hk).trans (h.out k hk)⟩
theorem Win.mono {lo hi lo' hi' : Nat} {a b : SortSt} (h : Win lo hi a b) (h1 : lo' ≤ lo) (h2 : hi ≤ hi') : Win lo' hi' a b :=
  ⟨h.kind, h.failed, h.pend, h.perm, fun k hk => h.out k (by omega)⟩
theorem Win.size {lo hi : Nat} {a b : SortSt} (h : Win lo hi a b) : (arrOf b).size = (arrOf a).size := h.perm.size_eq
def Up (r : Value → Int) (xs : Array Keyed) (lo hi : Nat) : Prop := ∀ i j, lo ≤ i → i ≤ j → j < hi → R r xs i ≤ R r xs j
def Down (r : Value → Int) (xs : Array Keyed) (lo hi : Nat) : Prop := ∀ i j, lo ≤ i → i ≤ j → j < hi → R r xs j ≤ R r xs i

theorem R_bubble {r : Value → Int} {xs : Array Keyed} {src d : Nat} (hs : src < xs.size) (hd : d ≤ src) (k : Nat) :
    R r (bubble xs src d) k = if k = src - d then R r xs src else if src - d < k ∧ k ≤ src then R r xs (k - 1) else R r xs k := by
  have e := getElem?_bubble hs d hd k
  by_cases h1 : k = src - d
  · rw [if_pos h1] at e ⊢; exact R_congr e
  · rw [if_neg h1] at e ⊢
    by_cases h2 : src - d < k ∧ k ≤ src
    · rw [if_pos h2] at e ⊢; exact R_congr e
    · rw [if_neg h2] at e ⊢; exact R_congr e
theorem R_mirror {r : Value → Int} {xs : Array Keyed} {i j : Nat} (hj : j ≤ xs.size) (k : Nat) :
    R r (mirror xs i j ((j - i) / 2)) k = if i ≤ k ∧ k < j then R r xs (i + j - 1 - k) else R r xs k := by
  have e := getElem?_mirror_all (i := i) hj k
  by_cases h1 : i ≤ k ∧ k < j
  · rw [if_pos h1] at e ⊢; exact R_congr e
  · rw [if_neg h1] at e ⊢; exact R_congr e
theorem R_mirror_equal {r : Value → Int} {xs : Array Keyed} {i j : Nat} (hj : j ≤ xs.size) (heq : ∀ k, i ≤ k → k < j → R r xs k = R r xs (j - 1)) (k : Nat) :
    R r (mirror xs i j ((j - i) / 2)) k = R r xs k := by
  rw [R_mirror hj]
  split
  · rw [heq _ (by omega) (by omega), heq k (by omega) (by omega)]
  · rfl

section
variable {prog : Program} {w : World} {A : Around} {E : Value → Shared → Prop} {s : Shared} {κ : SortKind} {r : Value → Int} {P : Value → Prop}

theorem wpS_lt {st : SortSt} {x y : Keyed} {Q : Option Bool → SortSt → Prop} (C : Cmp prog w A s κ r P) (hk : kindOf st = κ) (hx : P x.1) (hy : P y.1) (h : Q (some (decide (r x.1 < r y.1))) st) :
    wpS (model prog w) A E s (lt' x y) Q st := by
  rw [lt'_eq]
  refine wpS_bind (wpS_get ?_)
  rw [hk]
  refine wpS_bind (wpS_lift (wpAny_attempt (C x.1 y.1 hx hy _ _ ⟨rfl, ?_⟩)))
  exact wpS_pure h
theorem wpS_elem {xs : Array Keyed} {i : Nat} {Q : Keyed → SortSt → Prop} {st : SortSt} (hi : i < xs.size) (h : ∀ p, xs[i]? = some p → Q p st) : wpS (model prog w) A E s (elem' xs i) Q st := by
  rw [elem'_eq, getElem?_pos xs i hi]
  exact wpS_pure (h _ (getElem?_pos xs i hi))
theorem wpS_ltR {st : SortSt} {i j : Nat} {Q : Option Bool → SortSt → Prop} (C : Cmp prog w A s κ r P) (hk : kindOf st = κ) (hP : AllP P (arrOf st)) (hi : i < (arrOf st).size) (hj : j < (arrOf st).size)
    (h : Q (some (decide (R r (arrOf st) i < R r (arrOf st) j))) st) : wpS (model prog w) A E s (ltAt' i j) Q st := by
  rw [ltAt'_eq]
  refine wpS_bind (wpS_get ?_)
  show wpS _ _ _ _ (do let x ← elem' (arrOf st) i; let y ← elem' (arrOf st) j; lt' x y) Q st
  refine wpS_bind (wpS_elem hi fun p ep => wpS_bind (wpS_elem hj fun q eq => wpS_lt C hk (hP.at ep) (hP.at eq) ?_))
  have e1 : R r (arrOf st) i = r p.1 := by unfold R; rw [ep]
  have e2 : R r (arrOf st) j = r q.1 := by unfold R; rw [eq]
  rw [← e1, ← e2]
  exact h
theorem wpS_reverseR {st : SortSt} {i j : Nat} {Q : Unit → SortSt → Prop} (h : Q () (setArr st (mirror (arrOf st) i j ((j - i) / 2)))) :
    wpS (model prog w) A E s (reverseSlice' i j) Q st := by
  rw [reverseSlice'_eq]; exact wpS_modify h
theorem win_mirror {st : SortSt} {i j : Nat} (hj : j ≤ (arrOf st).size) : Win i j st (setArr st (mirror (arrOf st) i j ((j - i) / 2))) :=
  ⟨rfl, rfl, rfl, mirror_perm _ _ _ _, fun k hk => by
    have e := getElem?_mirror_all (i := i) hj k
    rw [if_neg (by omega)] at e
    exact e⟩
theorem win_bubble {st : SortSt} {lo src d : Nat} (hs : src < (arrOf st).size) (hd : lo + d ≤ src) : Win lo (src + 1) st (setArr st (bubble (arrOf st) src d)) :=
  ⟨rfl, rfl, rfl, bubble_perm _ _ _, fun k hk => by
    have e := getElem?_bubble hs d (by omega) k
    rw [if_neg (by omega), if_neg (by omega)] at e
    exact e⟩

theorem wpS_binarySort {st : SortSt} {lo n ok : Nat} {Q : Bool → SortSt → Prop} (C : Cmp prog w A s κ r P) (hk : kindOf st = κ) (hP : AllP P (arrOf st)) (hn : lo + n ≤ (arrOf st).size) (hok : ok ≤ n) (hs : Up r (arrOf st) lo (lo + ok))
    (h : ∀ st', Win lo (lo + n) st st' → Up r (arrOf st') lo (lo + n) → Q true st') : wpS (model prog w) A E s (binarySort' lo n ok) Q st := by
  rw [binarySort'_eq]
  refine wpS_bind (wpS_mono (wpS_forRange (I := fun k c st' => c = (none, ()) ∧ Win lo (lo + n) st st' ∧ Up r (arrOf st') lo (lo + min k n))
    (Q := fun c st' => c = (none, ()) ∧ Win lo (lo + n) st st' ∧ Up r (arrOf st') lo (lo + n)) ?step ?fin ?init) ?post)
  case post =>
    rintro c st' ⟨rfl, hB', hs'⟩
    exact wpS_pure (h st' hB' hs')
  case init =>
    refine ⟨rfl, .refl _ _ _, fun i j hl hij hj => ?_⟩
    by_cases h1 : ok = 0
    · have : i = j := by omega
      subst this; exact Int.le_refl _
    · exact hs i j hl hij (by omega)
  case fin =>
    rintro c st' ⟨hc, hB', hs'⟩
    refine ⟨hc, hB', ?_⟩
    rwa [show min (max (max ok 1) n) n = n by omega] at hs'
  case step =>
    rintro k c st' hak hkn ⟨rfl, hB', hs'⟩
    rw [show min k n = k by omega] at hs'
    have hsz := hB'.size
    have hk' : kindOf st' = κ := hB'.kind.trans hk
    have hP' := hP.perm hB'.perm
    refine wpS_bind (wpS_mono (wpS_forRange (I := fun x c st'' => st'' = st' ∧ ∃ l r', c = (none, l, r') ∧ l ≤ r' ∧ r' ≤ k ∧ r' - l ≤ k - x ∧
        (∀ i, lo ≤ i → i < lo + l → R r (arrOf st') i ≤ R r (arrOf st') (lo + k)) ∧ (∀ i, lo + r' ≤ i → i < lo + k → R r (arrOf st') (lo + k) < R r (arrOf st') i))
      (Q := fun c st'' => st'' = st' ∧ ∃ l r', c = (none, l, r') ∧ l ≤ k ∧
        (∀ i, lo ≤ i → i < lo + l → R r (arrOf st') i ≤ R r (arrOf st') (lo + k)) ∧ (∀ i, lo + l ≤ i → i < lo + k → R r (arrOf st') (lo + k) < R r (arrOf st') i)) ?istep ?ifin ?iinit) ?ipost)
    case iinit => exact ⟨rfl, 0, k, rfl, by omega, by omega, by omega, fun i _ hi => by omega, fun i h1 h2 => by omega⟩
    case ifin =>
      rintro c st'' ⟨rfl, l, r', rfl, hlr, hrk, hm, hlo, hhi⟩
      have : l = r' := by omega
      subst this
      exact ⟨rfl, l, l, rfl, hrk, hlo, hhi⟩
    case istep =>
      rintro x c st'' _ hxk ⟨rfl, l, r', rfl, hlr, hrk, hm, hlo, hhi⟩
      dsimp only
      by_cases hge : l ≥ r'
      · rw [if_pos hge]
        have : l = r' := by omega
        subst this
        exact wpS_pure ⟨rfl, l, l, rfl, hrk, hlo, hhi⟩
      · rw [if_neg hge]
        refine wpS_bind (wpS_ltR C hk' hP' (by omega) (by omega) ?_)
        by_cases hless : R r (arrOf st'') (lo + k) < R r (arrOf st'') (lo + (l + r') / 2)
        · simp only [hless, decide_true, if_true]
          refine wpS_pure ⟨rfl, l, (l + r') / 2, rfl, by omega, by omega, by omega, hlo, fun i h1 h2 => ?_⟩
          exact Int.lt_of_lt_of_le hless (hs' _ _ (by omega) h1 h2)
        · simp only [hless, decide_false, Bool.false_eq_true, if_false]
          refine wpS_pure ⟨rfl, (l + r') / 2 + 1, r', rfl, by omega, by omega, by omega, fun i h0 h1 => ?_, hhi⟩
          exact Int.le_trans (hs' i (lo + (l + r') / 2) h0 (by omega) (by omega)) (Int.not_lt.mp hless)
    case ipost =>
      rintro c st'' ⟨rfl, l, r', rfl, hlk, hlo, hhi⟩
      show wpS _ _ _ _ (do moveDown' (lo + k) (lo + l); pure (ForInStep.yield (none, ()))) _ _
      rw [moveDown'_eq]
      have hks : lo + k < (arrOf st'').size := by omega
      refine wpS_bind (wpS_modify (wpS_pure ⟨rfl, hB'.trans ((win_bubble (lo := lo) hks (by omega)).mono (Nat.le_refl _) (by omega)), ?_⟩))
      rw [show min (k + 1) n = k + 1 by omega]
      intro i j hl hij hj
      show R r (bubble (arrOf st'') (lo + k) (lo + k - (lo + l))) i ≤ R r (bubble (arrOf st'') (lo + k) (lo + k - (lo + l))) j
      rw [R_bubble hks (by omega), R_bubble hks (by omega), show lo + k - (lo + k - (lo + l)) = lo + l by omega]
      repeat' split
      all_goals first
        | (exfalso; omega)
        | exact Int.le_refl _
        | exact hlo _ (by omega) (by omega)
        | exact Int.le_of_lt (hhi _ (by omega) (by omega))
        | exact hs' _ _ (by omega) (by omega) (by omega)
end

def ascL (lo a nrem : Nat) : StateT SortSt Sem AscSt :=
  forIn [a:nrem] ((none, a) : AscSt) fun _ __s => do
    let __x ← ltAt' (lo + __s.snd) (lo + __s.snd - 1)
    match __x with
    | some smaller => if smaller = true then pure (ForInStep.done (none, __s.snd)) else pure (ForInStep.yield (none, __s.snd + 1))
    | _ => pure (ForInStep.done (some none, __s.snd))
def tail3L (lo n nrem : Nat) : StateT SortSt Sem (Option Nat) := do
  reverseSlice' lo (lo + n)
  let __s ← ascL lo n nrem
  match __s.fst with
  | some r => pure r
  | none => pure (some __s.snd)
def descL (lo n nrem : Nat) : StateT SortSt Sem DescSt :=
  forIn [n:nrem] ((none, n, 0) : DescSt) fun _ __s => do
    let __x ← ltAt' (lo + __s.snd.fst) (lo + __s.snd.fst - 1)
    match __x with
    | some smaller =>
      if smaller = true then
        if __s.snd.snd > 0 then do
          reverseSlice' (lo + __s.snd.fst - (__s.snd.snd + 1)) (lo + __s.snd.fst)
          pure (ForInStep.yield (none, __s.snd.fst + 1, 0))
        else pure (ForInStep.yield (none, __s.snd.fst + 1, 0))
      else do
        let __x ← ltAt' (lo + __s.snd.fst - 1) (lo + __s.snd.fst)
        match __x with
        | some larger =>
          if larger = true then pure (ForInStep.done (none, __s.snd.fst, __s.snd.snd))
          else pure (ForInStep.yield (none, __s.snd.fst + 1, __s.snd.snd + 1))
        | _ => pure (ForInStep.done (some none, __s.snd.fst, __s.snd.snd))
    | _ => pure (ForInStep.done (some none, __s.snd.fst, __s.snd.snd))
def descPartL (lo n nrem : Nat) : StateT SortSt Sem (Option Nat) := do
  liftM (rule "list.sort.descending-run")
  let __s ← descL lo (n + 1) nrem
  match __s.fst with
  | some r => pure r
  | none =>
    if __s.snd.snd > 0 then do
      reverseSlice' (lo + __s.snd.fst - (__s.snd.snd + 1)) (lo + __s.snd.fst)
      tail3L lo __s.snd.fst nrem
    else tail3L lo __s.snd.fst nrem

theorem countRunL_eq (lo nrem : Nat) : countRun' lo nrem = (do
    let __s ← ascL lo 1 nrem
    match __s.fst with
    | some r => pure r
    | none =>
      if (__s.snd == nrem) = true then pure (some __s.snd)
      else if __s.snd > 1 then do
        let __x ← ltAt' lo (lo + __s.snd - 1)
        match __x with
        | some rose => if rose = true then pure (some __s.snd) else do
            reverseSlice' lo (lo + __s.snd)
            descPartL lo __s.snd nrem
        | _ => pure none
      else descPartL lo __s.snd nrem) := by
  rw [countRun'_eq]
  dsimp only
  unfold descPartL tail3L descL ascL
  congr 1
  funext __s
  obtain ⟨r, n⟩ := __s
  cases r with
  | some r => rfl
  | none =>
    dsimp only
    split
    · rfl
    · split
      · congr 1
        funext x
        cases x with
        | none => rfl
        | some rose =>
          dsimp only
          split
          · rfl
          · congr 1
            funext _r
            (congr 1; funext _u; congr 1; congr 1; funext s2; obtain ⟨r2, n2, q2⟩ := s2; cases r2 with
              | some r2 => rfl
              | none => (dsimp only; split; (congr 1; funext _v; (congr 1; funext _w; congr 1; (funext s3; obtain ⟨r3, n3⟩ := s3; cases r3 <;> rfl))); (congr 1; funext _w; congr 1; (funext s3; obtain ⟨r3, n3⟩ := s3; cases r3 <;> rfl))))
      · (congr 1; funext _u; congr 1; congr 1; funext s2; obtain ⟨r2, n2, q2⟩ := s2; cases r2 with
          | some r2 => rfl
          | none => (dsimp only; split; (congr 1; funext _v; (congr 1; funext _w; congr 1; (funext s3; obtain ⟨r3, n3⟩ := s3; cases r3 <;> rfl))); (congr 1; funext _w; congr 1; (funext s3; obtain ⟨r3, n3⟩ := s3; cases r3 <;> rfl))))

section
variable {prog : Program} {w : World} {A : Around} {E : Value → Shared → Prop} {s : Shared} {κ : SortKind} {r : Value → Int} {P : Value → Prop}

theorem wpS_ascL {st : SortSt} {lo a nrem : Nat} {Q : AscSt → SortSt → Prop} (C : Cmp prog w A s κ r P) (hk : kindOf st = κ) (hP : AllP P (arrOf st)) (hn : lo + nrem ≤ (arrOf st).size) (ha : 1 ≤ a) (han : a ≤ nrem)
    (hs : Up r (arrOf st) lo (lo + a))
    (h : ∀ n, a ≤ n → n ≤ nrem → Up r (arrOf st) lo (lo + n) → (n = nrem ∨ R r (arrOf st) (lo + n) < R r (arrOf st) (lo + n - 1)) → Q (none, n) st) :
    wpS (model prog w) A E s (ascL lo a nrem) Q st := by
  unfold ascL
  refine wpS_forRange (I := fun x c st' => st' = st ∧ c = (none, x) ∧ Up r (arrOf st) lo (lo + x)) ?step ?fin ⟨rfl, rfl, hs⟩
  case fin =>
    rintro c st' ⟨rfl, rfl, hs'⟩
    rw [show max a nrem = nrem by omega] at hs' ⊢
    exact h nrem han (Nat.le_refl _) hs' (.inl rfl)
  case step =>
    rintro x c st' hax hxn ⟨rfl, rfl, hs'⟩
    dsimp only
    refine wpS_bind (wpS_ltR C hk hP (by omega) (by omega) ?_)
    by_cases hless : R r (arrOf st') (lo + x) < R r (arrOf st') (lo + x - 1)
    · simp only [hless, decide_true, if_true]
      exact wpS_pure (h x hax (by omega) hs' (.inr hless))
    · simp only [hless, decide_false, Bool.false_eq_true, if_false]
      refine wpS_pure ⟨rfl, rfl, fun i j hl hij hj => ?_⟩
      by_cases hjx : j < lo + x
      · exact hs' i j hl hij hjx
      · have hj' : j = lo + x := by omega
        subst hj'
        by_cases hi' : i = lo + x
        · subst hi'; exact Int.le_refl _
        · exact Int.le_trans (hs' i (lo + x - 1) hl (by omega) (by omega)) (Int.not_lt.mp hless)

theorem wpS_tail3L {st : SortSt} {lo n nrem : Nat} {Q : Option Nat → SortSt → Prop} (C : Cmp prog w A s κ r P) (hk : kindOf st = κ) (hP : AllP P (arrOf st)) (hn : lo + nrem ≤ (arrOf st).size) (h1 : 1 ≤ n) (hnn : n ≤ nrem)
    (hs : Down r (arrOf st) lo (lo + n)) (h : ∀ m st', Win lo (lo + nrem) st st' → 1 ≤ m → m ≤ nrem → Up r (arrOf st') lo (lo + m) → Q (some m) st') :
    wpS (model prog w) A E s (tail3L lo n nrem) Q st := by
  unfold tail3L
  have hsz : lo + n ≤ (arrOf st).size := by omega
  refine wpS_bind (wpS_reverseR ?_)
  have hB' := win_mirror (i := lo) hsz
  refine wpS_bind (wpS_ascL C (hB'.kind.trans hk) (hP.perm hB'.perm) (by rw [hB'.size]; exact hn) h1 hnn ?_ fun m hm1 hm2 hsm _ => wpS_pure (h m _ (hB'.mono (Nat.le_refl _) (by omega)) (by omega) hm2 hsm))
  intro i j hl hij hj
  show R r (mirror (arrOf st) lo (lo + n) ((lo + n - lo) / 2)) i ≤ R r (mirror (arrOf st) lo (lo + n) ((lo + n - lo) / 2)) j
  rw [R_mirror hsz, R_mirror hsz, if_pos (by omega), if_pos (by omega)]
  exact hs _ _ (by omega) (by omega) (by omega)

theorem wpS_descL {st : SortSt} {lo n nrem : Nat} {Q : DescSt → SortSt → Prop} (C : Cmp prog w A s κ r P) (hk : kindOf st = κ) (hP : AllP P (arrOf st)) (hn : lo + nrem ≤ (arrOf st).size) (h1 : 1 ≤ n) (hnn : n ≤ nrem)
    (hs : Down r (arrOf st) lo (lo + n))
    (h : ∀ m neq st', Win lo (lo + nrem) st st' → n ≤ m → m ≤ nrem → Down r (arrOf st') lo (lo + m) → neq + 1 ≤ m → (∀ i, lo + m - (neq + 1) ≤ i → i < lo + m → R r (arrOf st') i = R r (arrOf st') (lo + m - 1)) → Q (none, m, neq) st') :
    wpS (model prog w) A E s (descL lo n nrem) Q st := by
  unfold descL
  refine wpS_forRange (I := fun x c st' => ∃ neq, c = (none, x, neq) ∧ Win lo (lo + nrem) st st' ∧ Down r (arrOf st') lo (lo + x) ∧ neq + 1 ≤ x ∧
      (∀ i, lo + x - (neq + 1) ≤ i → i < lo + x → R r (arrOf st') i = R r (arrOf st') (lo + x - 1))) ?step ?fin ⟨0, rfl, .refl _ _ _, hs, by omega, fun i h1 h2 => by congr 1; omega⟩
  case fin =>
    rintro c st' ⟨neq, rfl, hB', hs', hq, he⟩
    rw [show max n nrem = nrem by omega] at hs' hq he ⊢
    exact h nrem neq st' hB' hnn (Nat.le_refl _) hs' hq he
  case step =>
    rintro x c st' hax hxn ⟨neq, rfl, hB', hs', hq, he⟩
    dsimp only
    have hz := hB'.size
    have hsz : lo + x ≤ (arrOf st').size := by omega
    have hk' := hB'.kind.trans hk
    have hP' := hP.perm hB'.perm
    refine wpS_bind (wpS_ltR C hk' hP' (by omega) (by omega) ?_)
    by_cases hless : R r (arrOf st') (lo + x) < R r (arrOf st') (lo + x - 1)
    · simp only [hless, decide_true, if_true]
      have step1 : ∀ xs : Array Keyed, (∀ k, R r xs k = R r (arrOf st') k) → Down r xs lo (lo + (x + 1)) := by
        intro xs hkk i j hl hij hj
        rw [hkk, hkk]
        by_cases hjx : j < lo + x
        · exact hs' i j hl hij hjx
        · have hj' : j = lo + x := by omega
          subst hj'
          by_cases hi' : i = lo + x
          · subst hi'; exact Int.le_refl _
          · exact Int.le_trans (Int.le_of_lt hless) (hs' i (lo + x - 1) hl (by omega) (by omega))
      by_cases hneq : neq > 0
      · rw [if_pos hneq]
        refine wpS_bind (wpS_reverseR (wpS_pure ⟨0, rfl, hB'.trans ((win_mirror hsz).mono (by omega) (by omega)), step1 _ (R_mirror_equal hsz he), by omega, fun i h1 h2 => by congr 1; omega⟩))
      · rw [if_neg hneq]
        exact wpS_pure ⟨0, rfl, hB', step1 _ (fun _ => rfl), by omega, fun i h1 h2 => by congr 1; omega⟩
    · simp only [hless, decide_false, Bool.false_eq_true, if_false]
      refine wpS_bind (wpS_ltR C hk' hP' (by omega) (by omega) ?_)
      by_cases hlarger : R r (arrOf st') (lo + x - 1) < R r (arrOf st') (lo + x)
      · simp only [hlarger, decide_true, if_true]
        exact wpS_pure (h x neq st' hB' hax (by omega) hs' hq he)
      · simp only [hlarger, decide_false, Bool.false_eq_true, if_false]
        have heqx : R r (arrOf st') (lo + x) = R r (arrOf st') (lo + x - 1) := by omega
        refine wpS_pure ⟨neq + 1, rfl, hB', fun i j hl hij hj => ?_, by omega, fun i h1 h2 => ?_⟩
        · by_cases hjx : j < lo + x
          · exact hs' i j hl hij hjx
          · have hj' : j = lo + x := by omega
            subst hj'
            by_cases hi' : i = lo + x
            · subst hi'; exact Int.le_refl _
            · rw [heqx]; exact hs' i (lo + x - 1) hl (by omega) (by omega)
        · rw [show lo + (x + 1) - 1 = lo + x by omega]
          by_cases hix : i = lo + x
          · subst hix; rfl
          · rw [heqx]; exact he i (by omega) (by omega)

theorem wpS_descPartL {st : SortSt} {lo n nrem : Nat} {Q : Option Nat → SortSt → Prop} (C : Cmp prog w A s κ r P) (hk : kindOf st = κ) (hP : AllP P (arrOf st)) (hn : lo + nrem ≤ (arrOf st).size) (hnn : n + 1 ≤ nrem)
    (hs : Down r (arrOf st) lo (lo + (n + 1))) (h : ∀ m st', Win lo (lo + nrem) st st' → 1 ≤ m → m ≤ nrem → Up r (arrOf st') lo (lo + m) → Q (some m) st') :
    wpS (model prog w) A E s (descPartL lo n nrem) Q st := by
  unfold descPartL
  refine wpS_bind (wpS_lift (wpAny_rule ⟨rfl, ?_⟩))
  refine wpS_bind (wpS_descL C hk hP hn (by omega) hnn hs fun m neq st' hB' hm1 hm2 hs' hq he => ?_)
  dsimp only
  have hz := hB'.size
  have hsz : lo + m ≤ (arrOf st').size := by omega
  have hk' := hB'.kind.trans hk
  have hP' := hP.perm hB'.perm
  by_cases hneq : neq > 0
  · rw [if_pos hneq]
    have hW := win_mirror (i := lo + m - (neq + 1)) hsz
    refine wpS_bind (wpS_reverseR (wpS_tail3L C (hW.kind.trans hk') (hP'.perm hW.perm) (by rw [hW.size, hz]; exact hn) (by omega) hm2 ?_ fun m2 st2 hB2 => h m2 st2 ((hB'.trans (hW.mono (by omega) (by omega))).trans hB2)))
    intro i j hl hij hj
    show R r (mirror (arrOf st') _ _ _) j ≤ R r (mirror (arrOf st') _ _ _) i
    rw [R_mirror_equal hsz he, R_mirror_equal hsz he]
    exact hs' i j hl hij hj
  · rw [if_neg hneq]
    exact wpS_tail3L C hk' hP' (by rw [hz]; exact hn) (by omega) hm2 hs' fun m2 st2 hB2 => h m2 st2 (hB'.trans hB2)

theorem wpS_countRun {st : SortSt} {lo nrem : Nat} {Q : Option Nat → SortSt → Prop} (C : Cmp prog w A s κ r P) (hk : kindOf st = κ) (hP : AllP P (arrOf st)) (hn : lo + nrem ≤ (arrOf st).size) (h1 : 1 ≤ nrem)
    (h : ∀ m st', Win lo (lo + nrem) st st' → 1 ≤ m → m ≤ nrem → Up r (arrOf st') lo (lo + m) → Q (some m) st') :
    wpS (model prog w) A E s (countRun' lo nrem) Q st := by
  rw [countRunL_eq]
  refine wpS_bind (wpS_ascL C hk hP hn (Nat.le_refl 1) h1 (fun i j hl hij hj => by
    have : i = j := by omega
    subst this; exact Int.le_refl _) fun n hn1 hn2 hsn hor => ?_)
  dsimp only
  by_cases hnn : n = nrem
  · rw [if_pos (by simpa using hnn)]
    exact wpS_pure (h n st (.refl _ _ _) hn1 hn2 hsn)
  · rw [if_neg (by simpa using hnn)]
    have hlt : R r (arrOf st) (lo + n) < R r (arrOf st) (lo + n - 1) := hor.resolve_left hnn
    by_cases hgt : n > 1
    · rw [if_pos hgt]
      refine wpS_bind (wpS_ltR C hk hP (by omega) (by omega) ?_)
      by_cases hrose : R r (arrOf st) lo < R r (arrOf st) (lo + n - 1)
      · simp only [hrose, decide_true, if_true]
        exact wpS_pure (h n st (.refl _ _ _) hn1 hn2 hsn)
      · simp only [hrose, decide_false, Bool.false_eq_true, if_false]
        have hsz : lo + n ≤ (arrOf st).size := by omega
        have hall : ∀ k, lo ≤ k → k < lo + n → R r (arrOf st) k = R r (arrOf st) (lo + n - 1) := by
          intro k hl hk
          have a1 := hsn lo k (by omega) hl hk
          have a2 := hsn k (lo + n - 1) hl (by omega) (by omega)
          omega
        have hW := win_mirror (i := lo) hsz
        refine wpS_bind (wpS_reverseR (wpS_descPartL C (hW.kind.trans hk) (hP.perm hW.perm) (by rw [hW.size]; exact hn) (by omega) ?_ fun m2 st2 hB2 => h m2 st2 ((hW.mono (Nat.le_refl _) (by omega)).trans hB2)))
        intro i j hl hij hj
        show R r (mirror (arrOf st) _ _ _) j ≤ R r (mirror (arrOf st) _ _ _) i
        rw [R_mirror_equal hsz hall, R_mirror_equal hsz hall]
        by_cases hjn : j < lo + n
        · rw [hall i hl (by omega), hall j (by omega) hjn]; exact Int.le_refl _
        · have hj' : j = lo + n := by omega
          subst hj'
          by_cases hi' : i = lo + n
          · subst hi'; exact Int.le_refl _
          · rw [hall i hl (by omega)]; exact Int.le_of_lt hlt
    · rw [if_neg hgt]
      have hn1' : n = 1 := by omega
      subst hn1'
      refine wpS_descPartL C hk hP hn (by omega) ?_ h
      intro i j hl hij hj
      by_cases hi' : i = j
      · subst hi'; exact Int.le_refl _
      · have hi0 : i = lo := by omega
        have hj1 : j = lo + 1 := by omega
        subst hi0; subst hj1
        exact Int.le_of_lt hlt
end
end Tim

set_option Elab.async false
set_option linter.all false
set_option maxRecDepth 100000
set_option maxHeartbeats 4000000
namespace Tim
open PySem PyProof.Rows

def beyond' (left : Bool) (key : Keyed) (arr : Array Keyed) (base i : Nat) : StateT SortSt Sem (Option Bool) := do
  let x ← elem' arr (base + i)
  if left then lt' x key else return (← lt' key x).map (!·)
def gallop' : Bool → Keyed → Array Keyed → Nat → Nat → Nat → StateT SortSt Sem (Option Nat) := sortPriv% PySem.Builtin.gallop
section
variable {prog : Program} {w : World} {A : Around} {E : Value → Shared → Prop} {s : Shared} {κ : SortKind} {r : Value → Int} {P : Value → Prop}
def bey (r : Value → Int) (left : Bool) (key : Keyed) (arr : Array Keyed) (base i : Nat) : Bool :=
  if left then decide (R r arr (base + i) < r key.1) else !decide (r key.1 < R r arr (base + i))
theorem wpS_beyond {st : SortSt} {left : Bool} {key : Keyed} {arr : Array Keyed} {base i : Nat} {Q : Option Bool → SortSt → Prop} (C : Cmp prog w A s κ r P) (hk : kindOf st = κ) (hP : AllP P arr) (hy : P key.1) (hi : base + i < arr.size)
    (h : Q (some (bey r left key arr base i)) st) : wpS (model prog w) A E s (beyond' left key arr base i) Q st := by
  unfold beyond'
  refine wpS_bind (wpS_elem hi fun p ep => ?_)
  have e1 : R r arr (base + i) = r p.1 := by unfold R; rw [ep]
  unfold bey at h
  rw [e1] at h
  cases left with
  | true =>
    simp only [if_true] at h ⊢
    exact wpS_lt C hk (hP.at ep) hy h
  | false =>
    simp only [Bool.false_eq_true, if_false] at h ⊢
    exact wpS_bind (wpS_lt C hk hy (hP.at ep) (wpS_pure h))
theorem bey_mono {left : Bool} {key : Keyed} {arr : Array Keyed} {base n i j : Nat} (hu : Up r arr base (base + n)) (hij : i ≤ j) (hj : j < n) (h : bey r left key arr base j = true) : bey r left key arr base i = true := by
  have q := hu (base + i) (base + j) (by omega) (by omega) (by omega)
  unfold bey at h ⊢
  cases left with
  | true => simp only [if_true, decide_eq_true_eq] at h ⊢; omega
  | false => simp only [Bool.false_eq_true, if_false, Bool.not_eq_true', decide_eq_false_iff_not] at h ⊢; omega

theorem wpS_gallop {st : SortSt} {left : Bool} {key : Keyed} {arr : Array Keyed} {base n hint : Nat} {Q : Option Nat → SortSt → Prop} (C : Cmp prog w A s κ r P) (hk : kindOf st = κ) (hP : AllP P arr) (hy : P key.1) (hn : base + n ≤ arr.size) (hh : hint < n)
    (hu : Up r arr base (base + n))
    (h : ∀ k, k ≤ n → (∀ i, i < k → bey r left key arr base i = true) → (∀ i, k ≤ i → i < n → bey r left key arr base i = false) → Q (some k) st) : wpS (model prog w) A E s (gallop' left key arr base n hint) Q st := by
  have mono : ∀ {i j}, i ≤ j → j < n → bey r left key arr base j = true → bey r left key arr base i = true := fun a b c => bey_mono hu a b c
  have monoF : ∀ {i j}, i ≤ j → j < n → bey r left key arr base i = false → bey r left key arr base j = false := fun {i j} a b c => by
    cases q : bey r left key arr base j with
    | false => rfl
    | true => rw [mono a b q] at c; cases c
  refine wpS_bind (wpS_beyond C hk hP hy (by omega) ?_)
  dsimp only
  cases q0 : bey r left key arr base hint with
  | true =>
    simp only [if_true]
    refine wpS_bind (wpS_mono (wpS_forRange (I := fun x c st' => st' = st ∧ ∃ lst ofs, c = (none, lst, ofs) ∧ lst < ofs ∧ lst < n - hint ∧ x + 1 ≤ ofs ∧ bey r left key arr base (hint + lst) = true)
      (Q := fun c st' => st' = st ∧ ∃ lst ofs, c = (none, lst, ofs) ∧ lst < ofs ∧ lst < n - hint ∧ bey r left key arr base (hint + lst) = true ∧ (n - hint ≤ ofs ∨ bey r left key arr base (hint + ofs) = false)) ?step ?fin ?init) ?post)
    case init => exact ⟨rfl, 0, 1, rfl, by omega, by omega, by omega, q0⟩
    case fin =>
      rintro c st' ⟨rfl, lst, ofs, rfl, h1, h2, h3, h4⟩
      exact ⟨rfl, lst, ofs, rfl, h1, h2, h4, .inl (by omega)⟩
    case step =>
      rintro x c st' _ hx ⟨rfl, lst, ofs, rfl, h1, h2, h3, h4⟩
      dsimp only
      by_cases hge : ofs ≥ n - hint
      · rw [if_pos hge]
        exact wpS_pure ⟨rfl, lst, ofs, rfl, h1, h2, h4, .inl hge⟩
      · rw [if_neg hge]
        refine wpS_bind (wpS_beyond C hk hP hy (by omega) ?_)
        cases q : bey r left key arr base (hint + ofs) with
        | true =>
          simp only [Bool.not_true, Bool.false_eq_true, if_false]
          exact wpS_pure ⟨rfl, _, _, rfl, by omega, by omega, by omega, q⟩
        | false =>
          simp only [Bool.not_false, if_true]
          exact wpS_pure ⟨rfl, lst, ofs, rfl, h1, h2, h4, .inr q⟩
    case post =>
      rintro c st' ⟨rfl, lst, ofs, rfl, h1, h2, h4, h5⟩
      dsimp only
      generalize st' = st at *
      have hl : ∀ i, i < hint + lst + 1 → bey r left key arr base i = true := fun i hi => mono (j := hint + lst) (by omega) (by omega) h4
      have hhi : ∀ i, hint + min ofs (n - hint) ≤ i → i < n → bey r left key arr base i = false := fun i hi hin => by
        rcases h5 with h5 | h5
        · omega
        · by_cases z : n - hint ≤ ofs
          · omega
          · exact monoF (i := hint + ofs) (by omega) hin h5
      have hlh : hint + lst + 1 ≤ hint + min ofs (n - hint) := by omega
      have hhn : hint + min ofs (n - hint) ≤ n := by omega
      generalize hint + lst + 1 = lo at *
      generalize hint + min ofs (n - hint) = hi at *
      refine wpS_bind (wpS_mono (wpS_forRange (I := fun x c st' => st' = st ∧ ∃ l u, c = (none, l, u) ∧ l ≤ u ∧ u ≤ n ∧ u - l ≤ n - x ∧ (∀ i, i < l → bey r left key arr base i = true) ∧ (∀ i, u ≤ i → i < n → bey r left key arr base i = false))
        (Q := fun c st' => st' = st ∧ ∃ l, c = (none, l, l) ∧ l ≤ n ∧ (∀ i, i < l → bey r left key arr base i = true) ∧ (∀ i, l ≤ i → i < n → bey r left key arr base i = false)) ?stepA ?finA ?initA) ?postA)
      case initA => exact ⟨rfl, lo, hi, rfl, hlh, hhn, by omega, hl, hhi⟩
      case finA =>
        rintro c st' ⟨rfl, l, u, rfl, h1, h2, h3, h4, h5⟩
        have : l = u := by omega
        subst this
        exact ⟨rfl, l, rfl, h2, h4, h5⟩
      case stepA =>
        rintro x c st' _ hx ⟨rfl, l, u, rfl, h1, h2, h3, h4, h5⟩
        dsimp only
        by_cases hge : l ≥ u
        · rw [if_pos hge]
          have : l = u := by omega
          subst this
          exact wpS_pure ⟨rfl, l, rfl, h2, h4, h5⟩
        · rw [if_neg hge]
          refine wpS_bind (wpS_beyond C hk hP hy (by omega) ?_)
          cases q : bey r left key arr base (l + (u - l) / 2) with
          | true =>
            simp only [if_true]
            exact wpS_pure ⟨rfl, _, _, rfl, by omega, by omega, by omega, fun i hi => mono (j := l + (u - l) / 2) (by omega) (by omega) q, h5⟩
          | false =>
            simp only [Bool.false_eq_true, if_false]
            exact wpS_pure ⟨rfl, _, _, rfl, by omega, by omega, by omega, h4, fun i hi hin => monoF (i := l + (u - l) / 2) (by omega) hin q⟩
      case postA =>
        rintro c st' ⟨rfl, l, rfl, h2, h4, h5⟩
        exact wpS_pure (h l h2 h4 h5)
  | false =>
    simp only [Bool.false_eq_true, if_false]
    refine wpS_bind (wpS_mono (wpS_forRange (I := fun x c st' => st' = st ∧ ∃ lst ofs, c = (none, lst, ofs) ∧ lst < ofs ∧ lst < hint + 1 ∧ x + 1 ≤ ofs ∧ bey r left key arr base (hint - lst) = false)
      (Q := fun c st' => st' = st ∧ ∃ lst ofs, c = (none, lst, ofs) ∧ lst < ofs ∧ lst < hint + 1 ∧ bey r left key arr base (hint - lst) = false ∧ (hint + 1 ≤ ofs ∨ bey r left key arr base (hint - ofs) = true)) ?step2 ?fin2 ?init2) ?post2)
    case init2 => exact ⟨rfl, 0, 1, rfl, by omega, by omega, by omega, q0⟩
    case fin2 =>
      rintro c st' ⟨rfl, lst, ofs, rfl, h1, h2, h3, h4⟩
      exact ⟨rfl, lst, ofs, rfl, h1, h2, h4, .inl (by omega)⟩
    case step2 =>
      rintro x c st' _ hx ⟨rfl, lst, ofs, rfl, h1, h2, h3, h4⟩
      dsimp only
      by_cases hge : ofs ≥ hint + 1
      · rw [if_pos hge]
        exact wpS_pure ⟨rfl, lst, ofs, rfl, h1, h2, h4, .inl hge⟩
      · rw [if_neg hge]
        refine wpS_bind (wpS_beyond C hk hP hy (by omega) ?_)
        cases q : bey r left key arr base (hint - ofs) with
        | true =>
          simp only [if_true]
          exact wpS_pure ⟨rfl, lst, ofs, rfl, h1, h2, h4, .inr q⟩
        | false =>
          simp only [Bool.false_eq_true, if_false]
          exact wpS_pure ⟨rfl, _, _, rfl, by omega, by omega, by omega, q⟩
    case post2 =>
      rintro c st' ⟨rfl, lst, ofs, rfl, h1, h2, h4, h5⟩
      dsimp only
      generalize st' = st at *
      have hl : ∀ i, i < hint + 1 - min ofs (hint + 1) → bey r left key arr base i = true := fun i hi => by
        rcases h5 with h5 | h5
        · omega
        · by_cases z : hint + 1 ≤ ofs
          · omega
          · exact mono (j := hint - ofs) (by omega) (by omega) h5
      have hhi : ∀ i, hint - lst ≤ i → i < n → bey r left key arr base i = false := fun i hi hin => monoF (i := hint - lst) (by omega) hin h4
      have hlh : hint + 1 - min ofs (hint + 1) ≤ hint - lst := by omega
      have hhn : hint - lst ≤ n := by omega
      generalize hint + 1 - min ofs (hint + 1) = lo at *
      generalize hint - lst = hi at *
      refine wpS_bind (wpS_mono (wpS_forRange (I := fun x c st' => st' = st ∧ ∃ l u, c = (none, l, u) ∧ l ≤ u ∧ u ≤ n ∧ u - l ≤ n - x ∧ (∀ i, i < l → bey r left key arr base i = true) ∧ (∀ i, u ≤ i → i < n → bey r left key arr base i = false))
        (Q := fun c st' => st' = st ∧ ∃ l, c = (none, l, l) ∧ l ≤ n ∧ (∀ i, i < l → bey r left key arr base i = true) ∧ (∀ i, l ≤ i → i < n → bey r left key arr base i = false)) ?stepB ?finB ?initB) ?postB)
      case initB => exact ⟨rfl, lo, hi, rfl, hlh, hhn, by omega, hl, hhi⟩
      case finB =>
        rintro c st' ⟨rfl, l, u, rfl, h1, h2, h3, h4, h5⟩
        have : l = u := by omega
        subst this
        exact ⟨rfl, l, rfl, h2, h4, h5⟩
      case stepB =>
        rintro x c st' _ hx ⟨rfl, l, u, rfl, h1, h2, h3, h4, h5⟩
        dsimp only
        by_cases hge : l ≥ u
        · rw [if_pos hge]
          have : l = u := by omega
          subst this
          exact wpS_pure ⟨rfl, l, rfl, h2, h4, h5⟩
        · rw [if_neg hge]
          refine wpS_bind (wpS_beyond C hk hP hy (by omega) ?_)
          cases q : bey r left key arr base (l + (u - l) / 2) with
          | true =>
            simp only [if_true]
            exact wpS_pure ⟨rfl, _, _, rfl, by omega, by omega, by omega, fun i hi => mono (j := l + (u - l) / 2) (by omega) (by omega) q, h5⟩
          | false =>
            simp only [Bool.false_eq_true, if_false]
            exact wpS_pure ⟨rfl, _, _, rfl, by omega, by omega, by omega, h4, fun i hi hin => monoF (i := l + (u - l) / 2) (by omega) hin q⟩
      case postB =>
        rintro c st' ⟨rfl, l, rfl, h2, h4, h5⟩
        exact wpS_pure (h l h2 h4 h5)
end
end Tim

set_option Elab.async false
set_option linter.all false
set_option maxRecDepth 100000
set_option maxHeartbeats 4000000
namespace Tim
open PySem PyProof.Rows

abbrev Le (r : Value → Int) (x y : Keyed) : Prop := r x.1 ≤ r y.1
theorem R_at {r : Value → Int} {xs : Array Keyed} {i : Nat} {p : Keyed} (e : xs[i]? = some p) : R r xs i = r p.1 := by unfold R; rw [e]
theorem R_get {r : Value → Int} {xs : Array Keyed} {i : Nat} (h : i < xs.size) : R r xs i = r xs[i].1 := R_at (getElem?_pos xs i h)

structure MI (r : Value → Int) (a b out : Array Keyed) (ia ib : Nat) : Prop where
  ha : ia ≤ a.size
  hb : ib ≤ b.size
  perm : out.toList.Perm (a.toList.take ia ++ b.toList.take ib)
  up : out.toList.Pairwise (Le r)
  la : ∀ x ∈ out.toList, ∀ i, ia ≤ i → i < a.size → r x.1 ≤ R r a i
  lb : ∀ x ∈ out.toList, ∀ j, ib ≤ j → j < b.size → r x.1 ≤ R r b j
section
variable {r : Value → Int} {a b out : Array Keyed} {ia ib : Nat}
theorem take_succ' {α : Type} {l : List α} {i : Nat} {x : α} (h : l[i]? = some x) : l.take (i + 1) = l.take i ++ [x] := by
  rw [List.take_add_one, h]; rfl
theorem MI.pushB (M : MI r a b out ia ib) (hA : Up r a 0 a.size) (hB : Up r b 0 b.size) {y : Keyed} (e : b[ib]? = some y) (hl : ia < a.size → R r b ib ≤ R r a ia) : MI r a b (out.push y) ia (ib + 1) := by
  have hib : ib < b.size := (Array.getElem?_eq_some_iff.mp e).1
  have ey := R_at (r := r) e
  refine ⟨M.ha, hib, ?_, ?_, ?_, ?_⟩
  · rw [Array.toList_push, take_succ' (x := y) (by simpa using e), ← List.append_assoc]
    exact M.perm.append_right _
  · rw [Array.toList_push, List.pairwise_append]
    refine ⟨M.up, by simp, fun x hx z hz => ?_⟩
    have : z = y := by simpa using hz
    subst this
    show r x.1 ≤ r z.1
    rw [← ey]
    exact M.lb x hx ib (Nat.le_refl _) hib
  · intro x hx i hi hia
    rw [Array.toList_push] at hx
    rcases List.mem_append.mp hx with hx | hx
    · exact M.la x hx i hi hia
    · have : x = y := by simpa using hx
      subst this
      rw [← ey]
      exact Int.le_trans (hl (by omega)) (hA ia i (Nat.zero_le _) hi hia)
  · intro x hx j hj hjb
    rw [Array.toList_push] at hx
    rcases List.mem_append.mp hx with hx | hx
    · exact M.lb x hx j (by omega) hjb
    · have : x = y := by simpa using hx
      subst this
      rw [← ey]
      exact hB ib j (Nat.zero_le _) (by omega) hjb
theorem MI.pushA (M : MI r a b out ia ib) (hA : Up r a 0 a.size) (hB : Up r b 0 b.size) {y : Keyed} (e : a[ia]? = some y) (hl : ib < b.size → R r a ia ≤ R r b ib) : MI r a b (out.push y) (ia + 1) ib := by
  have hia : ia < a.size := (Array.getElem?_eq_some_iff.mp e).1
  have ey := R_at (r := r) e
  refine ⟨hia, M.hb, ?_, ?_, ?_, ?_⟩
  · rw [Array.toList_push, take_succ' (x := y) (by simpa using e), List.append_assoc]
    refine (M.perm.append_right [y]).trans ?_
    rw [List.append_assoc]
    exact List.Perm.append_left _ List.perm_append_comm
  · rw [Array.toList_push, List.pairwise_append]
    refine ⟨M.up, by simp, fun x hx z hz => ?_⟩
    have : z = y := by simpa using hz
    subst this
    show r x.1 ≤ r z.1
    rw [← ey]
    exact M.la x hx ia (Nat.le_refl _) hia
  · intro x hx i hi hi2
    rw [Array.toList_push] at hx
    rcases List.mem_append.mp hx with hx | hx
    · exact M.la x hx i (by omega) hi2
    · have : x = y := by simpa using hx
      subst this
      rw [← ey]
      exact hA ia i (Nat.zero_le _) (by omega) hi2
  · intro x hx j hj hjb
    rw [Array.toList_push] at hx
    rcases List.mem_append.mp hx with hx | hx
    · exact M.lb x hx j hj hjb
    · have : x = y := by simpa using hx
      subst this
      rw [← ey]
      exact Int.le_trans (hl (by omega)) (hB ib j (Nat.zero_le _) hj hjb)
theorem extract_succ {xs : Array Keyed} {i k : Nat} (h : i + k < xs.size) : xs.extract i (i + (k + 1)) = (xs.extract i (i + k)).push xs[i + k] := by
  apply Array.toList_inj.mp
  rw [Array.toList_push]
  simp only [Array.toList_extract, List.extract_eq_drop_take]
  rw [show i + (k + 1) - i = k + 1 by omega, show i + k - i = k by omega, List.take_add_one]
  congr 1
  rw [List.getElem?_drop]
  simp [h]
theorem MI.addA (hA : Up r a 0 a.size) (hB : Up r b 0 b.size) : ∀ (k : Nat) {out : Array Keyed} {ia : Nat}, MI r a b out ia ib → ia + k ≤ a.size → (ib < b.size → ∀ i, i < k → R r a (ia + i) ≤ R r b ib) → MI r a b (out ++ a.extract ia (ia + k)) (ia + k) ib
  | 0, out, ia, M, h1, h2 => by
    have : a.extract ia (ia + 0) = #[] := Array.eq_empty_of_size_eq_zero (by simp only [Array.size_extract]; omega)
    rw [this]
    simpa using M
  | k + 1, out, ia, M, h1, h2 => by
    have q := MI.addA hA hB k M (by omega) fun hb i hi => h2 hb i (by omega)
    have e : a[ia + k]? = some a[ia + k] := getElem?_pos a (ia + k) (by omega)
    have z := q.pushA hA hB e fun hb => h2 hb k (by omega)
    rw [extract_succ (by omega), Array.append_push]
    exact z
theorem MI.addB (hA : Up r a 0 a.size) (hB : Up r b 0 b.size) : ∀ (k : Nat) {out : Array Keyed} {ib : Nat}, MI r a b out ia ib → ib + k ≤ b.size → (ia < a.size → ∀ i, i < k → R r b (ib + i) ≤ R r a ia) → MI r a b (out ++ b.extract ib (ib + k)) ia (ib + k)
  | 0, out, ib, M, h1, h2 => by
    have : b.extract ib (ib + 0) = #[] := Array.eq_empty_of_size_eq_zero (by simp only [Array.size_extract]; omega)
    rw [this]
    simpa using M
  | k + 1, out, ib, M, h1, h2 => by
    have q := MI.addB hA hB k M (by omega) fun ha i hi => h2 ha i (by omega)
    have e : b[ib + k]? = some b[ib + k] := getElem?_pos b (ib + k) (by omega)
    have z := q.pushB hA hB e fun ha => h2 ha k (by omega)
    rw [extract_succ (by omega), Array.append_push]
    exact z
def Merged (r : Value → Int) (a b out : Array Keyed) : Prop := out.toList.Perm (a.toList ++ b.toList) ∧ out.toList.Pairwise (Le r)
theorem MI.whole (M : MI r a b out a.size b.size) : Merged r a b out := by
  refine ⟨?_, M.up⟩
  have h := M.perm
  rw [List.take_of_length_le (by simp), List.take_of_length_le (by simp)] at h
  exact h
theorem MI.doneB (M : MI r a b out ia b.size) (hA : Up r a 0 a.size) (hB : Up r b 0 b.size) : Merged r a b (out ++ a.extract ia a.size ++ b.extract b.size b.size) := by
  have e : b.extract b.size b.size = #[] := by simp
  rw [e, Array.append_empty]
  have ha := M.ha
  have q := MI.addA hA hB (a.size - ia) M (by omega) fun hb => absurd hb (Nat.lt_irrefl _)
  rw [show ia + (a.size - ia) = a.size by omega] at q
  exact q.whole
theorem MI.doneA (M : MI r a b out a.size ib) (hA : Up r a 0 a.size) (hB : Up r b 0 b.size) : Merged r a b (out ++ a.extract a.size a.size ++ b.extract ib b.size) := by
  have e : a.extract a.size a.size = #[] := by simp
  rw [e, Array.append_empty]
  have hb := M.hb
  have q := MI.addB hA hB (b.size - ib) M (by omega) fun ha => absurd ha (Nat.lt_irrefl _)
  rw [show ib + (b.size - ib) = b.size by omega] at q
  exact q.whole
theorem MI.endB (M : MI r a b out ia ib) (hA : Up r a 0 a.size) (hB : Up r b 0 b.size) (e : ib = b.size) : Merged r a b (out ++ a.extract ia a.size ++ b.extract ib b.size) := by subst e; exact M.doneB hA hB
theorem MI.endA (M : MI r a b out ia ib) (hA : Up r a 0 a.size) (hB : Up r b 0 b.size) (e : ia = a.size) : Merged r a b (out ++ a.extract ia a.size ++ b.extract ib b.size) := by subst e; exact M.doneA hA hB
theorem MI.lastA (M : MI r a b out ia ib) (hA : Up r a 0 a.size) (hB : Up r b 0 b.size) (hia : ia + 1 = a.size) (hg : ∀ j, j < b.size → R r b j ≤ R r a ia) : Merged r a b (out ++ b.extract ib b.size ++ a.extract ia a.size) := by
  have hb := M.hb
  have q := MI.addB hA hB (b.size - ib) M (by omega) fun ha i hi => hg _ (by omega)
  rw [show ib + (b.size - ib) = b.size by omega] at q
  have z := MI.addA hA hB (a.size - ia) q (by omega) fun hb => absurd hb (Nat.lt_irrefl _)
  rw [show ia + (a.size - ia) = a.size by omega] at z
  exact z.whole
theorem MI.start (hA : Up r a 0 a.size) (hB : Up r b 0 b.size) : MI r a b #[] 0 0 := ⟨Nat.zero_le _, Nat.zero_le _, by simp, by simp, fun x hx => by simp at hx, fun x hx => by simp at hx⟩
end

def setMinGallop' : Nat → StateT SortSt Sem Unit := sortPriv% PySem.Builtin.setMinGallop
def mergeLo' : Array Keyed → Array Keyed → StateT SortSt Sem (Array Keyed) := sortPriv% PySem.Builtin.mergeLo
def mergeHi' : Array Keyed → Array Keyed → StateT SortSt Sem (Array Keyed) := sortPriv% PySem.Builtin.mergeHi
theorem setMinGallop'_eq (g : Nat) : setMinGallop' g = modify fun s => SortSt.mk' (kindOf s) (arrOf s) (pendingOf s) g (failedOf s) := rfl
def Mg (st st' : SortSt) : Prop := ∃ g, st' = SortSt.mk' (kindOf st) (arrOf st) (pendingOf st) g (failedOf st)
theorem Mg.refl (st : SortSt) : Mg st st := ⟨gallopOf st, rfl⟩
theorem Mg.kind {st st' : SortSt} (h : Mg st st') : kindOf st' = kindOf st := by obtain ⟨g, rfl⟩ := h; rfl
theorem Mg.set {st st' : SortSt} (h : Mg st st') (g : Nat) : Mg st (SortSt.mk' (kindOf st') (arrOf st') (pendingOf st') g (failedOf st')) := by obtain ⟨g', rfl⟩ := h; exact ⟨g, rfl⟩

section
variable {prog : Program} {w : World} {A : Around} {E : Value → Shared → Prop} {s : Shared} {κ : SortKind} {r : Value → Int} {P : Value → Prop}
theorem wpS_setMg {st : SortSt} {g : Nat} {Q : Unit → SortSt → Prop} (h : Q () (SortSt.mk' (kindOf st) (arrOf st) (pendingOf st) g (failedOf st))) : wpS (model prog w) A E s (setMinGallop' g) Q st := by
  rw [setMinGallop'_eq]; exact wpS_modify h
theorem bey_f {key : Keyed} {arr : Array Keyed} {base i : Nat} (h : bey r false key arr base i = true) : R r arr (base + i) ≤ r key.1 := by
  unfold bey at h; simp only [Bool.false_eq_true, if_false, Bool.not_eq_true', decide_eq_false_iff_not] at h; omega
theorem bey_ff {key : Keyed} {arr : Array Keyed} {base i : Nat} (h : bey r false key arr base i = false) : r key.1 < R r arr (base + i) := by
  unfold bey at h; simp only [Bool.false_eq_true, if_false, Bool.not_eq_false', decide_eq_true_eq] at h; exact h
theorem bey_t {key : Keyed} {arr : Array Keyed} {base i : Nat} (h : bey r true key arr base i = true) : R r arr (base + i) < r key.1 := by
  unfold bey at h; simp only [if_true, decide_eq_true_eq] at h; exact h
theorem bey_tf {key : Keyed} {arr : Array Keyed} {base i : Nat} (h : bey r true key arr base i = false) : r key.1 ≤ R r arr (base + i) := by
  unfold bey at h; simp only [if_true, decide_eq_false_iff_not] at h; omega

theorem both_by {K G : Prop} (pk : K) (h : K → G) : G := h pk
theorem wpS_mergeLo {st : SortSt} {a b : Array Keyed} {Q : Array Keyed → SortSt → Prop} (C : Cmp prog w A s κ r P) (hk : kindOf st = κ) (hPa : AllP P a) (hPb : AllP P b) (hA : Up r a 0 a.size) (hB : Up r b 0 b.size) (na : 1 ≤ a.size) (nb : 1 ≤ b.size)
    (h0 : R r b 0 ≤ R r a 0) (hg : ∀ j, j < b.size → R r b j ≤ R r a (a.size - 1)) (h : ∀ out st', Merged r a b out → Mg st st' → Q out st') : wpS (model prog w) A E s (mergeLo' a b) Q st := by
  refine wpS_bind (wpS_lift (wpAny_rule ⟨rfl, ?_⟩))
  refine wpS_bind (wpS_elem nb fun y0 e0 => ?_)
  have M1 : MI r a b #[y0] 0 1 := (MI.start hA hB).pushB hA hB e0 fun _ => h0
  by_cases c1 : 1 = b.size
  · rw [if_pos (by simpa using c1)]
    exact wpS_pure (h _ _ (M1.endB hA hB c1) (.refl st))
  · rw [if_neg (by simpa using c1)]
    by_cases c2 : 0 + 1 = a.size
    · rw [if_pos (by simpa using c2)]
      exact wpS_pure (h _ _ (M1.lastA hA hB c2 fun j hj => by have := hg j hj; rwa [show a.size - 1 = 0 by omega] at this) (.refl st))
    · rw [if_neg (by simpa using c2)]
      refine wpS_bind (wpS_get ?_)
      refine wpS_bind (wpS_mono (wpS_forRange (I := fun x c st' => Mg st st' ∧ ∃ out ia ib mg, c = (none, out, ia, ib, mg) ∧ MI r a b out ia ib ∧ ia + 1 < a.size ∧ ib < b.size ∧ x + 1 ≤ ia + ib)
        (Q := fun c st' => Mg st st' ∧ ∃ out rest, c = (some out, rest) ∧ Merged r a b out) ?step ?fin ?init) ?post)
      case init => exact ⟨.refl st, _, _, _, _, rfl, M1, by omega, by omega, by omega⟩
      case fin =>
        rintro c st' ⟨_, out, ia, ib, mg, rfl, M, h1, h2, h3⟩
        omega
      case post =>
        rintro c st' ⟨hm, out, rest, rfl, hM⟩
        exact wpS_pure (h out st' hM hm)
      case step =>
        rintro x c st1 _ hx ⟨hm1, out, ia, ib, mg, rfl, M, h1, h2, h3⟩
        dsimp only
        refine wpS_bind (wpS_mono (wpS_forRange (I := fun y c st' => st' = st1 ∧ ∃ out ia' ib' ac bc, c = (none, out, ia', ib', ac, bc) ∧ MI r a b out ia' ib' ∧ ia' + 1 < a.size ∧ ib' < b.size ∧ ia + ib + y ≤ ia' + ib')
          (Q := fun c st' => st' = st1 ∧ ((∃ out rest, c = (some out, rest) ∧ Merged r a b out) ∨ ∃ out ia' ib' ac bc, c = (none, out, ia', ib', ac, bc) ∧ MI r a b out ia' ib' ∧ ia' + 1 < a.size ∧ ib' < b.size ∧ ia + ib + 1 ≤ ia' + ib')) ?step1 ?fin1 ?init1) ?post1)
        case init1 => exact ⟨rfl, _, _, _, _, _, rfl, M, h1, h2, by omega⟩
        case fin1 =>
          rintro c st' ⟨rfl, out, ia', ib', ac, bc, rfl, M', q1, q2, q3⟩
          exact ⟨rfl, .inr ⟨_, _, _, _, _, rfl, M', q1, q2, by omega⟩⟩
        case step1 =>
          rintro y c st' _ hy ⟨rfl, out, ia', ib', ac, bc, rfl, M', q1, q2, q3⟩
          dsimp only
          refine wpS_bind (wpS_elem q2 fun pb eb => wpS_bind (wpS_elem (by omega) fun pa ea => wpS_bind (wpS_lt C (hm1.kind.trans hk) (hPb.at eb) (hPa.at ea) ?_)))
          have rb := R_at (r := r) eb
          have ra := R_at (r := r) ea
          by_cases hw : r pb.1 < r pa.1
          · simp only [hw, decide_true, if_true]
            refine wpS_bind (wpS_elem q2 fun pb' eb' => ?_)
            rw [eb] at eb'; cases eb'
            have M2 := M'.pushB hA hB eb fun _ => by omega
            by_cases z : ib' + 1 = b.size
            · rw [if_pos (by simpa using z)]
              exact wpS_pure ⟨rfl, .inl ⟨_, _, rfl, M2.endB hA hB z⟩⟩
            · rw [if_neg (by simpa using z)]
              split
              · exact wpS_pure ⟨rfl, .inr ⟨_, _, _, _, _, rfl, M2, q1, by omega, by omega⟩⟩
              · exact wpS_pure ⟨rfl, _, _, _, _, _, rfl, M2, q1, by omega, by omega⟩
          · simp only [hw, decide_false, Bool.false_eq_true, if_false]
            refine wpS_bind (wpS_elem (by omega) fun pa' ea' => ?_)
            rw [ea] at ea'; cases ea'
            have M2 := M'.pushA hA hB ea fun _ => by omega
            by_cases z : ia' + 1 + 1 = a.size
            · rw [if_pos (by simpa using z)]
              exact wpS_pure ⟨rfl, .inl ⟨_, _, rfl, M2.lastA hA hB z fun j hj => by have := hg j hj; rwa [show a.size - 1 = ia' + 1 by omega] at this⟩⟩
            · rw [if_neg (by simpa using z)]
              split
              · exact wpS_pure ⟨rfl, .inr ⟨_, _, _, _, _, rfl, M2, by omega, q2, by omega⟩⟩
              · exact wpS_pure ⟨rfl, _, _, _, _, _, rfl, M2, by omega, q2, by omega⟩
        case post1 =>
          rintro c st' ⟨rfl, ⟨out, rest, rfl, hM⟩ | ⟨out, ia', ib', ac, bc, rfl, M', q1, q2, q3⟩⟩
          · exact wpS_pure ⟨hm1, _, _, rfl, hM⟩
          · dsimp only
            refine wpS_bind (wpS_lift (wpAny_rule ⟨rfl, ?_⟩))
            refine wpS_bind (wpS_mono (wpS_forRange (I := fun y c st' => Mg st st' ∧ ∃ out ia2 ib2 mg ac bc, c = (none, out, ia2, ib2, mg, ac, bc) ∧ MI r a b out ia2 ib2 ∧ ia2 + 1 < a.size ∧ ib2 < b.size ∧ ia' + ib' ≤ ia2 + ib2)
              (Q := fun c st' => Mg st st' ∧ ((∃ out rest, c = (some out, rest) ∧ Merged r a b out) ∨ ∃ out ia2 ib2 mg ac bc, c = (none, out, ia2, ib2, mg, ac, bc) ∧ MI r a b out ia2 ib2 ∧ ia2 + 1 < a.size ∧ ib2 < b.size ∧ ia' + ib' ≤ ia2 + ib2)) ?step2 ?fin2 ?init2) ?post2)
            case init2 => exact ⟨hm1, _, _, _, _, _, _, rfl, M', q1, q2, by omega⟩
            case fin2 =>
              rintro c st' ⟨hm, out, ia2, ib2, mg, ac, bc, rfl, M2, p1, p2, p3⟩
              exact ⟨hm, .inr ⟨_, _, _, _, _, _, rfl, M2, p1, p2, p3⟩⟩
            case post2 =>
              rintro c st' ⟨hm, ⟨out, rest, rfl, hM⟩ | ⟨out, ia2, ib2, mg, ac, bc, rfl, M2, p1, p2, p3⟩⟩
              · exact wpS_pure ⟨hm, _, _, rfl, hM⟩
              · dsimp only
                exact wpS_bind (wpS_setMg (wpS_pure ⟨hm.set _, _, _, _, _, rfl, M2, p1, p2, by omega⟩))
            case step2 =>
              rintro y c st2 _ hy ⟨hm2, out, ia2, ib2, mg, ac, bc, rfl, M2, p1, p2, p3⟩
              dsimp only
              refine both_by ?pk (K := ?K) fun key => ?main
              case main =>
                by_cases hmg : mg > 1
                · rw [if_pos hmg]
                  generalize mg - 1 = mg1
                  clear hmg
                  revert mg1
                  exact key
                · rw [if_neg hmg]
                  exact key mg
              intro mg
              refine wpS_bind (wpS_setMg ?_)
              refine wpS_bind (wpS_elem p2 fun pb eb => wpS_bind (wpS_gallop C ((hm2.set _).kind.trans hk) hPa (hPb.at eb) (by omega) (by omega) (fun i j u v w => hA i j (by omega) v (by omega)) fun k hk1 hk2 hk3 => ?_))
              have rb := R_at (r := r) eb
              dsimp only
              -- a's part that goes ahead of b's next
              have M3 := MI.addA hA hB k M2 (by omega) fun _ i hi => by have := bey_f (hk2 i hi); omega
              have lt3 : ia2 + k < a.size → R r b ib2 < R r a (ia2 + k) := fun z => by have := bey_ff (hk3 k (Nat.le_refl _) (by omega)); omega
              obtain ⟨n0, hn0⟩ : ∃ n, n = ia2 := ⟨_, rfl⟩
              have hC0 : ¬ k > 0 → MI r a b out ia2 ib2 ∧ ia2 + 1 < a.size ∧ R r b ib2 < R r a ia2 ∧ n0 ≤ ia2 := fun k0 => ⟨M2, p1, by rw [show k = 0 by omega] at lt3; exact lt3 (by omega), by omega⟩
              have hC1 : ¬ ia2 + k + 1 = a.size → ¬ ia2 + k = a.size → ia2 + k + 1 < a.size ∧ R r b ib2 < R r a (ia2 + k) ∧ n0 ≤ ia2 + k := fun h1 h2 => ⟨by omega, lt3 (by omega), by omega⟩
              refine both_by ?pk2 (K := ?K2) fun key => ?main2
              case main2 =>
                by_cases k0 : k > 0
                rotate_left
                · rw [if_neg k0]
                  have hC := hC0 k0
                  generalize out = o at hC ⊢
                  generalize ia2 = i at hC ⊢
                  revert o i hC
                  exact key
                · rw [if_pos k0]
                  by_cases z : ia2 + k + 1 = a.size
                  · rw [if_pos (by simpa using z)]
                    exact wpS_pure ⟨hm2.set _, .inl ⟨_, _, rfl, M3.lastA hA hB z fun j hj => by have := hg j hj; rwa [show a.size - 1 = ia2 + k by omega] at this⟩⟩
                  · rw [if_neg (by simpa using z)]
                    by_cases z2 : ia2 + k = a.size
                    · rw [if_pos (by simpa using z2)]
                      exact wpS_pure ⟨hm2.set _, .inl ⟨_, _, rfl, M3.endA hA hB z2⟩⟩
                    · rw [if_neg (by simpa using z2)]
                      exact key _ _ ⟨M3, hC1 z z2⟩
              clear lt3 M3
              rintro o i ⟨M3, i1, lt3, i2⟩
              refine wpS_bind (wpS_elem p2 fun pb' eb' => ?_)
              rw [eb] at eb'; cases eb'
              have M4 := M3.pushB hA hB eb fun z => Int.le_of_lt lt3
              by_cases z3 : ib2 + 1 = b.size
              · rw [if_pos (by simpa using z3)]
                exact wpS_pure ⟨hm2.set _, .inl ⟨_, _, rfl, M4.endB hA hB z3⟩⟩
              · rw [if_neg (by simpa using z3)]
                refine wpS_bind (wpS_elem (by omega) fun pa ea => wpS_bind (wpS_gallop C ((hm2.set _).kind.trans hk) hPb (hPa.at ea) (by omega) (by omega) (fun i j u v w => hB i j (by omega) v (by omega)) fun l hl1 hl2 hl3 => ?_))
                have ra := R_at (r := r) ea
                dsimp only
                have M5 := MI.addB hA hB l M4 (by omega) fun _ i hi => by have := bey_t (hl2 i hi); omega
                have lt5 : ib2 + 1 + l < b.size → R r a i ≤ R r b (ib2 + 1 + l) := fun z => by have := bey_tf (hl3 l (Nat.le_refl _) (by omega)); omega
                have fin : ∀ {o' : Array Keyed} {j : Nat}, MI r a b o' (i + 1) j → j < b.size → ib2 ≤ j → ¬ i + 1 + 1 = a.size → MI r a b o' (i + 1) j ∧ i + 1 + 1 < a.size ∧ j < b.size ∧ ia' + ib' ≤ i + 1 + j := fun M h1 h2 h3 => ⟨M, by omega, h1, by omega⟩
                by_cases l0 : l > 0
                · rw [if_pos l0]
                  by_cases z4 : ib2 + 1 + l = b.size
                  · rw [if_pos (by simpa using z4)]
                    exact wpS_pure ⟨hm2.set _, .inl ⟨_, _, rfl, M5.endB hA hB z4⟩⟩
                  · rw [if_neg (by simpa using z4)]
                    refine wpS_bind (wpS_elem (by omega) fun pa' ea' => ?_)
                    rw [ea] at ea'; cases ea'
                    have M6 := M5.pushA hA hB ea fun z => lt5 z
                    by_cases z5 : i + 1 + 1 = a.size
                    · rw [if_pos (by simpa using z5)]
                      exact wpS_pure ⟨hm2.set _, .inl ⟨_, _, rfl, M6.lastA hA hB z5 fun j hj => by have := hg j hj; rwa [show a.size - 1 = i + 1 by omega] at this⟩⟩
                    · rw [if_neg (by simpa using z5)]
                      have q := fin M6 (by omega) (by omega) z5
                      split
                      · exact wpS_pure ⟨hm2.set _, .inr ⟨_, _, _, _, _, _, rfl, q⟩⟩
                      · exact wpS_pure ⟨hm2.set _, _, _, _, _, _, _, rfl, q⟩
                · rw [if_neg l0]
                  have hl0 : l = 0 := by omega
                  subst hl0
                  refine wpS_bind (wpS_elem (by omega) fun pa' ea' => ?_)
                  rw [ea] at ea'; cases ea'
                  have M6 := M4.pushA hA hB ea fun z => lt5 z
                  by_cases z5 : i + 1 + 1 = a.size
                  · rw [if_pos (by simpa using z5)]
                    exact wpS_pure ⟨hm2.set _, .inl ⟨_, _, rfl, M6.lastA hA hB z5 fun j hj => by have := hg j hj; rwa [show a.size - 1 = i + 1 by omega] at this⟩⟩
                  · rw [if_neg (by simpa using z5)]
                    have q := fin M6 (by omega) (by omega) z5
                    split
                    · exact wpS_pure ⟨hm2.set _, .inr ⟨_, _, _, _, _, _, rfl, q⟩⟩
                    · exact wpS_pure ⟨hm2.set _, _, _, _, _, _, _, rfl, q⟩
end
end Tim

set_option Elab.async false
set_option linter.all false
set_option maxRecDepth 100000
set_option maxHeartbeats 4000000
namespace Tim
open PySem PyProof.Rows

abbrev Ge (r : Value → Int) (x y : Keyed) : Prop := r y.1 ≤ r x.1
structure MH (r : Value → Int) (a b out : Array Keyed) (na nb : Nat) : Prop where
  ha : na ≤ a.size
  hb : nb ≤ b.size
  perm : out.toList.Perm (a.toList.drop na ++ b.toList.drop nb)
  down : out.toList.Pairwise (Ge r)
  ga : ∀ x ∈ out.toList, ∀ i, i < na → R r a i ≤ r x.1
  gb : ∀ x ∈ out.toList, ∀ j, j < nb → R r b j ≤ r x.1
section
variable {r : Value → Int} {a b out : Array Keyed} {na nb : Nat}
theorem drop_pred {α : Type} {l : List α} {i : Nat} {x : α} (h0 : 0 < i) (h : l[i - 1]? = some x) : l.drop (i - 1) = x :: l.drop i := by
  obtain ⟨hi, e⟩ := List.getElem?_eq_some_iff.mp h
  rw [List.drop_eq_getElem_cons hi, e, show i - 1 + 1 = i by omega]
theorem MH.pushA (M : MH r a b out na nb) (hA : Up r a 0 a.size) (hB : Up r b 0 b.size) (h0 : 0 < na) {y : Keyed} (e : a[na - 1]? = some y) (hl : 0 < nb → R r b (nb - 1) ≤ R r a (na - 1)) : MH r a b (out.push y) (na - 1) nb := by
  have ey := R_at (r := r) e
  have ha := M.ha
  have hb := M.hb
  refine ⟨by omega, M.hb, ?_, ?_, ?_, ?_⟩
  · rw [Array.toList_push, drop_pred (x := y) h0 (by simpa using e)]
    refine (M.perm.append_right [y]).trans ?_
    exact List.perm_append_comm
  · rw [Array.toList_push, List.pairwise_append]
    refine ⟨M.down, by simp, fun x hx z hz => ?_⟩
    have : z = y := by simpa using hz
    subst this
    show r z.1 ≤ r x.1
    rw [← ey]
    exact M.ga x hx (na - 1) (by omega)
  · intro x hx i hi
    rw [Array.toList_push] at hx
    rcases List.mem_append.mp hx with hx | hx
    · exact M.ga x hx i (by omega)
    · have : x = y := by simpa using hx
      subst this
      rw [← ey]
      exact hA i (na - 1) (Nat.zero_le _) (by omega) (by omega)
  · intro x hx j hj
    rw [Array.toList_push] at hx
    rcases List.mem_append.mp hx with hx | hx
    · exact M.gb x hx j hj
    · have : x = y := by simpa using hx
      subst this
      rw [← ey]
      exact Int.le_trans (hB j (nb - 1) (Nat.zero_le _) (by omega) (by omega)) (hl (by omega))
theorem MH.pushB (M : MH r a b out na nb) (hA : Up r a 0 a.size) (hB : Up r b 0 b.size) (h0 : 0 < nb) {y : Keyed} (e : b[nb - 1]? = some y) (hl : 0 < na → R r a (na - 1) ≤ R r b (nb - 1)) : MH r a b (out.push y) na (nb - 1) := by
  have ey := R_at (r := r) e
  have ha := M.ha
  have hb := M.hb
  refine ⟨M.ha, by omega, ?_, ?_, ?_, ?_⟩
  · rw [Array.toList_push, drop_pred (x := y) h0 (by simpa using e)]
    refine (M.perm.append_right [y]).trans ?_
    rw [List.append_assoc]
    exact List.Perm.append_left _ List.perm_append_comm
  · rw [Array.toList_push, List.pairwise_append]
    refine ⟨M.down, by simp, fun x hx z hz => ?_⟩
    have : z = y := by simpa using hz
    subst this
    show r z.1 ≤ r x.1
    rw [← ey]
    exact M.gb x hx (nb - 1) (by omega)
  · intro x hx i hi
    rw [Array.toList_push] at hx
    rcases List.mem_append.mp hx with hx | hx
    · exact M.ga x hx i hi
    · have : x = y := by simpa using hx
      subst this
      rw [← ey]
      exact Int.le_trans (hA i (na - 1) (Nat.zero_le _) (by omega) (by omega)) (hl (by omega))
  · intro x hx j hj
    rw [Array.toList_push] at hx
    rcases List.mem_append.mp hx with hx | hx
    · exact M.gb x hx j (by omega)
    · have : x = y := by simpa using hx
      subst this
      rw [← ey]
      exact hB j (nb - 1) (Nat.zero_le _) (by omega) (by omega)
theorem extract_top {xs : Array Keyed} {i n : Nat} (h : i < n) (hn : n ≤ xs.size) : (xs.extract i n).reverse = #[xs[n - 1]'(by omega)] ++ (xs.extract i (n - 1)).reverse := by
  obtain ⟨k, rfl⟩ : ∃ k, n = i + (k + 1) := ⟨n - 1 - i, by omega⟩
  have e3 : i + (k + 1) - 1 = i + k := by omega
  simp only [e3]
  rw [extract_succ (by omega), Array.reverse_push]
theorem MH.addA (hA : Up r a 0 a.size) (hB : Up r b 0 b.size) : ∀ (k : Nat) {out : Array Keyed} {na p : Nat}, MH r a b out na nb → p + k = na → (0 < nb → ∀ i, p ≤ i → i < na → R r b (nb - 1) ≤ R r a i) → MH r a b (out ++ (a.extract p na).reverse) p nb
  | 0, out, na, p, M, h1, h2 => by
    have : a.extract p na = #[] := Array.eq_empty_of_size_eq_zero (by simp only [Array.size_extract]; omega)
    have e : na = p := by omega
    subst e
    rw [this]
    simpa using M
  | k + 1, out, na, p, M, h1, h2 => by
    have ha := M.ha
    have e : a[na - 1]? = some (a[na - 1]'(by omega)) := getElem?_pos a (na - 1) (by omega)
    have q := M.pushA hA hB (by omega) e fun hb => h2 hb _ (by omega) (by omega)
    have z := MH.addA hA hB k (p := p) q (by omega) fun hb i hi1 hi2 => h2 hb i hi1 (by omega)
    rw [extract_top (by omega) ha, ← Array.append_assoc]
    simpa using z
theorem MH.addB (hA : Up r a 0 a.size) (hB : Up r b 0 b.size) : ∀ (k : Nat) {out : Array Keyed} {nb p : Nat}, MH r a b out na nb → p + k = nb → (0 < na → ∀ i, p ≤ i → i < nb → R r a (na - 1) ≤ R r b i) → MH r a b (out ++ (b.extract p nb).reverse) na p
  | 0, out, nb, p, M, h1, h2 => by
    have : b.extract p nb = #[] := Array.eq_empty_of_size_eq_zero (by simp only [Array.size_extract]; omega)
    have e : nb = p := by omega
    subst e
    rw [this]
    simpa using M
  | k + 1, out, nb, p, M, h1, h2 => by
    have hb := M.hb
    have e : b[nb - 1]? = some (b[nb - 1]'(by omega)) := getElem?_pos b (nb - 1) (by omega)
    have q := M.pushB hA hB (by omega) e fun ha => h2 ha _ (by omega) (by omega)
    have z := MH.addB hA hB k (p := p) q (by omega) fun ha i hi1 hi2 => h2 ha i hi1 (by omega)
    rw [extract_top (by omega) hb, ← Array.append_assoc]
    simpa using z
theorem MH.whole (M : MH r a b out 0 0) : Merged r a b out.reverse := by
  refine ⟨?_, ?_⟩
  · have h := M.perm
    rw [List.drop_zero, List.drop_zero] at h
    rw [Array.toList_reverse]
    exact (List.reverse_perm _).trans h
  · rw [Array.toList_reverse, List.pairwise_reverse]
    exact M.down
theorem rev_app (x y : Array Keyed) : (x ++ y.reverse).reverse = y ++ x.reverse := by
  apply Array.toList_inj.mp
  simp
theorem MH.endA (M : MH r a b out na nb) (hA : Up r a 0 a.size) (hB : Up r b 0 b.size) (e : na = 0) : Merged r a b (a.extract 0 na ++ b.extract 0 nb ++ out.reverse) := by
  subst e
  have z := MH.addB hA hB nb (p := 0) M (by omega) fun ha => absurd ha (Nat.lt_irrefl _)
  have q := z.whole
  rw [rev_app] at q
  have e2 : a.extract 0 0 = #[] := by simp
  rw [e2, Array.empty_append]
  exact q
theorem MH.endB (M : MH r a b out na nb) (hA : Up r a 0 a.size) (hB : Up r b 0 b.size) (e : nb = 0) : Merged r a b (a.extract 0 na ++ b.extract 0 nb ++ out.reverse) := by
  subst e
  have z := MH.addA hA hB na (p := 0) M (by omega) fun hb => absurd hb (Nat.lt_irrefl _)
  have q := z.whole
  rw [rev_app] at q
  have e2 : b.extract 0 0 = #[] := by simp
  rw [e2, Array.append_empty]
  exact q
theorem MH.firstB (M : MH r a b out na nb) (hA : Up r a 0 a.size) (hB : Up r b 0 b.size) (e : nb = 1) (hl : ∀ i, i < a.size → R r b 0 ≤ R r a i) : Merged r a b (b.extract 0 nb ++ a.extract 0 na ++ out.reverse) := by
  subst e
  have ha := M.ha
  have z := MH.addA hA hB na (p := 0) M (by omega) fun _ i _ hi => hl i (by omega)
  have z2 := MH.addB hA hB 1 (p := 0) z (by omega) fun h => absurd h (Nat.lt_irrefl _)
  have q := z2.whole
  rw [rev_app, rev_app] at q
  rw [Array.append_assoc]
  exact q
theorem MH.start : MH r a b #[] a.size b.size := ⟨Nat.le_refl _, Nat.le_refl _, by simp, by simp, fun x hx => by simp at hx, fun x hx => by simp at hx⟩
end

section
variable {prog : Program} {w : World} {A : Around} {E : Value → Shared → Prop} {s : Shared} {κ : SortKind} {r : Value → Int} {P : Value → Prop}
theorem wpS_mergeHi {st : SortSt} {a b : Array Keyed} {Q : Array Keyed → SortSt → Prop} (C : Cmp prog w A s κ r P) (hk : kindOf st = κ) (hPa : AllP P a) (hPb : AllP P b) (hA : Up r a 0 a.size) (hB : Up r b 0 b.size) (na : 1 ≤ a.size) (nb : 1 ≤ b.size)
    (h0 : R r b 0 ≤ R r a 0) (hg : ∀ j, j < b.size → R r b j ≤ R r a (a.size - 1)) (h : ∀ out st', Merged r a b out → Mg st st' → Q out st') : wpS (model prog w) A E s (mergeHi' a b) Q st := by
  have hl : ∀ i, i < a.size → R r b 0 ≤ R r a i := fun i hi => Int.le_trans h0 (hA 0 i (Nat.le_refl _) (Nat.zero_le _) hi)
  refine wpS_bind (wpS_lift (wpAny_rule ⟨rfl, ?_⟩))
  refine wpS_bind (wpS_elem (by omega) fun y0 e0 => ?_)
  have M1 : MH r a b #[y0] (a.size - 1) b.size := MH.start.pushA hA hB (by omega) e0 fun _ => hg _ (by omega)
  by_cases c1 : a.size - 1 = 0
  · rw [if_pos (by simpa using c1)]
    exact wpS_pure (h _ _ (M1.endA hA hB c1) (.refl st))
  · rw [if_neg (by simpa using c1)]
    by_cases c2 : b.size = 1
    · rw [if_pos (by simpa using c2)]
      exact wpS_pure (h _ _ (M1.firstB hA hB c2 hl) (.refl st))
    · rw [if_neg (by simpa using c2)]
      refine wpS_bind (wpS_get ?_)
      refine wpS_bind (wpS_mono (wpS_forRange (I := fun x c st' => Mg st st' ∧ ∃ na nb out mg, c = (none, na, nb, out, mg) ∧ MH r a b out na nb ∧ 1 ≤ na ∧ 2 ≤ nb ∧ na + nb + x + 1 ≤ a.size + b.size)
        (Q := fun c st' => Mg st st' ∧ ∃ out rest, c = (some out, rest) ∧ Merged r a b out) ?step ?fin ?init) ?post)
      case init => exact ⟨.refl st, _, _, _, _, rfl, M1, by omega, by omega, by omega⟩
      case fin =>
        rintro c st' ⟨_, na, nb, out, mg, rfl, M, h1, h2, h3⟩
        omega
      case post =>
        rintro c st' ⟨hm, out, rest, rfl, hM⟩
        exact wpS_pure (h out st' hM hm)
      case step =>
        rintro x c st1 _ hx ⟨hm1, na, nb, out, mg, rfl, M, h1, h2, h3⟩
        have za := M.ha
        have zb := M.hb
        dsimp only
        refine wpS_bind (wpS_mono (wpS_forRange (I := fun y c st' => st' = st1 ∧ ∃ na' nb' out ac bc, c = (none, na', nb', out, ac, bc) ∧ MH r a b out na' nb' ∧ 1 ≤ na' ∧ 2 ≤ nb' ∧ na' + nb' + y ≤ na + nb)
          (Q := fun c st' => st' = st1 ∧ ((∃ rest out rest', c = (some out, rest) ∧ rest' = rest ∧ Merged r a b out) ∨ ∃ na' nb' out ac bc, c = (none, na', nb', out, ac, bc) ∧ MH r a b out na' nb' ∧ 1 ≤ na' ∧ 2 ≤ nb' ∧ na' + nb' + 1 ≤ na + nb)) ?step1 ?fin1 ?init1) ?post1)
        case init1 => exact ⟨rfl, _, _, _, _, _, rfl, M, h1, h2, by omega⟩
        case fin1 =>
          rintro c st' ⟨rfl, na', nb', out, ac, bc, rfl, M', q1, q2, q3⟩
          exact ⟨rfl, .inr ⟨_, _, _, _, _, rfl, M', q1, q2, by omega⟩⟩
        case step1 =>
          rintro y c st' _ hy ⟨rfl, na', nb', out, ac, bc, rfl, M', q1, q2, q3⟩
          have ya := M'.ha
          have yb := M'.hb
          dsimp only
          refine wpS_bind (wpS_elem (by omega) fun pb eb => wpS_bind (wpS_elem (by omega) fun pa ea => wpS_bind (wpS_lt C (hm1.kind.trans hk) (hPb.at eb) (hPa.at ea) ?_)))
          have rb := R_at (r := r) eb
          have ra := R_at (r := r) ea
          by_cases hw : r pb.1 < r pa.1
          · simp only [hw, decide_true, if_true]
            refine wpS_bind (wpS_elem (by omega) fun pa' ea' => ?_)
            rw [ea] at ea'; cases ea'
            have M2 := M'.pushA hA hB (by omega) ea fun _ => by omega
            by_cases z : na' - 1 = 0
            · rw [if_pos (by simpa using z)]
              exact wpS_pure ⟨rfl, .inl ⟨_, _, _, rfl, rfl, M2.endA hA hB z⟩⟩
            · rw [if_neg (by simpa using z)]
              split
              · exact wpS_pure ⟨rfl, .inr ⟨_, _, _, _, _, rfl, M2, by omega, by omega, by omega⟩⟩
              · exact wpS_pure ⟨rfl, _, _, _, _, _, rfl, M2, by omega, by omega, by omega⟩
          · simp only [hw, decide_false, Bool.false_eq_true, if_false]
            refine wpS_bind (wpS_elem (by omega) fun pb' eb' => ?_)
            rw [eb] at eb'; cases eb'
            have M2 := M'.pushB hA hB (by omega) eb fun _ => by omega
            by_cases z : nb' - 1 = 1
            · rw [if_pos (by simpa using z)]
              exact wpS_pure ⟨rfl, .inl ⟨_, _, _, rfl, rfl, M2.firstB hA hB z hl⟩⟩
            · rw [if_neg (by simpa using z)]
              split
              · exact wpS_pure ⟨rfl, .inr ⟨_, _, _, _, _, rfl, M2, by omega, by omega, by omega⟩⟩
              · exact wpS_pure ⟨rfl, _, _, _, _, _, rfl, M2, by omega, by omega, by omega⟩
        case post1 =>
          rintro c st' ⟨rfl, ⟨rest, out, _, rfl, _, hM⟩ | ⟨na', nb', out, ac, bc, rfl, M', q1, q2, q3⟩⟩
          · exact wpS_pure ⟨hm1, _, _, rfl, hM⟩
          · dsimp only
            refine wpS_bind (wpS_lift (wpAny_rule ⟨rfl, ?_⟩))
            refine wpS_bind (wpS_mono (wpS_forRange (I := fun y c st' => Mg st st' ∧ ∃ na2 nb2 out mg ac bc, c = (none, na2, nb2, out, mg, ac, bc) ∧ MH r a b out na2 nb2 ∧ 1 ≤ na2 ∧ 2 ≤ nb2 ∧ na2 + nb2 ≤ na' + nb')
              (Q := fun c st' => Mg st st' ∧ ((∃ rest out rest', c = (some out, rest) ∧ rest' = rest ∧ Merged r a b out) ∨ ∃ na2 nb2 out mg ac bc, c = (none, na2, nb2, out, mg, ac, bc) ∧ MH r a b out na2 nb2 ∧ 1 ≤ na2 ∧ 2 ≤ nb2 ∧ na2 + nb2 ≤ na' + nb')) ?step2 ?fin2 ?init2) ?post2)
            case init2 => exact ⟨hm1, _, _, _, _, _, _, rfl, M', q1, q2, by omega⟩
            case fin2 =>
              rintro c st' ⟨hm, na2, nb2, out, mg, ac, bc, rfl, M2, p1, p2, p3⟩
              exact ⟨hm, .inr ⟨_, _, _, _, _, _, rfl, M2, p1, p2, p3⟩⟩
            case post2 =>
              rintro c st' ⟨hm, ⟨rest, out, _, rfl, _, hM⟩ | ⟨na2, nb2, out, mg, ac, bc, rfl, M2, p1, p2, p3⟩⟩
              · exact wpS_pure ⟨hm, _, _, rfl, hM⟩
              · dsimp only
                exact wpS_bind (wpS_setMg (wpS_pure ⟨hm.set _, _, _, _, _, rfl, M2, p1, p2, by omega⟩))
            case step2 =>
              rintro y c st2 _ hy ⟨hm2, na2, nb2, out, mg, ac, bc, rfl, M2, p1, p2, p3⟩
              have ya := M2.ha
              have yb := M2.hb
              dsimp only
              refine both_by ?pk (K := ?K) fun key => ?main
              case main =>
                by_cases hmg : mg > 1
                · rw [if_pos hmg]
                  generalize mg - 1 = mg1
                  clear hmg
                  revert mg1
                  exact key
                · rw [if_neg hmg]
                  exact key mg
              intro mg
              refine wpS_bind (wpS_setMg ?_)
              refine wpS_bind (wpS_elem (by omega) fun pb eb => wpS_bind (wpS_gallop C ((hm2.set _).kind.trans hk) hPa (hPb.at eb) (by omega) (by omega) (fun i j u v w => hA i j (by omega) v (by omega)) fun k hk1 hk2 hk3 => ?_))
              have rb := R_at (r := r) eb
              dsimp only
              have M3 := MH.addA hA hB (na2 - k) (p := k) M2 (by omega) fun _ i hi1 hi2 => by have := bey_ff (hk3 i hi1 hi2); rw [Nat.zero_add] at this; omega
              have lt3 : 0 < k → R r a (k - 1) ≤ R r b (nb2 - 1) := fun z => by have := bey_f (hk2 (k - 1) (by omega)); rw [Nat.zero_add] at this; omega
              obtain ⟨n0, hn0⟩ : ∃ n, n = na2 := ⟨_, rfl⟩
              obtain ⟨kk, hkk⟩ : ∃ n, n = na2 - k := ⟨_, rfl⟩
              rw [← hkk]
              have hC0 : ¬ kk > 0 → MH r a b out na2 nb2 ∧ 0 < na2 ∧ R r a (na2 - 1) ≤ R r b (nb2 - 1) ∧ na2 ≤ n0 := fun k0 => ⟨M2, p1, by rw [show k = na2 by omega] at lt3; exact lt3 (by omega), by omega⟩
              have hC1 : ¬ k = 0 → 0 < k ∧ R r a (k - 1) ≤ R r b (nb2 - 1) ∧ k ≤ n0 := fun h1 => ⟨by omega, lt3 (by omega), by omega⟩
              refine both_by ?pk2 (K := ?K2) fun key => ?main2
              case main2 =>
                by_cases k0 : kk > 0
                rotate_left
                · rw [if_neg k0]
                  have hC := hC0 k0
                  generalize out = o at hC ⊢
                  generalize na2 = i at hC ⊢
                  revert o i hC
                  exact key
                · rw [if_pos k0]
                  by_cases z : k = 0
                  · rw [if_pos (by simpa using z)]
                    exact wpS_pure ⟨hm2.set _, .inl ⟨_, _, _, rfl, rfl, M3.endA hA hB z⟩⟩
                  · rw [if_neg (by simpa using z)]
                    exact key _ _ ⟨M3, hC1 z⟩
              clear lt3 M3
              rintro o i ⟨M3, i1, lt3, i2⟩
              refine wpS_bind (wpS_elem (by omega) fun pb' eb' => ?_)
              rw [eb] at eb'; cases eb'
              have M4 := M3.pushB hA hB (by omega) eb fun z => lt3
              by_cases z3 : nb2 - 1 = 1
              · rw [if_pos (by simpa using z3)]
                exact wpS_pure ⟨hm2.set _, .inl ⟨_, _, _, rfl, rfl, M4.firstB hA hB z3 hl⟩⟩
              · rw [if_neg (by simpa using z3)]
                refine wpS_bind (wpS_elem (by omega) fun pa ea => wpS_bind (wpS_gallop C ((hm2.set _).kind.trans hk) hPb (hPa.at ea) (by omega) (by omega) (fun i j u v w => hB i j (by omega) v (by omega)) fun l hl1 hl2 hl3 => ?_))
                have ra := R_at (r := r) ea
                dsimp only
                have M5 := MH.addB hA hB (nb2 - 1 - l) (p := l) M4 (by omega) fun _ i hi1 hi2 => by have := bey_tf (hl3 i hi1 hi2); rw [Nat.zero_add] at this; omega
                have lt5 : 0 < l → R r b (l - 1) ≤ R r a (i - 1) := fun z => by have := bey_t (hl2 (l - 1) (by omega)); rw [Nat.zero_add] at this; omega
                have fin : ∀ {o' : Array Keyed} {j : Nat}, MH r a b o' (i - 1) j → 2 ≤ j → j ≤ nb2 → ¬ i - 1 = 0 → MH r a b o' (i - 1) j ∧ 1 ≤ i - 1 ∧ 2 ≤ j ∧ i - 1 + j ≤ na' + nb' := fun M h1 h2 h3 => ⟨M, by omega, h1, by omega⟩
                by_cases l0 : nb2 - 1 - l > 0
                · rw [if_pos l0]
                  by_cases z4 : l = 1
                  · rw [if_pos (by simpa using z4)]
                    exact wpS_pure ⟨hm2.set _, .inl ⟨_, _, _, rfl, rfl, M5.firstB hA hB z4 hl⟩⟩
                  · rw [if_neg (by simpa using z4)]
                    by_cases z6 : l = 0
                    · rw [if_pos (by simpa using z6)]
                      exact wpS_pure ⟨hm2.set _, .inl ⟨_, _, _, rfl, rfl, M5.endB hA hB z6⟩⟩
                    · rw [if_neg (by simpa using z6)]
                      refine wpS_bind (wpS_elem (by omega) fun pa' ea' => ?_)
                      rw [ea] at ea'; cases ea'
                      have M6 := M5.pushA hA hB (by omega) ea fun z => lt5 z
                      by_cases z5 : i - 1 = 0
                      · rw [if_pos (by simpa using z5)]
                        exact wpS_pure ⟨hm2.set _, .inl ⟨_, _, _, rfl, rfl, M6.endA hA hB z5⟩⟩
                      · rw [if_neg (by simpa using z5)]
                        have q := fin M6 (by omega) (by omega) z5
                        split
                        · exact wpS_pure ⟨hm2.set _, .inr ⟨_, _, _, _, _, _, rfl, q⟩⟩
                        · exact wpS_pure ⟨hm2.set _, _, _, _, _, _, _, rfl, q⟩
                · rw [if_neg l0]
                  have hl0 : l = nb2 - 1 := by omega
                  refine wpS_bind (wpS_elem (by omega) fun pa' ea' => ?_)
                  rw [ea] at ea'; cases ea'
                  have M6 := M4.pushA hA hB (by omega) ea fun z => by rw [← hl0]; exact lt5 (by omega)
                  by_cases z5 : i - 1 = 0
                  · rw [if_pos (by simpa using z5)]
                    exact wpS_pure ⟨hm2.set _, .inl ⟨_, _, _, rfl, rfl, M6.endA hA hB z5⟩⟩
                  · rw [if_neg (by simpa using z5)]
                    have q := fin M6 (by omega) (by omega) z5
                    split
                    · exact wpS_pure ⟨hm2.set _, .inr ⟨_, _, _, _, _, _, rfl, q⟩⟩
                    · exact wpS_pure ⟨hm2.set _, _, _, _, _, _, _, rfl, q⟩
end
end Tim

set_option Elab.async false
set_option linter.all false
set_option maxRecDepth 100000
set_option maxHeartbeats 4000000
namespace Tim
open PySem PyProof.Rows

def wr (p : Nat) (m : List Keyed) (n : Nat) (xs : Array Keyed) : Array Keyed := (m.zipIdx n).foldl (fun a (q : Keyed × Nat) => a.setIfInBounds (p + q.2) q.1) xs
theorem wr_get (p : Nat) : ∀ (m : List Keyed) (n : Nat) (xs : Array Keyed), p + n + m.length ≤ xs.size → ∀ k : Nat, (wr p m n xs)[k]? = if p + n ≤ k ∧ k < p + n + m.length then m[k - (p + n)]? else xs[k]?
  | [], n, xs, h, k => by
    rw [if_neg (by simp only [List.length_nil]; omega)]; rfl
  | q :: m, n, xs, h, k => by
    have ih := wr_get p m (n + 1) (xs.setIfInBounds (p + n) q) (by rw [Array.size_setIfInBounds]; simp only [List.length_cons] at h; omega) k
    have e : wr p (q :: m) n xs = wr p m (n + 1) (xs.setIfInBounds (p + n) q) := by unfold wr; rw [List.zipIdx_cons, List.foldl_cons]
    simp only [List.length_cons] at h ⊢
    rw [e, ih]
    by_cases h1 : p + (n + 1) ≤ k ∧ k < p + (n + 1) + m.length
    · rw [if_pos h1, if_pos (by omega), show k - (p + n) = (k - (p + (n + 1))) + 1 by omega, List.getElem?_cons_succ]
    · rw [if_neg h1]
      by_cases h2 : k = p + n
      · subst h2
        rw [if_pos (by omega), Nat.sub_self, List.getElem?_cons_zero, Array.getElem?_setIfInBounds_self_of_lt (by omega)]
      · rw [if_neg (by omega), Array.getElem?_setIfInBounds_ne (by omega)]
theorem wr_list {p : Nat} {m : List Keyed} {xs : Array Keyed} (h : p + m.length ≤ xs.size) : (wr p m 0 xs).toList = xs.toList.take p ++ m ++ xs.toList.drop (p + m.length) := by
  have hl : xs.toList.length = xs.size := by simp
  apply List.ext_getElem?
  intro k
  have e := wr_get p m 0 xs h k
  rw [Nat.add_zero] at e
  rw [Array.getElem?_toList, e]
  by_cases h1 : k < p
  · rw [if_neg (by omega), List.append_assoc, List.getElem?_append_left (by rw [List.length_take]; omega), List.getElem?_take_of_lt h1, Array.getElem?_toList]
  · by_cases h2 : k < p + m.length
    · rw [if_pos (by omega), List.append_assoc, List.getElem?_append_right (by rw [List.length_take]; omega), List.length_take, show min p xs.toList.length = p by omega, List.getElem?_append_left (by omega)]
    · rw [if_neg (by omega), List.append_assoc, List.getElem?_append_right (by rw [List.length_take]; omega), List.length_take, show min p xs.toList.length = p by omega, List.getElem?_append_right (by omega), List.getElem?_drop,
        show p + m.length + (k - p - m.length) = k by omega, Array.getElem?_toList]
theorem split3 {p q : Nat} {xs : Array Keyed} (h : p ≤ q) (h2 : q ≤ xs.size) : xs.toList = xs.toList.take p ++ (xs.extract p q).toList ++ xs.toList.drop q := by
  rw [Array.toList_extract, List.extract_eq_drop_take]
  have e1 : xs.toList.take p ++ (xs.toList.drop p).take (q - p) = xs.toList.take q := by
    rw [← List.take_append_drop p (xs.toList.take q), List.take_take, List.drop_take, Nat.min_eq_left h]
  rw [e1, List.take_append_drop]
theorem wr_perm {p q : Nat} {m : List Keyed} {xs : Array Keyed} (h : p ≤ q) (h2 : q ≤ xs.size) (hm : m.Perm (xs.extract p q).toList) : (wr p m 0 xs).Perm xs := by
  have hl : m.length = q - p := by rw [hm.length_eq]; simp; omega
  rw [Array.perm_iff_toList_perm, wr_list (by omega), show p + m.length = q by omega]
  have e := split3 (xs := xs) h h2
  exact (List.Perm.append_right _ (List.Perm.append_left _ hm)).trans (by rw [← e])

def Runs (r : Value → Int) (xs : Array Keyed) : List (Nat × Nat × Nat) → Nat → Nat → Prop
  | [], a, b => a = b
  | (s, n, _) :: rest, a, b => s = a ∧ 1 ≤ n ∧ Up r xs s (s + n) ∧ Runs r xs rest (s + n) b
section
variable {r : Value → Int} {xs ys : Array Keyed}
theorem Runs.le : ∀ {ps : List (Nat × Nat × Nat)} {a b : Nat}, Runs r xs ps a b → a + ps.length ≤ b
  | [], a, b, h => by simp only [Runs] at h; simp; omega
  | (s, n, p) :: rest, a, b, h => by
    obtain ⟨rfl, h1, _, h3⟩ := h
    have := Runs.le h3
    simp only [List.length_cons]; omega
theorem Runs.append : ∀ {ps qs : List (Nat × Nat × Nat)} {a b : Nat}, Runs r xs (ps ++ qs) a b ↔ ∃ c, Runs r xs ps a c ∧ Runs r xs qs c b
  | [], qs, a, b => by simp [Runs]
  | (s, n, p) :: rest, qs, a, b => by
    simp only [List.cons_append, Runs]
    constructor
    · rintro ⟨h1, h2, h3, h4⟩
      obtain ⟨c, h5, h6⟩ := Runs.append.mp h4
      exact ⟨c, ⟨h1, h2, h3, h5⟩, h6⟩
    · rintro ⟨c, ⟨h1, h2, h3, h5⟩, h6⟩
      exact ⟨h1, h2, h3, Runs.append.mpr ⟨c, h5, h6⟩⟩
theorem Up.congr {a b : Nat} (h : Up r xs a b) (e : ∀ k, a ≤ k → k < b → ys[k]? = xs[k]?) : Up r ys a b := fun i j h1 h2 h3 => by
  rw [R_congr (e i h1 (by omega)), R_congr (e j (by omega) h3)]; exact h i j h1 h2 h3
theorem Runs.congr : ∀ {ps : List (Nat × Nat × Nat)} {a b : Nat}, Runs r xs ps a b → (∀ k, a ≤ k → k < b → ys[k]? = xs[k]?) → Runs r ys ps a b
  | [], a, b, h, _ => h
  | (s, n, p) :: rest, a, b, h, e => by
    obtain ⟨rfl, h1, h2, h3⟩ := h
    have l := h3.le
    exact ⟨rfl, h1, h2.congr fun k u v => e k u (by omega), Runs.congr h3 fun k u v => e k (by omega) v⟩
theorem Up.glue {a b c : Nat} (h1 : Up r xs a b) (h2 : Up r xs b c) (h : ∀ i j, a ≤ i → i < b → b ≤ j → j < c → R r xs i ≤ R r xs j) : Up r xs a c := fun i j u v w => by
  by_cases hj : j < b
  · exact h1 i j u v hj
  · by_cases hi : i < b
    · exact h i j u hi (by omega) w
    · exact h2 i j (by omega) v w
end
end Tim

set_option Elab.async false
set_option linter.all false
set_option maxRecDepth 100000
set_option maxHeartbeats 4000000
namespace Tim
open PySem PyProof.Rows
section
variable {prog : Program} {w : World} {A : Around} {E : Value → Shared → Prop} {s : Shared} {κ : SortKind} {r : Value → Int} {P : Value → Prop}

theorem AllP.extract {xs : Array Keyed} (h : AllP P xs) (i j : Nat) : AllP P (xs.extract i j) := fun p hp => h p (by
  rw [Array.toList_extract, List.extract_eq_drop_take] at hp
  exact List.mem_of_mem_drop (List.mem_of_mem_take hp))
theorem R_extract {xs : Array Keyed} {i j k : Nat} (h : i + k < j) (hj : j ≤ xs.size) : R r (xs.extract i j) k = R r xs (i + k) := by
  apply R_congr
  rw [Array.getElem?_extract, if_pos (by omega)]
theorem Up.extract {xs : Array Keyed} {i j : Nat} (h : Up r xs i j) (hij : i ≤ j) (hj : j ≤ xs.size) : Up r (xs.extract i j) 0 (xs.extract i j).size := fun a b _ h2 h3 => by
  have e : (xs.extract i j).size = j - i := by simp only [Array.size_extract]; omega
  rw [e] at h3
  rw [R_extract (by omega) hj, R_extract (by omega) hj]
  exact h _ _ (by omega) (by omega) (by omega)

theorem merged_up {xs : Array Keyed} {m : Array Keyed} {sa k na nb' nb : Nat} (hz : sa + na + nb ≤ xs.size) (hk : k < na) (hnb : nb' ≤ nb) (hA : Up r xs sa (sa + na)) (hB : Up r xs (sa + na) (sa + na + nb))
    (lo1 : ∀ i, i < k → R r xs (sa + i) ≤ R r xs (sa + na)) (lo2 : R r xs (sa + na) < R r xs (sa + k)) (hi1 : ∀ i, i < nb' → R r xs (sa + na + i) < R r xs (sa + na - 1)) (hi2 : ∀ i, nb' ≤ i → i < nb → R r xs (sa + na - 1) ≤ R r xs (sa + na + i))
    (hm : Merged r (xs.extract (sa + k) (sa + na)) (xs.extract (sa + na) (sa + na + nb')) m) :
    Up r (wr (sa + k) m.toList 0 xs) sa (sa + na + nb) ∧ (wr (sa + k) m.toList 0 xs).Perm xs ∧ ∀ j, j < sa ∨ sa + na + nb ≤ j → (wr (sa + k) m.toList 0 xs)[j]? = xs[j]? := by
  obtain ⟨mp, mu⟩ := hm
  have eab : (xs.extract (sa + k) (sa + na)).toList ++ (xs.extract (sa + na) (sa + na + nb')).toList = (xs.extract (sa + k) (sa + na + nb')).toList := by
    rw [← Array.toList_append, Array.extract_append_extract, show min (sa + k) (sa + na) = sa + k by omega, show max (sa + na) (sa + na + nb') = sa + na + nb' by omega]
  rw [eab] at mp
  have ml : m.toList.length = na + nb' - k := by rw [mp.length_eq]; simp; omega
  have hw : sa + k + m.toList.length ≤ xs.size := by omega
  have get := wr_get (sa + k) m.toList 0 xs (by omega)
  rw [Nat.add_zero, ml] at get
  -- every merged item is one of the window's
  have mem : ∀ (j : Nat) (p : Keyed), m.toList[j]? = some p → ∃ i, sa + k ≤ i ∧ i < sa + na + nb' ∧ r p.1 = R r xs i := fun j p e => by
    have hp : p ∈ (xs.extract (sa + k) (sa + na + nb')).toList := mp.mem_iff.mp (List.mem_of_getElem? e)
    obtain ⟨i, hi⟩ := List.getElem?_of_mem hp
    rw [Array.getElem?_toList, Array.getElem?_extract] at hi
    split at hi
    · exact ⟨sa + k + i, by omega, by omega, (R_at hi).symm⟩
    · cases hi
  have low : ∀ i, sa + k ≤ i → i < sa + na + nb' → R r xs (sa + na) ≤ R r xs i := fun i h1 h2 => by
    by_cases h3 : i < sa + na
    · exact Int.le_trans (Int.le_of_lt lo2) (hA (sa + k) i (by omega) h1 h3)
    · exact hB (sa + na) i (Nat.le_refl _) (by omega) (by omega)
  have high : ∀ i, sa + k ≤ i → i < sa + na + nb' → R r xs i ≤ R r xs (sa + na - 1) := fun i h1 h2 => by
    by_cases h3 : i < sa + na
    · exact hA i (sa + na - 1) (by omega) (by omega) (by omega)
    · have := hi1 (i - (sa + na)) (by omega)
      rw [show sa + na + (i - (sa + na)) = i by omega] at this
      omega
  have Rin : ∀ j, j < na + nb' - k → ∃ i, sa + k ≤ i ∧ i < sa + na + nb' ∧ R r (wr (sa + k) m.toList 0 xs) (sa + k + j) = R r xs i := fun j hj => by
    have e := get (sa + k + j)
    rw [if_pos (by omega), show sa + k + j - (sa + k) = j by omega] at e
    have hj' : j < m.toList.length := by omega
    obtain ⟨i, h1, h2, h3⟩ := mem j m.toList[j] (List.getElem?_eq_getElem hj')
    rw [List.getElem?_eq_getElem hj'] at e
    exact ⟨i, h1, h2, (R_at e).trans h3⟩
  have Rout : ∀ j, j < sa + k ∨ sa + na + nb' ≤ j → (wr (sa + k) m.toList 0 xs)[j]? = xs[j]? := fun j hj => by
    have e := get j
    rw [if_neg (by omega)] at e
    exact e
  refine ⟨?_, wr_perm (by omega) (by omega) mp, fun j hj => Rout j (by omega)⟩
  have U1 : Up r (wr (sa + k) m.toList 0 xs) sa (sa + k) := Up.congr (xs := xs) (fun i j h1 h2 h3 => hA i j h1 h2 (by omega)) fun j h1 h2 => Rout j (.inl h2)
  have U2 : Up r (wr (sa + k) m.toList 0 xs) (sa + k) (sa + na + nb') := fun i j h1 h2 h3 => by
    have ei := get i
    have ej := get j
    rw [if_pos (by omega)] at ei ej
    have li : i - (sa + k) < m.toList.length := by omega
    have lj : j - (sa + k) < m.toList.length := by omega
    rw [List.getElem?_eq_getElem li] at ei
    rw [List.getElem?_eq_getElem lj] at ej
    rw [R_at ei, R_at ej]
    by_cases hij : i = j
    · subst hij; exact Int.le_refl _
    · exact (List.pairwise_iff_getElem.mp mu) _ _ li lj (by omega)
  have U3 : Up r (wr (sa + k) m.toList 0 xs) (sa + na + nb') (sa + na + nb) := Up.congr (xs := xs) (fun i j h1 h2 h3 => hB i j (by omega) h2 h3) fun j h1 h2 => Rout j (.inr h1)
  refine (U1.glue U2 fun i j h1 h2 h3 h4 => ?_).glue U3 fun i j h1 h2 h3 h4 => ?_
  · obtain ⟨q, q1, q2, q3⟩ := Rin (j - (sa + k)) (by omega)
    rw [show sa + k + (j - (sa + k)) = j by omega] at q3
    rw [q3, R_congr (Rout i (.inl h2))]
    have := lo1 (i - sa) (by omega)
    rw [show sa + (i - sa) = i by omega] at this
    exact Int.le_trans this (low q q1 q2)
  · have e2 := hi2 (j - (sa + na)) (by omega) (by omega)
    rw [show sa + na + (j - (sa + na)) = j by omega] at e2
    rw [R_congr (Rout j (.inr h3))]
    by_cases hi : i < sa + k
    · rw [R_congr (Rout i (.inl hi))]
      have := lo1 (i - sa) (by omega)
      rw [show sa + (i - sa) = i by omega] at this
      have := low (sa + na - 1) (by omega) (by omega)
      omega
    · obtain ⟨q, q1, q2, q3⟩ := Rin (i - (sa + k)) (by omega)
      rw [show sa + k + (i - (sa + k)) = i by omega] at q3
      rw [q3]
      exact Int.le_trans (high q q1 q2) e2

structure St (r : Value → Int) (κ : SortKind) (a₀ : Array Keyed) (st : SortSt) (ps : List (Nat × Nat × Nat)) (lo : Nat) : Prop where
  kind : kindOf st = κ
  failed : failedOf st = none
  perm : (arrOf st).Perm a₀
  pend : pendingOf st = ps.toArray
  runs : Runs r (arrOf st) ps 0 lo
theorem St.size {a₀ : Array Keyed} {st : SortSt} {ps : List (Nat × Nat × Nat)} {lo : Nat} (h : St r κ a₀ st ps lo) : (arrOf st).size = a₀.size := h.perm.size_eq

theorem split_at {ps : List (Nat × Nat × Nat)} {i : Nat} (h : i + 1 < ps.length) : ∃ pre x y post, ps = pre ++ x :: y :: post ∧ pre.length = i := by
  refine ⟨ps.take i, ps[i], ps[i + 1], ps.drop (i + 2), ?_, by rw [List.length_take]; omega⟩
  rw [← List.drop_eq_getElem_cons (by omega), ← List.drop_eq_getElem_cons (by omega), List.take_append_drop]

theorem wpS_mergeAt {st : SortSt} {a₀ : Array Keyed} {ps : List (Nat × Nat × Nat)} {lo i : Nat} {Q : Bool → SortSt → Prop} (C : Cmp prog w A s κ r P) (hP : AllP P a₀) (H : St r κ a₀ st ps lo) (hlo : lo ≤ a₀.size) (hi : i + 1 < ps.length)
    (h : ∀ st' ps', St r κ a₀ st' ps' lo → ps'.length + 1 = ps.length → ps' ≠ [] → (∀ k, lo ≤ k → (arrOf st')[k]? = (arrOf st)[k]?) → Q true st') : wpS (model prog w) A E s (mergeAt' i) Q st := by
  obtain ⟨pre, ⟨sa, na, pa⟩, ⟨sb, nb, pb⟩, post, rfl, hpre⟩ := split_at hi
  have hz := H.size
  have hP' : AllP P (arrOf st) := hP.perm H.perm
  obtain ⟨c, hr1, hr2⟩ := Runs.append.mp H.runs
  obtain ⟨rfl, n1, u1, rfl, n2, u2, hr3⟩ := hr2
  have le3 := hr3.le
  have le1 := hr1.le
  -- the new pending list
  have epend : ((pendingOf st).setIfInBounds i (sa, na + nb, pa)).eraseIdxIfInBounds (i + 1) = (pre ++ (sa, na + nb, pa) :: post).toArray := by
    rw [H.pend]
    apply Array.toList_inj.mp
    simp [← hpre, List.eraseIdx_append_of_length_le]
  have new : ∀ (xs : Array Keyed) (g : Nat), xs.Perm (arrOf st) → (∀ j, j < sa ∨ sa + na + nb ≤ j → xs[j]? = (arrOf st)[j]?) → Up r xs sa (sa + (na + nb)) →
      St r κ a₀ (SortSt.mk' (kindOf st) xs (pre ++ (sa, na + nb, pa) :: post).toArray g (failedOf st)) (pre ++ (sa, na + nb, pa) :: post) lo := fun xs g hp ho hu =>
    ⟨H.kind, H.failed, hp.trans H.perm, rfl, Runs.append.mpr ⟨sa, hr1.congr fun k _ hk => ho k (.inl hk), rfl, by omega, hu, by
      rw [show sa + (na + nb) = sa + na + nb by omega]
      exact hr3.congr fun k hk _ => ho k (.inr hk)⟩⟩
  have len : (pre ++ (sa, na + nb, pa) :: post).length + 1 = (pre ++ (sa, na, pa) :: (sa + na, nb, pb) :: post).length := by simp; omega
  have e0 : (pendingOf st)[i]? = some (sa, na, pa) := by rw [H.pend, ← hpre]; simp
  have e1 : (pendingOf st)[i + 1]? = some (sa + na, nb, pb) := by rw [H.pend, ← hpre]; simp
  refine wpS_bind (wpS_get ?_)
  rw [e0, e1]
  dsimp only
  refine wpS_bind (wpS_modify (f := fun _ => SortSt.mk' (kindOf st) (arrOf st) (((pendingOf st).setIfInBounds i (sa, na + nb, pa)).eraseIdxIfInBounds (i + 1)) (gallopOf st) (failedOf st)) ?_)
  rw [epend]
  refine wpS_bind (wpS_elem (xs := arrOf st) (by omega) fun kb ekb => wpS_bind (wpS_gallop (arr := arrOf st) C H.kind hP' (hP'.at ekb) (by omega) (by omega) u1 fun k hk1 hk2 hk3 => ?_))
  have rkb := R_at (r := r) ekb
  dsimp only
  by_cases z : na - k = 0
  · rw [if_pos (by simpa using z)]
    refine wpS_pure (h _ _ (new (arrOf st) (gallopOf st) (Array.Perm.refl _) (fun _ _ => rfl) ?_) len (by simp) fun _ _ => rfl)
    rw [show sa + (na + nb) = sa + na + nb by omega]
    refine u1.glue u2 fun i j h1 h2 h3 h4 => ?_
    have := bey_f (hk2 (i - sa) (by omega))
    rw [show sa + (i - sa) = i by omega] at this
    have := u2 (sa + na) j (Nat.le_refl _) h3 h4
    omega
  · rw [if_neg (by simpa using z)]
    refine wpS_bind (wpS_elem (xs := arrOf st) (by omega) fun ka eka => wpS_bind (wpS_gallop (arr := arrOf st) C H.kind hP' (hP'.at eka) (by omega) (by omega) u2 fun l hl1 hl2 hl3 => ?_))
    have rka := R_at (r := r) eka
    rw [show sa + k + (na - k) - 1 = sa + na - 1 by omega] at rka
    dsimp only
    by_cases z2 : l = 0
    · rw [if_pos (by simpa using z2)]
      refine wpS_pure (h _ _ (new (arrOf st) (gallopOf st) (Array.Perm.refl _) (fun _ _ => rfl) ?_) len (by simp) fun _ _ => rfl)
      rw [show sa + (na + nb) = sa + na + nb by omega]
      refine u1.glue u2 fun i j h1 h2 h3 h4 => ?_
      have := bey_tf (hl3 (j - (sa + na)) (by omega) (by omega))
      rw [show sa + na + (j - (sa + na)) = j by omega] at this
      have := u1 i (sa + na - 1) h1 (by omega) (by omega)
      omega
    · rw [if_neg (by simpa using z2)]
      have lo1 : ∀ i, i < k → R r (arrOf st) (sa + i) ≤ R r (arrOf st) (sa + na) := fun i hi => by have := bey_f (hk2 i hi); omega
      have lo2 : R r (arrOf st) (sa + na) < R r (arrOf st) (sa + k) := by have := bey_ff (hk3 k (Nat.le_refl _) (by omega)); omega
      have hi1 : ∀ i, i < l → R r (arrOf st) (sa + na + i) < R r (arrOf st) (sa + na - 1) := fun i hi => by have := bey_t (hl2 i hi); omega
      have hi2 : ∀ i, l ≤ i → i < nb → R r (arrOf st) (sa + na - 1) ≤ R r (arrOf st) (sa + na + i) := fun i h1 h2 => by have := bey_tf (hl3 i h1 h2); omega
      have sx : ((arrOf st).extract (sa + k) (sa + na)).size = na - k := by simp only [Array.size_extract]; omega
      have sy : ((arrOf st).extract (sa + na) (sa + na + l)).size = l := by simp only [Array.size_extract]; omega
      have ux : Up r ((arrOf st).extract (sa + k) (sa + na)) 0 ((arrOf st).extract (sa + k) (sa + na)).size := Up.extract (fun i j h1 h2 h3 => u1 i j (by omega) h2 h3) (by omega) (by omega)
      have uy : Up r ((arrOf st).extract (sa + na) (sa + na + l)) 0 ((arrOf st).extract (sa + na) (sa + na + l)).size := Up.extract (fun i j h1 h2 h3 => u2 i j h1 h2 (by omega)) (by omega) (by omega)
      have h00 : R r ((arrOf st).extract (sa + na) (sa + na + l)) 0 ≤ R r ((arrOf st).extract (sa + k) (sa + na)) 0 := by
        rw [R_extract (by omega) (by omega), R_extract (by omega) (by omega)]
        exact Int.le_of_lt lo2
      have hgg : ∀ j, j < ((arrOf st).extract (sa + na) (sa + na + l)).size → R r ((arrOf st).extract (sa + na) (sa + na + l)) j ≤ R r ((arrOf st).extract (sa + k) (sa + na)) (((arrOf st).extract (sa + k) (sa + na)).size - 1) := fun j hj => by
        rw [sx, R_extract (by omega) (by omega), R_extract (by omega) (by omega), show sa + k + (na - k - 1) = sa + na - 1 by omega]
        exact Int.le_of_lt (hi1 j (by omega))
      have fin : ∀ out st', Merged r ((arrOf st).extract (sa + k) (sa + na)) ((arrOf st).extract (sa + na) (sa + na + l)) out → Mg (SortSt.mk' (kindOf st) (arrOf st) (pre ++ (sa, na + nb, pa) :: post).toArray (gallopOf st) (failedOf st)) st' →
          Q true (SortSt.mk' (kindOf st') (wr (sa + k) out.toList 0 (arrOf st')) (pendingOf st') (gallopOf st') (failedOf st')) := fun out st' hm hg => by
        obtain ⟨g, rfl⟩ := hg
        obtain ⟨m1, m2, m3⟩ := merged_up (by omega) (by omega) hl1 u1 u2 lo1 lo2 hi1 hi2 hm
        exact h _ _ (new _ g m2 m3 (by rw [show sa + (na + nb) = sa + na + nb by omega]; exact m1)) len (by simp) fun k hk => m3 k (.inr (by omega))
      have fin2 : ∀ out st', Merged r ((arrOf st).extract (sa + k) (sa + na)) ((arrOf st).extract (sa + na) (sa + na + l)) out → Mg (SortSt.mk' (kindOf st) (arrOf st) (pre ++ (sa, na + nb, pa) :: post).toArray (gallopOf st) (failedOf st)) st' →
          failedOf st' = none := fun out st' _ hg => by
        obtain ⟨g, rfl⟩ := hg
        exact H.failed
      by_cases z3 : na - k ≤ l
      · rw [if_pos z3]
        refine wpS_bind (wpS_mergeLo (a := (arrOf st).extract (sa + k) (sa + na)) (b := (arrOf st).extract (sa + na) (sa + na + l)) C H.kind (hP'.extract _ _) (hP'.extract _ _) ux uy (by omega) (by omega) h00 hgg fun out st' hm hg => ?_)
        refine wpS_bind (wpS_modify (wpS_bind (wpS_get ?_)))
        have f := fin out st' hm hg
        have f2 := fin2 out st' hm hg
        refine wpS_pure ?_
        show Q (failedOf st').isNone _
        rw [f2]
        exact f
      · rw [if_neg z3]
        refine wpS_bind (wpS_mergeHi (a := (arrOf st).extract (sa + k) (sa + na)) (b := (arrOf st).extract (sa + na) (sa + na + l)) C H.kind (hP'.extract _ _) (hP'.extract _ _) ux uy (by omega) (by omega) h00 hgg fun out st' hm hg => ?_)
        refine wpS_bind (wpS_modify (wpS_bind (wpS_get ?_)))
        have f := fin out st' hm hg
        have f2 := fin2 out st' hm hg
        refine wpS_pure ?_
        show Q (failedOf st').isNone _
        rw [f2]
        exact f
end
end Tim

set_option Elab.async false
set_option linter.all false
set_option maxRecDepth 100000
set_option maxHeartbeats 4000000
namespace Tim
open PySem PyProof.Rows
section
variable {prog : Program} {w : World} {A : Around} {E : Value → Shared → Prop} {s : Shared} {κ : SortKind} {r : Value → Int} {P : Value → Prop}

theorem Runs.modify {xs : Array Keyed} {f : Nat × Nat × Nat → Nat × Nat × Nat} (hf : ∀ x, (f x).1 = x.1 ∧ (f x).2.1 = x.2.1) : ∀ {ps : List (Nat × Nat × Nat)} {i a b : Nat}, Runs r xs ps a b → Runs r xs (ps.modify i f) a b
  | [], _, _, _, h => by simpa using h
  | (s, n, p) :: rest, 0, a, b, h => by
    obtain ⟨h1, h2⟩ := hf (s, n, p)
    rw [List.modify_zero_cons]
    have e : f (s, n, p) = (s, n, (f (s, n, p)).2.2) := Prod.ext h1 (Prod.ext h2 rfl)
    rw [e]
    exact h
  | (s, n, p) :: rest, i + 1, a, b, h => by
    rw [List.modify_succ_cons]
    obtain ⟨h1, h2, h3, h4⟩ := h
    exact ⟨h1, h2, h3, Runs.modify hf h4⟩

theorem St.win {a₀ : Array Keyed} {st st' : SortSt} {ps : List (Nat × Nat × Nat)} {lo hi : Nat} (H : St r κ a₀ st ps lo) (hw : Win lo hi st st') : St r κ a₀ st' ps lo :=
  ⟨hw.kind.trans H.kind, hw.failed.trans H.failed, hw.perm.trans H.perm, hw.pend.trans H.pend, H.runs.congr fun k _ hk => hw.out k (.inl hk)⟩

theorem wpS_sortRuns {st : SortSt} {Q : Unit → SortSt → Prop} (C : Cmp prog w A s κ r P) (hk : kindOf st = κ) (hP : AllP P (arrOf st)) (hp : pendingOf st = #[]) (hf : failedOf st = none)
    (h : ∀ st', (arrOf st').Perm (arrOf st) → failedOf st' = none → Up r (arrOf st') 0 (arrOf st).size → Q () st') : wpS (model prog w) A E s sortRuns' Q st := by
  rw [sortRuns'_eq]
  refine wpS_bind (wpS_get ?_)
  dsimp only
  generalize ha : arrOf st = a₀ at *
  have H0 : St r κ a₀ st [] 0 := ⟨hk, hf, by rw [ha], by rw [hp], rfl⟩
  refine wpS_bind (wpS_mono (wpS_forRange (I := fun x c st' => ∃ ps lo, c = (none, lo) ∧ St r κ a₀ st' ps lo ∧ lo ≤ a₀.size ∧ x ≤ lo)
    (Q := fun c st' => ∃ ps, c = (none, a₀.size) ∧ St r κ a₀ st' ps a₀.size) ?step ?fin ⟨[], 0, rfl, H0, Nat.zero_le _, Nat.le_refl _⟩) ?post)
  case fin =>
    rintro c st' ⟨ps, lo, rfl, H, h1, h2⟩
    have : lo = a₀.size := by omega
    subst this
    exact ⟨ps, rfl, H⟩
  case post =>
    rintro c st' ⟨ps, rfl, H⟩
    dsimp only
    have l0 := H.runs.le
    refine wpS_bind (wpS_mono (wpS_forRange (I := fun y c st' => c = (none, ()) ∧ ∃ ps', St r κ a₀ st' ps' a₀.size ∧ ps'.length + y ≤ a₀.size)
      (Q := fun c st' => c = (none, ()) ∧ ∃ ps', St r κ a₀ st' ps' a₀.size ∧ ps'.length ≤ 1) ?step3 ?fin3 ⟨rfl, ps, H, by omega⟩) ?post3)
    case fin3 =>
      rintro c st' ⟨rfl, ps', H', hl⟩
      exact ⟨rfl, ps', H', by omega⟩
    case post3 =>
      rintro c st' ⟨rfl, ps', H', hl⟩
      refine wpS_pure (h st' H'.perm H'.failed ?_)
      have q := H'.runs
      match ps', hl, q with
      | [], _, q =>
        have q : 0 = a₀.size := q
        intro i j _ _ hj
        omega
      | [(s', n', p')], _, q =>
        obtain ⟨rfl, _, hu, e⟩ := q
        have e : 0 + n' = a₀.size := e
        rw [← e]
        exact hu
    case step3 =>
      rintro y c st1 _ hy ⟨rfl, ps', H', hl⟩
      refine wpS_bind (wpS_get ?_)
      have ep : (pendingOf st1).size = ps'.length := by rw [H'.pend]; simp
      by_cases z : (pendingOf st1).size ≤ 1
      · rw [if_pos z]
        exact wpS_pure ⟨rfl, ps', H', by omega⟩
      · rw [if_neg z]
        refine wpS_bind (wpS_mergeAt C hP H' (Nat.le_refl _) (by (repeat' split) <;> omega) fun st2 ps2 H2 hlen _ _ => ?_)
        rw [if_neg (by simp)]
        exact wpS_pure ⟨rfl, ps2, H2, by omega⟩
  case step =>
    rintro x c st1 _ hx ⟨ps, lo, rfl, H, h1, h2⟩
    dsimp only
    by_cases z : lo ≥ a₀.size
    · rw [if_pos z]
      have : lo = a₀.size := by omega
      subst this
      exact wpS_pure ⟨ps, rfl, H⟩
    · rw [if_neg z]
      have hz := H.size
      refine wpS_bind (wpS_countRun C H.kind (hP.perm H.perm) (by omega) (by omega) fun m st2 hw hm1 hm2 hu => ?_)
      have H2 := H.win hw
      dsimp only
      by_cases z2 : m < minRun' a₀.size a₀.size 0
      rw [if_pos z2]
      refine wpS_bind (wpS_lift (wpAny_rule ⟨rfl, ?_⟩))
      refine wpS_bind (wpS_binarySort C H2.kind (hP.perm H2.perm) (by have := H2.size; omega) (by omega) hu fun st3 hw3 hu3 => ?_)
      have H3 := H2.win hw3
      rw [if_neg (by simp)]
      have b1 : 1 ≤ min (a₀.size - lo) (minRun' a₀.size a₀.size 0) := by omega
      have b2 : lo + min (a₀.size - lo) (minRun' a₀.size a₀.size 0) ≤ a₀.size := by omega
      generalize min (a₀.size - lo) (minRun' a₀.size a₀.size 0) = nn at *
      rotate_left
      rw [if_neg z2]
      have H3 := H2
      have hu3 := hu
      have b1 := hm1
      have b2 : lo + m ≤ a₀.size := by omega
      generalize m = nn at *
      generalize st2 = st3 at *
      all_goals
        refine wpS_bind (wpS_get ?_)
        have push : ∀ (st' : SortSt) (ps' : List (Nat × Nat × Nat)), St r κ a₀ st' ps' lo → Up r (arrOf st') lo (lo + nn) → ∃ ps lo', ((none : Option Unit), lo + nn) = (none, lo') ∧ St r κ a₀ (setPending st' ((pendingOf st').push (lo, nn, 0))) ps lo' ∧ lo' ≤ a₀.size ∧ x + 1 ≤ lo' := fun st' ps' G u =>
          ⟨ps' ++ [(lo, nn, 0)], lo + nn, rfl, ⟨G.kind, G.failed, G.perm, by show (pendingOf st').push _ = _; rw [G.pend]; simp, Runs.append.mpr ⟨lo, G.runs, rfl, b1, u, rfl⟩⟩, b2, by omega⟩
        cases hb : (pendingOf st3).back? with
        | none =>
          dsimp only
          exact wpS_bind (wpS_modify (wpS_pure (push st3 ps H3 hu3)))
        | some t =>
          obtain ⟨s1, n1, p1⟩ := t
          dsimp only
          generalize power' a₀.size (2 * s1 + n1) (2 * s1 + n1 + n1 + nn) a₀.size = pw
          refine wpS_bind (wpS_mono (wpS_forRange (I := fun y c st' => c = (none, ()) ∧ ∃ ps', St r κ a₀ st' ps' lo ∧ Up r (arrOf st') lo (lo + nn))
            (Q := fun c st' => c = (none, ()) ∧ ∃ ps', St r κ a₀ st' ps' lo ∧ Up r (arrOf st') lo (lo + nn)) ?_ (fun _ _ q => q) ⟨rfl, ps, H3, hu3⟩) ?_)
          · rintro y c st4 _ hy ⟨rfl, ps', H4, hu4⟩
            refine wpS_bind (wpS_get ?_)
            have ep : (pendingOf st4).size = ps'.length := by rw [H4.pend]; simp
            by_cases z3 : (pendingOf st4).size > 1
            · rw [if_pos z3]
              have e4 : (pendingOf st4)[(pendingOf st4).size - 2]? = some ((pendingOf st4)[(pendingOf st4).size - 2]'(by omega)) := getElem?_pos _ _ (by omega)
              rw [e4]
              generalize (pendingOf st4)[(pendingOf st4).size - 2]'(by omega) = tt
              obtain ⟨t1, t2, older⟩ := tt
              dsimp only
              by_cases z4 : older ≤ pw
              · rw [if_pos z4]
                exact wpS_pure ⟨rfl, ps', H4, hu4⟩
              · rw [if_neg z4]
                refine wpS_bind (wpS_mergeAt C hP H4 h1 (by omega) fun st5 ps5 H5 hlen _ hout => ?_)
                rw [if_neg (by simp)]
                exact wpS_pure ⟨rfl, ps5, H5, hu4.congr fun k hk _ => hout k hk⟩
            · rw [if_neg z3]
              exact wpS_pure ⟨rfl, ps', H4, hu4⟩
          · rintro c st4 ⟨rfl, ps', H4, hu4⟩
            dsimp only
            refine wpS_bind (wpS_modify (wpS_bind (wpS_modify (wpS_pure ?_))))
            refine push _ (ps'.modify (ps'.length - 1) fun x => (x.1, x.2.1, pw)) ⟨H4.kind, H4.failed, H4.perm, ?_, Runs.modify (f := fun x => (x.1, x.2.1, pw)) (fun _ => ⟨rfl, rfl⟩) H4.runs⟩ hu4
            show (pendingOf st4).modify ((pendingOf st4).size - 1) (fun x => (x.1, x.2.1, pw)) = _
            rw [H4.pend]
            simp
end
end Tim

set_option Elab.async false
set_option linter.all false
set_option maxRecDepth 100000
set_option maxHeartbeats 4000000
namespace Tim
open PySem PyProof.Rows
section
variable {prog : Program} {w : World} {A : Around} {E : Value → Shared → Prop} {s : Shared} {κ : SortKind} {r : Value → Int} {P : Value → Prop}

def midHeap (h : Heap) (a : Addr) (vs : List Value) : Heap := ((h.update a (Obj.mapSeq fun _ => #[])).push (seqObj "tuple" vs.toArray 0)).push (seqObj "list" #[] 0)
theorem midHeap_old {h : Heap} {a b : Addr} {vs : List Value} (hb : b ≠ a) (hlt : b < h.objs.size) : (midHeap h a vs).get? b = h.get? b := by
  unfold midHeap
  rw [Heap.get?_push_ne _ _ _ (by rw [size_push', Heap.size_update]; exact Nat.ne_of_lt (Nat.lt_succ_of_lt hlt)),
    Heap.get?_push_ne _ _ _ (by rw [Heap.size_update]; exact Nat.ne_of_lt hlt), Heap.get?_update_ne _ _ _ _ hb]

theorem sorted_list {vs : List Value} {xs : Array Keyed} (hp : xs.Perm (pairsOf vs)) (hs : Up r xs 0 vs.length) : (xs.map (·.2)).toList.Perm vs ∧ (xs.map (·.2)).toList.Pairwise fun x y => r x ≤ r y := by
  have hl : xs.toList.Perm (vs.zip vs) := by rw [← pairsOf_toList]; exact Array.perm_iff_toList_perm.mp hp
  have hmem : ∀ p, p ∈ xs.toList → p.1 = p.2 := fun p hp' => (mem_zip_self (hl.mem_iff.mp hp')).1
  have e : (xs.map (·.2)).toList = xs.toList.map (·.1) := by
    rw [Array.toList_map]; exact List.map_congr_left fun p hp' => (hmem p hp').symm
  have hsz : xs.size = vs.length := by rw [hp.size_eq, pairsOf_size]
  rw [e]
  refine ⟨?_, ?_⟩
  · have h1 := hl.map (·.1)
    rwa [List.map_fst_zip (Nat.le_refl _)] at h1
  · rw [List.pairwise_iff_getElem]
    intro i j hi hj hij
    have hi' : i < xs.size := by simpa using hi
    have hj' : j < xs.size := by simpa using hj
    have h1 := hs i j (Nat.zero_le _) (Nat.le_of_lt hij) (by omega)
    rw [R_get hi', R_get hj'] at h1
    simpa using h1

theorem list_sort_by {a : Addr} {vs : List Value} {n : Nat} {F : PySem.Fin → Shared → Prop} (ho : s.heap.get? a = some (seqObj "list" vs.toArray n)) (hsz : vs.length ≤ sizeLine) (hP : ∀ v ∈ vs, P v)
    (hk : 2 ≤ vs.length → ∀ (Q : SortKind → Shared → Prop), Q κ { s with heap := midHeap s.heap a vs } → wpAny (model prog w) A (keyKind' vs.toArray) Q E { s with heap := midHeap s.heap a vs })
    (C : 2 ≤ vs.length → Cmp prog w A { s with heap := midHeap s.heap a vs } κ r P)
    (h : ∀ out : Array Value, out.toList.Perm vs → (out.toList.Pairwise fun x y => r x ≤ r y) → F (.done (.ret .none)) { s with heap := sortedHeap s.heap a vs out }) :
    wpAny (model prog w) A (Builtin.«list.sort» ⟨[.ref a], []⟩) F E s := by
  rw [list_sort_plain]
  have ha : a < s.heap.objs.size := Heap.lt_size ho
  refine wpAny_bind (listItems_at ho rfl ?_)
  refine wpAny_bind (listUpdate_at ho rfl ?_ (by simpa using hsz) (Nat.zero_le _))
  obtain ⟨e1, ho1⟩ : ∃ e1, (s.heap.update a (Obj.mapSeq fun _ => #[])).get? a = some (seqObj "list" #[] e1) := ⟨_, get?_update_seq ho (fun _ => #[])⟩
  refine wpAny_bind (seqEpoch_at ho1 rfl ?_)
  refine wpAny_bind (wpAny_newTuple ?_ (by simpa using hsz))
  refine wpAny_bind (wpAny_newList ?_ (Nat.zero_le _))
  refine wpAny_holding ?_
  have ho6 : (midHeap s.heap a vs).get? a = some (seqObj "list" #[] e1) := by
    unfold midHeap
    rw [Heap.get?_push_ne _ _ _ (by rw [size_push', Heap.size_update]; exact Nat.ne_of_lt (Nat.lt_succ_of_lt ha)), Heap.get?_push_ne _ _ _ (by rw [Heap.size_update]; exact Nat.ne_of_lt ha)]
    exact ho1
  show wpAny (model prog w) A _ F E { s with heap := midHeap s.heap a vs }
  dsimp only
  have hvz : vs.toArray.size = vs.length := by simp
  have fin : ∀ st' : SortSt, (arrOf st').Perm (pairsOf vs) → Up r (arrOf st') 0 vs.length → F (.done (.ret .none)) { s with heap := sortedHeap s.heap a vs ((arrOf st').map (·.2)) } := by
    intro st' hp hs
    obtain ⟨h1, h2⟩ := sorted_list hp hs
    exact h _ h1 h2
  by_cases h2 : vs.toArray.size < 2
  · rw [if_pos h2, if_pos h2]
    refine wpAny_bind (wpAny_pure ?_)
    rw [StateT.run_pure]
    refine wpAny_bind (wpAny_pure ?_)
    dsimp only
    refine wpAny_bind (seqEpoch_at ho6 rfl ?_)
    refine wpAny_bind (listUpdate_at ho6 rfl ?_ (Nat.zero_le _) (by rw [Array.size_map]; show (pairsOf vs).size ≤ _; rw [pairsOf_size]; omega))
    simp only [bne_self_eq_false, Bool.false_eq_true, if_false]
    refine wpAny_pure (fin (SortSt.mk' general' (vs.toArray.zip vs.toArray) #[] 7 none) (Array.Perm.refl _) ?_)
    intro i j _ hij hj
    have : i = j := by omega
    subst this; exact Int.le_refl _
  · rw [if_neg h2, if_neg h2]
    refine wpAny_bind (hk (by omega) _ ?_)
    refine wpAny_bind (wpAny_mono (wpS_sortRuns (st := SortSt.mk' κ (vs.toArray.zip vs.toArray) #[] 7 none)
      (Q := fun _ st' => (arrOf st').Perm (pairsOf vs) ∧ failedOf st' = none ∧ Up r (arrOf st') 0 vs.length)
      (C (by omega)) rfl (fun p hp => ?_) rfl rfl fun st' a1 a2 a3 => ⟨a1, a2, ?_⟩) ?_ fun _ _ e => e)
    · have hp' : p ∈ (pairsOf vs).toList := hp
      rw [pairsOf_toList] at hp'
      exact hP _ (mem_zip_self hp').2
    · have e : (arrOf (SortSt.mk' κ (vs.toArray.zip vs.toArray) #[] 7 none)).size = vs.length := pairsOf_size vs
      rw [e] at a3
      exact a3
    · rintro ⟨⟨⟩, st'⟩ s' ⟨rfl, hp, hf, hs⟩
      dsimp only
      refine wpAny_bind (seqEpoch_at ho6 rfl ?_)
      refine wpAny_bind (listUpdate_at ho6 rfl ?_ (Nat.zero_le _) (by refine Nat.le_trans (Nat.le_of_eq ((Array.size_map ..).trans (hp.size_eq.trans (pairsOf_size _)))) ?_; omega))
      rw [hf]
      simp only [bne_self_eq_false, Bool.false_eq_true, if_false]
      exact wpAny_pure (fin st' hp hs)

def colHeap (h : Heap) (vs : List Value) : Heap := ((h.push (seqObj "list" #[] 0)).update h.objs.size (Obj.mapSeq (· ++ vs.toArray))).push (seqObj "list" vs.toArray 0)
theorem colHeap_old {h : Heap} {vs : List Value} {b : Addr} {o : Obj} (hb : h.get? b = some o) : (midHeap (colHeap h vs) (h.objs.size + 1) vs).get? b = some o := by
  have hlt : b < h.objs.size := Heap.lt_size hb
  have e : (colHeap h vs).get? b = some o := by
    unfold colHeap
    rw [Heap.get?_push_ne _ _ _ (by rw [Heap.size_update, size_push']; exact Nat.ne_of_lt (Nat.lt_succ_of_lt hlt)), Heap.get?_update_ne _ _ _ _ (Nat.ne_of_lt hlt), Heap.get?_push_ne _ _ _ (Nat.ne_of_lt hlt)]
    exact hb
  rw [midHeap_old (Nat.ne_of_lt (Nat.lt_succ_of_lt hlt)) (Heap.lt_size e)]
  exact e

theorem sorted_by {l : Addr} {vs : List Value} {Q : Value → Shared → Prop} (hl : s.heap.IsList l vs.toArray) (hsz : vs.length ≤ sizeLine) (hP : ∀ v ∈ vs, P v)
    (hk : 2 ≤ vs.length → ∀ (A' : Around) (E' : Value → Shared → Prop) (s' : Shared), (∀ b o, s.heap.get? b = some o → s'.heap.get? b = some o) → ∀ (Q : SortKind → Shared → Prop), Q κ s' → wpAny (model prog w) A' (keyKind' vs.toArray) Q E' s')
    (C : 2 ≤ vs.length → ∀ (s' : Shared), (∀ b o, s.heap.get? b = some o → s'.heap.get? b = some o) → Cmp prog w A.in1.in1 s' κ r P)
    (h : ∀ (h' : Heap) (out : List Value) (n : Nat), out.Perm vs → (out.Pairwise fun x y => r x ≤ r y) → (∀ b o, s.heap.get? b = some o → h'.get? b = some o) → h'.get? (s.heap.objs.size + 1) = some (seqObj "list" out.toArray n) → Q (.ref (s.heap.objs.size + 1)) { s with heap := h' }) :
    wpAny (model prog w) A (call (.builtin "sorted") [.ref l]) Q E s := by
  refine Calls.call_function_entry kind_sorted plain_sorted entry_sorted (args_sorted1 _) ?_
  unfold Builtin.«sorted»
  refine wpAny_bind (m := checkCount "sorted" 1 1 _) (wpAny_pure ?_)
  refine wpAny_bind (collect_list hl ?_ hsz)
  refine wpAny_bind (wpAny_newList ?_ (by simpa using hsz))
  have hsz2 : ((s.heap.push (seqObj "list" #[] 0)).update s.heap.objs.size (Obj.mapSeq (· ++ vs.toArray))).objs.size = s.heap.objs.size + 1 := by
    rw [Heap.size_update, size_push']
  have hoL : (colHeap s.heap vs).get? (s.heap.objs.size + 1) = some (seqObj "list" vs.toArray 0) := by
    unfold colHeap
    rw [← hsz2]; exact Heap.get?_push_size _ rfl
  show wpAny _ _ _ _ _ { s with heap := colHeap s.heap vs }
  rw [hsz2]
  refine wpAny_bind (wpAny_holding (wpAny_call_entry slot_list_sort ⟨_, hoL, rfl⟩ entry_list_sort (list_sort_by (r := r) (s := { s with heap := colHeap s.heap vs }) hoL hsz hP
    (fun h2 => hk h2 _ _ _ fun b o e => colHeap_old e) (fun h2 => ?_) fun out a1 a2 => ⟨_, rfl, ?_⟩) (args_list_sort _)))
  · exact C h2 _ fun b o e => colHeap_old e
  · obtain ⟨n, e⟩ := sortedAll_at s.heap vs out
    refine wpAny_pure ⟨_, rfl, h (sortedAll s.heap vs out) out.toList n a1 a2 (fun b o e => sortedAll_old e) (by rw [Array.toArray_toList]; exact e)⟩
end
end Tim

set_option Elab.async false
set_option linter.all false
set_option maxRecDepth 100000
set_option maxHeartbeats 4000000

namespace L2
open PySem PySem.Spec PyProof.Rows

def lt1 : Key → Key → Bool
  | .inl i, .inl j => decide (i < j)
  | .inr x, .inr y => ltS x y
  | _, _ => false
def ltK : List Key → List Key → Bool
  | a :: as, b :: bs => if a = b then ltK as bs else lt1 a b
  | _, _ => false
def isI : Key → Bool
  | .inl _ => true
  | .inr _ => false
def shOf (k : List Key) : List Bool := k.map isI
theorem ltS_irr (x : Str) : ltS x x = false := by unfold ltS; simp [List.lt_irrefl]
theorem ltS_tr {x y z : Str} (h : ltS x y = true) (g : ltS y z = true) : ltS x z = true := by
  unfold ltS at *
  simp only [decide_eq_true_eq] at *
  exact List.lt_trans h g
theorem str_ext {x y : Str} (h : x.cps.toList = y.cps.toList) : x = y := by
  cases x; cases y
  simp only at h
  rw [Array.toList_inj.mp h]
theorem ltS_tot {x y : Str} (h : ltS x y = false) (g : ltS y x = false) : x = y := by
  unfold ltS at *
  simp only [decide_eq_false_iff_not] at *
  apply str_ext
  exact List.le_antisymm (List.not_lt.mp g) (List.not_lt.mp h)
theorem lt1_irr (a : Key) : lt1 a a = false := by cases a with | inl i => simp [lt1] | inr x => exact ltS_irr x
theorem lt1_tr {a b c : Key} (h : lt1 a b = true) (g : lt1 b c = true) : lt1 a c = true := by
  cases a <;> cases b <;> cases c <;> simp only [lt1, decide_eq_true_eq] at * <;> first | omega | contradiction | exact ltS_tr h g
theorem lt1_tot {a b : Key} (e : isI a = isI b) (h : lt1 a b = false) (g : lt1 b a = false) : a = b := by
  cases a <;> cases b <;> simp only [lt1, isI, decide_eq_false_iff_not] at *
  · congr 1; omega
  · cases e
  · cases e
  · congr 1; exact ltS_tot h g
theorem ltK_irr : ∀ a : List Key, ltK a a = false
  | [] => rfl
  | a :: as => by unfold ltK; rw [if_pos rfl]; exact ltK_irr as
theorem ltK_tr : ∀ {a b c : List Key}, ltK a b = true → ltK b c = true → ltK a c = true
  | [], _, _, h, _ => by simp [ltK] at h
  | _ :: _, [], _, h, _ => by simp [ltK] at h
  | _ :: _, _ :: _, [], _, g => by simp [ltK] at g
  | a :: as, b :: bs, c :: cs, h, g => by
    unfold ltK at h g ⊢
    by_cases e1 : a = b
    · subst e1
      rw [if_pos rfl] at h
      by_cases e2 : a = c
      · subst e2
        rw [if_pos rfl] at g ⊢
        exact ltK_tr h g
      · rw [if_neg e2] at g ⊢
        exact g
    · rw [if_neg e1] at h
      by_cases e2 : b = c
      · subst e2
        rw [if_neg e1]
        exact h
      · rw [if_neg e2] at g
        have t := lt1_tr h g
        have ne : a ≠ c := fun e => by subst e; rw [lt1_irr] at t; cases t
        rw [if_neg ne]
        exact t
theorem ltK_tot : ∀ {a b : List Key}, shOf a = shOf b → ltK a b = false → ltK b a = false → a = b
  | [], [], _, _, _ => rfl
  | [], _ :: _, e, _, _ => by simp [shOf] at e
  | _ :: _, [], e, _, _ => by simp [shOf] at e
  | a :: as, b :: bs, e, h, g => by
    simp only [shOf, List.map_cons, List.cons.injEq] at e
    unfold ltK at h g
    by_cases e1 : a = b
    · subst e1
      rw [if_pos rfl] at h g
      rw [ltK_tot (show shOf as = shOf bs from e.2) h g]
    · rw [if_neg e1] at h
      rw [if_neg (Ne.symm e1)] at g
      exact absurd (lt1_tot e.1 h g) e1

theorem count_le {α : Type} (p q : α → Bool) : ∀ (l : List α), (∀ x ∈ l, p x = true → q x = true) → l.countP p ≤ l.countP q
  | [], _ => Nat.le_refl _
  | x :: l, h => by
    have ih := count_le p q l fun y hy => h y (List.mem_cons_of_mem _ hy)
    have h1 := h x List.mem_cons_self
    rw [List.countP_cons, List.countP_cons]
    cases hp : p x <;> cases hq : q x <;> simp_all <;> omega
theorem count_lt {α : Type} (p q : α → Bool) (a : α) (ha : p a = false) (hb : q a = true) : ∀ (l : List α), a ∈ l → (∀ x ∈ l, p x = true → q x = true) → l.countP p < l.countP q
  | [], m, _ => by cases m
  | x :: l, m, h => by
    rw [List.countP_cons, List.countP_cons]
    rcases List.mem_cons.mp m with rfl | m
    · have := count_le p q l fun y hy => h y (List.mem_cons_of_mem _ hy)
      rw [ha, hb]; simp; omega
    · have ih := count_lt p q a ha hb l m fun y hy => h y (List.mem_cons_of_mem _ hy)
      have h1 := h x List.mem_cons_self
      cases hp : p x <;> cases hq : q x <;> simp_all <;> omega
def rkK (L : List (List Key)) (k : List Key) : Int := (L.countP fun j => ltK j k : Nat)
theorem rkK_lt {L : List (List Key)} {a b : List Key} (e : shOf a = shOf b) (ma : a ∈ L) : decide (rkK L a < rkK L b) = ltK a b := by
  unfold rkK
  cases h : ltK a b with
  | true =>
    have := count_lt (fun j => ltK j a) (fun j => ltK j b) a (ltK_irr a) h L ma fun x _ hx => ltK_tr hx h
    exact decide_eq_true (by omega)
  | false =>
    apply decide_eq_false
    cases g : ltK b a with
    | false => rw [ltK_tot e h g]; omega
    | true =>
      have := count_le (fun j => ltK j b) (fun j => ltK j a) L fun x _ hx => ltK_tr hx g
      omega

def unV : V → Option Key
  | .int i => some (.inl i)
  | .str x => some (.inr x)
  | _ => none
theorem un_kV (k : Key) : unV (kV k) = some k := by cases k <;> rfl
theorem un_map : ∀ k : List Key, (k.map kV).filterMap unV = k
  | [] => rfl
  | a :: as => by rw [List.map_cons, List.filterMap_cons, un_kV, un_map as]
def keyAt (H : Hp) : Value → List Key
  | .ref b => match H b with
    | some (.tup xs) => xs.filterMap unV
    | _ => []
  | _ => []
theorem keyAt_of {H : Hp} {b : Addr} {k : List Key} (h : H b = some (.tup (k.map kV))) : keyAt H (.ref b) = k := by
  simp only [keyAt, h]; exact un_map k
section
variable {prog : Program} {w : World} {A : Around} {E : Value → Shared → Prop} {s : Shared} {Q : Bool → Shared → Prop}
theorem one_lt {a b : Key} {u v : Value} (ru : RelV (kV a) u) (rv : RelV (kV b) v) (e : isI a = isI b) (q : Q (lt1 a b) s) : wpAny (model prog w) A (oneLt' false u v) Q E s := by
  refine PySem.W.kat_one u v ?_
  cases a with
  | inl i =>
    cases b with
    | inr x => cases e
    | inl j =>
      obtain ⟨t, rfl⟩ := ru
      obtain ⟨t', rfl⟩ := rv
      exact lt_int q
  | inr x =>
    cases b with
    | inl j => cases e
    | inr y =>
      obtain ⟨t, rfl⟩ := ru
      obtain ⟨t', rfl⟩ := rv
      exact PySem.P.lt_str q
theorem one_eq {a b : Key} {u v : Value} (ru : RelV (kV a) u) (rv : RelV (kV b) v) (e : isI a = isI b) (q : Q (decide (a = b)) s) : wpAny (model prog w) A (eqBool u v) Q E s := by
  cases a with
  | inl i =>
    cases b with
    | inr x => cases e
    | inl j =>
      obtain ⟨t, rfl⟩ := ru
      obtain ⟨t', rfl⟩ := rv
      refine wpAny_eqBool_int ?_
      rw [← key_ll]; exact q
  | inr x =>
    cases b with
    | inl j => cases e
    | inr y =>
      obtain ⟨t, rfl⟩ := ru
      obtain ⟨t', rfl⟩ := rv
      refine wpAny_eqBool_str ?_
      rw [← key_rr]; exact q
theorem lex_from {fin : Bool} : ∀ (k m : List Key) (us vs : List Value) (i : Nat), Vals (k.map kV) us → Vals (m.map kV) vs → shOf k = shOf m → fin = false → (i = 0 → k.head?.elim True (fun a => isI a = true)) → Q (ltK k m) s →
    PySem.W.KatLex prog w A true fin Q (us.zip vs) i s
  | [], [], _, _, _, .nil, .nil, _, hf, _, q => by
    subst hf
    exact PySem.W.kat_nil q
  | [], _ :: _, _, _, _, _, _, e, _, _, _ => by simp [shOf] at e
  | _ :: _, [], _, _, _, _, _, e, _, _, _ => by simp [shOf] at e
  | a :: k, b :: m, _, _, i, .cons ra rk, .cons rb rm, e, hf, hi, q => by
    simp only [shOf, List.map_cons, List.cons.injEq] at e
    rw [List.zip_cons_cons]
    refine PySem.W.kat_cons (one_eq ra rb e.1 (PySem.W.kat_go (fun h => PySem.W.kat_yes ?_) (fun h => PySem.W.kat_no ?_)))
    · have h := of_decide_eq_true h
      subst h
      unfold ltK at q
      rw [if_pos rfl] at q
      exact lex_from k m _ _ (i + 1) rk rm e.2 hf (fun h => by omega) q
    · have h := of_decide_eq_false h
      unfold ltK at q
      rw [if_neg h] at q
      by_cases h0 : i = 0
      · subst h0
        have ia : isI a = true := hi rfl
        cases a with
        | inr x => cases ia
        | inl i =>
          cases b with
          | inr x => cases e.1
          | inl j =>
            obtain ⟨t, rfl⟩ := ra
            obtain ⟨t', rfl⟩ := rb
            exact oneLt_int q
      · rw [show (true && i == 0) = false by simp [h0]]
        exact one_lt ra rb e.1 q
end
section
variable {X : Cx} {pins : List (Addr × Obj)} {σ : St} {H : Hp} {s : Shared}
theorem Inv.tup {b : Addr} {xs : List V} (I : Inv X pins σ H s) (h : H b = some (.tup xs)) : ∃ its : List Value, Vals xs its ∧ IsTup s.heap b its.toArray := (I.hok b _ h).2
theorem cmp_tups (I : Inv X pins σ H s) {s' : Shared} (kp : ∀ b o, s.heap.get? b = some o → s'.heap.get? b = some o) {A : Around} {L : List (List Key)} {sh : List Bool} :
    Tim.Cmp X.prog X.w A s' (tuples' true) (fun v => rkK L (keyAt H v)) (fun v => ∃ b k, v = .ref b ∧ H b = some (.tup (k.map kV)) ∧ shOf k = true :: sh ∧ k ∈ L) := by
  rintro x y ⟨b, k, rfl, hb, hk, mk⟩ ⟨c, m, rfl, hc, hm, mm⟩ Q E q
  obtain ⟨us, ru, o, e1, c1, n1, d1⟩ := I.tup hb
  obtain ⟨vs, rv, o', e2, c2, n2, d2⟩ := I.tup hc
  have sh' : shOf k = shOf m := hk.trans hm.symm
  simp only [keyAt_of hb, keyAt_of hc] at q
  rw [rkK_lt sh' mk] at q
  refine PySem.W.kat_lt (kp _ _ e1) d1 (kp _ _ e2) d2 (lex_from k m us vs 0 ru rv sh' ?_ (fun _ => ?_) q)
  · have h1 := ru.length
    have h2 := rv.length
    have h3 : k.length = m.length := by
      have := congrArg List.length sh'
      simpa [shOf] using this
    simp only [List.length_map] at h1 h2
    exact decide_eq_false (by simp only [List.size_toArray]; omega)
  · cases k with
    | nil => simp [shOf] at hk
    | cons a k => simp only [shOf, List.map_cons, List.cons.injEq] at hk; exact hk.1
theorem kat_tups (I : Inv X pins σ H s) {s' : Shared} (kp : ∀ b o, s.heap.get? b = some o → s'.heap.get? b = some o) {sh : List Bool} : ∀ {ys : List V} {ks : List (List Key)} {vs : List Value}, TupsAt H ys ks → Vals ys vs → (∀ k ∈ ks, shOf k = true :: sh) →
    ∃ fs : List Value, PySem.W.KatTups s'.heap vs fs ∧ fs.length = vs.length ∧ ∀ f ∈ fs, ∃ i t, f = Value.int i t
  | _, _, _, .nil, .nil, _ => ⟨[], .nil, rfl, by simp⟩
  | _ :: ys, k :: ks, _ :: vs, .cons h t, .cons r rs, hs => by
    obtain ⟨b, rfl, hb⟩ := h
    cases r
    obtain ⟨fs, f1, f2, f3⟩ := kat_tups I kp t rs fun j hj => hs j (List.mem_cons_of_mem _ hj)
    have hk := hs k List.mem_cons_self
    obtain ⟨us, ru, o, e1, c1, n1, d1⟩ := I.tup hb
    cases k with
    | nil => simp [shOf] at hk
    | cons a k =>
      cases ru with
      | cons ra rr =>
        simp only [shOf, List.map_cons, List.cons.injEq] at hk
        cases a with
        | inr x => cases hk.1
        | inl i =>
          obtain ⟨tk, rfl⟩ := ra
          exact ⟨_ :: fs, .cons (kp _ _ e1) c1 d1 rfl f1, by simp [f2], fun f hf => by
            rcases List.mem_cons.mp hf with rfl | hf
            · exact ⟨_, _, rfl⟩
            · exact f3 f hf⟩
end
def rSortT (K : PySem.W.Frag) : List V → Hp → VK → Prop := fun xs H Q => match xs with
  | [.ref p] => ∃ ys ks sh, SqL K H p ys ∧ TupsAt H ys ks ∧ (∀ k ∈ ks, shOf k = true :: sh) ∧
      ∀ zs ms l, TupsAt H zs ms → ms.Perm ks → (ms.Pairwise fun a b => ltK b a = false) → H l = none → Q (.ref l) (upd H l (.lst zs))
  | _ => False
theorem TupsAt.mem {H : Hp} : ∀ {ys : List V} {ks : List (List Key)}, TupsAt H ys ks → ∀ y ∈ ys, ∃ b k, y = .ref b ∧ H b = some (.tup (k.map kV)) ∧ k ∈ ks
  | _, _, .nil, y, hy => by cases hy
  | _, _, .cons h t, y, hy => by
    rcases List.mem_cons.mp hy with rfl | hy
    · obtain ⟨b, e, g⟩ := h
      exact ⟨b, _, e, g, List.mem_cons_self⟩
    · obtain ⟨b, k, e, g, m⟩ := TupsAt.mem t y hy
      exact ⟨b, k, e, g, List.mem_cons_of_mem _ m⟩
theorem TupsAt.keys {H : Hp} : ∀ {ys : List V} {ks : List (List Key)} {vs : List Value}, TupsAt H ys ks → Vals ys vs → vs.map (keyAt H) = ks ∧ ∀ v ∈ vs, ∃ b k, v = .ref b ∧ H b = some (.tup (k.map kV)) ∧ k ∈ ks
  | _, _, _, .nil, .nil => ⟨rfl, by simp⟩
  | _ :: ys, k :: ks, _ :: vs, .cons h t, .cons r rs => by
    obtain ⟨b, rfl, g⟩ := h
    cases r
    obtain ⟨e, m⟩ := TupsAt.keys t rs
    refine ⟨by rw [List.map_cons, keyAt_of g, e], fun v hv => ?_⟩
    rcases List.mem_cons.mp hv with rfl | hv
    · exact ⟨b, k, rfl, g, List.mem_cons_self⟩
    · obtain ⟨b', k', e1, e2, e3⟩ := m v hv
      exact ⟨b', k', e1, e2, List.mem_cons_of_mem _ e3⟩
theorem TupsAt.of {H : Hp} {ks : List (List Key)} : ∀ (vs : List Value), (∀ v ∈ vs, ∃ b k, v = Value.ref b ∧ H b = some (.tup (k.map kV)) ∧ k ∈ ks) → ∃ zs, TupsAt H zs (vs.map (keyAt H)) ∧ Vals zs vs
  | [], _ => ⟨[], .nil, .nil⟩
  | v :: vs, h => by
    obtain ⟨zs, a, c⟩ := TupsAt.of vs fun u hu => h u (List.mem_cons_of_mem _ hu)
    obtain ⟨b, k, rfl, e, _⟩ := h v List.mem_cons_self
    exact ⟨.ref b :: zs, .cons ⟨b, rfl, by rw [keyAt_of e]; exact e⟩ a, .cons rfl c⟩
section
variable {X : Cx}
theorem call_sortT : CallR X (.builtin "sorted") (rSortT X.K) := by
  intro pins s σ H xs us Q I r h
  unfold rSortT at h
  split at h
  · rename_i p
    obtain ⟨ys, ks, sh, hl, ht, hs, q⟩ := h
    obtain ⟨u, rfl, ru⟩ := Vals.one r
    cases ru
    obtain ⟨vs, rv, pl, hz⟩ := I.list hl
    obtain ⟨ek, mem⟩ := ht.keys rv
    have hlen := rv.length
    refine Tim.sorted_by (κ := tuples' true) (r := fun v => rkK ks (keyAt H v)) (P := fun v => ∃ b k, v = .ref b ∧ H b = some (.tup (k.map kV)) ∧ shOf k = true :: sh ∧ k ∈ ks) pl.isList (by omega) (fun v hv => ?_) (fun h2 A' E' s' kp Q' q' => ?_) (fun h2 s' kp => cmp_tups I kp) fun h' out n pm pw kp eo => ?_
    · obtain ⟨b, k, e1, e2, e3⟩ := mem v hv
      exact ⟨b, k, e1, e2, hs k e3, e3⟩
    · obtain ⟨fs, f1, f2, f3⟩ := kat_tups I kp ht rv hs
      refine PySem.W.kat_kind (T := .type "int") f1 (by omega) (fun f hf => ?_) (by decide) q'
      obtain ⟨i, t, rfl⟩ := f3 f hf
      exact .now
    · obtain ⟨zs, z1, z2⟩ := TupsAt.of (H := H) (ks := ks) out fun v hv => mem v (pm.mem_iff.mp hv)
      have zl := z2.length
      have ol := pm.length_eq
      have pms : (out.map (keyAt H)).Perm ks := by rw [← ek]; exact pm.map _
      refine ⟨.ref (s.heap.objs.size + 1), _, I.laid (a := s.heap.objs.size + 1) (t' := s.toks) kp (Nat.le_succ _) (show ObjOk X.prog X.w _ h' _ (.lst zs) from ⟨by omega, out, n, z2, eo⟩), rfl,
        q zs _ _ z1 pms ?_ (I.hok.fresh (Nat.le_succ _))⟩
      rw [List.pairwise_map]
      refine pw.imp_of_mem fun {x y} mx my hle => ?_
      obtain ⟨b, k, rfl, hb, kk⟩ := mem x (pm.mem_iff.mp mx)
      obtain ⟨c, m, rfl, hc, km⟩ := mem y (pm.mem_iff.mp my)
      rw [keyAt_of hb, keyAt_of hc] at *
      have := rkK_lt (L := ks) ((hs m km).trans (hs k kk).symm) km
      rw [← this]
      exact decide_eq_false (by omega)
  · exact h.elim
end
end L2

set_option Elab.async false
set_option linter.all false
set_option maxRecDepth 100000
set_option maxHeartbeats 4000000

namespace Tim
open PySem PyProof.Rows
section
variable {prog : Program} {w : World} {A : Around} {E : Value → Shared → Prop} {s : Shared} {κ : SortKind} {r : Value → Int} {P : Value → Prop}
theorem collect_code {T : String} {r d : Addr} {n : Nat} {P : Nat → Value → Prop} {OK : Heap → Prop} {R : Result → Shared → Prop} (K : PySem.W.KdlSrc prog w T r d n P OK) (hh : A.handled = none) (hok : OK s.heap) (hn : n ≤ sizeLine)
    (hR : ∀ h' tk acc c, (∀ b o, s.heap.get? b = some o → h'.get? b = some o) → h'.get? s.heap.objs.size = some { cls := .type "list", data := .seq acc c } → ItemsOf P acc n → R (.ok (.ret (.ref s.heap.objs.size))) { s with heap := h', toks := tk }) :
    codeAny (model prog w) A (.builtin "proto.collect" ⟨[.ref r], []⟩) R s := by
  have hth := K.there _ hok
  have hS : (s.heap.push { cls := .type "list", data := .seq ([] : List Value).toArray }).get? s.heap.objs.size = some { cls := .type "list", data := .seq ([] : List Value).toArray } := Heap.get?_push_size _ rfl
  refine codeAny_builtin F.entry_proto_collect ?_
  rw [Around.under_plainId F.plain_proto_collect _]
  show wpAny _ A.in1 (newList [] >>= fun l => again (.builtin "list.__iadd__" ⟨[l, .ref r], []⟩)) _ _ s
  refine wpAny_bind (wpAny_newObj_type ?_)
  refine wpAny_pure ⟨plainId_quiet F.plain_list_iadd _, codeAny_builtin F.entry_list_iadd ?_⟩
  rw [Around.under_plainId F.plain_list_iadd _]
  show wpAny _ A.in1 (Builtin.List.listExtendWith (.ref s.heap.objs.size) (.ref r) (.ref s.heap.objs.size)) _ _ _
  exact PySem.W.kdl_extend (R := R) (s := { s with heap := s.heap.push { cls := .type "list", data := .seq ([] : List Value).toArray } }) K hh (K.keep _ _ hok fun b _ o e => Heap.get?_push_of_some _ e) s.heap.objs.size (Nat.ne_of_gt hth.1) (Nat.ne_of_gt hth.2) _ 0 hS
    (fun h' tk acc' c' kp eo ia => hR h' tk acc' c' (fun b o e => kp b o (Nat.ne_of_lt (Heap.lt_size e)) (Heap.get?_push_of_some _ e)) eo ia) hn
theorem collect_src {T : String} {r d : Addr} {n : Nat} {P : Nat → Value → Prop} {OK : Heap → Prop} {Q : List Value → Shared → Prop} (K : PySem.W.KdlSrc prog w T r d n P OK) (hh : A.handled = none) (hok : OK s.heap) (hn : n ≤ sizeLine)
    (hQ : ∀ h' tk acc, (∀ b o, s.heap.get? b = some o → h'.get? b = some o) → s.heap.objs.size ≤ h'.objs.size → ItemsOf P acc n → Q acc.toList { s with heap := h', toks := tk }) : wpAny (model prog w) A (collect (.ref r)) Q E s := by
  unfold collect
  refine wpAny_bind (wpAny_runValue (collect_code K hh hok hn fun h' tk acc c kp eo ia => ?_))
  show wpAny _ A (load s.heap.objs.size >>= _) _ _ { s with heap := h', toks := tk }
  refine wpAny_bind (wpAny_load eo ?_)
  exact wpAny_pure (hQ h' tk acc kp (Nat.le_of_lt (Heap.lt_size eo)) ia)
theorem sorted_col {v : Value} {R : List Value → Prop} {Q : Value → Shared → Prop}
    (hcol : ∀ (A' : Around) (E' : Value → Shared → Prop) (Q' : List Value → Shared → Prop), A'.handled = A.handled → (∀ vs h1 tk, R vs → (∀ b o, s.heap.get? b = some o → h1.get? b = some o) → s.heap.objs.size ≤ h1.objs.size → Q' vs { s with heap := h1, toks := tk }) → wpAny (model prog w) A' (collect v) Q' E' s)
    (hsz : ∀ vs, R vs → vs.length ≤ sizeLine) (hP : ∀ vs, R vs → ∀ v ∈ vs, P v)
    (hk : ∀ vs, R vs → 2 ≤ vs.length → ∀ (A' : Around) (E' : Value → Shared → Prop) (s' : Shared), (∀ b o, s.heap.get? b = some o → s'.heap.get? b = some o) → ∀ (Q : SortKind → Shared → Prop), Q κ s' → wpAny (model prog w) A' (keyKind' vs.toArray) Q E' s')
    (C : ∀ (s' : Shared), (∀ b o, s.heap.get? b = some o → s'.heap.get? b = some o) → Cmp prog w A.in1.in1 s' κ r P)
    (h : ∀ (vs : List Value) (h' : Heap) (a : Addr) (out : List Value) (n tk : Nat), R vs → out.Perm vs → (out.Pairwise fun x y => r x ≤ r y) → (∀ b o, s.heap.get? b = some o → h'.get? b = some o) → s.heap.objs.size ≤ a → h'.get? a = some (seqObj "list" out.toArray n) → Q (.ref a) { s with heap := h', toks := tk }) :
    wpAny (model prog w) A (call (.builtin "sorted") [v]) Q E s := by
  refine Calls.call_function_entry kind_sorted plain_sorted entry_sorted (args_sorted1 _) ?_
  unfold Builtin.«sorted»
  refine wpAny_bind (m := checkCount "sorted" 1 1 _) (wpAny_pure ?_)
  refine wpAny_bind (hcol _ _ _ rfl fun vs h1 tk hR kp hz => ?_)
  have hsz' := hsz vs hR
  refine wpAny_bind (wpAny_newList ?_ (by simpa using hsz'))
  have hoL : (h1.push (seqObj "list" vs.toArray 0)).get? h1.objs.size = some (seqObj "list" vs.toArray 0) := Heap.get?_push_size _ rfl
  have old : ∀ b o, s.heap.get? b = some o → (midHeap (h1.push (seqObj "list" vs.toArray 0)) h1.objs.size vs).get? b = some o := fun b o e => by
    have hlt : b < h1.objs.size := Heap.lt_size (kp b o e)
    rw [midHeap_old (Nat.ne_of_lt hlt) (by rw [size_push']; exact Nat.lt_succ_of_lt hlt)]
    exact Heap.get?_push_of_some _ (kp b o e)
  show wpAny _ _ _ _ _ { s with heap := h1.push (seqObj "list" vs.toArray 0), toks := tk }
  refine wpAny_bind (wpAny_holding (wpAny_call_entry slot_list_sort ⟨_, hoL, rfl⟩ entry_list_sort (list_sort_by (r := r) (s := { s with heap := h1.push (seqObj "list" vs.toArray 0), toks := tk }) hoL hsz' (hP vs hR)
    (fun h2 => hk vs hR h2 _ _ _ old) (fun h2 => C _ old) fun out a1 a2 => ⟨_, rfl, ?_⟩) (args_list_sort _)))
  obtain ⟨n, e⟩ := sortedHeap_at (out := out) hoL
  refine wpAny_pure ⟨_, rfl, h vs _ h1.objs.size out.toList n tk hR a1 a2 (fun b o e => ?_) hz (by rw [Array.toArray_toList]; exact e)⟩
  have hlt : b < h1.objs.size := Heap.lt_size (kp b o e)
  rw [sortedHeap_old (Nat.ne_of_lt hlt) (by rw [size_push']; exact Nat.lt_succ_of_lt hlt)]
  exact Heap.get?_push_of_some _ (kp b o e)
end
end Tim

namespace L2
open PySem PySem.Spec PyProof.Rows
def key1At : Value → List Key
  | .int i _ => [.inl i]
  | .str x _ => [.inr x]
  | _ => []
theorem key1_of {k : Key} {v : Value} (h : RelV (kV k) v) : key1At v = [k] := by
  cases k with
  | inl i => obtain ⟨t, rfl⟩ := h; rfl
  | inr x => obtain ⟨t, rfl⟩ := h; rfl
theorem ltK_one {a b : Key} : ltK [a] [b] = lt1 a b := by
  unfold ltK
  by_cases e : a = b
  · subst e; rw [if_pos rfl, lt1_irr]; rfl
  · rw [if_neg e]
theorem cmp_keys {prog : Program} {w : World} {A : Around} {s : Shared} {b : Bool} {L : List Key} :
    Tim.Cmp prog w A s oneType' (fun v => rkK (L.map fun k => [k]) (key1At v)) (fun v => ∃ k, RelV (kV k) v ∧ isI k = b ∧ k ∈ L) := by
  rintro x y ⟨k, rk, ik, mk⟩ ⟨m, rm, im, mm⟩ Q E q
  simp only [key1_of rk, key1_of rm] at q
  rw [rkK_lt (by simp [shOf, ik, im]) (List.mem_map.mpr ⟨k, mk, rfl⟩), ltK_one] at q
  rw [keyLt'_oneType]
  cases k with
  | inl i =>
    cases m with
    | inr y => rw [← im] at ik; cases ik
    | inl j =>
      obtain ⟨t, rfl⟩ := rk
      obtain ⟨u, rfl⟩ := rm
      exact oneLt_int q
  | inr x =>
    cases m with
    | inl y => rw [← im] at ik; cases ik
    | inr j =>
      obtain ⟨t, rfl⟩ := rk
      obtain ⟨u, rfl⟩ := rm
      exact oneLt_str q
theorem ints_of : ∀ {ks : List Key} {vs : List Value}, Vals (ks.map kV) vs → (∀ k ∈ ks, isI k = true) → ∃ ns, IntsAre vs ns
  | [], _, .nil, _ => ⟨[], .nil⟩
  | k :: ks, _, .cons r rs, h => by
    obtain ⟨ns, q⟩ := ints_of rs fun j hj => h j (List.mem_cons_of_mem _ hj)
    have := h k List.mem_cons_self
    cases k with
    | inr x => cases this
    | inl i => obtain ⟨t, rfl⟩ := r; exact ⟨_, .cons i t q⟩
theorem strs_of : ∀ {ks : List Key} {vs : List Value}, Vals (ks.map kV) vs → (∀ k ∈ ks, isI k = false) → ∃ ns, StrsAre vs ns
  | [], _, .nil, _ => ⟨[], .nil⟩
  | k :: ks, _, .cons r rs, h => by
    obtain ⟨ns, q⟩ := strs_of rs fun j hj => h j (List.mem_cons_of_mem _ hj)
    have := h k List.mem_cons_self
    cases k with
    | inl x => cases this
    | inr i => obtain ⟨t, rfl⟩ := r; exact ⟨_, .cons i t q⟩
theorem kind_keys {prog : Program} {w : World} {A : Around} {E : Value → Shared → Prop} {s : Shared} {b : Bool} {ks : List Key} {vs : List Value} (r : Vals (ks.map kV) vs) (h : ∀ k ∈ ks, isI k = b) (h2 : 2 ≤ vs.length) {Q : SortKind → Shared → Prop} (q : Q oneType' s) :
    wpAny (model prog w) A (keyKind' vs.toArray) Q E s := by
  match vs, h2 with
  | v1 :: v2 :: vs, _ =>
    cases b with
    | true => obtain ⟨ns, hI⟩ := ints_of r h; rw [keyKind_ints hI]; exact wpAny_pure q
    | false => obtain ⟨ns, hI⟩ := strs_of r h; rw [keyKind_strs hI]; exact wpAny_pure q
theorem mem_keys : ∀ {ks : List Key} {vs : List Value}, Vals (ks.map kV) vs → ∀ v ∈ vs, ∃ k, RelV (kV k) v ∧ k ∈ ks
  | [], _, .nil, v, h => nomatch h
  | k :: ks, _, .cons r rs, v, h => by
    rcases List.mem_cons.mp h with rfl | h
    · exact ⟨k, r, List.mem_cons_self⟩
    · obtain ⟨j, a, b⟩ := mem_keys rs v h
      exact ⟨j, a, List.mem_cons_of_mem _ b⟩
theorem keys_map : ∀ {ks : List Key} {vs : List Value}, Vals (ks.map kV) vs → vs.map key1At = ks.map fun k => [k]
  | [], _, .nil => rfl
  | k :: ks, _, .cons r rs => by rw [List.map_cons, List.map_cons, key1_of r, keys_map rs]
theorem keys_back {ks : List Key} : ∀ (vs : List Value), (∀ v ∈ vs, ∃ k, RelV (kV k) v ∧ k ∈ ks) → ∃ ms : List Key, Vals (ms.map kV) vs
  | [], _ => ⟨[], .nil⟩
  | v :: vs, h => by
    obtain ⟨ms, r⟩ := keys_back vs fun u hu => h u (List.mem_cons_of_mem _ hu)
    obtain ⟨k, rk, _⟩ := h v List.mem_cons_self
    exact ⟨k :: ms, .cons rk r⟩
theorem perm_ones : ∀ {ms ks : List Key}, (ms.map fun k => [k]).Perm (ks.map fun k => [k]) → ms.Perm ks := fun {ms ks} h => by
  have := h.map (fun l : List Key => l.head?)
  simp only [List.map_map] at this
  have e : ∀ l : List Key, l.map ((fun l : List Key => l.head?) ∘ fun k => [k]) = l.map some := fun l => List.map_congr_left fun _ _ => rfl
  rw [e, e] at this
  have := this.filterMap id
  simpa using this
section
variable {X : Cx}
def rSort1 (K : PySem.W.Frag) : List V → Hp → VK → Prop := fun xs H Q => match xs with
  | [.ref p] => ∃ ks b, (SqL K H p (ks.map kV) ∨ ∃ kvs, H p = some (.dK kvs) ∧ ks = kvs.map (·.1)) ∧ (∀ k ∈ ks, isI k = b) ∧
      ∀ (ms : List Key) (l : Addr), ms.Perm ks → (ms.Pairwise fun a b => lt1 b a = false) → H l = none → Q (.ref l) (upd H l (.lst (ms.map kV)))
  | _ => False
theorem call_sort1 (hc : X.calm = true) : CallR X (.builtin "sorted") (rSort1 X.K) := by
  intro pins s σ H xs us Q I r h
  unfold rSort1 at h
  split at h
  · rename_i p
    obtain ⟨ks, b, hl, hb, q⟩ := h
    obtain ⟨u, rfl, ru⟩ := Vals.one r
    cases ru
    have hsz : ks.length ≤ sizeLine := by
      rcases hl with hl | ⟨kvs, e, rfl⟩
      · obtain ⟨vs, rv, pl, hz⟩ := I.list hl
        simpa using hz
      · obtain ⟨z, _⟩ := (show ObjOk X.prog X.w H s.heap p (.dK kvs) from I.hok p _ e)
        simpa using z
    refine Tim.sorted_col (κ := oneType') (R := fun vs => Vals (ks.map kV) vs) (r := fun v => rkK (ks.map fun k => [k]) (key1At v)) (P := fun v => ∃ k, RelV (kV k) v ∧ isI k = b ∧ k ∈ ks) (fun A' E' Q' hA hQ => ?_) (fun vs rv => ?_) (fun vs rv v hv => ?_)
      (fun vs rv h2 A' E' s' kp Q' q' => kind_keys rv hb h2 q') (fun s' kp => cmp_keys) fun vs h' a out n tk rv pm pw kp ha eo => ?_
    · rcases hl with hl | ⟨kvs, e, rfl⟩
      · obtain ⟨vs, rv, pl, hz⟩ := I.list hl
        refine collect_list pl.isList (hQ vs _ s.toks rv (fun b o e => ?_) ?_) (by have := rv.length; omega)
        · rw [Heap.get?_update_ne _ _ _ _ (Nat.ne_of_lt (Heap.lt_size e))]
          exact Heap.get?_push_of_some _ e
        · rw [Heap.size_update, size_push']; exact Nat.le_succ _
      · obtain ⟨z, y, vs, rel, dd⟩ := (show ObjOk X.prog X.w H s.heap p (.dK kvs) from I.hok p _ e)
        obtain ⟨ep, da⟩ := dd.dictAt
        have hlen : vs.length = kvs.length := rel.length.symm
        refine Tim.collect_src (PySem.W.kdl_dict (knd := mixKind X.prog X.w) (kvs := vs) (ep := ep) y) (hA.trans (I.ok.hd hc)) da (by omega) fun h' tk acc kp hz hacc => hQ _ h' tk ?_ kp hz
        have go : ∀ {l1 : List (Key × V)} {l2 : List (Key × Value)} (ac : List Value), KV l1 l2 → ac.length = l2.length → (∀ (i : Nat) (v : Value), ac[i]? = some v → ∃ k x, l2[i]? = some (k, x) ∧ keyIs k v = true) → Vals ((l1.map (·.1)).map kV) ac := by
          intro l1 l2 ac rl
          induction rl generalizing ac with
          | nil => intro hl _; cases ac with
            | nil => exact .nil
            | cons _ _ => cases hl
          | @cons p1 q1 l1 l2 r1 rs ih =>
            intro hl hi
            cases ac with
            | nil => cases hl
            | cons v ac =>
              obtain ⟨k, x, e1, e2⟩ := hi 0 v rfl
              simp only [List.getElem?_cons_zero, Option.some.injEq] at e1
              subst e1
              refine .cons ?_ (ih ac (by simpa using hl) fun i v h => hi (i + 1) v (by simpa using h))
              have r11 : p1.1 = k := r1.1
              show RelV (kV p1.1) v
              rw [r11]
              rcases keyIs_shape e2 with ⟨i, t, rfl, rfl⟩ | ⟨x, t, rfl, rfl⟩ <;> exact ⟨t, rfl⟩
        exact go acc.toList rel (by rw [Array.length_toList]; exact hacc.1) fun i v h => hacc.2 i v (by simpa using h)
    · have := rv.length
      rw [List.length_map] at this
      omega
    · obtain ⟨k, rk, mk⟩ := mem_keys rv v hv
      exact ⟨k, rk, hb k mk, mk⟩
    · obtain ⟨ms, rm⟩ := keys_back (ks := ks) out fun v hv => mem_keys rv v (pm.mem_iff.mp hv)
      have pk : ms.Perm ks := perm_ones (by rw [← keys_map rm, ← keys_map rv]; exact pm.map _)
      refine ⟨.ref a, _, I.laid (a := a) (t' := tk) kp ha (show ObjOk X.prog X.w _ h' _ (.lst (ms.map kV)) from ⟨by rw [List.length_map, pk.length_eq]; exact hsz, out, n, rm, eo⟩), rfl, q ms _ pk ?_ (I.hok.fresh ha)⟩
      have pw2 : (out.map key1At).Pairwise fun x y => rkK (ks.map fun k => [k]) x ≤ rkK (ks.map fun k => [k]) y := List.pairwise_map.mpr pw
      rw [keys_map rm, List.pairwise_map] at pw2
      refine pw2.imp_of_mem fun {x y} mx my hle => ?_
      have mx := pk.mem_iff.mp mx
      have my := pk.mem_iff.mp my
      rw [← ltK_one, ← rkK_lt (L := ks.map fun k => [k]) (by simp [shOf, hb x mx, hb y my]) (List.mem_map.mpr ⟨y, my, rfl⟩)]
      exact decide_eq_false (by omega)
  · exact h.elim
end
end L2

set_option Elab.async false
set_option linter.all false
set_option maxRecDepth 100000
set_option maxHeartbeats 4000000

namespace L2.Q
open PySem PySem.Spec PyProof.Rows

inductive D where
  | non | bl (b : Bool) | int (i : Int) | str (x : Str)
  | list (xs : List D) | tup (xs : List D) | dK (kvs : List (Key × D)) | dT (kvs : List (List Key × D))

mutual
/-- nothing in it can be changed -/
def D.flat : D → Bool
  | .list _ => false
  | .dK _ => false
  | .dT _ => false
  | .tup xs => flats xs
  | _ => true
def flats : List D → Bool
  | [] => true
  | x :: xs => x.flat && flats xs
end
theorem flats_iff : ∀ {xs : List D}, flats xs = true ↔ ∀ x ∈ xs, x.flat = true
  | [] => by simp [flats]
  | x :: xs => by simp [flats, flats_iff (xs := xs)]
theorem flats_append {xs ys : List D} : flats (xs ++ ys) = (flats xs && flats ys) := by
  induction xs with
  | nil => simp [flats]
  | cons x xs ih => simp [flats, ih, Bool.and_assoc]

def kOk : Key → Bool
  | .inl _ => true
  | .inr x => decide (x.length ≤ sizeLine)
def KsOk (kvs : List (Key × D)) : Prop := kvs.length ≤ sizeLine ∧ ∀ p ∈ kvs, kOk p.1 = true
def KtOk (kvs : List (List Key × D)) : Prop := kvs.length ≤ sizeLine ∧ ∀ p ∈ kvs, p.1.length ≤ sizeLine ∧ ∀ k ∈ p.1, kOk k = true
mutual
inductive Rep (K : PySem.W.Frag) (H : Hp) : D → V → Prop
  | non : Rep K H .non .non
  | bl (b : Bool) : Rep K H (.bl b) (.bl b)
  | int (i : Int) : Rep K H (.int i) (.int i)
  | str {x : Str} : x.length ≤ sizeLine → Rep K H (.str x) (.str x)
  | list {a : Addr} {vs : List V} {ds : List D} : vs.length ≤ sizeLine → SqL K H a vs → Reps K H ds vs → Rep K H (.list ds) (.ref a)
  | tup {a : Addr} {vs : List V} {ds : List D} : vs.length ≤ sizeLine → H a = some (.tup vs) → Reps K H ds vs → Rep K H (.tup ds) (.ref a)
  | dK {a : Addr} {vs : List V} {kvs : List (Key × D)} : KsOk kvs → H a = some (.dK ((kvs.map (·.1)).zip vs)) → Reps K H (kvs.map (·.2)) vs → Rep K H (.dK kvs) (.ref a)
  | dT {a : Addr} {vs : List V} {kvs : List (List Key × D)} : KtOk kvs → H a = some (.dT ((kvs.map (·.1)).zip vs)) → Reps K H (kvs.map (·.2)) vs → Rep K H (.dT kvs) (.ref a)
inductive Reps (K : PySem.W.Frag) (H : Hp) : List D → List V → Prop
  | nil : Reps K H [] []
  | cons {d : D} {v : V} {ds : List D} {vs : List V} : Rep K H d v → Reps K H ds vs → Reps K H (d :: ds) (v :: vs)
end
mutual
theorem Rep.same {K : PySem.W.Frag} {H H' : Hp} (s : Same H H') : ∀ {d : D} {v : V}, Rep K H d v → Rep K H' d v
  | _, _, .non => .non
  | _, _, .bl b => .bl b
  | _, _, .int i => .int i
  | _, _, .str x => .str x
  | _, _, .list z h hs => .list z (s.lst h) (Reps.same s hs)
  | _, _, .tup z h hs => .tup z (s _ _ h) (Reps.same s hs)
  | _, _, .dK kk h hs => .dK kk (s _ _ h) (Reps.same s hs)
  | _, _, .dT kk h hs => .dT kk (s _ _ h) (Reps.same s hs)
theorem Reps.same {K : PySem.W.Frag} {H H' : Hp} (s : Same H H') : ∀ {ds : List D} {vs : List V}, Reps K H ds vs → Reps K H' ds vs
  | _, _, .nil => .nil
  | _, _, .cons h hs => .cons (Rep.same s h) (Reps.same s hs)
end
theorem Reps.length {K : PySem.W.Frag} {H : Hp} : ∀ {ds : List D} {vs : List V}, Reps K H ds vs → ds.length = vs.length
  | _, _, .nil => rfl
  | _, _, .cons _ hs => by rw [List.length_cons, List.length_cons, Reps.length hs]
theorem Reps.append {K : PySem.W.Frag} {H : Hp} : ∀ {ds es : List D} {vs ws : List V}, Reps K H ds vs → Reps K H es ws → Reps K H (ds ++ es) (vs ++ ws)
  | _, _, _, _, .nil, t => t
  | _, _, _, _, .cons h hs, t => .cons h (Reps.append hs t)
theorem Reps.get {K : PySem.W.Frag} {H : Hp} : ∀ {ds : List D} {vs : List V} {i : Nat} {d : D}, Reps K H ds vs → ds[i]? = some d → ∃ v, vs[i]? = some v ∧ Rep K H d v
  | _, _, _, _, .nil, e => by simp at e
  | _, _, 0, _, .cons h _, e => by simp at e; subst e; exact ⟨_, rfl, h⟩
  | _, _, i + 1, _, .cons _ hs, e => by
    obtain ⟨v, e1, r⟩ := Reps.get (i := i) hs (by simpa using e)
    exact ⟨v, by simpa using e1, r⟩
theorem Reps.getV {K : PySem.W.Frag} {H : Hp} : ∀ {ds : List D} {vs : List V} {i : Nat} {v : V}, Reps K H ds vs → vs[i]? = some v → ∃ d, ds[i]? = some d ∧ Rep K H d v
  | _, _, _, _, .nil, e => by simp at e
  | _, _, 0, _, .cons h _, e => by simp at e; subst e; exact ⟨_, rfl, h⟩
  | _, _, i + 1, _, .cons _ hs, e => by
    obtain ⟨v, e1, r⟩ := Reps.getV (i := i) hs (by simpa using e)
    exact ⟨v, by simpa using e1, r⟩
theorem Reps.drop {K : PySem.W.Frag} {H : Hp} : ∀ {ds : List D} {vs : List V} (n : Nat), Reps K H ds vs → Reps K H (ds.drop n) (vs.drop n)
  | _, _, 0, r => r
  | _, _, _ + 1, .nil => .nil
  | _, _, n + 1, .cons _ t => Reps.drop n t
theorem Reps.take {K : PySem.W.Frag} {H : Hp} : ∀ {ds : List D} {vs : List V} (n : Nat), Reps K H ds vs → Reps K H (ds.take n) (vs.take n)
  | _, _, 0, _ => .nil
  | _, _, _ + 1, .nil => .nil
  | _, _, n + 1, .cons r t => .cons r (Reps.take n t)

mutual
/-- what is owned: a tree whose lists and dicts stand at As, nobody else's; its leaves shared (fl: and flat) -/
inductive RepO (K : PySem.W.Frag) (Hs H : Hp) (fl : Bool) : D → V → List Addr → Prop
  | sh {d : D} {v : V} : (fl = true → d.flat = true) → Rep K Hs d v → RepO K Hs H fl d v []
  | list {a : Addr} {vs : List V} {ds : List D} {As : List Addr} : vs.length ≤ sizeLine → H a = some (.lst vs) → RepOs K Hs H fl ds vs As → RepO K Hs H fl (.list ds) (.ref a) (a :: As)
  | tup {a : Addr} {vs : List V} {ds : List D} {As : List Addr} : vs.length ≤ sizeLine → Hs a = some (.tup vs) → flats ds = false → RepOs K Hs H fl ds vs As → RepO K Hs H fl (.tup ds) (.ref a) As
  | dK {a : Addr} {vs : List V} {kvs : List (Key × D)} {As : List Addr} : KsOk kvs → H a = some (.dK ((kvs.map (·.1)).zip vs)) → RepOs K Hs H fl (kvs.map (·.2)) vs As → RepO K Hs H fl (.dK kvs) (.ref a) (a :: As)
  | dT {a : Addr} {vs : List V} {kvs : List (List Key × D)} {As : List Addr} : KtOk kvs → H a = some (.dT ((kvs.map (·.1)).zip vs)) → RepOs K Hs H fl (kvs.map (·.2)) vs As → RepO K Hs H fl (.dT kvs) (.ref a) (a :: As)
inductive RepOs (K : PySem.W.Frag) (Hs H : Hp) (fl : Bool) : List D → List V → List Addr → Prop
  | nil : RepOs K Hs H fl [] [] []
  | cons {d : D} {v : V} {ds : List D} {vs : List V} {As Bs : List Addr} : RepO K Hs H fl d v As → RepOs K Hs H fl ds vs Bs → RepOs K Hs H fl (d :: ds) (v :: vs) (As ++ Bs)
end
def Own (H : Hp) (a : Addr) : Prop := (∃ vs, H a = some (.lst vs)) ∨ (∃ kvs, H a = some (.dK kvs)) ∨ ∃ kvs, H a = some (.dT kvs)
section
variable {K : PySem.W.Frag} {Hs Hs' H H' : Hp} {fl : Bool}
theorem Own.ne {a : Addr} (h : Own H a) : H a ≠ none := by
  rcases h with ⟨_, e⟩ | ⟨_, e⟩ | ⟨_, e⟩ <;> rw [e] <;> exact fun z => nomatch z
theorem Own.notTup {a : Addr} {vs : List V} (h : Own H a) : H a ≠ some (.tup vs) := by
  rcases h with ⟨_, e⟩ | ⟨_, e⟩ | ⟨_, e⟩ <;> rw [e] <;> exact fun z => nomatch z
mutual
theorem RepO.own : ∀ {d : D} {v : V} {As : List Addr}, RepO K Hs H fl d v As → ∀ a ∈ As, Own H a
  | _, _, _, .sh _ _, a, h => nomatch h
  | _, _, _, .list _ e hs, a, h => by
    rcases List.mem_cons.mp h with rfl | h
    · exact .inl ⟨_, e⟩
    · exact RepOs.own hs a h
  | _, _, _, .tup _ _ _ hs, a, h => RepOs.own hs a h
  | _, _, _, .dK _ e hs, a, h => by
    rcases List.mem_cons.mp h with rfl | h
    · exact .inr (.inl ⟨_, e⟩)
    · exact RepOs.own hs a h
  | _, _, _, .dT _ e hs, a, h => by
    rcases List.mem_cons.mp h with rfl | h
    · exact .inr (.inr ⟨_, e⟩)
    · exact RepOs.own hs a h
theorem RepOs.own : ∀ {ds : List D} {vs : List V} {As : List Addr}, RepOs K Hs H fl ds vs As → ∀ a ∈ As, Own H a
  | _, _, _, .nil, a, h => nomatch h
  | _, _, _, .cons h1 h2, a, h => by
    rcases List.mem_append.mp h with h | h
    · exact RepO.own h1 a h
    · exact RepOs.own h2 a h
end
mutual
/-- the shared heap grows; at As the heap stays -/
theorem RepO.stay (s : Same Hs Hs') : ∀ {d : D} {v : V} {As : List Addr}, RepO K Hs H fl d v As → (∀ a ∈ As, H' a = H a) → RepO K Hs' H' fl d v As
  | _, _, _, .sh f r, _ => .sh f (r.same s)
  | _, _, _, .list z e hs, k => .list z ((k _ List.mem_cons_self).trans e) (RepOs.stay s hs fun a h => k a (List.mem_cons_of_mem _ h))
  | _, _, _, .tup z e n hs, k => .tup z (s _ _ e) n (RepOs.stay s hs k)
  | _, _, _, .dK kk e hs, k => .dK kk ((k _ List.mem_cons_self).trans e) (RepOs.stay s hs fun a h => k a (List.mem_cons_of_mem _ h))
  | _, _, _, .dT kk e hs, k => .dT kk ((k _ List.mem_cons_self).trans e) (RepOs.stay s hs fun a h => k a (List.mem_cons_of_mem _ h))
theorem RepOs.stay (s : Same Hs Hs') : ∀ {ds : List D} {vs : List V} {As : List Addr}, RepOs K Hs H fl ds vs As → (∀ a ∈ As, H' a = H a) → RepOs K Hs' H' fl ds vs As
  | _, _, _, .nil, _ => .nil
  | _, _, _, .cons h1 h2, k => .cons (RepO.stay s h1 fun a h => k a (List.mem_append_left _ h)) (RepOs.stay s h2 fun a h => k a (List.mem_append_right _ h))
end
theorem RepO.grow {d : D} {v : V} {As : List Addr} (s : Same Hs Hs') (t : Same H H') (r : RepO K Hs H fl d v As) : RepO K Hs' H' fl d v As :=
  r.stay s fun a h => by
    cases e : H a with
    | none => exact absurd e (r.own a h).ne
    | some o => exact t a o e
theorem RepOs.grow {ds : List D} {vs : List V} {As : List Addr} (s : Same Hs Hs') (t : Same H H') (r : RepOs K Hs H fl ds vs As) : RepOs K Hs' H' fl ds vs As :=
  r.stay s fun a h => by
    cases e : H a with
    | none => exact absurd e (r.own a h).ne
    | some o => exact t a o e
mutual
/-- a heap that knows all of it -/
theorem RepO.rep {G : Hp} (s : Same Hs G) : ∀ {d : D} {v : V} {As : List Addr}, RepO K Hs H fl d v As → (∀ a ∈ As, G a = H a) → Rep K G d v
  | _, _, _, .sh _ r, _ => r.same s
  | _, _, _, .list z e hs, k => .list z (.inl (.inl ((k _ List.mem_cons_self).trans e))) (RepOs.reps s hs fun a h => k a (List.mem_cons_of_mem _ h))
  | _, _, _, .tup z e n hs, k => .tup z (s _ _ e) (RepOs.reps s hs k)
  | _, _, _, .dK kk e hs, k => .dK kk ((k _ List.mem_cons_self).trans e) (RepOs.reps s hs fun a h => k a (List.mem_cons_of_mem _ h))
  | _, _, _, .dT kk e hs, k => .dT kk ((k _ List.mem_cons_self).trans e) (RepOs.reps s hs fun a h => k a (List.mem_cons_of_mem _ h))
theorem RepOs.reps {G : Hp} (s : Same Hs G) : ∀ {ds : List D} {vs : List V} {As : List Addr}, RepOs K Hs H fl ds vs As → (∀ a ∈ As, G a = H a) → Reps K G ds vs
  | _, _, _, .nil, _ => .nil
  | _, _, _, .cons h1 h2, k => .cons (RepO.rep s h1 fun a h => k a (List.mem_append_left _ h)) (RepOs.reps s h2 fun a h => k a (List.mem_append_right _ h))
end
mutual
/-- what is flat stands in any heap that has the tuples -/
theorem Rep.flatIn {G : Hp} (t : ∀ a vs, H a = some (.tup vs) → G a = some (.tup vs)) : ∀ {d : D} {v : V}, Rep K H d v → d.flat = true → Rep K G d v
  | _, _, .non, _ => .non
  | _, _, .bl b, _ => .bl b
  | _, _, .int i, _ => .int i
  | _, _, .str x, _ => .str x
  | _, _, .list _ _ _, f => by simp [D.flat] at f
  | _, _, .tup z e hs, f => .tup z (t _ _ e) (Reps.flatIn t hs (by simpa [D.flat] using f))
  | _, _, .dK _ _ _, f => by simp [D.flat] at f
  | _, _, .dT _ _ _, f => by simp [D.flat] at f
theorem Reps.flatIn {G : Hp} (t : ∀ a vs, H a = some (.tup vs) → G a = some (.tup vs)) : ∀ {ds : List D} {vs : List V}, Reps K H ds vs → flats ds = true → Reps K G ds vs
  | _, _, .nil, _ => .nil
  | _, _, .cons h hs, f => by
    simp only [flats, Bool.and_eq_true] at f
    exact .cons (Rep.flatIn t h f.1) (Reps.flatIn t hs f.2)
end
theorem Reps.owned : ∀ {ds : List D} {vs : List V}, Reps K Hs ds vs → flats ds = true → RepOs K Hs H fl ds vs []
  | _, _, .nil, _ => .nil
  | _, _, .cons h hs, f => by
    simp only [flats, Bool.and_eq_true] at f
    exact .cons (As := []) (.sh (fun _ => f.1) h) (Reps.owned hs f.2)
theorem Reps.ownedF : ∀ {ds : List D} {vs : List V}, Reps K Hs ds vs → RepOs K Hs H false ds vs []
  | _, _, .nil => .nil
  | _, _, .cons h hs => .cons (As := []) (.sh (fun z => nomatch z) h) (Reps.ownedF hs)
mutual
theorem RepO.fls : ∀ {d : D} {v : V} {As : List Addr}, RepO K Hs H fl d v As → RepO K Hs H false d v As
  | _, _, _, .sh _ r => .sh (fun z => nomatch z) r
  | _, _, _, .list z e hs => .list z e (RepOs.fls hs)
  | _, _, _, .tup z e n hs => .tup z e n (RepOs.fls hs)
  | _, _, _, .dK kk e hs => .dK kk e (RepOs.fls hs)
  | _, _, _, .dT kk e hs => .dT kk e (RepOs.fls hs)
theorem RepOs.fls : ∀ {ds : List D} {vs : List V} {As : List Addr}, RepOs K Hs H fl ds vs As → RepOs K Hs H false ds vs As
  | _, _, _, .nil => .nil
  | _, _, _, .cons h hs => .cons (RepO.fls h) (RepOs.fls hs)
end
mutual
/-- flat leaves: the shared heap may be another one that has the tuples -/
theorem RepO.leaves {G : Hp} (t : ∀ a vs, Hs a = some (.tup vs) → G a = some (.tup vs)) : ∀ {d : D} {v : V} {As : List Addr}, RepO K Hs H true d v As → RepO K G H true d v As
  | _, _, _, .sh f r => .sh f (r.flatIn t (f rfl))
  | _, _, _, .list z e hs => .list z e (RepOs.leaves t hs)
  | _, _, _, .tup z e n hs => .tup z (t _ _ e) n (RepOs.leaves t hs)
  | _, _, _, .dK kk e hs => .dK kk e (RepOs.leaves t hs)
  | _, _, _, .dT kk e hs => .dT kk e (RepOs.leaves t hs)
theorem RepOs.leaves {G : Hp} (t : ∀ a vs, Hs a = some (.tup vs) → G a = some (.tup vs)) : ∀ {ds : List D} {vs : List V} {As : List Addr}, RepOs K Hs H true ds vs As → RepOs K G H true ds vs As
  | _, _, _, .nil => .nil
  | _, _, _, .cons h hs => .cons (RepO.leaves t h) (RepOs.leaves t hs)
end
theorem RepOs.append : ∀ {ds es : List D} {vs ws : List V} {As Bs : List Addr}, RepOs K Hs H fl ds vs As → RepOs K Hs H fl es ws Bs → RepOs K Hs H fl (ds ++ es) (vs ++ ws) (As ++ Bs)
  | _, _, _, _, _, _, .nil, t => t
  | _, _, _, _, _, _, .cons h hs, t => by
    rw [List.append_assoc]
    exact .cons h (RepOs.append hs t)
theorem RepOs.length : ∀ {ds : List D} {vs : List V} {As : List Addr}, RepOs K Hs H fl ds vs As → ds.length = vs.length
  | _, _, _, .nil => rfl
  | _, _, _, .cons _ hs => by rw [List.length_cons, List.length_cons, RepOs.length hs]
end

inductive Sl where
  /-- shared; owned; owned and walked by a loop just now (at a) -/
  | sh (d : D) | ow (fl : Bool) (d : D) | lk (a : Addr) (fl : Bool) (d : D)
abbrev Env := List (Option Sl)
inductive SR (K : PySem.W.Frag) (Hs H : Hp) : Env → St → List Addr → Prop
  | nil : SR K Hs H [] [] []
  | non {ρ : Env} {σ : St} {tot : List Addr} {o : Option V} : SR K Hs H ρ σ tot → SR K Hs H (none :: ρ) (o :: σ) tot
  | sh {ρ : Env} {σ : St} {tot : List Addr} {d : D} {v : V} : Rep K Hs d v → SR K Hs H ρ σ tot → SR K Hs H (some (.sh d) :: ρ) (some v :: σ) tot
  | ow {ρ : Env} {σ : St} {tot As : List Addr} {fl : Bool} {d : D} {v : V} : As ≠ [] → RepO K Hs H fl d v As → SR K Hs H ρ σ tot → SR K Hs H (some (.ow fl d) :: ρ) (some v :: σ) (As ++ tot)
  | lk {ρ : Env} {σ : St} {tot As : List Addr} {a : Addr} {fl : Bool} {d : D} : As ≠ [] → RepO K Hs H fl d (.ref a) As → SR K Hs H ρ σ tot → SR K Hs H (some (.lk a fl d) :: ρ) (some (.ref a) :: σ) (As ++ tot)
structure Wf (Hs H : Hp) : Prop where
  sub : Same Hs H
  tups : ∀ a vs, H a = some (.tup vs) → Hs a = some (.tup vs)
structure SRel (K : PySem.W.Frag) (Hs : Hp) (ρ : Env) (σ : St) (H : Hp) (tot : List Addr) : Prop where
  sr : SR K Hs H ρ σ tot
  wf : Wf Hs H
  nod : tot.Nodup
  own : ∀ a ∈ tot, Hs a = none
structure Grow (Hs H Hs' H' : Hp) : Prop where
  all : Same H H'
  sh : Same Hs Hs'
  wf : Wf Hs' H'
  new : ∀ a, Hs' a ≠ none → Hs a ≠ none ∨ H a = none
section
variable {K : PySem.W.Frag} {Hs H Hs' H' Hs'' H'' : Hp}
theorem Grow.refl (w : Wf Hs H) : Grow Hs H Hs H := ⟨Same.refl _, Same.refl _, w, fun _ h => .inl h⟩
theorem Grow.trans (a : Grow Hs H Hs' H') (b : Grow Hs' H' Hs'' H'') : Grow Hs H Hs'' H'' :=
  ⟨a.all.trans b.all, a.sh.trans b.sh, b.wf, fun c h => by
    rcases b.new c h with h | h
    · exact a.new c h
    · exact .inr (a.all.free h)⟩
theorem Grow.hsn (g : Grow Hs H Hs' H') {a : Addr} (h : Hs a = none) (h' : H a ≠ none) : Hs' a = none := by
  cases e : Hs' a with
  | none => rfl
  | some o =>
    rcases g.new a (by rw [e]; exact fun z => nomatch z) with z | z
    · exact absurd h z
    · exact absurd z h'
theorem SR.own : ∀ {ρ : Env} {σ : St} {tot : List Addr}, SR K Hs H ρ σ tot → ∀ a ∈ tot, Own H a
  | _, _, _, .nil, a, h => nomatch h
  | _, _, _, .non s, a, h => SR.own s a h
  | _, _, _, .sh _ s, a, h => SR.own s a h
  | _, _, _, .ow _ r s, a, h => by
    rcases List.mem_append.mp h with h | h
    · exact r.own a h
    · exact SR.own s a h
  | _, _, _, .lk _ r s, a, h => by
    rcases List.mem_append.mp h with h | h
    · exact r.own a h
    · exact SR.own s a h
theorem SR.stay (s : Same Hs Hs') : ∀ {ρ : Env} {σ : St} {tot : List Addr}, SR K Hs H ρ σ tot → (∀ a ∈ tot, H' a = H a) → SR K Hs' H' ρ σ tot
  | _, _, _, .nil, _ => .nil
  | _, _, _, .non r, k => .non (SR.stay s r k)
  | _, _, _, .sh h r, k => .sh (h.same s) (SR.stay s r k)
  | _, _, _, .ow ne h r, k => .ow ne (h.stay s fun a m => k a (List.mem_append_left _ m)) (SR.stay s r fun a m => k a (List.mem_append_right _ m))
  | _, _, _, .lk ne h r, k => .lk ne (h.stay s fun a m => k a (List.mem_append_left _ m)) (SR.stay s r fun a m => k a (List.mem_append_right _ m))
theorem SRel.grow {ρ : Env} {σ : St} {tot : List Addr} (r : SRel K Hs ρ σ H tot) (g : Grow Hs H Hs' H') : SRel K Hs' ρ σ H' tot :=
  ⟨r.sr.stay g.sh fun a h => by
    cases e : H a with
    | none => exact absurd e (r.sr.own a h).ne
    | some o => exact g.all a o e, g.wf, r.nod, fun a h => g.hsn (r.own a h) (r.sr.own a h).ne⟩
theorem SR.length : ∀ {ρ : Env} {σ : St} {tot : List Addr}, SR K Hs H ρ σ tot → ρ.length = σ.length
  | _, _, _, .nil => rfl
  | _, _, _, .non s => by simp [SR.length s]
  | _, _, _, .sh _ s => by simp [SR.length s]
  | _, _, _, .ow _ _ s => by simp [SR.length s]
  | _, _, _, .lk _ _ s => by simp [SR.length s]
theorem SR.get : ∀ {ρ : Env} {σ : St} {tot : List Addr} {i : Nat} {sl : Sl}, SR K Hs H ρ σ tot → ρ[i]? = some (some sl) → ∃ v, σ[i]? = some (some v) ∧ match sl with
    | .sh d => Rep K Hs d v
    | .ow fl d => ∃ As, As ≠ [] ∧ RepO K Hs H fl d v As ∧ ∀ a ∈ As, a ∈ tot
    | .lk a fl d => ∃ As, As ≠ [] ∧ RepO K Hs H fl d v As ∧ v = .ref a ∧ ∀ a ∈ As, a ∈ tot
  | _, _, _, _, _, .nil, e => by simp at e
  | _, _, _, 0, _, .non s, e => by simp at e
  | _, _, _, 0, _, .sh r s, e => by simp at e; subst e; exact ⟨_, rfl, r⟩
  | _, _, _, 0, _, .ow ne r s, e => by simp at e; subst e; exact ⟨_, rfl, _, ne, r, fun a m => List.mem_append_left _ m⟩
  | _, _, _, 0, _, .lk ne r s, e => by simp at e; subst e; exact ⟨_, rfl, _, ne, r, rfl, fun a m => List.mem_append_left _ m⟩
  | _, _, _, i + 1, _, .non s, e => by
    obtain ⟨v, e1, h⟩ := SR.get (i := i) s (by simpa using e)
    exact ⟨v, by simpa using e1, h⟩
  | _, _, _, i + 1, _, .sh _ s, e => by
    obtain ⟨v, e1, h⟩ := SR.get (i := i) s (by simpa using e)
    exact ⟨v, by simpa using e1, h⟩
  | _, _, _, i + 1, sl, .ow _ _ s, e => by
    obtain ⟨v, e1, h⟩ := SR.get (i := i) s (by simpa using e)
    refine ⟨v, by simpa using e1, ?_⟩
    cases sl with
    | sh d => exact h
    | ow fl d =>
      obtain ⟨As, ne, r, m⟩ := h
      exact ⟨As, ne, r, fun a ha => List.mem_append_right _ (m a ha)⟩
    | lk a fl d =>
      obtain ⟨As, ne, r, q, m⟩ := h
      exact ⟨As, ne, r, q, fun a ha => List.mem_append_right _ (m a ha)⟩
  | _, _, _, i + 1, sl, .lk _ _ s, e => by
    obtain ⟨v, e1, h⟩ := SR.get (i := i) s (by simpa using e)
    refine ⟨v, by simpa using e1, ?_⟩
    cases sl with
    | sh d => exact h
    | ow fl d =>
      obtain ⟨As, ne, r, m⟩ := h
      exact ⟨As, ne, r, fun a ha => List.mem_append_right _ (m a ha)⟩
    | lk a fl d =>
      obtain ⟨As, ne, r, q, m⟩ := h
      exact ⟨As, ne, r, q, fun a ha => List.mem_append_right _ (m a ha)⟩
end

inductive Md where
  | sh | ow (fl : Bool) | bo
def RM (K : PySem.W.Frag) (Hs H : Hp) : Md → D → V → List Addr → Prop
  | .sh, d, v, As => As = [] ∧ Rep K Hs d v
  | .ow fl, d, v, As => RepO K Hs H fl d v As ∧ As ≠ []
  | .bo, d, v, As => As = [] ∧ Rep K H d v
inductive RMs (K : PySem.W.Frag) (Hs H : Hp) : List (Md × D) → List V → List Addr → Prop
  | nil : RMs K Hs H [] [] []
  | cons {m : Md} {d : D} {v : V} {ps : List (Md × D)} {vs : List V} {As Bs : List Addr} : RM K Hs H m d v As → RMs K Hs H ps vs Bs → RMs K Hs H ((m, d) :: ps) (v :: vs) (As ++ Bs)
section
variable {K : PySem.W.Frag} {Hs H Hs' H' : Hp}
theorem RM.own {m : Md} {d : D} {v : V} {As : List Addr} (r : RM K Hs H m d v As) : ∀ a ∈ As, Own H a := by
  cases m with
  | sh => obtain ⟨rfl, _⟩ := r; exact fun a h => nomatch h
  | ow fl => exact RepO.own r.1
  | bo => obtain ⟨rfl, _⟩ := r; exact fun a h => nomatch h
theorem RM.grow {m : Md} {d : D} {v : V} {As : List Addr} (r : RM K Hs H m d v As) (g : Grow Hs H Hs' H') : RM K Hs' H' m d v As := by
  cases m with
  | sh => exact ⟨r.1, r.2.same g.sh⟩
  | ow fl => exact ⟨RepO.grow g.sh g.all r.1, r.2⟩
  | bo => exact ⟨r.1, r.2.same g.all⟩
theorem RM.rep {m : Md} {d : D} {v : V} {As : List Addr} (w : Wf Hs H) (r : RM K Hs H m d v As) : Rep K H d v := by
  cases m with
  | sh => exact r.2.same w.sub
  | ow fl => exact RepO.rep w.sub r.1 fun _ _ => rfl
  | bo => exact r.2
theorem RM.flat {m : Md} {d : D} {v : V} {As : List Addr} (w : Wf Hs H) (r : RM K Hs H m d v As) (f : d.flat = true) : Rep K Hs d v := (r.rep w).flatIn w.tups f
theorem RMs.own : ∀ {ps : List (Md × D)} {vs : List V} {As : List Addr}, RMs K Hs H ps vs As → ∀ a ∈ As, Own H a
  | _, _, _, .nil, a, h => nomatch h
  | _, _, _, .cons r s, a, h => by
    rcases List.mem_append.mp h with h | h
    · exact r.own a h
    · exact RMs.own s a h
theorem RMs.grow (g : Grow Hs H Hs' H') : ∀ {ps : List (Md × D)} {vs : List V} {As : List Addr}, RMs K Hs H ps vs As → RMs K Hs' H' ps vs As
  | _, _, _, .nil => .nil
  | _, _, _, .cons r s => .cons (r.grow g) (RMs.grow g s)
theorem RMs.reps (w : Wf Hs H) : ∀ {ps : List (Md × D)} {vs : List V} {As : List Addr}, RMs K Hs H ps vs As → Reps K H (ps.map (·.2)) vs
  | _, _, _, .nil => .nil
  | _, _, _, .cons r s => .cons (r.rep w) (RMs.reps w s)
end

abbrev WE := Env → (Md → D → Prop) → Prop
abbrev WT := Env → (Bool → Prop) → Prop
abbrev WA := Env → (List (Md × D) → Prop) → Prop
structure WEnds where
  nx : Env → Prop
  rt : Md → D → Prop
  bk : Env → Prop := fun _ => False
  ct : Env → Prop := fun _ => False
abbrev WS := WEnds → Env → Prop

def Fresh (Hs' H : Hp) (As : List Addr) : Prop := As.Nodup ∧ ∀ a ∈ As, Hs' a = none ∧ H a = none
def tpE (K : PySem.W.Frag) (t : WE) : TE := fun σ H Qv => ∃ Hs ρ tot Q, SRel K Hs ρ σ H tot ∧ t ρ Q ∧
  ∀ v H' Hs' m d As, Grow Hs H Hs' H' → RM K Hs' H' m d v As → Fresh Hs' H As → Q m d → Qv v H'
def tpT (K : PySem.W.Frag) (t : WT) : TT := fun σ H Qv => ∃ Hs ρ tot Q, SRel K Hs ρ σ H tot ∧ t ρ Q ∧ ∀ b H' Hs', Grow Hs H Hs' H' → Q b → Qv b H'
def tpA (K : PySem.W.Frag) (t : WA) : TA := fun σ H Qv => ∃ Hs ρ tot Q, SRel K Hs ρ σ H tot ∧ t ρ Q ∧
  ∀ vs H' Hs' ps As, Grow Hs H Hs' H' → RMs K Hs' H' ps vs As → Fresh Hs' H As → Q ps → Qv vs H'
def tpS (K : PySem.W.Frag) (t : WS) : TS := fun D σ H => ∃ Hs ρ tot E, SRel K Hs ρ σ H tot ∧ t E ρ ∧
  (∀ σ' H' Hs' ρ' tot', Same Hs Hs' → SRel K Hs' ρ' σ' H' tot' → E.nx ρ' → D.nx σ' H') ∧
  (∀ σ' H' Hs' ρ' tot', Same Hs Hs' → SRel K Hs' ρ' σ' H' tot' → E.bk ρ' → D.bk σ' H') ∧
  (∀ σ' H' Hs' ρ' tot', Same Hs Hs' → SRel K Hs' ρ' σ' H' tot' → E.ct ρ' → D.ct σ' H') ∧
  ∀ v H' Hs' m d As, Same Hs Hs' → Wf Hs' H' → RM K Hs' H' m d v As → As.Nodup → (∀ a ∈ As, Hs' a = none) → E.rt m d → D.rt v H'
abbrev QE (X : Cx) (K : PySem.W.Frag) (e : Expr) (t : WE) : Prop := PE X e (tpE K t)
abbrev QT (X : Cx) (K : PySem.W.Frag) (e : Expr) (t : WT) : Prop := PT X e (tpT K t)
abbrev QW (X : Cx) (K : PySem.W.Frag) (e : Expr) (t : WT) : Prop := PW X e (tpT K t)
abbrev QA (X : Cx) (K : PySem.W.Frag) (es : List Expr) (t : WA) : Prop := PA X es (tpA K t)
abbrev QS (X : Cx) (K : PySem.W.Frag) (st : Stmt) (t : WS) : Prop := PS X st (tpS K t)
abbrev QSs (X : Cx) (K : PySem.W.Frag) (st : List Stmt) (t : WS) : Prop := PSs X st (tpS K t)
end L2.Q

set_option Elab.async false
set_option linter.all false
set_option maxRecDepth 100000
set_option maxHeartbeats 4000000

namespace L2.Q
open PySem PySem.Spec PyProof.Rows

structure Kt {α : Type} (f : α → Prop) : Type where
def onK {α : Type} (a : α) {f : α → Prop} (_ : Kt f) : Prop := f a
mutual
def D.py : D → PyData
  | .non => .none
  | .bl b => .bool b
  | .int i => .int i
  | .str x => .str x
  | .list xs => .list (pys xs)
  | .tup xs => .tuple (pys xs)
  | .dK _ => .none
  | .dT _ => .none
def pys : List D → List PyData
  | [] => []
  | x :: xs => x.py :: pys xs
end
def okD : Nat → D → Bool
  | _, .non => true
  | _, .bl _ => true
  | _, .int _ => true
  | _, .str x => PyData.strOk x
  | n + 1, .list xs => xs.all (okD n)
  | n + 1, .tup xs => xs.all (okD n)
  | _, _ => false
def eqD (x y : D) : Bool := PyData.eqv x.py y.py
def D.ty : D → String
  | .non => "NoneType"
  | .bl _ => "bool"
  | .int _ => "int"
  | .str _ => "str"
  | .list _ => "list"
  | .tup _ => "tuple"
  | .dK _ => "dict"
  | .dT _ => "dict"
def D.key1 : D → Option Key
  | .int i => some (.inl i)
  | .str x => some (.inr x)
  | _ => none
def keys1 : List D → Option (List Key)
  | [] => some []
  | x :: xs => match x.key1, keys1 xs with
    | some k, some ks => some (k :: ks)
    | _, _ => none
section
variable {κ : Type} [DecidableEq κ] {β : Type}
def getG (kvs : List (κ × β)) (k : κ) : Option β := (kvs.find? fun kv => decide (kv.1 = k)).map (·.2)
def putG (kvs : List (κ × β)) (k : κ) (v : β) : List (κ × β) :=
  if (kvs.any fun kv => decide (kv.1 = k)) = true then kvs.map (fun kv => if kv.1 = k then (kv.1, v) else kv) else kvs ++ [(k, v)]
end
mutual
theorem Rep.l2 {K : PySem.W.Frag} {H : Hp} : ∀ {n : Nat} {d : D} {v : V}, Rep K H d v → okD n d = true → L2.Rep K H d.py v
  | _, _, _, .non, _ => .none
  | _, _, _, .bl b, _ => .bool b
  | _, _, _, .int i, _ => .int i
  | _, _, _, .str _, _ => .str _
  | n + 1, _, _, .list _ h hs, o => .list h (Reps.l2 (n := n) hs (by simpa [okD] using o))
  | n + 1, _, _, .tup _ h hs, o => .tuple (.inl (.inl h)) (Reps.l2 (n := n) hs (by simpa [okD] using o))
  | 0, _, _, .list _ h hs, o => by simp [okD] at o
  | 0, _, _, .tup _ h hs, o => by simp [okD] at o
  | 0, _, _, .dK _ _ _, o => by simp [okD] at o
  | n + 1, _, _, .dK _ _ _, o => by simp [okD] at o
  | 0, _, _, .dT _ _ _, o => by simp [okD] at o
  | n + 1, _, _, .dT _ _ _, o => by simp [okD] at o
theorem Reps.l2 {K : PySem.W.Frag} {H : Hp} : ∀ {n : Nat} {ds : List D} {vs : List V}, Reps K H ds vs → (∀ d ∈ ds, okD n d = true) → L2.Reps K H (pys ds) vs
  | _, _, _, .nil, _ => .nil
  | n, _, _, .cons h hs, o => .cons (Rep.l2 (n := n) h (o _ List.mem_cons_self)) (Reps.l2 (n := n) hs fun d m => o d (List.mem_cons_of_mem _ m))
end
theorem ok_lay : ∀ (n : Nat) (d : D), okD n d = true → d.py.canLay0 = true ∧ d.py.depth ≤ n
  | n, .non, _ => ⟨rfl, Nat.zero_le _⟩
  | n, .bl _, _ => ⟨rfl, Nat.zero_le _⟩
  | n, .int _, _ => ⟨rfl, Nat.zero_le _⟩
  | n, .str x, h => by
    have h : PyData.strOk x = true := by cases n <;> simpa [okD] using h
    exact ⟨by simpa [D.py, PyData.canLay0] using h, Nat.zero_le _⟩
  | 0, .list _, h => by simp [okD] at h
  | 0, .tup _, h => by simp [okD] at h
  | 0, .dK _, h => by simp [okD] at h
  | 0, .dT _, h => by simp [okD] at h
  | n + 1, .dK _, h => by simp [okD] at h
  | n + 1, .dT _, h => by simp [okD] at h
  | n + 1, .list xs, h => by
    have h : ∀ x ∈ xs, okD n x = true := by simpa [okD] using h
    have := go xs h
    simp only [D.py, PyData.canLay0, PyData.depth]
    exact ⟨this.1, by omega⟩
  | n + 1, .tup xs, h => by
    have h : ∀ x ∈ xs, okD n x = true := by simpa [okD] using h
    have := go xs h
    simp only [D.py, PyData.canLay0, PyData.depth]
    exact ⟨this.1, by omega⟩
where go {n : Nat} : ∀ (xs : List D), (∀ x ∈ xs, okD n x = true) → PyData.canLayAll0 (pys xs) = true ∧ PyData.depthAll (pys xs) ≤ n
  | [], _ => ⟨rfl, Nat.zero_le _⟩
  | x :: xs, h => by
    have h1 := ok_lay n x (h x List.mem_cons_self)
    have h2 := go xs fun y hy => h y (List.mem_cons_of_mem _ hy)
    simp only [pys, PyData.canLayAll0, PyData.depthAll, h1.1, h2.1, Bool.and_self, true_and]
    omega
mutual
def D.nb : D → Bool
  | .bl _ => false
  | .list xs => nbs xs
  | .tup xs => nbs xs
  | .dK _ => false
  | .dT _ => false
  | _ => true
def nbs : List D → Bool
  | [] => true
  | x :: xs => x.nb && nbs xs
end
mutual
theorem eqD_iff : ∀ (x y : D), x.nb = true → y.nb = true → (eqD x y = true ↔ x = y)
  | .non, y, _, hy => by cases y <;> simp_all [eqD, D.py, PyData.eqv, D.nb]
  | .bl _, y, hx, _ => by simp [D.nb] at hx
  | .int i, y, _, hy => by cases y <;> simp_all [eqD, D.py, PyData.eqv, D.nb]
  | .str i, y, _, hy => by cases y <;> simp_all [eqD, D.py, PyData.eqv, D.nb]
  | .dK _, y, hx, _ => by simp [D.nb] at hx
  | .dT _, y, hx, _ => by simp [D.nb] at hx
  | .list xs, y, hx, hy => by
    cases y with
    | list ys =>
      have := eqDs_iff xs ys (by simpa [D.nb] using hx) (by simpa [D.nb] using hy)
      simp only [eqD, D.py, PyData.eqv, D.list.injEq]
      exact this
    | _ => simp_all [eqD, D.py, PyData.eqv, D.nb]
  | .tup xs, y, hx, hy => by
    cases y with
    | tup ys =>
      have := eqDs_iff xs ys (by simpa [D.nb] using hx) (by simpa [D.nb] using hy)
      simp only [eqD, D.py, PyData.eqv, D.tup.injEq]
      exact this
    | _ => simp_all [eqD, D.py, PyData.eqv, D.nb]
theorem eqDs_iff : ∀ (xs ys : List D), nbs xs = true → nbs ys = true → (PyData.eqvAll (pys xs) (pys ys) = true ↔ xs = ys)
  | [], [], _, _ => by simp [pys, PyData.eqvAll]
  | [], _ :: _, _, _ => by simp [pys, PyData.eqvAll]
  | _ :: _, [], _, _ => by simp [pys, PyData.eqvAll]
  | x :: xs, y :: ys, hx, hy => by
    simp only [nbs, Bool.and_eq_true] at hx hy
    have h1 := eqD_iff x y hx.1 hy.1
    have h2 := eqDs_iff xs ys hx.2 hy.2
    simp only [pys, PyData.eqvAll, Bool.and_eq_true, List.cons.injEq]
    exact and_congr h1 h2
end
theorem nbs_iff : ∀ {xs : List D}, nbs xs = true ↔ ∀ x ∈ xs, x.nb = true
  | [] => by simp [nbs]
  | x :: xs => by simp [nbs, nbs_iff (xs := xs)]
section
variable {K : PySem.W.Frag} {H : Hp}
theorem Rep.key {d : D} {v : V} {k : Key} (r : Rep K H d v) (h : d.key1 = some k) : v = kV k := by
  cases r <;> simp [D.key1] at h <;> subst h <;> rfl
theorem Reps.keys : ∀ {ds : List D} {vs : List V} {ks : List Key}, Reps K H ds vs → keys1 ds = some ks → vs = ks.map kV
  | _, _, _, .nil, h => by simp [keys1] at h; subst h; rfl
  | d :: ds, _, ks, .cons r rs, h => by
    unfold keys1 at h
    cases e1 : d.key1 with
    | none => rw [e1] at h; simp at h
    | some k =>
      cases e2 : keys1 ds with
      | none => rw [e1, e2] at h; simp at h
      | some ks' =>
        rw [e1, e2] at h
        simp at h
        subst h
        rw [List.map_cons, r.key e1, Reps.keys rs e2]
theorem Rep.keyT {ds : List D} {v : V} {ks : List Key} (r : Rep K H (.tup ds) v) (h : keys1 ds = some ks) : ∃ b, v = .ref b ∧ H b = some (.tup (ks.map kV)) := by
  cases r with
  | tup _ e rs => exact ⟨_, rfl, by rw [e, rs.keys h]⟩
end
section
variable {κ : Type} [DecidableEq κ] {K : PySem.W.Frag} {H : Hp}
theorem zip_get {k : κ} : ∀ {kvs : List (κ × D)} {vs : List V}, Reps K H (kvs.map (·.2)) vs → match getG kvs k with
    | some d => ∃ v, valV ((kvs.map (·.1)).zip vs) k = some v ∧ Rep K H d v
    | none => valV ((kvs.map (·.1)).zip vs) k = none
  | [], _, .nil => rfl
  | p :: kvs, _ :: vs, .cons r rs => by
    by_cases e : p.1 = k
    · have e1 : getG (p :: kvs) k = some p.2 := by simp [getG, e]
      rw [e1]
      exact ⟨_, by simp only [List.map_cons, List.zip_cons_cons]; exact valV_pos e, r⟩
    · have e1 : getG (p :: kvs) k = getG kvs k := by simp [getG, e]
      rw [e1]
      have := zip_get (k := k) rs
      simp only [List.map_cons, List.zip_cons_cons, valV_neg (p := (p.1, _)) e]
      exact this
theorem zip_put {k : κ} : ∀ {kvs : List (κ × D)} {vs : List V} , kvs.length = vs.length → ((kvs.map (·.1)).zip vs).any (fun kv => decide (kv.1 = k)) = kvs.any fun kv => decide (kv.1 = k)
  | [], [], _ => rfl
  | p :: kvs, v :: vs, h => by
    simp only [List.map_cons, List.zip_cons_cons, List.any_cons]
    rw [zip_put (kvs := kvs) (vs := vs) (by simpa using h)]
  | [], _ :: _, h => by simp at h
  | _ :: _, [], h => by simp at h
end

section
variable {K : PySem.W.Frag} {Hs H : Hp}
theorem newL {p : Addr} {o : HO} (w : Wf Hs H) (hp : H p = none) (ho : ∀ vs, o ≠ .tup vs) : Grow Hs H Hs (upd H p o) :=
  ⟨(Same.refl H).upd hp, Same.refl _, ⟨w.sub.upd hp, fun a vs e => by
    by_cases h : a = p
    · subst h; rw [upd_same] at e; exact absurd (Option.some.inj e) (ho vs)
    · rw [upd_ne h] at e; exact w.tups a vs e⟩, fun _ h => .inl h⟩
theorem newT {p : Addr} {vs : List V} (w : Wf Hs H) (hp : H p = none) : Grow Hs H (upd Hs p (.tup vs)) (upd H p (.tup vs)) :=
  ⟨(Same.refl H).upd hp, (Same.refl Hs).upd (w.sub.free hp), ⟨fun a o e => by
    by_cases h : a = p
    · subst h; rw [upd_same] at e ⊢; exact e
    · rw [upd_ne h] at e ⊢; exact w.sub a o e, fun a vs e => by
    by_cases h : a = p
    · subst h; rw [upd_same] at e ⊢; exact e
    · rw [upd_ne h] at e ⊢; exact w.tups a vs e⟩, fun a h => by
    by_cases e : a = p
    · subst e; exact .inr hp
    · rw [upd_ne e] at h; exact .inl h⟩
theorem Fresh.nil : Fresh Hs H [] := ⟨List.nodup_nil, fun a h => nomatch h⟩
theorem Fresh.of {H' : Hp} {As : List Addr} (s : Same H H') (f : Fresh Hs H' As) : Fresh Hs H As := ⟨f.1, fun a h => ⟨(f.2 a h).1, s.free (f.2 a h).2⟩⟩
abbrev Fin (K : PySem.W.Frag) (Hs H : Hp) (Qd : Md → D → Prop) (Qv : VK) : Prop := ∀ v H' Hs' m d As, Grow Hs H Hs' H' → RM K Hs' H' m d v As → Fresh Hs' H As → Qd m d → Qv v H'
theorem Fin.after {Hs' H' : Hp} {Qd : Md → D → Prop} {Qv : VK} (f : Fin K Hs H Qd Qv) (g : Grow Hs H Hs' H') : Fin K Hs' H' Qd Qv := fun v H2 Hs2 m d As g2 r fr q => f v H2 Hs2 m d As (g.trans g2) r (fr.of g.all) q
theorem Fin.sh {Qd : Md → D → Prop} {Qv : VK} {d : D} {v : V} (f : Fin K Hs H Qd Qv) (w : Wf Hs H) (r : Rep K Hs d v) (q : Qd .sh d) : Qv v H := f v H Hs .sh d [] (Grow.refl w) ⟨rfl, r⟩ Fresh.nil q
theorem Fin.flat {Qd : Md → D → Prop} {Qv : VK} {d : D} {v : V} (f : Fin K Hs H Qd Qv) (w : Wf Hs H) (r : Rep K H d v) (hf : d.flat = true) (q : Qd .sh d) : Qv v H := f.sh w (r.flatIn w.tups hf) q
theorem Fin.bo {Qd : Md → D → Prop} {Qv : VK} {d : D} {v : V} (f : Fin K Hs H Qd Qv) (w : Wf Hs H) (r : Rep K H d v) (q : Qd .bo d) : Qv v H := f v H Hs .bo d [] (Grow.refl w) ⟨rfl, r⟩ Fresh.nil q
def itm (m : Md) (d : D) : Md := match m with
  | .sh => .sh
  | _ => bif d.flat then .sh else .bo
theorem Fin.itm {Qd : Md → D → Prop} {Qv : VK} {m : Md} {d : D} {v : V} (f : Fin K Hs H Qd Qv) (w : Wf Hs H) (r : Rep K H d v) (rs : m = .sh → Rep K Hs d v) (q : Qd (itm m d) d) : Qv v H := by
  cases m with
  | sh => exact f.sh w (rs rfl) q
  | ow fl =>
    cases hf : d.flat with
    | true => exact f.flat w r hf (by simpa [Q.itm, hf] using q)
    | false => exact f.bo w r (by simpa [Q.itm, hf] using q)
  | bo =>
    cases hf : d.flat with
    | true => exact f.flat w r hf (by simpa [Q.itm, hf] using q)
    | false => exact f.bo w r (by simpa [Q.itm, hf] using q)
theorem Fin.lst {Qd : Md → D → Prop} {Qv : VK} {ds : List D} {vs : List V} (f : Fin K Hs H Qd Qv) (w : Wf Hs H) (hz : ds.length ≤ sizeLine) (r : Reps K H ds vs) (hf : flats ds = true) (q : Qd (.ow true) (.list ds)) : ∀ p, H p = none → Qv (.ref p) (upd H p (.lst vs)) := fun p hp =>
  f _ _ Hs (.ow true) (.list ds) [p] (newL w hp fun _ z => nomatch z) ⟨.list (by rw [← r.length]; exact hz) upd_same ((r.flatIn w.tups hf).owned hf), by simp⟩ ⟨by simp, fun a h => by
    obtain rfl : a = p := by simpa using h
    exact ⟨w.sub.free hp, hp⟩⟩ q
theorem Fin.lstS {Qd : Md → D → Prop} {Qv : VK} {ds : List D} {vs : List V} (f : Fin K Hs H Qd Qv) (w : Wf Hs H) (hz : ds.length ≤ sizeLine) (r : Reps K Hs ds vs) (q : Qd (.ow false) (.list ds)) : ∀ p, H p = none → Qv (.ref p) (upd H p (.lst vs)) := fun p hp =>
  f _ _ Hs (.ow false) (.list ds) [p] (newL w hp fun _ z => nomatch z) ⟨.list (by rw [← r.length]; exact hz) upd_same r.ownedF, by simp⟩ ⟨by simp, fun a h => by
    obtain rfl : a = p := by simpa using h
    exact ⟨w.sub.free hp, hp⟩⟩ q
theorem Fin.tup {Qd : Md → D → Prop} {Qv : VK} {ds : List D} {vs : List V} (f : Fin K Hs H Qd Qv) (w : Wf Hs H) (hz : ds.length ≤ sizeLine) (r : Reps K H ds vs) (hf : flats ds = true) (q : Qd .sh (.tup ds)) : ∀ p, H p = none → Qv (.ref p) (upd H p (.tup vs)) := fun p hp =>
  f _ _ (upd Hs p (.tup vs)) .sh (.tup ds) [] (newT w hp) ⟨rfl, .tup (by rw [← r.length]; exact hz) upd_same ((r.flatIn w.tups hf).same ((Same.refl Hs).upd (w.sub.free hp)))⟩ Fresh.nil q
end

section
variable {X : Cx} {K : PySem.W.Frag}
theorem PE.imp {e : Expr} {te te' : TE} (h : PE X e te) (i : ∀ σ H Q, te' σ H Q → te σ H Q) : PE X e te' := fun pins s σ H Q I q => h pins s σ H Q I (i σ H Q q)
theorem PT.imp {e : Expr} {te te' : TT} (h : PT X e te) (i : ∀ σ H Q, te' σ H Q → te σ H Q) : PT X e te' := fun pins s σ H Q I q => h pins s σ H Q I (i σ H Q q)
theorem PW.imp {e : Expr} {te te' : TT} (h : PW X e te) (i : ∀ σ H Q, te' σ H Q → te σ H Q) : PW X e te' := fun wh pins s σ H Q I q => h wh pins s σ H Q I (i σ H Q q)
theorem PA.imp {e : List Expr} {te te' : TA} (h : PA X e te) (i : ∀ σ H Q, te' σ H Q → te σ H Q) : PA X e te' := fun p pins s σ H Q I q => h p pins s σ H Q I (i σ H Q q)

def useS : Option (Option Sl) → (Md → D → Prop) → Prop
  | some (some (.sh d)), Q => Q .sh d
  | some (some (.ow _ d)), Q => Q .bo d
  | some (some (.lk _ _ d)), Q => Q .bo d
  | _, _ => False
def wVar (i : Nat) : WE := fun ρ Q => useS ρ[i]? Q
theorem q_var {i : Nat} {e : Expr} (h : PE X e (tVar i)) : QE X K e (wVar i) := by
  refine PE.imp h fun σ H Qv ⟨Hs, ρ, tot, Q, sr, h, f⟩ => ?_
  unfold wVar at h
  cases e : ρ[i]? with
  | none => rw [e] at h; exact h.elim
  | some o =>
    cases o with
    | none => rw [e] at h; exact h.elim
    | some sl =>
      obtain ⟨v, e1, r⟩ := sr.sr.get e
      rw [e] at h
      cases sl with
      | sh d => exact ⟨v, e1, Fin.sh f sr.wf r h⟩
      | ow fl d =>
        obtain ⟨As, _, r, _⟩ := r
        exact ⟨v, e1, Fin.bo f sr.wf (r.rep sr.wf.sub fun _ _ => rfl) h⟩
      | lk a fl d =>
        obtain ⟨As, _, r, _⟩ := r
        exact ⟨v, e1, Fin.bo f sr.wf (r.rep sr.wf.sub fun _ _ => rfl) h⟩
theorem qv (i : Nat) {x : Str} {pos : Pos} (hN : X.N[i]? = some x := by rfl) (hv : Vis X.env.scope x := by first | exact Or.inl rfl | exact Or.inr (Or.inl rfl) | exact Or.inr (Or.inr rfl)) (hd : (x == ("__debug__" : Str)) = false := by decide)
    (hcd : (x == ("__classdict__" : Str)) = false := by decide) : QE X K (.Name x pos) (wVar i) := q_var (pe_var hN hv hd hcd)
def wC (d : D) : WE := fun _ Q => Q .sh d
theorem q_con {e : Expr} {v : V} {d : D} (h : PE X e (tC v)) (r : ∀ H, Rep K H d v) : QE X K e (wC d) :=
  PE.imp h fun σ H Qv ⟨Hs, ρ, tot, Q, sr, h, f⟩ => Fin.sh f sr.wf (r _) h
theorem q_int {i j pos} : QE X K (.Constant (.int i) j pos) (wC (.int i)) := q_con pe_int fun _ => .int i
theorem q_str {i j pos} (h : i.length ≤ sizeLine := by decide) : QE X K (.Constant (.str i) j pos) (wC (.str i)) := q_con pe_str fun _ => .str h
theorem q_bl {i j pos} : QE X K (.Constant (.bool i) j pos) (wC (.bl i)) := q_con pe_bl fun _ => .bl i
abbrev W2 := Md → D → Md → D → (Md → D → Prop) → Prop
abbrev W1 := Md → D → (Md → D → Prop) → Prop
def Br2 (K : PySem.W.Frag) (r : R2) (f : W2) : Prop := ∀ Hs H m x v As n y u Bs Qd Qv, Wf Hs H → RM K Hs H m x v As → RM K Hs H n y u Bs → f m x n y Qd → Fin K Hs H Qd Qv → r v u H Qv
def Br1 (K : PySem.W.Frag) (r : V → Hp → VK → Prop) (f : W1) : Prop := ∀ Hs H m x v As Qd Qv, Wf Hs H → RM K Hs H m x v As → f m x Qd → Fin K Hs H Qd Qv → r v H Qv
def wOp (f : W2) (ta tb : WE) : WE := fun ρ Q => ta ρ fun m x => tb ρ fun n y => f m x n y Q
def wUn (f : W1) (ta : WE) : WE := fun ρ Q => ta ρ fun m x => f m x Q
variable {a b c : Expr} {ta tb tc : WE} {pos : Pos}
theorem op_lift {r : R2} {f : W2} (br : Br2 K r f) (σ : St) (H : Hp) (Qv : VK) (h : tpE K (wOp f ta tb) σ H Qv) : tOp r (tpE K ta) (tpE K tb) σ H Qv := by
  obtain ⟨Hs, ρ, tot, Q, sr, h, fin⟩ := h
  refine ⟨Hs, ρ, tot, _, sr, h, fun v H1 Hs1 m x As g1 r1 f1 q1 => ⟨Hs1, ρ, tot, _, sr.grow g1, q1, fun u H2 Hs2 n y Bs g2 r2 f2 q2 => ?_⟩⟩
  exact br Hs2 H2 m x v As n y u Bs Q Qv g2.wf (r1.grow g2) r2 q2 (Fin.after fin (g1.trans g2))
theorem q_op {op : Operator} {r : R2} {f : W2} (ho : OpR X (binaryOp op) r) (br : Br2 K r f) (ha : QE X K a ta) (hb : QE X K b tb) : QE X K (.BinOp a op b pos) (wOp f ta tb) := PE.imp (pe_op ho ha hb) (op_lift br)
theorem q_un {op : UnaryOp} {r : V → Hp → VK → Prop} {f : W1} (ho : UnR X (unaryOp op) r) (br : Br1 K r f) (ha : QE X K a ta) : QE X K (.UnaryOp op a pos) (wUn f ta) := by
  refine PE.imp (pe_un ho ha) fun σ H Qv ⟨Hs, ρ, tot, Q, sr, h, fin⟩ => ?_
  exact ⟨Hs, ρ, tot, _, sr, h, fun v H1 Hs1 m x As g1 r1 f1 q1 => br Hs1 H1 m x v As Q Qv g1.wf r1 q1 (Fin.after fin g1)⟩
theorem q_cmp {op : CmpOp} {r : R2} {f : W2} (ho : OpR X (compareOp op) r) (br : Br2 K r f) (ha : QE X K a ta) (hb : QE X K b tb) (hm : behindInMarks op b = false) : QE X K (.Compare a [op] [b] pos) (wOp f ta tb) := PE.imp (pe_cmpR ho ha hb hm) (op_lift br)
def wB (t : WE) : WT := fun ρ Q => t ρ fun _ x => match x with
  | .bl b => Q b
  | _ => False
theorem tst_lift {t : WE} (σ : St) (H : Hp) (Qv : Bool → Hp → Prop) (h : tpT K (wB t) σ H Qv) : tTest (tpE K t) σ H Qv := by
  obtain ⟨Hs, ρ, tot, Q, sr, h, fin⟩ := h
  refine ⟨Hs, ρ, tot, _, sr, h, fun v H1 Hs1 m x As g1 r1 f1 q1 => ?_⟩
  have r := r1.rep g1.wf
  cases r with
  | bl b => exact ⟨b, rfl, fin b H1 Hs1 g1 q1⟩
  | _ => exact q1.elim
theorem q_tcmp {op : CmpOp} {r : R2} {f : W2} (ho : OpR X (compareOp op) r) (br : Br2 K r f) (ha : QE X K a ta) (hb : QE X K b tb) (hm : behindInMarks op b = false) : QT X K (.Compare a [op] [b] pos) (wB (wOp f ta tb)) := by
  refine PT.imp (pt_cmpR ho ha hb hm) fun σ H Qv h => ?_
  obtain ⟨Hs, ρ, tot, Q, sr, h, fin⟩ := h
  refine op_lift br σ H _ ⟨Hs, ρ, tot, _, sr, h, fun v H1 Hs1 m x As g1 r1 f1 q1 => ?_⟩
  have r := r1.rep g1.wf
  cases r with
  | bl b => exact ⟨b, rfl, fin b H1 Hs1 g1 q1⟩
  | _ => exact q1.elim
theorem q_tval {t : WE} (h : QE X K a t) (he : ∀ whole, isTrue a X.env whole = (do let v ← whole; standAt a.pos; holding [v] (truthy v)) := by intro _; rfl) : QT X K a (wB t) := PT.imp (pt_val h he) tst_lift
end
end L2.Q

set_option Elab.async false
set_option linter.all false
set_option maxRecDepth 100000
set_option maxHeartbeats 4000000

namespace L2.Q
open PySem PySem.Spec PyProof.Rows

section
variable {X : Cx} {K : PySem.W.Frag} {a b c : Expr} {ta tb tc : WE} {pos : Pos}

def wAnd (t u : WT) : WT := fun ρ Q => t ρ fun c => if c = true then u ρ Q else Q false
def wOr (t u : WT) : WT := fun ρ Q => t ρ fun c => if c = true then Q true else u ρ Q
def wNot (t : WT) : WT := fun ρ Q => t ρ fun c => Q (!c)
variable {tA tB : WT} {rest : List Expr}
theorem tpT_bind {t u : WT} {f : Bool → TT} {σ : St} {H : Hp} {Qv : Bool → Hp → Prop} {G : Bool → (Bool → Prop) → Env → Prop}
    (h : tpT K (fun ρ Q => t ρ fun c => G c Q ρ) σ H Qv)
    (i : ∀ c H1 Hs1 ρ tot Q, SRel K Hs1 ρ σ H1 tot → G c Q ρ → (∀ b H' Hs', Grow Hs1 H1 Hs' H' → Q b → Qv b H') → f c σ H1 Qv) : tpT K t σ H fun c H1 => f c σ H1 Qv := by
  obtain ⟨Hs, ρ, tot, Q, sr, h, fin⟩ := h
  exact ⟨Hs, ρ, tot, _, sr, h, fun c H1 Hs1 g1 q1 => i c H1 Hs1 ρ tot Q (sr.grow g1) q1 fun b H' Hs' g2 => fin b H' Hs' (g1.trans g2)⟩
theorem qw_and1 (ha : QT X K a tA) : QW X K (.BoolOp .And [a] pos) tA := pw_and1 ha
theorem qw_or1 (ha : QT X K a tA) : QW X K (.BoolOp .Or [a] pos) tA := pw_or1 ha
theorem qw_and (ha : QT X K a tA) (hb : QW X K (.BoolOp .And (b :: rest) pos) tB) : QW X K (.BoolOp .And (a :: b :: rest) pos) (wAnd tA tB) := by
  refine PW.imp (pw_and ha hb) fun σ H Qv h => ?_
  refine tpT_bind (u := tB) (f := fun c σ H1 Q => if c = true then tpT K tB σ H1 Q else Q false H1) h fun c H1 Hs1 ρ tot Q sr q fin => ?_
  cases c with
  | true => exact ⟨Hs1, ρ, tot, Q, sr, q, fin⟩
  | false => exact fin false H1 Hs1 (Grow.refl sr.wf) q
theorem qw_or (ha : QT X K a tA) (hb : QW X K (.BoolOp .Or (b :: rest) pos) tB) : QW X K (.BoolOp .Or (a :: b :: rest) pos) (wOr tA tB) := by
  refine PW.imp (pw_or ha hb) fun σ H Qv h => ?_
  refine tpT_bind (u := tB) (f := fun c σ H1 Q => if c = true then Q true H1 else tpT K tB σ H1 Q) h fun c H1 Hs1 ρ tot Q sr q fin => ?_
  cases c with
  | true => exact fin true H1 Hs1 (Grow.refl sr.wf) q
  | false => exact ⟨Hs1, ρ, tot, Q, sr, q, fin⟩
theorem qt_w (h : QW X K a tA) : QT X K a tA := h _
theorem qt_not (ha : QT X K a tA) : QT X K (.UnaryOp .Not a pos) (wNot tA) := by
  refine PT.imp (pt_not ha) fun σ H Qv h => ?_
  exact tpT_bind (u := tA) (f := fun c σ H1 Q => Q (!c) H1) h fun c H1 Hs1 ρ tot Q sr q fin => fin _ H1 Hs1 (Grow.refl sr.wf) q
def wAndV (ta tb : WE) : WE := fun ρ Q => ta ρ fun _ x => match x with
  | .bl c => if c = true then tb ρ Q else Q .sh (.bl false)
  | _ => False
def wNotV (ta : WE) : WE := fun ρ Q => ta ρ fun _ x => match x with
  | .bl c => Q .sh (.bl (!c))
  | _ => False
theorem q_one {op} (h : QE X K a ta) : QE X K (.BoolOp op [a] pos) ta := pe_one h
theorem q_and (ha : QE X K a ta) (hb : QE X K (.BoolOp .And (b :: rest) pos) tb) : QE X K (.BoolOp .And (a :: b :: rest) pos) (wAndV ta tb) := by
  refine PE.imp (pe_and ha hb) fun σ H Qv ⟨Hs, ρ, tot, Q, sr, h, fin⟩ => ?_
  refine ⟨Hs, ρ, tot, _, sr, h, fun v H1 Hs1 m x As g1 r1 f1 q1 => ?_⟩
  have r := r1.rep g1.wf
  cases r with
  | bl c =>
    refine ⟨c, rfl, ?_⟩
    cases c with
    | true => exact ⟨Hs1, ρ, tot, Q, sr.grow g1, q1, Fin.after fin g1⟩
    | false => exact Fin.sh (Fin.after fin g1) g1.wf (.bl false) q1
  | _ => exact q1.elim
theorem q_not (ha : QE X K a ta) : QE X K (.UnaryOp .Not a pos) (wNotV ta) := by
  refine PE.imp (pe_not ha) fun σ H Qv ⟨Hs, ρ, tot, Q, sr, h, fin⟩ => ?_
  refine ⟨Hs, ρ, tot, _, sr, h, fun v H1 Hs1 m x As g1 r1 f1 q1 => ?_⟩
  have r := r1.rep g1.wf
  cases r with
  | bl c => exact ⟨c, rfl, Fin.sh (Fin.after fin g1) g1.wf (.bl _) q1⟩
  | _ => exact q1.elim
def truD : D → Option Bool
  | .non => some false
  | .bl b => some b
  | .int i => some (i != 0)
  | .str x => some ((x.length : Int) != 0)
  | .list xs => some !xs.isEmpty
  | .tup xs => some !xs.isEmpty
  | .dK kvs => some !kvs.isEmpty
  | .dT kvs => none
def wTru (t : WE) : WT := fun ρ Q => t ρ fun _ x => ∃ b, truD x = some b ∧ Q b
end
end L2.Q

set_option Elab.async false
set_option linter.all false
set_option maxRecDepth 100000
set_option maxHeartbeats 4000000

namespace L2.Q
open PySem PySem.Spec PyProof.Rows

def fAdd : W2 := fun m x n y Q => match x, y with
  | .int i, .int j => Q .sh (.int (i + j))
  | .str i, .str j => i.length + j.length ≤ sizeLine ∧ Q .sh (.str (i ++ j))
  | .list xs, .list ys => xs.length + ys.length ≤ sizeLine ∧ ((flats xs = true ∧ flats ys = true ∧ Q (.ow true) (.list (xs ++ ys))) ∨ (m = .sh ∧ n = .sh ∧ Q (.ow false) (.list (xs ++ ys))))
  | .tup xs, .tup ys => xs ≠ [] ∧ xs.length + ys.length ≤ sizeLine ∧ flats xs = true ∧ flats ys = true ∧ Q .sh (.tup (xs ++ ys))
  | _, _ => False
def fMul : W2 := fun _ x _ y Q => match x, y with
  | .int i, .int j => CMul i j ∧ Q .sh (.int (i * j))
  | _, _ => False
def fDiv : W2 := fun _ x _ y Q => match x, y with
  | .int i, .int j => (0 < j ∧ j < 1073741824) ∧ Q .sh (.int (i / j))
  | _, _ => False
def fMod : W2 := fun _ x _ y Q => match x, y with
  | .int i, .int j => 0 < j ∧ Q .sh (.int (i % j))
  | _, _ => False
def fLt : W2 := fun _ x _ y Q => match x, y with
  | .int i, .int j => Q .sh (.bl (decide (i < j)))
  | .str i, .str j => Q .sh (.bl (ltS i j))
  | _, _ => False
def fGe : W2 := fun _ x _ y Q => match x, y with
  | .int i, .int j => Q .sh (.bl (decide (j ≤ i)))
  | _, _ => False
def fEq : W2 := fun _ x _ y Q => match x, y with
  | .int i, .int j => Q .sh (.bl (decide (i = j)))
  | .str i, .str j => Q .sh (.bl (decide (i = j)))
  | .bl i, .bl j => Q .sh (.bl (decide (i = j)))
  | _, _ => okD 12 x = true ∧ okD 12 y = true ∧ Q .sh (.bl (eqD x y))
def fNe : W2 := fun _ x _ y Q => match x, y with
  | .int i, .int j => Q .sh (.bl (!decide (i = j)))
  | .str i, .str j => Q .sh (.bl (!decide (i = j)))
  | .bl i, .bl j => Q .sh (.bl (!decide (i = j)))
  | _, _ => okD 12 x = true ∧ okD 12 y = true ∧ Q .sh (.bl (!eqD x y))
def D.isN : D → Bool
  | .non => true
  | _ => false
def scalD : D → Bool
  | .non => true
  | .bl _ => true
  | .int _ => true
  | .str _ => true
  | _ => false
def inD (x : D) (ys : List D) : Bool := ys.any fun y => eqD y x
def fIn (neg : Bool) : W2 := fun _ x _ y Q => match y with
  | .str j => match x with
    | .str i => Q .sh (.bl (if neg then !inS i j else inS i j))
    | _ => False
  | .list ys => scalD x = true ∧ ys.all scalD = true ∧ Q .sh (.bl (if neg then !inD x ys else inD x ys))
  | .tup ys => scalD x = true ∧ ys.all scalD = true ∧ Q .sh (.bl (if neg then !inD x ys else inD x ys))
  | .dK kvs => ∃ k, x.key1 = some k ∧ Q .sh (.bl (if neg then !(getG kvs k).isSome else (getG kvs k).isSome))
  | .dT kvs => match x with
    | .tup xs => ∃ ks, keys1 xs = some ks ∧ Q .sh (.bl (if neg then !(getG kvs ks).isSome else (getG kvs ks).isSome))
    | _ => False
  | _ => False

section
variable {K : PySem.W.Frag}
theorem Br2.flatV {r : R2} {f : W2} (h : ∀ Hs H m x v As n y u Bs Qd Qv, Wf Hs H → RM K Hs H m x v As → RM K Hs H n y u Bs → f m x n y Qd → Fin K Hs H Qd Qv → r v u H Qv) : Br2 K r f := h
theorem rep_str {Hs H : Hp} {Qd : Md → D → Prop} {Qv : VK} (f : Fin K Hs H Qd Qv) (w : Wf Hs H) {x : Str} (h : x.length ≤ sizeLine) (q : Qd .sh (.str x)) : Qv (.str x) H := f.sh w (.str h) q
theorem str_app_len (i j : Str) : (i ++ j).length = i.length + j.length := by
  show ((i ++ j).cps.size) = _
  show (i.cps ++ j.cps).size = _
  simp [Str.length]
theorem br_add : Br2 K (fun x y H Q => rAddU K x y H Q ∨ rCatT K x y H Q) fAdd := by
  intro Hs H m x v As n y u Bs Qd Qv w rx ry h f
  have r1 := rx.rep w
  have r2 := ry.rep w
  unfold fAdd at h
  cases r1 with
  | int i => cases r2 with
    | int j => exact .inl (f.sh w (.int _) h)
    | _ => exact h.elim
  | str hi => cases r2 with
    | str hj => exact .inl ⟨h.1, rep_str f w (by rw [str_app_len]; exact h.1) h.2⟩
    | _ => exact h.elim
  | list z1 s1 q1 => cases r2 with
    | list z2 s2 q2 =>
      have l1 := q1.length
      have l2 := q2.length
      have hz := h.1
      rcases h.2 with ⟨f1, f2, q⟩ | ⟨rfl, rfl, q⟩
      · refine .inl ⟨_, _, s1, s2, by omega, ?_⟩
        exact f.lst w (by rw [List.length_append]; exact hz) (q1.append q2) (by rw [flats_append, f1, f2]; rfl) q
      · obtain ⟨_, rx⟩ := rx
        obtain ⟨_, ry⟩ := ry
        cases rx with
        | list z1' s1' q1' => cases ry with
          | list z2' s2' q2' =>
            have l1 := q1'.length
            have l2 := q2'.length
            refine .inl ⟨_, _, Same.seq w.sub s1', Same.seq w.sub s2', by omega, ?_⟩
            exact f.lstS w (by rw [List.length_append]; exact hz) (q1'.append q2') q
    | _ => exact h.elim
  | tup t1 s1 q1 => cases r2 with
    | tup t2 s2 q2 =>
      have l1 := q1.length
      have l2 := q2.length
      obtain ⟨hne, hz, f1, f2, q⟩ := h
      refine .inr ⟨_, _, _, _, rfl, rfl, .inl (.inl s1), .inl (.inl s2), ?_, by omega, ?_⟩
      · intro e
        subst e
        exact hne (List.length_eq_zero_iff.mp l1)
      · refine ⟨fun e => ?_, fun _ => f.tup w (by rw [List.length_append]; exact hz) (q1.append q2) (by rw [flats_append, f1, f2]; rfl) q⟩
        subst e
        cases q2
        rw [List.append_nil] at q
        exact f.flat w (.tup t1 s1 q1) (by simpa [D.flat] using f1) q
    | _ => exact h.elim
  | _ => exact h.elim

theorem br_mul : Br2 K rMulU fMul := by
  intro Hs H m x v As n y u Bs Qd Qv w rx ry h f
  have r1 := rx.rep w
  have r2 := ry.rep w
  cases r1 with
  | int i => cases r2 with
    | int j => exact ⟨h.1, f.sh w (.int _) h.2⟩
    | _ => exact h.elim
  | _ => cases r2 <;> exact h.elim
theorem br_div : Br2 K rDivU fDiv := by
  intro Hs H m x v As n y u Bs Qd Qv w rx ry h f
  have r1 := rx.rep w
  have r2 := ry.rep w
  cases r1 with
  | int i => cases r2 with
    | int j => exact ⟨h.1, f.sh w (.int _) h.2⟩
    | _ => exact h.elim
  | _ => cases r2 <;> exact h.elim
theorem br_mod : Br2 K rModU fMod := by
  intro Hs H m x v As n y u Bs Qd Qv w rx ry h f
  have r1 := rx.rep w
  have r2 := ry.rep w
  cases r1 with
  | int i => cases r2 with
    | int j => exact ⟨h.1, f.sh w (.int _) h.2⟩
    | _ => exact h.elim
  | _ => cases r2 <;> exact h.elim
theorem br_lt : Br2 K rLtU fLt := by
  intro Hs H m x v As n y u Bs Qd Qv w rx ry h f
  have r1 := rx.rep w
  have r2 := ry.rep w
  cases r1 with
  | int i => cases r2 with
    | int j => exact f.sh w (.bl _) h
    | _ => exact h.elim
  | str i => cases r2 with
    | str j => exact f.sh w (.bl _) h
    | _ => exact h.elim
  | _ => cases r2 <;> exact h.elim
theorem br_ge : Br2 K rGeU fGe := by
  intro Hs H m x v As n y u Bs Qd Qv w rx ry h f
  have r1 := rx.rep w
  have r2 := ry.rep w
  cases r1 with
  | int i => cases r2 with
    | int j => exact f.sh w (.bl _) h
    | _ => exact h.elim
  | _ => cases r2 <;> exact h.elim
theorem eq_data {Hs H : Hp} {x y : D} {v u : V} {Qd : Md → D → Prop} {Qv : VK} (w : Wf Hs H) (rx : Rep K H x v) (ry : Rep K H y u) (f : Fin K Hs H Qd Qv) (h : okD 12 x = true ∧ okD 12 y = true ∧ Qd .sh (.bl (eqD x y))) : rEqD K v u H Qv := by
  obtain ⟨h1, h2, q⟩ := h
  have l1 := ok_lay 12 x h1
  have l2 := ok_lay 12 y h2
  exact ⟨x.py, y.py, rx.l2 h1, ry.l2 h2, l1.1, l2.1, by omega, f.sh w (.bl _) q⟩
theorem ne_data {Hs H : Hp} {x y : D} {v u : V} {Qd : Md → D → Prop} {Qv : VK} (w : Wf Hs H) (rx : Rep K H x v) (ry : Rep K H y u) (f : Fin K Hs H Qd Qv) (h : okD 12 x = true ∧ okD 12 y = true ∧ Qd .sh (.bl (!eqD x y))) : rNeD K v u H Qv := by
  obtain ⟨h1, h2, q⟩ := h
  have l1 := ok_lay 12 x h1
  have l2 := ok_lay 12 y h2
  exact ⟨x.py, y.py, rx.l2 h1, ry.l2 h2, l1.1, l2.1, by omega, f.sh w (.bl _) q⟩
theorem br_eq : Br2 K (rEqU K) fEq := by
  intro Hs H m x v As n y u Bs Qd Qv w rx ry h f
  have r1 := rx.rep w
  have r2 := ry.rep w
  have d := fun h => eq_data (Qd := Qd) (Qv := Qv) w r1 r2 f h
  cases r1 with
  | int i => cases r2 with
    | int j => exact f.sh w (.bl _) h
    | _ => exact d h
  | str i => cases r2 with
    | str j => exact f.sh w (.bl _) h
    | _ => exact d h
  | bl i => cases r2 with
    | bl j => exact f.sh w (.bl _) h
    | _ => exact d h
  | _ => cases r2 <;> exact d h
theorem br_ne : Br2 K (rNeU K) fNe := by
  intro Hs H m x v As n y u Bs Qd Qv w rx ry h f
  have r1 := rx.rep w
  have r2 := ry.rep w
  have d := fun h => ne_data (Qd := Qd) (Qv := Qv) w r1 r2 f h
  cases r1 with
  | int i => cases r2 with
    | int j => exact f.sh w (.bl _) h
    | _ => exact d h
  | str i => cases r2 with
    | str j => exact f.sh w (.bl _) h
    | _ => exact d h
  | bl i => cases r2 with
    | bl j => exact f.sh w (.bl _) h
    | _ => exact d h
  | _ => cases r2 <;> exact d h
theorem scal_flat {H : Hp} {x : D} {v : V} (r : Rep K H x v) (h : scalD x = true) : flatV v = true := by
  cases r <;> first | rfl | (simp [scalD] at h)
theorem scal_eq {H : Hp} {x y : D} {v u : V} (r : Rep K H x v) (s : Rep K H y u) (h : scalD x = true) (g : scalD y = true) : eqV v u = eqD x y := by
  cases r <;> simp [scalD] at h <;> cases s <;> simp [scalD] at g <;> rfl
theorem scals {H : Hp} {x : D} {v : V} (r : Rep K H x v) (h : scalD x = true) : ∀ {ys : List D} {us : List V}, Reps K H ys us → ys.all scalD = true → us.all flatV = true ∧ inV v us = inD x ys
  | _, _, .nil, _ => ⟨rfl, rfl⟩
  | y :: ys, _, .cons s ss, g => by
    simp only [List.all_cons, Bool.and_eq_true] at g
    obtain ⟨e1, e2⟩ := scals r h ss g.2
    refine ⟨by simp only [List.all_cons, scal_flat s g.1, e1, Bool.and_self], ?_⟩
    unfold inV inD at *
    rw [List.any_cons, List.any_cons, e2, scal_eq s r g.1 h]
theorem getG_some {κ : Type} [DecidableEq κ] {H : Hp} {k : κ} {kvs : List (κ × D)} {vs : List V} (r : Reps K H (kvs.map (·.2)) vs) : (valV ((kvs.map (·.1)).zip vs) k).isSome = (getG kvs k).isSome := by
  have := zip_get (k := k) r
  split at this
  · rename_i e
    obtain ⟨v, e1, _⟩ := this
    rw [e1, e]; rfl
  · rename_i e
    rw [this, e]; rfl
theorem br_in {neg : Bool} : Br2 K (rInU K neg) (fIn neg) := by
  intro Hs H m x v As n y u Bs Qd Qv w rx ry h f
  have r1 := rx.rep w
  have r2 := ry.rep w
  cases r2 with
  | str j => cases r1 with
    | str i => exact f.sh w (.bl _) h
    | _ => exact h.elim
  | list z s q =>
    obtain ⟨h1, h2, h3⟩ := h
    obtain ⟨e1, e2⟩ := scals r1 h1 q h2
    have h4 := scal_flat r1 h1
    have g : rIn K neg v (.ref _) H Qv := ⟨_, _, rfl, .inl s, h4, e1, by rw [e2]; exact f.sh w (.bl _) h3⟩
    cases r1 <;> exact .inr g
  | tup _ s q =>
    obtain ⟨h1, h2, h3⟩ := h
    obtain ⟨e1, e2⟩ := scals r1 h1 q h2
    have h4 := scal_flat r1 h1
    have g : rIn K neg v (.ref _) H Qv := ⟨_, _, rfl, .inr (.inl (.inl s)), h4, e1, by rw [e2]; exact f.sh w (.bl _) h3⟩
    cases r1 <;> exact .inr g
  | dK kk e q =>
    obtain ⟨k, hk, h3⟩ := h
    have ev := r1.key hk
    subst ev
    have eg := getG_some (k := k) q
    cases k <;> exact .inl ⟨_, DGet.k e, by rw [eg]; exact f.sh w (.bl _) h3⟩
  | dT kk e q =>
    cases r1 with
    | tup t1 e1 q1 =>
      obtain ⟨ks, hk, h3⟩ := h
      obtain ⟨b, eb, e2⟩ := Rep.keyT (.tup t1 e1 q1) hk
      cases eb
      have eg := getG_some (k := ks) q
      exact .inl ⟨_, DGet.t e e2, by rw [eg]; exact f.sh w (.bl _) h3⟩
    | _ => exact h.elim
  | _ => exact h.elim
end
section
variable {X : Cx} {K : PySem.W.Frag} {a b : Expr} {ta tb : WE} {pos : Pos}
theorem kAdd2 (hK : X.K = K := by rfl) : OpR X (binaryOp .Add) (fun x y H Q => rAddU K x y H Q ∨ rCatT K x y H Q) := by subst hK; exact op_addU.or op_catT
theorem q_add (ha : QE X K a ta) (hb : QE X K b tb) (hK : X.K = K := by rfl) : QE X K (.BinOp a .Add b pos) (wOp fAdd ta tb) := q_op (kAdd2 hK) br_add ha hb
theorem q_mul (ha : QE X K a ta) (hb : QE X K b tb) : QE X K (.BinOp a .Mult b pos) (wOp fMul ta tb) := q_op op_mulU br_mul ha hb
theorem q_div (ha : QE X K a ta) (hb : QE X K b tb) : QE X K (.BinOp a .FloorDiv b pos) (wOp fDiv ta tb) := q_op op_divU br_div ha hb
theorem q_mod (ha : QE X K a ta) (hb : QE X K b tb) : QE X K (.BinOp a .Mod b pos) (wOp fMod ta tb) := q_op op_modU br_mod ha hb
def fNeg : W1 := fun _ x Q => match x with
  | .int i => Q .sh (.int (-i))
  | _ => False
theorem br_neg : Br1 K (rU fun i => .int (-i)) fNeg := by
  intro Hs H m x v As Qd Qv w rx h f
  have r1 := rx.rep w
  cases r1 with
  | int i => exact ⟨i, rfl, f.sh w (.int _) h⟩
  | _ => exact h.elim
theorem q_neg (ha : QE X K a ta) : QE X K (.UnaryOp .USub a pos) (wUn fNeg ta) := q_un un_neg br_neg ha
end
end L2.Q

set_option Elab.async false
set_option linter.all false
set_option maxRecDepth 100000
set_option maxHeartbeats 4000000

namespace L2.Q
open PySem PySem.Spec PyProof.Rows

def wNil : WA := fun _ Q => Q []
def wCons (te : WE) (t : WA) : WA := fun ρ Q => te ρ fun m x => t ρ fun ps => Q ((m, x) :: ps)
def okSh : Md × D → Bool
  | (.sh, _) => true
  | (_, d) => d.flat
def okOw : Md × D → Bool
  | (.bo, d) => d.flat
  | _ => true
def okFl : Md × D → Bool
  | (.ow true, _) => true
  | (_, d) => d.flat
def tupMd (ps : List (Md × D)) : Md := bif ps.all okSh then .sh else bif ps.all okOw then .ow (ps.all okFl) else .bo
def lstMd (ps : List (Md × D)) : Md := bif ps.all okOw then .ow (ps.all okFl) else .bo
def wTup (t : WA) : WE := fun ρ Q => t ρ fun ps => ps.length ≤ sizeLine ∧ Q (tupMd ps) (.tup (ps.map (·.2)))
def wLst (t : WA) : WE := fun ρ Q => t ρ fun ps => ps.length ≤ sizeLine ∧ Q (lstMd ps) (.list (ps.map (·.2)))
section
variable {X : Cx} {K : PySem.W.Frag} {e : Expr} {es : List Expr} {te : WE} {t : WA} {pos : Pos} {Hs H : Hp}
theorem qa_nil : QA X K [] wNil := PA.imp pa_nil fun σ H Qv ⟨Hs, ρ, tot, Q, sr, h, f⟩ => f [] H Hs [] [] (Grow.refl sr.wf) .nil Fresh.nil h
theorem Fresh.app {Hs1 Hs2 H1 : Hp} {As Bs : List Addr} (f1 : Fresh Hs1 H As) (o : ∀ a ∈ As, H1 a ≠ none) (f2 : Fresh Hs2 H1 Bs) (s : Same H H1) (k : ∀ a, Hs1 a = none → H1 a ≠ none → Hs2 a = none) : Fresh Hs2 H (As ++ Bs) :=
  ⟨List.nodup_append.mpr ⟨f1.1, f2.1, fun a ha b hb e => by subst e; exact o a ha (f2.2 a hb).2⟩, fun a h => by
    rcases List.mem_append.mp h with h | h
    · exact ⟨k a (f1.2 a h).1 (o a h), (f1.2 a h).2⟩
    · exact ⟨(f2.2 a h).1, s.free (f2.2 a h).2⟩⟩
theorem qa_cons (ha : QE X K e te) (hr : QA X K es t) (hs : starEach (e :: es) X.env = (false, eval e X.env) :: starEach es X.env := by rfl) : QA X K (e :: es) (wCons te t) := by
  refine PA.imp (pa_cons ha hr hs) fun σ H Qv ⟨Hs, ρ, tot, Q, sr, h, f⟩ => ?_
  refine ⟨Hs, ρ, tot, _, sr, h, fun v H1 Hs1 m x As g1 r1 f1 q1 => ⟨Hs1, ρ, tot, _, sr.grow g1, q1, fun vs H2 Hs2 ps Bs g2 r2 f2 q2 => ?_⟩⟩
  exact f (v :: vs) H2 Hs2 _ _ (g1.trans g2) (.cons (r1.grow g2) r2) (f1.app (fun a h => (r1.own a h).ne) f2 g1.all fun a h1 h2 => g2.hsn h1 h2) q2
theorem RMs.sh (w : Wf Hs H) : ∀ {ps : List (Md × D)} {vs : List V} {As : List Addr}, RMs K Hs H ps vs As → ps.all okSh = true → Reps K Hs (ps.map (·.2)) vs
  | _, _, _, .nil, _ => .nil
  | (m, d) :: ps, _, _, .cons r rs, h => by
    simp only [List.all_cons, Bool.and_eq_true] at h
    refine .cons ?_ (RMs.sh w rs h.2)
    cases m with
    | sh => exact r.2
    | ow fl => exact r.flat w h.1
    | bo => exact r.flat w h.1
theorem RMs.ow {fl : Bool} (w : Wf Hs H) : ∀ {ps : List (Md × D)} {vs : List V} {As : List Addr}, RMs K Hs H ps vs As → ps.all okOw = true → (fl = true → ps.all okFl = true) → ∃ Bs, Bs.Sublist As ∧ (ps.all okSh = false → Bs ≠ []) ∧ RepOs K Hs H fl (ps.map (·.2)) vs Bs
  | _, _, _, .nil, _, _ => ⟨[], List.nil_sublist _, (fun z => nomatch z), .nil⟩
  | (m, d) :: ps, _, _, .cons (As := A1) r rs, h, hf => by
    simp only [List.all_cons, Bool.and_eq_true] at h hf
    obtain ⟨Bs, sb, ne, q⟩ := RMs.ow w rs h.2 fun z => (hf z).2
    cases m with
    | sh => exact ⟨[] ++ Bs, by simpa using sb.trans (List.sublist_append_right _ _), fun z => ne (by simpa [okSh] using z), .cons (.sh (fun z => (hf z).1) r.2) q⟩
    | bo => exact ⟨[] ++ Bs, by simpa using sb.trans (List.sublist_append_right _ _), fun z => ne (by rw [List.all_cons, show okSh (Md.bo, d) = true from h.1] at z; simpa using z), .cons (.sh (fun _ => h.1) (r.flat w h.1)) q⟩
    | ow b =>
      cases hd : d.flat with
      | true => exact ⟨[] ++ Bs, by simpa using sb.trans (List.sublist_append_right _ _), fun z => ne (by rw [List.all_cons, show okSh (Md.ow b, d) = true from hd] at z; simpa using z), .cons (.sh (fun _ => hd) (r.flat w hd)) q⟩
      | false =>
        refine ⟨A1 ++ Bs, sb.append_left _, fun _ z => r.2 (List.append_eq_nil_iff.mp z).1, .cons ?_ q⟩
        cases fl with
        | false => exact RepO.fls r.1
        | true =>
          have := (hf rfl).1
          cases b with
          | true => exact r.1
          | false => simp [okFl, hd] at this
theorem flats_sh : ∀ {ps : List (Md × D)}, flats (ps.map (·.2)) = true → ps.all okSh = true
  | [], _ => rfl
  | (m, d) :: ps, h => by
    simp only [List.map_cons, flats, Bool.and_eq_true] at h
    simp only [List.all_cons, Bool.and_eq_true]
    exact ⟨by cases m <;> simp [okSh, h.1], flats_sh h.2⟩
theorem q_tup {x1} (h : QA X K es t) : QE X K (.Tuple es x1 pos) (wTup t) := by
  refine PE.imp (pe_tup h) fun σ H Qv ⟨Hs, ρ, tot, Q, sr, h, f⟩ => ?_
  refine ⟨Hs, ρ, tot, _, sr, h, fun vs H1 Hs1 ps As g1 r1 f1 q1 => ?_⟩
  obtain ⟨hz, q⟩ := q1
  have rl := (r1.reps g1.wf)
  have hl := rl.length
  rw [List.length_map] at hl
  refine ⟨by omega, fun p hp => ?_⟩
  have g2 := newT (vs := vs) g1.wf hp
  have fin := Fin.after f g1
  unfold tupMd at q
  cases h1 : ps.all okSh with
  | true =>
    rw [h1] at q
    exact fin _ _ _ .sh _ [] g2 ⟨rfl, .tup (by omega) upd_same ((r1.sh g1.wf h1).same g2.sh)⟩ Fresh.nil q
  | false =>
    rw [h1] at q
    cases h2 : ps.all okOw with
    | false =>
      rw [h2] at q
      exact fin _ _ _ .bo _ [] g2 ⟨rfl, .tup (by omega) upd_same (rl.same g2.all)⟩ Fresh.nil q
    | true =>
      rw [h2] at q
      obtain ⟨Bs, sb, nz, ro⟩ := r1.ow (fl := ps.all okFl) g1.wf h2 fun z => z
      have hne : flats (ps.map (·.2)) = false := by
        cases hf : flats (ps.map (·.2)) with
        | false => rfl
        | true => rw [flats_sh hf] at h1; cases h1
      have own := ro.own
      refine f _ _ _ (.ow _) _ Bs (g1.trans g2) ⟨.tup (by omega) upd_same hne (ro.grow g2.sh g2.all), nz h1⟩ ⟨sb.nodup f1.1, fun a ha => ⟨?_, (f1.2 a (sb.subset ha)).2⟩⟩ q
      exact g2.hsn (f1.2 a (sb.subset ha)).1 (own a ha).ne
theorem q_lst (h : QA X K es t) : QE X K (.List es pos) (wLst t) := by
  refine PE.imp (pe_lst h) fun σ H Qv ⟨Hs, ρ, tot, Q, sr, h, f⟩ => ?_
  refine ⟨Hs, ρ, tot, _, sr, h, fun vs H1 Hs1 ps As g1 r1 f1 q1 => ?_⟩
  obtain ⟨hz, q⟩ := q1
  have rl := (r1.reps g1.wf)
  have hl := rl.length
  rw [List.length_map] at hl
  refine ⟨by omega, fun p hp => ?_⟩
  have g2 := newL (o := .lst vs) g1.wf hp fun _ z => nomatch z
  have fin := Fin.after f g1
  unfold lstMd at q
  cases h2 : ps.all okOw with
  | false =>
    rw [h2] at q
    exact fin _ _ _ .bo _ [] g2 ⟨rfl, .list (by omega) (.inl (.inl upd_same)) (rl.same g2.all)⟩ Fresh.nil q
  | true =>
    rw [h2] at q
    obtain ⟨Bs, sb, nz, ro⟩ := r1.ow (fl := ps.all okFl) g1.wf h2 fun z => z
    have own := ro.own
    refine f _ _ _ (.ow _) _ (p :: Bs) (g1.trans g2) ⟨.list (by omega) upd_same (ro.grow g2.sh g2.all), by simp⟩ ⟨List.nodup_cons.mpr ⟨fun m => (own p m).ne hp, sb.nodup f1.1⟩, fun a ha => ?_⟩ q
    rcases List.mem_cons.mp ha with rfl | ha
    · exact ⟨g1.wf.sub.free hp, g1.all.free hp⟩
    · exact ⟨g2.hsn (f1.2 a (sb.subset ha)).1 (own a ha).ne, (f1.2 a (sb.subset ha)).2⟩
end

theorem Reps.atI {K : PySem.W.Frag} {H : Hp} {ds : List D} {vs : List V} {i : Int} {d : D} (r : Reps K H ds vs) (h : atI ds i = some d) : ∃ v, L2.atI vs i = some v ∧ Rep K H d v := by
  unfold L2.atI at *
  rw [← r.length]
  cases e : ixN ds.length i with
  | none => rw [e] at h; cases h
  | some j =>
    rw [e] at h
    exact r.get h
def fIx : W2 := fun m x _ y Q => match x with
  | .list xs => match y with
    | .int i => ∃ d, atI xs i = some d ∧ onK d (f := fun d => Q (itm m d) d) ⟨⟩
    | _ => False
  | .tup xs => match y with
    | .int i => ∃ d, atI xs i = some d ∧ onK d (f := fun d => Q (itm m d) d) ⟨⟩
    | _ => False
  | .str z => match y with
    | .int i => ∃ c, atI z.cps.toList i = some c ∧ Q .sh (.str ⟨#[c]⟩)
    | _ => False
  | .dK kvs => ∃ k d, y.key1 = some k ∧ getG kvs k = some d ∧ onK d (f := fun d => Q (itm m d) d) ⟨⟩
  | .dT kvs => match y with
    | .tup ys => ∃ ks d, keys1 ys = some ks ∧ getG kvs ks = some d ∧ onK d (f := fun d => Q (itm m d) d) ⟨⟩
    | _ => False
  | _ => False
def rIxD (K : PySem.W.Frag) : R2 := fun x y H Q => rIxU K x y H Q ∨ ∃ a v, x = .ref a ∧ DGet H a y (some v) ∧ Q v H
theorem one_len (c : Nat) : (⟨#[c]⟩ : Str).length ≤ sizeLine := by show 1 ≤ sizeLine; decide
theorem RM.here {K : PySem.W.Frag} {Hs H : Hp} {m : Md} {d : D} {v : V} {As : List Addr} (w : Wf Hs H) (r : RM K Hs H m d v As) : (m = .sh ∧ Rep K Hs d v) ∨ (m ≠ .sh ∧ Rep K H d v) := by
  cases m with
  | sh => exact .inl ⟨rfl, r.2⟩
  | ow fl => exact .inr ⟨(fun z => nomatch z), r.rep w⟩
  | bo => exact .inr ⟨(fun z => nomatch z), r.2⟩
section
variable {X : Cx} {K : PySem.W.Frag}
theorem br_ix : Br2 K (rIxD K) fIx := by
  intro Hs H m x v As n y u Bs Qd Qv w rx ry h f
  have r2 := ry.rep w
  have core : ∀ G : Hp, Same G H → (∀ d v, Rep K G d v → Rep K H d v ∧ (m = .sh → Rep K Hs d v)) → Rep K G x v → rIxD K v u H Qv := by
    intro G sg up r1
    cases r1 with
    | list z s q =>
      cases r2 with
      | int i =>
        obtain ⟨d, e, h⟩ := h
        obtain ⟨v', e', r'⟩ := q.atI e
        obtain ⟨u1, u2⟩ := up _ _ r'
        exact .inl (.inl ⟨_, v', Same.seq sg s, e', f.itm w u1 u2 h⟩)
      | _ => exact h.elim
    | tup _ s q =>
      cases r2 with
      | int i =>
        obtain ⟨d, e, h⟩ := h
        obtain ⟨v', e', r'⟩ := q.atI e
        obtain ⟨u1, u2⟩ := up _ _ r'
        exact .inl (.inr ⟨_, v', .inl (.inl (sg _ _ s)), e', f.itm w u1 u2 h⟩)
      | _ => exact h.elim
    | str hz =>
      cases r2 with
      | int i =>
        obtain ⟨c, e, h⟩ := h
        exact .inl ⟨hz, c, e, f.sh w (.str (one_len c)) h⟩
      | _ => exact h.elim
    | dK kk s q =>
      obtain ⟨k, d, hk, hg, h⟩ := h
      have ev := r2.key hk
      subst ev
      have z := zip_get (k := k) q
      rw [hg] at z
      obtain ⟨v', e', r'⟩ := z
      obtain ⟨u1, u2⟩ := up _ _ r'
      exact .inr ⟨_, v', rfl, by rw [← e']; exact DGet.k (sg _ _ s), f.itm w u1 u2 h⟩
    | dT kk s q =>
      cases r2 with
      | tup t2 e2 q2 =>
        obtain ⟨ks, d, hk, hg, h⟩ := h
        obtain ⟨b, eb, e3⟩ := Rep.keyT (.tup t2 e2 q2) hk
        cases eb
        have z := zip_get (k := ks) q
        rw [hg] at z
        obtain ⟨v', e', r'⟩ := z
        obtain ⟨u1, u2⟩ := up _ _ r'
        exact .inr ⟨_, v', rfl, by rw [← e']; exact DGet.t (sg _ _ s) e3, f.itm w u1 u2 h⟩
      | _ => exact h.elim
    | _ => exact h.elim
  rcases rx.here w with ⟨hm, r⟩ | ⟨hm, r⟩
  · exact core Hs w.sub (fun d v q => And.intro (q.same w.sub) fun _ => q) r
  · exact core H (Same.refl H) (fun d v q => And.intro q fun z => absurd z hm) r
theorem kIxD (hu : X.A.units + 64 < cLine) (hK : X.K = K := by rfl) : IxR X (rIxD K) := by
  subst hK
  refine IxR.or ix_all ?_
  intro value slice pins s σ H x y v u Q I rx ry h hs
  obtain ⟨a, w, rfl, g, q⟩ := h
  cases rx
  exact tail_any (dict_typeIs I g) F.slot_dict_getitem.lookup (d_getItem (by omega) I g ry fun w' s3 I3 rw' => ⟨w, H, I3, rw', q⟩) hs
variable {a b : Expr} {ta tb : WE} {pos : Pos}
theorem q_ix (hu : X.A.units + 64 < cLine) (ha : QE X K a ta) (hb : QE X K b tb) (hs : PlainIx b := by exact fun _ _ => rfl) (hK : X.K = K := by rfl) : QE X K (.Subscript a b pos) (wOp fIx ta tb) := PE.imp (pe_ix (kIxD hu hK) ha hb hs) (op_lift br_ix)
end

def cutG {α : Type} (xs : List α) (lo hi : Option Int) : List α := (xs.drop (HT.sIx xs.length 0 lo)).take (HT.sIx xs.length xs.length hi - HT.sIx xs.length 0 lo)
abbrev WO := Env → (Option Int → Prop) → Prop
def wNoPart : WO := fun _ Q => Q none
def wPart (t : WE) : WO := fun ρ Q => t ρ fun _ x => match x with
  | .int i => Q (some i)
  | _ => False
def fSl (m : Md) (x : D) (lo hi : Option Int) (Q : Md → D → Prop) : Prop := match x with
  | .str z => Q .sh (.str (cutS z lo hi))
  | .list xs => (flats xs = true ∧ Q (.ow true) (.list (cutG xs lo hi))) ∨ (m = .sh ∧ Q (.ow false) (.list (cutG xs lo hi)))
  | .tup xs => flats xs = true ∧ ¬ (HT.sIx xs.length 0 lo = 0 ∧ HT.sIx xs.length xs.length hi = xs.length) ∧ Q .sh (.tup (cutG xs lo hi))
  | _ => False
def wSl (te : WE) (tl th : WO) : WE := fun ρ Q => te ρ fun m x => tl ρ fun lo => th ρ fun hi => fSl m x lo hi Q
def tpO (K : PySem.W.Frag) (t : WO) : TO := fun σ H Qv => ∃ Hs ρ tot Q, SRel K Hs ρ σ H tot ∧ t ρ Q ∧ ∀ o H' Hs', Grow Hs H Hs' H' → Q o → Qv o H'
abbrev QO (X : Cx) (K : PySem.W.Frag) (e : Option Expr) (t : WO) : Prop := PO X e (tpO K t)
theorem cutS_len (z : Str) (lo hi : Option Int) : (cutS z lo hi).length ≤ z.length := by
  unfold cutS Str.length
  simp only [List.size_toArray, List.length_take, List.length_drop, Array.length_toList]
  omega
theorem cutG_len {α : Type} (xs : List α) (lo hi : Option Int) : (cutG xs lo hi).length ≤ xs.length := by
  unfold cutG
  rw [List.length_take, List.length_drop]
  omega
theorem flats_cut {xs : List D} {lo hi : Option Int} (h : flats xs = true) : flats (cutG xs lo hi) = true := by
  rw [flats_iff] at *
  intro x hx
  exact h x (List.mem_of_mem_drop (List.mem_of_mem_take hx))
section
variable {X : Cx} {K : PySem.W.Frag} {e : Expr} {lo hi : Option Expr} {te : WE} {tl th : WO} {pos p2 : Pos}
theorem qo_none : QO X K none wNoPart := fun pins s σ H Q I h => po_none pins s σ H Q I (by
  obtain ⟨Hs, ρ, tot, Qd, sr, h, f⟩ := h
  exact f none H Hs (Grow.refl sr.wf) h)
theorem qo_some (h : QE X K e te) : QO X K (some e) (wPart te) := fun pins s σ H Q I hh => po_some h pins s σ H Q I (by
  obtain ⟨Hs, ρ, tot, Qd, sr, h, f⟩ := hh
  refine ⟨Hs, ρ, tot, _, sr, h, fun v H1 Hs1 m x As g1 r1 f1 q1 => ?_⟩
  have r := r1.rep g1.wf
  cases r with
  | int i => exact ⟨i, rfl, f _ H1 Hs1 g1 q1⟩
  | _ => exact q1.elim)
theorem cutV_reps {H : Hp} {ds : List D} {vs : List V} {lo hi : Option Int} (r : Reps K H ds vs) : Reps K H (cutG ds lo hi) (cutV vs lo hi) := by
  unfold cutG cutV
  rw [r.length]
  exact (r.drop _).take _
theorem kSl2 (hK : X.K = K := by rfl) : SlR X (fun x lo hi H Q => rSlS K x lo hi H Q ∨ rSlT K x lo hi H Q) := by
  subst hK
  intro pins s σ H x v vl vu lo hi sl Q I rx hs pl pu h
  rcases h with h | h
  · exact sl_all pins s σ H x v vl vu lo hi sl Q I rx hs pl pu h
  · exact sl_tup pins s σ H x v vl vu lo hi sl Q I rx hs pl pu h
theorem q_slice (he : QE X K e te) (hl : QO X K lo tl) (hh : QO X K hi th) (hK : X.K = K := by rfl) : QE X K (.Subscript e (.Slice lo hi none p2) pos) (wSl te tl th) := by
  refine PE.imp (pe_slice (kSl2 hK) he hl hh) fun σ H Qv ⟨Hs, ρ, tot, Q, sr, h, f⟩ => ?_
  refine ⟨Hs, ρ, tot, _, sr, h, fun v H1 Hs1 m x As g1 r1 f1 q1 => ⟨Hs1, ρ, tot, _, sr.grow g1, q1, fun l H2 Hs2 g2 q2 => ⟨Hs2, ρ, tot, _, (sr.grow g1).grow g2, q2, fun u H3 Hs3 g3 q3 => ?_⟩⟩⟩
  have r3 := (r1.grow g2).grow g3
  have fin : Fin K Hs3 H3 Q Qv := Fin.after f ((g1.trans g2).trans g3)
  have rr := r3.rep g3.wf
  cases rr with
  | str hz => exact .inl ⟨hz, fin.sh g3.wf (.str (Nat.le_trans (cutS_len _ _ _) hz)) q3⟩
  | list z s q =>
    have hz := q.length
    rcases q3 with ⟨hf, q3⟩ | ⟨rfl, q3⟩
    · exact .inl ⟨_, s, fin.lst g3.wf (Nat.le_trans (cutG_len _ _ _) (by omega)) (cutV_reps q) (flats_cut hf) q3⟩
    · obtain ⟨_, r3⟩ := r3
      cases r3 with
      | list z' s' q' =>
        have hz := q'.length
        exact .inl ⟨_, Same.seq g3.wf.sub s', fin.lstS g3.wf (Nat.le_trans (cutG_len _ _ _) (by omega)) (cutV_reps q') q3⟩
  | tup z s q =>
    have hz := q.length
    obtain ⟨hf, hn, q3⟩ := q3
    exact .inr ⟨_, _, rfl, .inl (.inl s), by rw [← hz]; exact hn, fin.tup g3.wf (Nat.le_trans (cutG_len _ _ _) (by omega)) (cutV_reps q) (flats_cut hf) q3⟩
  | _ => exact q3.elim
end

def fLen : W1 := fun _ x Q => match x with
  | .str z => Q .sh (.int z.length)
  | .list xs => Q .sh (.int xs.length)
  | .tup xs => Q .sh (.int xs.length)
  | .dK kvs => Q .sh (.int kvs.length)
  | .dT kvs => Q .sh (.int kvs.length)
  | _ => False
def fIsi (T : String) : W1 := fun _ x Q => Q .sh (.bl (isiT x.ty T))
def BrC (K : PySem.W.Frag) (r : List V → Hp → VK → Prop) (f : W1) : Prop := ∀ Hs H m x v As Qd Qv, Wf Hs H → RM K Hs H m x v As → f m x Qd → Fin K Hs H Qd Qv → r [v] H Qv
section
variable {X : Cx} {K : PySem.W.Frag} {e e2 : Expr} {te : WE} {pos p : Pos} {x : Str} {id T : String}
theorem call1_lift {r : List V → Hp → VK → Prop} {f : W1} (br : BrC K r f) (σ : St) (H : Hp) (Qv : VK) (h : tpE K (wUn f te) σ H Qv) : tCB r (tCons (tpE K te) tNil) σ H Qv := by
  obtain ⟨Hs, ρ, tot, Q, sr, h, fin⟩ := h
  exact ⟨Hs, ρ, tot, _, sr, h, fun v H1 Hs1 m x As g1 r1 f1 q1 => br Hs1 H1 m x v As Q Qv g1.wf r1 q1 (Fin.after fin g1)⟩
theorem q_callB {r : List V → Hp → VK → Prop} {f : W1} (hc : CallR X (.builtin id) r) (br : BrC K r f) (hg : Gl X x) (hm : X.mg x = none) (hv : bootBuiltins x = some (.builtin id)) (he : QE X K e te)
    (hs : starEach [e] X.env = (false, eval e X.env) :: starEach [] X.env := by rfl) (hn : x ≠ "__name__" := by decide) (hdb : (x == ("__debug__" : Str)) = false := by decide) : QE X K (.Call (.Name x p) [e] [] pos) (wUn f te) :=
  PE.imp (pe_callB hc hg hm hv (pa_cons he pa_nil hs) hn hdb hs) (call1_lift br)
theorem q_callTy {r : List V → Hp → VK → Prop} {f : W1} (hc : CallR X (.type T) r) (br : BrC K r f) (hg : Gl X x) (hm : X.mg x = none) (hv : bootBuiltins x = some (.type T)) (he : QE X K e te)
    (hs : starEach [e] X.env = (false, eval e X.env) :: starEach [] X.env := by rfl) (hn : x ≠ "__name__" := by decide) (hdb : (x == ("__debug__" : Str)) = false := by decide) : QE X K (.Call (.Name x p) [e] [] pos) (wUn f te) :=
  PE.imp (pe_callTy hc hg hm hv (pa_cons he pa_nil hs) hn hdb hs) (call1_lift br)
theorem len_raw {prog : Program} {w : World} {A : Around} {E : Value → Shared → Prop} {s : Shared} {d : Addr} {es : Ents} {ep : Nat} {Q : Value → Shared → Prop} (hd : (d == sysModules) = false) (x : RawD s.heap d es ep) (hfit : (es.size : Int) < 2 ^ 63)
    (h : ∀ t t', Q (.int es.size t) { s with toks := t' }) : wpAny (model prog w) A (call (.builtin "len") [.ref d]) Q E s := by
  refine Calls.call_function_entry kind_len plain_len entry_len (args_len1 _) ?_
  have mt : MeetsIn prog w (Builtin.«dict.__len__» ⟨[.ref d], []⟩) (fun _ R s => RawD s.heap d es ep ∧ R (.ok (.ret (.int es.size s.toks))) { s with toks := s.toks + 1 }) := .of_wp fun A R s ⟨hm, h⟩ => by
    obtain ⟨o, ho, hc, hdat⟩ := hm
    show wpAny _ _ (dictSize d >>= _) _ _ s
    unfold dictSize
    refine wpAny_bind (wpAny_bind (wpAny_dictEntries ho hdat (wpAny_pure ?_)))
    show wpAny _ _ (Builtin.Dict.pendingCount d >>= _) _ _ s
    refine wpAny_bind (wpAny_pendingCount_other hd ?_)
    refine wpAny_ret_mkInt ?_
    rw [Nat.add_zero]; exact h
  unfold Builtin.«len»
  refine wpAny_bind (m := oneArg "len" _) (wpAny_pure ?_)
  refine wpAny_bind (m := callSpecial? (.ref d) (Str.ofString "__len__")) (wpAny_callSpecial?_slot (name := Str.ofString "__len__") x.typ F.slot_dict_len
    (call_meetsIn F.slot_dict_len x.typ F.entry_dict_len (F.args_dict_len_1 _) mt ⟨x, ?_⟩))
  show wpAny _ _ _ _ _ { s with toks := s.toks + 1 }
  refine wpAny_bind (wpAny_holding (wpAny_pure ?_))
  refine wpAny_bind (wpAny_letGo ?_)
  show wpAny _ _ (if ((es.size : Nat) : Int) < 0 then _ else _) _ _ _
  rw [if_neg (by omega)]
  show wpAny _ _ (if ((es.size : Nat) : Int) ≥ 2 ^ 63 then _ else _) _ _ _
  rw [if_neg (by omega)]
  exact wpAny_bind (wpAny_mkInt (wpAny_pure ⟨_, rfl, h _ _⟩))
theorem call_lenD2 (hK : X.K = K := by rfl) : CallR X (.builtin "len") (fun xs H Q => rLen K xs H Q ∨ ∃ a kvs, xs = [.ref a] ∧ H a = some (.dT kvs) ∧ Q (.int kvs.length) H) := by
  subst hK
  intro pins s σ H xs us Q I r h
  rcases h with h | ⟨a, kvs, rfl, ha, q⟩
  · exact call_lenU pins s σ H xs us Q I r h
  · obtain ⟨u, rfl, ru⟩ := Vals.one r
    cases ru
    obtain ⟨z, hd, ys, rel, o, es, ep, h1, h2, h3, h4, h5⟩ := (show ObjOk X.prog X.w H s.heap a (.dT kvs) from I.hok a _ ha)
    have hl : es.size = kvs.length := by
      have := congrArg List.length h4
      rw [Array.length_toList, List.length_map] at this
      rw [this]; exact rel.length.symm
    exact len_raw hd ⟨o, h1, h2, h3⟩ (by rw [sizeLine_eq] at z; omega) fun t t' => ⟨.int kvs.length, H, I.tok _, ⟨t, by rw [hl]⟩, q⟩
theorem br_len : BrC K (fun xs H Q => rLen K xs H Q ∨ ∃ a kvs, xs = [.ref a] ∧ H a = some (.dT kvs) ∧ Q (.int kvs.length) H) fLen := by
  intro Hs H m x v As Qd Qv w rx h f
  have r1 := rx.rep w
  cases r1 with
  | str hz => exact .inl ⟨hz, f.sh w (.int _) h⟩
  | list z s q => exact .inl (.inl ⟨_, s, by rw [← q.length]; exact f.sh w (.int _) h⟩)
  | tup _ s q => exact .inl (.inr (.inl ⟨_, .inl (.inl s), by rw [← q.length]; exact f.sh w (.int _) h⟩))
  | dK kk s q => exact .inl (.inr (.inr ⟨_, s, by
      have := q.length
      rw [List.length_map] at this
      rw [List.length_zip, List.length_map, ← this, Nat.min_self]
      exact f.sh w (.int _) h⟩))
  | dT kk s q => exact .inr ⟨_, _, rfl, s, by
      have := q.length
      rw [List.length_map] at this
      rw [List.length_zip, List.length_map, ← this, Nat.min_self]
      exact f.sh w (.int _) h⟩
  | _ => exact h.elim
end
end L2.Q

set_option Elab.async false
set_option linter.all false
set_option maxRecDepth 100000
set_option maxHeartbeats 4000000

namespace L2.Q
open PySem PySem.Spec PyProof.Rows

section
variable {X : Cx} {K : PySem.W.Frag} {e e2 : Expr} {te : WE} {pos p : Pos} {T : String}
theorem call_isiD (hK : X.K = K := by rfl) : CallR X (.builtin "isinstance") (fun xs H Q => ∃ x d T, xs = [x, .ty T] ∧ Rep K H d x ∧ okTy T = true ∧ Q (.bl (isiT d.ty T)) H) := by
  subst hK
  intro pins s σ H xs us Q I r h
  obtain ⟨x, d, T, rfl, rd, hT, q⟩ := h
  obtain ⟨u, v, rfl, ru, rv⟩ := Vals.two r
  obtain rfl : v = Value.type T := rv
  have hb : T ∈ ["str", "int", "bool", "list", "tuple", "dict"] := by simpa [okTy] using hT
  have fin : ∀ tk, EP X pins σ Q (.bool (isiT d.ty T)) { s with toks := tk } := fun tk => ⟨.bl (isiT d.ty T), H, I.tok tk, rfl, q⟩
  cases rd with
  | non => exact isinst_ok I ru .non (kit_ok X.K _ T (by simp) hb) fin
  | bl b => exact isinst_ok I ru (.bl b) (kit_ok X.K _ T (by simp) hb) fin
  | int i => exact isinst_ok I ru (.int i) (kit_ok X.K _ T (by simp) hb) fin
  | str y => exact isinst_ok I ru (.str _) (kit_ok X.K _ T (by simp) hb) fin
  | list z s' q' =>
    cases ru
    obtain ⟨its, _, pl, _⟩ := I.list s'
    obtain ⟨o, h1, h2, _⟩ := pl.isList
    exact PySem.W.kia_one PySem.W.kitx_list I.kIn ⟨o, h1, h2⟩ (kit_ok X.K "list" T (by simp) hb) (fun z => nomatch z) fin
  | tup _ s' q' => exact isinst_ok I ru (.tup s') (kit_ok X.K _ T (by simp) hb) fin
  | dK _ s' q' => exact isinst_ok I ru (.dK s') (kit_ok X.K _ T (by simp) hb) fin
  | dT _ s' q' => exact isinst_ok I ru (.dT s') (kit_ok X.K _ T (by simp) hb) fin
theorem q_isi (hm : X.mg "isinstance" = none) (he : QE X K e te) (ht : PE X e2 (tC (.ty T))) (hT : okTy T = true := by rfl) (hg : Gl X "isinstance" := by rfl) (hK : X.K = K := by rfl)
    (hs : starEach (e :: [e2]) X.env = (false, eval e X.env) :: starEach [e2] X.env := by rfl) (hs2 : starEach (e2 :: []) X.env = (false, eval e2 X.env) :: starEach [] X.env := by rfl) (hpl : (backTo pos (starEach [e2] X.env)).any (·.1) = false := by rfl) :
    QE X K (.Call (.Name "isinstance" p) [e, e2] [] pos) (wUn (fIsi T) te) := by
  refine PE.imp (pe_callB (call_isiD hK) hg hm kb_isinstance (pa_cons he (pa_cons ht pa_nil hs2) hs) (by decide) (by decide) hs hpl) fun σ H Qv ⟨Hs, ρ, tot, Q, sr, h, f⟩ => ?_
  refine ⟨Hs, ρ, tot, _, sr, h, fun v H1 Hs1 m x As g1 r1 f1 q1 => ⟨v, x, T, rfl, r1.rep g1.wf, hT, Fin.sh (Fin.after f g1) g1.wf (.bl _) q1⟩⟩
theorem truV_of {H : Hp} {d : D} {v : V} {b : Bool} (r : Rep K H d v) (h : truD d = some b) : TruV K v H b := by
  cases r with
  | non => cases h; rfl
  | bl b => cases h; rfl
  | int i => cases h; rfl
  | str hz =>
    cases h
    exact ⟨hz, rfl⟩
  | list z s q =>
    cases h
    refine .inl ⟨_, s, ?_⟩
    cases q <;> rfl
  | tup _ s q =>
    cases h
    refine .inr (.inl ⟨_, .inl (.inl s), ?_⟩)
    cases q <;> rfl
  | @dK _ _ kvs _ s q =>
    cases h
    refine .inr (.inr ⟨_, s, ?_⟩)
    cases kvs with
    | nil => rfl
    | cons p kvs =>
      simp only [List.map_cons] at q ⊢
      cases q
      rfl
  | dT _ s q => cases h
theorem q_truth (ha : QE X K e te) (he : ∀ whole, isTrue e X.env whole = (do let v ← whole; standAt e.pos; holding [v] (truthy v)) := by intro _; rfl) (hK : X.K = K := by rfl) : QT X K e (wTru te) := by
  subst hK
  refine PT.imp (pt_truth ha he) fun σ H Qv ⟨Hs, ρ, tot, Q, sr, h, f⟩ => ?_
  refine ⟨Hs, ρ, tot, _, sr, h, fun v H1 Hs1 m x As g1 r1 f1 q1 => ?_⟩
  obtain ⟨b, hb, q⟩ := q1
  exact ⟨b, truV_of (r1.rep g1.wf) hb, f b H1 Hs1 g1 q⟩
end
def keyD : Key → D
  | .inl i => .int i
  | .inr x => .str x
def fList : W1 := fun m x Q => match x with
  | .list xs => (flats xs = true ∧ Q (.ow true) (.list xs)) ∨ (m = .sh ∧ Q (.ow false) (.list xs))
  | .tup xs => (flats xs = true ∧ Q (.ow true) (.list xs)) ∨ (m = .sh ∧ Q (.ow false) (.list xs))
  | .dT kvs => Q (.ow true) (.list (kvs.map fun kv => .tup (kv.1.map keyD)))
  | _ => False

section
variable {X : Cx} {K : PySem.W.Frag}
theorem keys_rep {H : Hp} : ∀ {ks : List Key}, (∀ k ∈ ks, kOk k = true) → Reps K H (ks.map keyD) (ks.map kV)
  | [], _ => .nil
  | k :: ks, h => by
    refine .cons ?_ (keys_rep fun j m => h j (List.mem_cons_of_mem _ m))
    have := h k List.mem_cons_self
    cases k with
    | inl i => exact .int i
    | inr x => exact .str (by simpa [kOk] using this)
theorem keys_flat : ∀ (ks : List Key), flats (ks.map keyD) = true
  | [] => rfl
  | k :: ks => by simp only [List.map_cons, flats, keys_flat ks, Bool.and_true]; cases k <;> rfl
theorem tups_rep {H : Hp} : ∀ {ks : List (List Key)} {ys : List V}, TupsAt H ys ks → (∀ l ∈ ks, l.length ≤ sizeLine ∧ ∀ k ∈ l, kOk k = true) → Reps K H (ks.map fun l => .tup (l.map keyD)) ys
  | _, _, .nil, _ => .nil
  | _ :: _, _, .cons r t, h => by
    obtain ⟨b, rfl, e⟩ := r
    exact .cons (.tup (by rw [List.length_map]; exact (h _ List.mem_cons_self).1) e (keys_rep (h _ List.mem_cons_self).2)) (tups_rep t fun l m => h l (List.mem_cons_of_mem _ m))
theorem tups_flat : ∀ (ks : List (List Key)), flats (ks.map fun l => .tup (l.map keyD)) = true
  | [] => rfl
  | l :: ks => by simp only [List.map_cons, flats, tups_flat ks, Bool.and_true, D.flat, keys_flat]
theorem call_list2 (hc : X.calm = true := by rfl) (hK : X.K = K := by rfl) : CallR X (.type "list") (fun xs H Q => (∃ p ys, xs = [.ref p] ∧ (SqL K H p ys ∨ SqT K H p ys) ∧ ∀ l, H l = none → Q (.ref l) (upd H l (.lst ys))) ∨ rListD xs H Q) := by
  subst hK; exact call_list_of.or (call_listD hc)
theorem br_list : BrC K (fun xs H Q => (∃ p ys, xs = [.ref p] ∧ (SqL K H p ys ∨ SqT K H p ys) ∧ ∀ l, H l = none → Q (.ref l) (upd H l (.lst ys))) ∨ rListD xs H Q) fList := by
  intro Hs H m x v As Qd Qv w rx h f
  have r1 := rx.rep w
  cases r1 with
  | list z s q =>
    have hl := q.length
    rcases h with ⟨hf, h⟩ | ⟨rfl, h⟩
    · exact .inl ⟨_, _, rfl, .inl s, f.lst w (by omega) q hf h⟩
    · obtain ⟨_, rx⟩ := rx
      cases rx with
      | list z' s' q' =>
        have hl := q'.length
        exact .inl ⟨_, _, rfl, .inl (Same.seq w.sub s'), f.lstS w (by omega) q' h⟩
  | tup z s q =>
    have hl := q.length
    rcases h with ⟨hf, h⟩ | ⟨rfl, h⟩
    · exact .inl ⟨_, _, rfl, .inr (.inl (.inl s)), f.lst w (by omega) q hf h⟩
    · obtain ⟨_, rx⟩ := rx
      cases rx with
      | tup z' s' q' =>
        have hl := q'.length
        exact .inl ⟨_, _, rfl, .inr (.inl (.inl (w.sub _ _ s'))), f.lstS w (by omega) q' h⟩
  | @dT _ vs kvs kk s q =>
    refine .inr ⟨_, s, fun ys l ht hl => ?_⟩
    have hlen := q.length
    rw [List.length_map] at hlen
    have e : ((kvs.map (·.1)).zip vs).map (·.1) = kvs.map (·.1) := List.map_fst_zip (by rw [List.length_map]; exact Nat.le_of_eq hlen)
    rw [e] at ht
    have rr := tups_rep (K := K) ht (fun l m => by
      obtain ⟨p, hp, rfl⟩ := List.mem_map.mp m
      exact kk.2 p hp)
    have ff := tups_flat (kvs.map (·.1))
    rw [List.map_map] at rr ff
    exact f.lst w (by rw [List.length_map]; exact kk.1) rr ff h l hl
  | _ => exact h.elim
end
end L2.Q

set_option Elab.async false
set_option linter.all false
set_option maxRecDepth 100000
set_option maxHeartbeats 4000000

namespace L2.Q
open PySem PySem.Spec PyProof.Rows

section
variable {K : PySem.W.Frag} {Hs H : Hp}
theorem SR.set_sh {d : D} {v : V} (r : Rep K Hs d v) : ∀ {ρ : Env} {σ : St} {tot : List Addr} (i : Nat), SR K Hs H ρ σ tot → ∃ tot', tot'.Sublist tot ∧ SR K Hs H (ρ.set i (some (.sh d))) (σ.set i (some v)) tot'
  | _, _, _, _, .nil => ⟨[], List.nil_sublist _, .nil⟩
  | _, _, _, 0, .non s => ⟨_, List.Sublist.refl _, .sh r s⟩
  | _, _, _, 0, .sh _ s => ⟨_, List.Sublist.refl _, .sh r s⟩
  | _, _, _, 0, .ow _ _ s => ⟨_, List.sublist_append_right _ _, .sh r s⟩
  | _, _, _, 0, .lk _ _ s => ⟨_, List.sublist_append_right _ _, .sh r s⟩
  | _, _, _, i + 1, .non s => let ⟨t, a, b⟩ := SR.set_sh r i s; ⟨t, a, .non b⟩
  | _, _, _, i + 1, .sh q s => let ⟨t, a, b⟩ := SR.set_sh r i s; ⟨t, a, .sh q b⟩
  | _, _, _, i + 1, .ow ne q s => let ⟨t, a, b⟩ := SR.set_sh r i s; ⟨_, a.append_left _, .ow ne q b⟩
  | _, _, _, i + 1, .lk ne q s => let ⟨t, a, b⟩ := SR.set_sh r i s; ⟨_, a.append_left _, .lk ne q b⟩
theorem SR.set_ow {d : D} {v : V} {fl : Bool} {As : List Addr} (ne : As ≠ []) (r : RepO K Hs H fl d v As) (nd : As.Nodup) : ∀ {ρ : Env} {σ : St} {tot : List Addr} (i : Nat), SR K Hs H ρ σ tot → tot.Nodup → (∀ a ∈ As, a ∉ tot) →
    ∃ tot', tot'.Nodup ∧ (∀ a ∈ tot', a ∈ tot ∨ a ∈ As) ∧ SR K Hs H (ρ.set i (some (.ow fl d))) (σ.set i (some v)) tot'
  | _, _, _, _, .nil, n, _ => ⟨[], List.nodup_nil, (fun a h => nomatch h), .nil⟩
  | _, _, tot, 0, .non s, n, dj => ⟨As ++ tot, List.nodup_append.mpr ⟨nd, n, fun a ha b hb e => by subst e; exact dj a ha hb⟩, fun a h => (List.mem_append.mp h).symm, .ow ne r s⟩
  | _, _, tot, 0, .sh _ s, n, dj => ⟨As ++ tot, List.nodup_append.mpr ⟨nd, n, fun a ha b hb e => by subst e; exact dj a ha hb⟩, fun a h => (List.mem_append.mp h).symm, .ow ne r s⟩
  | _, _, _, 0, .ow (tot := t2) (As := B) _ _ s, n, dj => ⟨As ++ t2, List.nodup_append.mpr ⟨nd, (List.nodup_append.mp n).2.1, fun a ha b hb e => by subst e; exact dj a ha (List.mem_append_right _ hb)⟩,
      fun a h => (List.mem_append.mp h).symm.imp (fun z => List.mem_append_right _ z) fun z => z, .ow ne r s⟩
  | _, _, _, 0, .lk (tot := t2) (As := B) _ _ s, n, dj => ⟨As ++ t2, List.nodup_append.mpr ⟨nd, (List.nodup_append.mp n).2.1, fun a ha b hb e => by subst e; exact dj a ha (List.mem_append_right _ hb)⟩,
      fun a h => (List.mem_append.mp h).symm.imp (fun z => List.mem_append_right _ z) fun z => z, .ow ne r s⟩
  | _, _, _, i + 1, .non s, n, dj => let ⟨t, a, b, c⟩ := SR.set_ow ne r nd i s n dj; ⟨t, a, b, .non c⟩
  | _, _, _, i + 1, .sh q s, n, dj => let ⟨t, a, b, c⟩ := SR.set_ow ne r nd i s n dj; ⟨t, a, b, .sh q c⟩
  | _, _, _, i + 1, .ow (tot := t2) (As := B) ne' q s, n, dj => by
    obtain ⟨n1, n2, n3⟩ := List.nodup_append.mp n
    obtain ⟨t, a, b, c⟩ := SR.set_ow ne r nd i s n2 fun a ha m => dj a ha (List.mem_append_right _ m)
    refine ⟨B ++ t, List.nodup_append.mpr ⟨n1, a, fun x hx y hy e => ?_⟩, fun x hx => ?_, .ow ne' q c⟩
    · subst e
      rcases b x hy with z | z
      · exact n3 x hx x z rfl
      · exact dj x z (List.mem_append_left _ hx)
    · rcases List.mem_append.mp hx with z | z
      · exact .inl (List.mem_append_left _ z)
      · exact (b x z).imp (fun z => List.mem_append_right _ z) fun z => z
  | _, _, _, i + 1, .lk (tot := t2) (As := B) ne' q s, n, dj => by
    obtain ⟨n1, n2, n3⟩ := List.nodup_append.mp n
    obtain ⟨t, a, b, c⟩ := SR.set_ow ne r nd i s n2 fun a ha m => dj a ha (List.mem_append_right _ m)
    refine ⟨B ++ t, List.nodup_append.mpr ⟨n1, a, fun x hx y hy e => ?_⟩, fun x hx => ?_, .lk ne' q c⟩
    · subst e
      rcases b x hy with z | z
      · exact n3 x hx x z rfl
      · exact dj x z (List.mem_append_left _ hx)
    · rcases List.mem_append.mp hx with z | z
      · exact .inl (List.mem_append_left _ z)
      · exact (b x z).imp (fun z => List.mem_append_right _ z) fun z => z
def asg : Md → D → Option Sl
  | .sh, d => some (.sh d)
  | .ow fl, d => some (.ow fl d)
  | .bo, d => bif d.flat then some (.sh d) else none
theorem SRel.set {ρ : Env} {σ : St} {tot As : List Addr} {m : Md} {d : D} {v : V} {sl : Sl} (i : Nat) (s : SRel K Hs ρ σ H tot) (r : RM K Hs H m d v As) (nd : As.Nodup) (dj : ∀ a ∈ As, Hs a = none ∧ a ∉ tot) (e : asg m d = some sl) :
    ∃ tot', SRel K Hs (ρ.set i (some sl)) (σ.set i (some v)) H tot' := by
  have shc : Rep K Hs d v → ∃ tot', SRel K Hs (ρ.set i (some (.sh d))) (σ.set i (some v)) H tot' := fun r => by
    obtain ⟨t, a, b⟩ := s.sr.set_sh r i
    exact ⟨t, b, s.wf, a.nodup s.nod, fun x hx => s.own x (a.subset hx)⟩
  cases m with
  | sh => cases e; exact shc r.2
  | ow fl =>
    cases e
    obtain ⟨t, a, b, c⟩ := SR.set_ow r.2 r.1 nd i s.sr s.nod fun a ha => (dj a ha).2
    exact ⟨t, c, s.wf, a, fun x hx => (b x hx).elim (s.own x) fun z => (dj x z).1⟩
  | bo =>
    cases hf : d.flat with
    | true =>
      simp only [asg, hf, cond_true, Option.some.injEq] at e
      subst e
      exact shc (r.flat s.wf hf)
    | false => simp [asg, hf] at e
end

section
variable {X : Cx} {K : PySem.W.Frag} {e c : Expr} {te : WE} {tc : WT} {pos : Pos} {st : Stmt} {a b rest : List Stmt} {t u : WS}
theorem PS.imp {te te' : TS} (h : PS X st te) (i : ∀ D σ H, te' D σ H → te D σ H) : PS X st te' := fun pins s σ H D I q => h pins s σ H D I (i D σ H q)
theorem PSs.imp {te te' : TS} (h : PSs X a te) (i : ∀ D σ H, te' D σ H → te D σ H) : PSs X a te' := fun pins s σ H D I q => h pins s σ H D I (i D σ H q)
def wNext : WS := fun E ρ => E.nx ρ
def wSeq (t u : WS) : WS := fun E ρ => t { E with nx := u E } ρ
def wRet (te : WE) : WS := fun E ρ => te ρ E.rt
def wSet (i : Nat) (te : WE) : WS := fun E ρ => te ρ fun m d => match asg m d with
  | some sl => E.nx (ρ.set i (some sl))
  | none => False
def wIfS (c : WT) (t u : WS) : WS := fun E ρ => c ρ fun b => if b = true then t E ρ else u E ρ
theorem qss_nil : QSs X K [] wNext := PSs.imp pss_nil fun D σ H ⟨Hs, ρ, tot, E, sr, h, k1, _⟩ => k1 σ H Hs ρ tot (Same.refl _) sr h
theorem seq_lift {D : Ends} {σ : St} {H : Hp} (h : tpS K (wSeq t u) D σ H) : tSeq (tpS K t) (tpS K u) D σ H := by
  obtain ⟨Hs, ρ, tot, E, sr, h, k1, k2, k3, k4⟩ := h
  refine ⟨Hs, ρ, tot, { E with nx := u E }, sr, h, fun σ' H' Hs' ρ' tot' s sr' q => ?_, k2, k3, k4⟩
  exact ⟨Hs', ρ', tot', E, sr', q, fun σ2 H2 Hs2 ρ2 tot2 s2 => k1 σ2 H2 Hs2 ρ2 tot2 (s.trans s2), fun σ2 H2 Hs2 ρ2 tot2 s2 => k2 σ2 H2 Hs2 ρ2 tot2 (s.trans s2), fun σ2 H2 Hs2 ρ2 tot2 s2 => k3 σ2 H2 Hs2 ρ2 tot2 (s.trans s2),
    fun v H2 Hs2 m d As s2 => k4 v H2 Hs2 m d As (s.trans s2)⟩
theorem qss_cons (h1 : QS X K st t) (h2 : QSs X K rest u) : QSs X K (st :: rest) (wSeq t u) := PSs.imp (pss_cons h1 h2) fun D σ H h => seq_lift h
theorem qss_one (h1 : QS X K st t) : QSs X K [st] t := pss_one h1
theorem qs_ret (he : QE X K e te) : QS X K (.Return (some e) pos) (wRet te) := PS.imp (ps_ret he) fun D σ H ⟨Hs, ρ, tot, E, sr, h, k1, k2, k3, k4⟩ =>
  ⟨Hs, ρ, tot, _, sr, h, fun v H1 Hs1 m d As g1 r1 f1 q1 => k4 v H1 Hs1 m d As g1.sh g1.wf r1 f1.1 (fun a ha => (f1.2 a ha).1) q1⟩
def wRetV (i : Nat) : WS := fun E ρ => match ρ[i]? with
  | some (some (.sh d)) => E.rt .sh d
  | some (some (.ow fl d)) => E.rt (.ow fl) d
  | _ => False
theorem SR.at : ∀ {ρ : Env} {σ : St} {tot : List Addr} {i : Nat} {fl : Bool} {d : D} {Hs H : Hp}, SR K Hs H ρ σ tot → ρ[i]? = some (some (.ow fl d)) → ∃ v As, σ[i]? = some (some v) ∧ As ≠ [] ∧ RepO K Hs H fl d v As ∧ As.Sublist tot
  | _, _, _, _, _, _, _, _, .nil, e => by simp at e
  | _, _, _, 0, _, _, _, _, .non s, e => by simp at e
  | _, _, _, 0, _, _, _, _, .sh r s, e => by simp at e
  | _, _, _, 0, _, _, _, _, .ow ne r s, e => by simp at e; obtain ⟨rfl, rfl⟩ := e; exact ⟨_, _, rfl, ne, r, List.sublist_append_left _ _⟩
  | _, _, _, 0, _, _, _, _, .lk ne r s, e => by simp at e
  | _, _, _, i + 1, _, _, _, _, .non s, e => by
    obtain ⟨v, As, a, b, c, d⟩ := SR.at (i := i) s (by simpa using e)
    exact ⟨v, As, by simpa using a, b, c, d⟩
  | _, _, _, i + 1, _, _, _, _, .sh _ s, e => by
    obtain ⟨v, As, a, b, c, d⟩ := SR.at (i := i) s (by simpa using e)
    exact ⟨v, As, by simpa using a, b, c, d⟩
  | _, _, _, i + 1, _, _, _, _, .ow _ _ s, e => by
    obtain ⟨v, As, a, b, c, d⟩ := SR.at (i := i) s (by simpa using e)
    exact ⟨v, As, by simpa using a, b, c, d.trans (List.sublist_append_right _ _)⟩
  | _, _, _, i + 1, _, _, _, _, .lk _ _ s, e => by
    obtain ⟨v, As, a, b, c, d⟩ := SR.at (i := i) s (by simpa using e)
    exact ⟨v, As, by simpa using a, b, c, d.trans (List.sublist_append_right _ _)⟩
theorem qs_retV {i : Nat} (he : PE X e (tVar i)) : QS X K (.Return (some e) pos) (wRetV i) := PS.imp (ps_ret he) fun D σ H ⟨Hs, ρ, tot, E, sr, h, k1, k2, k3, k4⟩ => by
  unfold wRetV at h
  split at h
  · rename_i d e1
    obtain ⟨v, e2, r⟩ := sr.sr.get e1
    exact ⟨v, e2, k4 v H Hs .sh d [] (Same.refl _) sr.wf ⟨rfl, r⟩ List.nodup_nil (fun a ha => nomatch ha) h⟩
  · rename_i fl d e1
    obtain ⟨v, As, e2, ne, r, sb⟩ := sr.sr.at e1
    exact ⟨v, e2, k4 v H Hs (.ow fl) d As (Same.refl _) sr.wf ⟨r, ne⟩ (sb.nodup sr.nod) (fun a ha => sr.own a (sb.subset ha)) h⟩
  · exact h.elim
theorem qs_set {i : Nat} {x : Str} {pos' : Pos} (hN : X.N.Nodup) (hi : X.N[i]? = some x) (hx : Loc X.env.scope x) (he : QE X K e te) (hs : swapsWith e (some (.Name x pos')) pos.line X.env = pure false := by rfl)
    (hf : X.fn x = true ∨ X.env.scope.names.lookup x = some .local := by first | exact .inl rfl | exact .inr rfl | assumption) : QS X K (.Assign [.Name x pos'] e pos) (wSet i te) := PS.imp (ps_set hN hi hx he hs hf) fun D σ H ⟨Hs, ρ, tot, E, sr, h, k1, k2, k3, k4⟩ => by
  refine ⟨Hs, ρ, tot, _, sr, h, fun v H1 Hs1 m d As g1 r1 f1 q1 => ?_⟩
  have q1 : match asg m d with
    | some sl => E.nx (ρ.set i (some sl))
    | none => False := q1
  cases e : asg m d with
  | none => rw [e] at q1; exact q1.elim
  | some sl =>
    rw [e] at q1
    obtain ⟨tot', s'⟩ := (sr.grow g1).set i r1 f1.1 (fun a ha => ⟨(f1.2 a ha).1, fun m => (sr.sr.own a m).ne (f1.2 a ha).2⟩) e
    exact k1 _ H1 Hs1 _ tot' g1.sh s' q1
theorem qs_if (hc : QT X K c tc) (ha : QSs X K a t) (hb : QSs X K b u) : QS X K (.If c a b pos) (wIfS tc t u) := PS.imp (ps_if hc ha hb) fun D σ H ⟨Hs, ρ, tot, E, sr, h, k1, k2, k3, k4⟩ => by
  refine ⟨Hs, ρ, tot, _, sr, h, fun k H1 Hs1 g1 q1 => ?_⟩
  have k1' : ∀ σ' H' Hs' ρ' tot', Same Hs1 Hs' → SRel K Hs' ρ' σ' H' tot' → E.nx ρ' → D.nx σ' H' := fun σ2 H2 Hs2 ρ2 tot2 s2 => k1 σ2 H2 Hs2 ρ2 tot2 (g1.sh.trans s2)
  have k2' : ∀ σ' H' Hs' ρ' tot', Same Hs1 Hs' → SRel K Hs' ρ' σ' H' tot' → E.bk ρ' → D.bk σ' H' := fun σ2 H2 Hs2 ρ2 tot2 s2 => k2 σ2 H2 Hs2 ρ2 tot2 (g1.sh.trans s2)
  have k3' : ∀ σ' H' Hs' ρ' tot', Same Hs1 Hs' → SRel K Hs' ρ' σ' H' tot' → E.ct ρ' → D.ct σ' H' := fun σ2 H2 Hs2 ρ2 tot2 s2 => k3 σ2 H2 Hs2 ρ2 tot2 (g1.sh.trans s2)
  cases k with
  | true => exact ⟨Hs1, ρ, tot, E, sr.grow g1, q1, k1', k2', k3', fun v H2 Hs2 m d As s2 => k4 v H2 Hs2 m d As (g1.sh.trans s2)⟩
  | false => exact ⟨Hs1, ρ, tot, E, sr.grow g1, q1, k1', k2', k3', fun v H2 Hs2 m d As s2 => k4 v H2 Hs2 m d As (g1.sh.trans s2)⟩

def frzH (Hs H : Hp) (As : List Addr) : Hp := fun a => if a ∈ As then H a else Hs a
theorem frz_same {Hs H : Hp} {As : List Addr} (n : ∀ a ∈ As, Hs a = none) : Same Hs (frzH Hs H As) := fun a o e => by
  unfold frzH
  rw [if_neg fun m => by rw [n a m] at e; cases e]
  exact e
theorem frz_wf {Hs H : Hp} {As : List Addr} (w : Wf Hs H) (o : ∀ a ∈ As, Own H a) : Wf (frzH Hs H As) H := ⟨fun a u e => by
    unfold frzH at e
    by_cases m : a ∈ As
    · rw [if_pos m] at e; exact e
    · rw [if_neg m] at e; exact w.sub a u e, fun a vs e => by
    unfold frzH
    rw [if_neg fun m => (o a m).notTup e]
    exact w.tups a vs e⟩
def shS : Sl → Sl
  | .sh d => .sh d
  | .ow _ d => .sh d
  | .lk a fl d => .lk a fl d
def shC : Sl → Sl
  | .sh d => .sh d
  | .ow _ d => .sh d
  | .lk _ _ d => .sh d
def frzE (i : Nat) (ρ : Env) : Env := match ρ[i]? with
  | some (some sl) => ρ.set i (some (shS sl))
  | _ => ρ
theorem SR.frz {Hs H : Hp} : ∀ {ρ : Env} {σ : St} {tot : List Addr} (i : Nat) {fl : Bool} {d : D}, SR K Hs H ρ σ tot → ρ[i]? = some (some (.ow fl d)) → tot.Nodup →
    ∃ (As tot' : List Addr), As.Sublist tot ∧ tot'.Sublist tot ∧ (∀ a ∈ As, a ∉ tot') ∧ ∀ Hs', Same Hs Hs' → (∀ a ∈ As, Hs' a = H a) → SR K Hs' H (ρ.set i (some (.sh d))) σ tot'
  | _, _, _, _, _, _, .nil, e, _ => by simp at e
  | _, _, _, 0, _, _, .non _, e, _ => by simp at e
  | _, _, _, 0, _, _, .sh _ _, e, _ => by simp at e
  | _, _, _, 0, _, _, .lk _ _ _, e, _ => by simp at e
  | _, _, _, 0, _, _, .ow (As := B) (tot := t2) ne r q, e, n => by
    simp at e
    obtain ⟨rfl, rfl⟩ := e
    exact ⟨B, t2, List.sublist_append_left _ _, List.sublist_append_right _ _, fun a h m => (List.nodup_append.mp n).2.2 a h a m rfl, fun Hs' s k => .sh (r.rep s k) (q.stay s fun _ _ => rfl)⟩
  | _, _, _, i + 1, _, _, .non q, e, n => by
    obtain ⟨As, t, a, b, c, d⟩ := SR.frz i q (by simpa using e) n
    exact ⟨As, t, a, b, c, fun Hs' s k => .non (d Hs' s k)⟩
  | _, _, _, i + 1, _, _, .sh r q, e, n => by
    obtain ⟨As, t, a, b, c, d⟩ := SR.frz i q (by simpa using e) n
    exact ⟨As, t, a, b, c, fun Hs' s k => .sh (r.same s) (d Hs' s k)⟩
  | _, _, _, i + 1, _, _, .ow (As := B) ne r q, e, n => by
    obtain ⟨n1, n2, n3⟩ := List.nodup_append.mp n
    obtain ⟨As, t, a, b, c, d⟩ := SR.frz i q (by simpa using e) n2
    refine ⟨As, B ++ t, a.trans (List.sublist_append_right _ _), b.append_left _, fun x hx m => ?_, fun Hs' s k => .ow ne (r.stay s fun _ _ => rfl) (d Hs' s k)⟩
    rcases List.mem_append.mp m with z | z
    · exact n3 x z x (a.subset hx) rfl
    · exact c x hx z
  | _, _, _, i + 1, _, _, .lk (As := B) ne r q, e, n => by
    obtain ⟨n1, n2, n3⟩ := List.nodup_append.mp n
    obtain ⟨As, t, a, b, c, d⟩ := SR.frz i q (by simpa using e) n2
    refine ⟨As, B ++ t, a.trans (List.sublist_append_right _ _), b.append_left _, fun x hx m => ?_, fun Hs' s k => .lk ne (r.stay s fun _ _ => rfl) (d Hs' s k)⟩
    rcases List.mem_append.mp m with z | z
    · exact n3 x z x (a.subset hx) rfl
    · exact c x hx z
theorem SRel.frz {ρ : Env} {σ : St} {tot : List Addr} {Hs H : Hp} (i : Nat) (s : SRel K Hs ρ σ H tot) : ∃ Hs' tot', Same Hs Hs' ∧ SRel K Hs' (frzE i ρ) σ H tot' := by
  unfold frzE
  split
  · rename_i sl e
    have keep : shS sl = sl → ∃ Hs' tot', Same Hs Hs' ∧ SRel K Hs' (ρ.set i (some (shS sl))) σ H tot' := fun hs => by
      have e2 : ρ.set i (some (shS sl)) = ρ := by
        apply List.ext_getElem?
        intro j
        rw [List.getElem?_set]
        by_cases h : i = j
        · subst h
          rw [if_pos rfl, e]
          have : i < ρ.length := (List.getElem?_eq_some_iff.mp e).1
          simp [this, hs]
        · rw [if_neg h]
      rw [e2]
      exact ⟨Hs, tot, Same.refl _, s⟩
    cases sl with
    | sh d => exact keep rfl
    | lk a fl d => exact keep rfl
    | ow fl d =>
      obtain ⟨As, t, a, b, c, g⟩ := SR.frz i s.sr e s.nod
      have hn : ∀ a ∈ As, Hs a = none := fun x hx => s.own x (a.subset hx)
      have ho : ∀ a ∈ As, Own H a := fun x hx => s.sr.own x (a.subset hx)
      refine ⟨frzH Hs H As, t, frz_same hn, g _ (frz_same hn) fun x hx => by unfold frzH; rw [if_pos hx], frz_wf s.wf ho, b.nodup s.nod, fun x hx => ?_⟩
      unfold frzH
      rw [if_neg fun m => c x m hx]
      exact s.own x (b.subset hx)
  · exact ⟨Hs, tot, Same.refl _, s⟩
def wFrz (i : Nat) (t : WS) : WS := fun E ρ => t E (frzE i ρ)
theorem frz_lift {i : Nat} {D : Ends} {σ : St} {H : Hp} (h : tpS K (wFrz i t) D σ H) : tpS K t D σ H := by
  obtain ⟨Hs, ρ, tot, E, sr, h, k1, k2, k3, k4⟩ := h
  obtain ⟨Hs', tot', s, sr'⟩ := sr.frz i
  exact ⟨Hs', _, tot', E, sr', h, fun σ2 H2 Hs2 ρ2 tot2 s2 => k1 σ2 H2 Hs2 ρ2 tot2 (s.trans s2), fun σ2 H2 Hs2 ρ2 tot2 s2 => k2 σ2 H2 Hs2 ρ2 tot2 (s.trans s2), fun σ2 H2 Hs2 ρ2 tot2 s2 => k3 σ2 H2 Hs2 ρ2 tot2 (s.trans s2),
    fun v H2 Hs2 m d As s2 => k4 v H2 Hs2 m d As (s.trans s2)⟩
theorem qs_frz (i : Nat) (h : QS X K st t) : QS X K st (wFrz i t) := PS.imp h fun D σ H h => frz_lift h

def backH (Hs1 H1 Hs' H' : Hp) : Hp := fun a => match H' a with
  | some (.tup vs) => some (.tup vs)
  | _ => match H1 a with
    | none => Hs' a
    | some _ => Hs1 a
theorem back_grow {Hs1 H1 Hs' H' : Hp} (w : Wf Hs1 H1) (s : Same H1 Hs') (w' : Wf Hs' H') : Grow Hs1 H1 (backH Hs1 H1 Hs' H') H' := by
  have sa : Same H1 H' := s.trans w'.sub
  have tp : ∀ a vs, H' a = some (.tup vs) → backH Hs1 H1 Hs' H' a = some (.tup vs) := fun a vs e => by unfold backH; rw [e]
  have nt : ∀ a, (∀ vs, H' a ≠ some (.tup vs)) → backH Hs1 H1 Hs' H' a = match H1 a with
    | none => Hs' a
    | some _ => Hs1 a := fun a h => by
    unfold backH
    split
    · rename_i vs e; exact absurd e (h vs)
    · rfl
  refine ⟨sa, fun a o e => ?_, ⟨fun a o e => ?_, tp⟩, fun a h => ?_⟩
  · have e1 := w.sub a o e
    have e2 := sa a o e1
    by_cases ht : ∃ vs, o = .tup vs
    · obtain ⟨vs, rfl⟩ := ht
      exact tp a vs e2
    · rw [nt a fun vs z => ht ⟨vs, by rw [e2] at z; exact Option.some.inj z⟩, e1]
      exact e
  · by_cases ht : ∃ vs, H' a = some (.tup vs)
    · obtain ⟨vs, z⟩ := ht
      rw [tp a vs z] at e
      rw [z]; exact e
    · rw [nt a fun vs z => ht ⟨vs, z⟩] at e
      cases q : H1 a with
      | none => rw [q] at e; exact w'.sub a o e
      | some u =>
        rw [q] at e
        have := w.sub a o e
        exact sa a o this
  · cases q : H1 a with
    | none => exact .inr rfl
    | some u =>
      refine .inl ?_
      by_cases ht : ∃ vs, H' a = some (.tup vs)
      · obtain ⟨vs, z⟩ := ht
        have := sa a u q
        rw [z] at this
        cases this
        rw [w.tups a vs q]
        exact fun z => nomatch z
      · rw [nt a fun vs z => ht ⟨vs, z⟩, q] at h
        exact h
theorem back_none {Hs1 H1 Hs' H' : Hp} {a : Addr} (s : Same H1 Hs') (h : Hs' a = none) (o : Own H' a) : backH Hs1 H1 Hs' H' a = none ∧ H1 a = none := by
  have h1 := s.free h
  refine ⟨?_, h1⟩
  unfold backH
  split
  · rename_i vs e; exact absurd e o.notTup
  · rw [h1]; exact h
def retM : Md → D → Md
  | .ow true, _ => .ow true
  | _, d => bif d.flat then .sh else .bo
theorem back_RM {Hs1 H1 Hs' H' : Hp} {m : Md} {d : D} {v : V} {As : List Addr} (w : Wf Hs1 H1) (s : Same H1 Hs') (w' : Wf Hs' H') (r : RM K Hs' H' m d v As) (nd : As.Nodup) (own : ∀ a ∈ As, Hs' a = none) :
    ∃ As', RM K (backH Hs1 H1 Hs' H') H' (retM m d) d v As' ∧ Fresh (backH Hs1 H1 Hs' H') H1 As' := by
  have g := back_grow w s w'
  have other : ∃ As', RM K (backH Hs1 H1 Hs' H') H' (bif d.flat then .sh else .bo) d v As' ∧ Fresh (backH Hs1 H1 Hs' H') H1 As' := by
    cases hf : d.flat with
    | true => exact ⟨[], ⟨rfl, (r.rep w').flatIn g.wf.tups hf⟩, Fresh.nil⟩
    | false => exact ⟨[], ⟨rfl, r.rep w'⟩, Fresh.nil⟩
  cases m with
  | sh => exact other
  | bo => exact other
  | ow fl =>
    cases fl with
    | false => exact other
    | true => exact ⟨As, ⟨RepO.leaves (fun a vs e => g.wf.tups a vs (w'.sub _ _ e)) r.1, r.2⟩, nd, fun a h => back_none s (own a h) (r.own a h)⟩

abbrev SpD := List D → (Md → D → Prop) → Prop
def liftSp (K : PySem.W.Frag) (sp : SpD) : Sp := fun vs H Qv _ => ∃ ds Qd, Reps K H ds vs ∧ sp ds Qd ∧
  ∀ v H' Hs' m d As, Same H Hs' → Wf Hs' H' → RM K Hs' H' m d v As → As.Nodup → (∀ a ∈ As, Hs' a = none) → Qd m d → Qv v H'
def startD (n : Nat) (ds : List D) : Env := ds.map (fun d => some (.sh d)) ++ List.replicate (n - ds.length) none
theorem SR.start {H : Hp} : ∀ {ds : List D} {vs : List V} {n : Nat}, Reps K H ds vs → SR K H H (ds.map (fun d => some (.sh d)) ++ List.replicate n none) (vs.map some ++ List.replicate n none) []
  | _, _, 0, .nil => .nil
  | _, _, n + 1, .nil => .non (SR.start (n := n) .nil)
  | _, _, n, .cons r rs => .sh r (SR.start rs)
theorem body_lift {sp : SpD} {N : List Str} {vs : List V} {H : Hp} {Qv : VK} {E : XK} (h : liftSp K sp vs H Qv E) (hp : ∀ ds Q, sp ds Q → t { nx := fun _ => Q .sh .non, rt := Q } (startD N.length ds)) :
    tpS K t { nx := fun _ H' => Qv .non H', rt := Qv } (start N vs) H := by
  obtain ⟨ds, Qd, rs, hs, fin⟩ := h
  have hl := rs.length
  refine ⟨H, startD N.length ds, [], { nx := fun _ => Qd .sh .non, rt := Qd }, ⟨?_, ⟨Same.refl _, fun _ _ e => e⟩, List.nodup_nil, fun a h => nomatch h⟩, hp ds Qd hs, ?_, ?_, ?_, ?_⟩
  · unfold startD start
    rw [hl]
    exact SR.start rs
  · exact fun σ' H' Hs' ρ' tot' s sr q => fin .non H' Hs' .sh .non [] s sr.wf ⟨rfl, .non⟩ List.nodup_nil (fun a h => nomatch h) q
  · exact fun σ' H' Hs' ρ' tot' s sr q => q.elim
  · exact fun σ' H' Hs' ρ' tot' s sr q => q.elim
  · exact fun v H' Hs' m d As s w r nd own q => fin v H' Hs' m d As s w r nd own q
theorem FunQ.ok {P : Program} {w : World} {mg : Str → Option Value} {base : Heap} {x qual : Str} {st : Stmt} {f : Addr} {fd : FuncData} {N ps : List Str} {k : Nat} {sp : SpD} {t : WS} (F : Fun K x qual st f fd) (S : FnScope N ps (defScope st)) (len : ∀ ds Q, sp ds Q → ds.length = ps.length)
    (hbody : ∀ (cdv : Value) (A : Around) (outer : List PySem.Env) (s : Shared) (H : Hp) (E : XK), Room k (A.deeper (envOfC qual (defScope st) s.heap.objs.size f cdv)) → QSs (cxOf CX0 P w K mg base N qual (defScope st) f cdv A outer s H E).nox K (defBody st) t)
    (hp : ∀ ds Q, sp ds Q → t { nx := fun _ => Q .sh .non, rt := Q } (startD N.length ds)) : FnOk P w K mg base CX0 (k + 1) f fd ps (liftSp K sp) :=
  F.ok S (fun vs H Q E ⟨ds, Qd, rs, hs, _⟩ => by rw [← rs.length]; exact len ds Qd hs) fun cdv A outer s H vs Q E hr hs => ⟨_, hbody cdv A outer s H E hr, body_lift hs hp⟩
def wCall (sp : SpD) (t : WA) : WE := fun ρ Q => t ρ fun ps => sp (ps.map (·.2)) fun m d => onK (m, d) (f := fun p => Q (retM p.1 p.2) p.2) ⟨⟩
theorem call_lift {sp : SpD} {t : WA} {σ : St} {H : Hp} {Qv : VK} {E : XK} (h : tpE K (wCall sp t) σ H Qv) : tCall (liftSp K sp) [] E (tpA K t) σ H Qv := by
  obtain ⟨Hs, ρ, tot, Q, sr, h, f⟩ := h
  refine ⟨Hs, ρ, tot, _, sr, h, fun vs H1 Hs1 ps As g1 r1 f1 q1 => ?_⟩
  refine ⟨_, _, by rw [List.append_nil]; exact r1.reps g1.wf, q1, fun v H' Hs' m d As s w r nd own q => ?_⟩
  obtain ⟨As', r', fr⟩ := back_RM g1.wf s w r nd own
  exact Fin.after f g1 v H' _ (retM m d) d As' (back_grow g1.wf s w) r' fr q
theorem q_own {k : Nat} {x : Str} {ps : List Str} {sp : SpD} {p : Pos} {es : List Expr} {t : WA} (C : Cal X.prog X.w X.K X.mg X.base k x ps (liftSp K sp)) (hr : Room k X.A) (ha : QA X K (e :: es) t) (hg : Gl X x := by rfl) (hdb : (x == ("__debug__" : Str)) = false := by decide) (he : starEach (e :: es) X.env = (false, eval e X.env) :: starEach es X.env := by rfl)
    (hpl : (backTo pos (starEach es X.env)).any (·.1) = false := by rfl) : QE X K (.Call (.Name x p) (e :: es) [] pos) (wCall sp t) := PE.imp (pe_own C hr ha hg hdb he hpl) fun σ H Qv h => call_lift h
end
end L2.Q

set_option Elab.async false
set_option linter.all false
set_option maxRecDepth 100000
set_option maxHeartbeats 4000000

namespace L2.Q
open PySem PySem.Spec PyProof.Rows

abbrev WG := D → Env → (Env → Prop) → Prop
def tpG (K : PySem.W.Frag) (g : WG) : TG := fun v σ H Qv => ∃ Hs ρ tot d Q, SRel K Hs ρ σ H tot ∧ Rep K Hs d v ∧ g d ρ Q ∧ ∀ σ' ρ' tot', SRel K Hs ρ' σ' H tot' → (∀ a ∈ tot', a ∈ tot) → Q ρ' → Qv σ' H
abbrev QG (X : Cx) (K : PySem.W.Frag) (e : Expr) (g : WG) : Prop := PG X e (tpG K g)
def gN (i : Nat) : WG := fun d ρ Q => Q (ρ.set i (some (.sh d)))
abbrev WGs := List D → Env → (Env → Prop) → Prop
def tpGs (K : PySem.W.Frag) (g : WGs) : TGs := fun vs σ H Qv => ∃ Hs ρ tot ds Q, SRel K Hs ρ σ H tot ∧ Reps K Hs ds vs ∧ g ds ρ Q ∧ ∀ σ' ρ' tot', SRel K Hs ρ' σ' H tot' → (∀ a ∈ tot', a ∈ tot) → Q ρ' → Qv σ' H
abbrev QGs (X : Cx) (K : PySem.W.Frag) (es : List Expr) (g : WGs) : Prop := PGs X es (tpGs K g)
def gNil' : WGs := fun ds ρ Q => ds = [] ∧ Q ρ
def gCons' (g : WG) (gs : WGs) : WGs := fun ds ρ Q => match ds with
  | d :: ds => g d ρ fun ρ' => gs ds ρ' Q
  | [] => False
def gT (n : Nat) (gs : WGs) : WG := fun d ρ Q => match d with
  | .tup ds => ds.length = n ∧ gs ds ρ Q
  | _ => False
section
variable {X : Cx} {K : PySem.W.Frag} {e : Expr} {es : List Expr} {g : WG} {gs : WGs} {pos : Pos}
theorem PG.imp {t t' : TG} (h : PG X e t) (i : ∀ v σ H Q, t' v σ H Q → t v σ H Q) : PG X e t' := fun pins s σ H v u Q I r q => h pins s σ H v u Q I r (i v σ H Q q)
theorem PGs.imp {t t' : TGs} (h : PGs X es t) (i : ∀ v σ H Q, t' v σ H Q → t v σ H Q) : PGs X es t' := fun pins s σ H v u Q I r q => h pins s σ H v u Q I r (i v σ H Q q)
theorem SRel.setSh {ρ : Env} {σ : St} {tot : List Addr} {Hs H : Hp} {d : D} {v : V} (i : Nat) (s : SRel K Hs ρ σ H tot) (r : Rep K Hs d v) : ∃ tot', (∀ a ∈ tot', a ∈ tot) ∧ SRel K Hs (ρ.set i (some (.sh d))) (σ.set i (some v)) H tot' := by
  obtain ⟨t, a, b⟩ := s.sr.set_sh r i
  exact ⟨t, fun x hx => a.subset hx, b, s.wf, a.nodup s.nod, fun x hx => s.own x (a.subset hx)⟩
theorem qg_name {i : Nat} {x : Str} (hN : X.N.Nodup) (hi : X.N[i]? = some x) (hx : Loc X.env.scope x) (hf : X.fn x = true ∨ X.env.scope.names.lookup x = some .local := by first | exact .inl rfl | exact .inr rfl | assumption) : QG X K (.Name x pos) (gN i) :=
  PG.imp (pg_name hN hi hx hf) fun v σ H Qv ⟨Hs, ρ, tot, d, Q, sr, r, h, k⟩ => by
    obtain ⟨t, m, s⟩ := sr.setSh i r
    exact k _ _ t s m h
theorem qgs_nil : QGs X K [] gNil' := PGs.imp pgs_nil fun v σ H Qv ⟨Hs, ρ, tot, ds, Q, sr, r, h, k⟩ => by
  obtain ⟨rfl, h⟩ := h
  cases r
  exact ⟨rfl, k σ ρ tot sr (fun _ z => z) h⟩
theorem qgs_cons (h1 : QG X K e g) (h2 : QGs X K es gs) (hs : (assignEach (e :: es) X.env).map (·.2) = assign e X.env :: (assignEach es X.env).map (·.2) := by rfl) : QGs X K (e :: es) (gCons' g gs) :=
  PGs.imp (pgs_cons h1 h2 hs) fun v σ H Qv ⟨Hs, ρ, tot, ds, Q, sr, r, h, k⟩ => by
    cases r with
    | nil => exact h.elim
    | cons r rs => exact ⟨_, _, rfl, Hs, ρ, tot, _, _, sr, r, h, fun σ2 ρ2 tot2 sr2 m2 q2 => ⟨Hs, ρ2, tot2, _, Q, sr2, rs, q2, fun σ3 ρ3 tot3 sr3 m3 => k σ3 ρ3 tot3 sr3 fun a h => m2 a (m3 a h)⟩⟩
theorem qg_tup {k n : Nat} (hc : X.calm = true) (h : QGs X K es gs) (hn : (assignEach es X.env).length = n := by rfl) (hst : (assignEach es X.env).findIdx? (·.1) = none := by rfl) : QG X K (.Tuple es k pos) (gT n gs) :=
  PG.imp (pg_tup hc h hn hst) fun v σ H Qv ⟨Hs, ρ, tot, d, Q, sr, r, h, k⟩ => by
    cases r with
    | tup z e rs => exact ⟨_, _, rfl, .inl (.inl (sr.wf.sub _ _ e)), by rw [← rs.length]; exact h.1, Hs, ρ, tot, _, Q, sr, rs, h.2, k⟩
    | _ => exact h.elim
end

abbrev WI := Env → (List D → Prop) → Prop
structure WalkS (K : PySem.W.Frag) (J : It) (ds : List D) (C : Hp → Hp → Prop) : Prop where
  go : ∀ i Hs H, C Hs H → Wf Hs H → i < ds.length → J.go i H
  yld : ∀ i Hs H x H' d, C Hs H → Wf Hs H → ds[i]? = some d → J.yld i H x H' → ∃ Hs', Grow Hs H Hs' H' ∧ Rep K Hs' d x
  stop : ∀ Hs H, C Hs H → Wf Hs H → J.stop ds.length H
abbrev Walks' (K : PySem.W.Frag) (Hs : Hp) (J : It) (ds : List D) : Prop := WalkS K J ds fun G _ => Same Hs G
def enumD (xs : List D) : List D := xs.mapIdx fun i x => .tup [.int i, x]
def zipD (xs ys : List D) : List D := List.zipWith (fun x y => .tup [x, y]) xs ys
section
variable {K : PySem.W.Frag} {Hs : Hp} {J : It} {ds es : List D} {C C' : Hp → Hp → Prop} {a b : Addr}
theorem WalkS.imp (S : WalkS K J ds C) (h : ∀ Hs H, C' Hs H → C Hs H) : WalkS K J ds C' := ⟨fun i Hs H c => S.go i Hs H (h _ _ c), fun i Hs H x H' d c => S.yld i Hs H x H' d (h _ _ c), fun Hs H c => S.stop Hs H (h _ _ c)⟩
theorem WalkS.seq {vs : List V} (rs : Reps K Hs ds vs) (S : SeqIt J vs fun H => Same Hs H) : Walks' K Hs J ds where
  go := fun i G H s w h => S.go i H (s.trans w.sub) (by rw [← rs.length]; exact h)
  yld := fun i G H x H' d s w h y => by
    have hi : i < ds.length := by
      rcases Nat.lt_or_ge i ds.length with q | q
      · exact q
      · rw [List.getElem?_eq_none q] at h; cases h
    obtain ⟨e, z⟩ := S.yld i H x H' (s.trans w.sub) (by rw [← rs.length]; exact hi) y
    subst e
    obtain ⟨d', ed, rd⟩ := rs.getV z
    rw [h] at ed; cases ed
    exact ⟨G, Grow.refl w, rd.same s⟩
  stop := fun G H s w => by rw [rs.length]; exact S.stop H (s.trans w.sub)
abbrev ListAt (K : PySem.W.Frag) (a : Addr) (ds : List D) (C : Hp → Hp → Prop) : Prop := ∀ Hs H, C Hs H → Wf Hs H → ∃ vs, SqL K H a vs ∧ Reps K Hs ds vs
theorem WalkS.list (h : ListAt K a ds C) : WalkS K (Itl K a) ds C where
  go := fun i G H c w hi => by
    obtain ⟨vs, q, rs⟩ := h G H c w
    exact ⟨vs, vs[i]'(by rw [← rs.length]; exact hi), q, by simp⟩
  yld := fun i G H x H' d c w hd y => by
    obtain ⟨vs, q, rs⟩ := h G H c w
    obtain ⟨rfl, y⟩ := y
    obtain ⟨d', ed, rd⟩ := rs.getV (y vs q)
    rw [hd] at ed; cases ed
    exact ⟨G, Grow.refl w, rd⟩
  stop := fun G H c w => by
    obtain ⟨vs, q, rs⟩ := h G H c w
    exact ⟨vs, q, by rw [rs.length]; exact Nat.le_refl _⟩
theorem WalkS.enum (h : ListAt K a ds C) : WalkS K (Ite K a) (enumD ds) C where
  go := fun i G H c w hi => by
    obtain ⟨vs, q, rs⟩ := h G H c w
    have hi : i < ds.length := by simpa [enumD] using hi
    exact ⟨vs, vs[i]'(by rw [← rs.length]; exact hi), q, by simp⟩
  yld := fun i G H x H' d c w hd y => by
    obtain ⟨vs, q, rs⟩ := h G H c w
    obtain ⟨p, v, rfl, hp, rfl, y⟩ := y
    obtain ⟨d', ed, rd⟩ := rs.getV (y vs q)
    have : d = .tup [.int i, d'] := by
      simp only [enumD, List.getElem?_mapIdx, ed, Option.map_some] at hd
      cases hd; rfl
    subst this
    have g := newT (vs := [.int i, v]) w hp
    exact ⟨_, g, .tup (vs := [.int i, v]) two_le upd_same (.cons (.int _) (.cons (rd.same g.sh) .nil))⟩
  stop := fun G H c w => by
    obtain ⟨vs, q, rs⟩ := h G H c w
    exact ⟨vs, q, by rw [enumD, List.length_mapIdx, rs.length]; exact Nat.le_refl _⟩
theorem WalkS.zip (h : ListAt K a ds C) (h2 : ListAt K b es C) : WalkS K (Itz K a b) (zipD ds es) C where
  go := fun i G H c w hi => by
    obtain ⟨vs, q, rs⟩ := h G H c w
    obtain ⟨us, q2, rs2⟩ := h2 G H c w
    rw [zipD, List.length_zipWith] at hi
    have := rs.length
    have := rs2.length
    exact ⟨vs, us, vs[i]'(by omega), us[i]'(by omega), q, q2, by simp, by simp⟩
  yld := fun i G H x H' d c w hd y => by
    obtain ⟨vs, q, rs⟩ := h G H c w
    obtain ⟨us, q2, rs2⟩ := h2 G H c w
    obtain ⟨p, u, v, rfl, hp, rfl, y, y2⟩ := y
    obtain ⟨d1, ed, rd⟩ := rs.getV (y vs q)
    obtain ⟨d2, ed2, rd2⟩ := rs2.getV (y2 us q2)
    have : d = .tup [d1, d2] := by
      simp only [zipD, List.getElem?_zipWith, ed, ed2] at hd
      cases hd; rfl
    subst this
    have g := newT (vs := [u, v]) w hp
    exact ⟨_, g, .tup (vs := [u, v]) two_le upd_same (.cons (rd.same g.sh) (.cons (rd2.same g.sh) .nil))⟩
  stop := fun G H c w => by
    obtain ⟨vs, q, rs⟩ := h G H c w
    obtain ⟨us, q2, rs2⟩ := h2 G H c w
    have := rs.length
    have := rs2.length
    exact ⟨vs, us, q, q2, by rw [zipD, List.length_zipWith]; omega⟩
theorem listAt_sh {vs : List V} (s : SqL K Hs a vs) (rs : Reps K Hs ds vs) : ListAt K a ds fun G _ => Same Hs G := fun G H c w => ⟨vs, Same.seq (c.trans w.sub) s, rs.same c⟩
end
def tpI (K : PySem.W.Frag) (wi : WI) : TI := fun σ H R => ∃ Hs ρ tot Q, SRel K Hs ρ σ H tot ∧ wi ρ Q ∧ ∀ J H' Hs' ds, Grow Hs H Hs' H' → Walks' K Hs' J ds → ds.length ≤ sizeLine → Q ds → R J H'
abbrev QI (X : Cx) (K : PySem.W.Frag) (tg iter : Expr) (wi : WI) : Prop := PI X tg iter (tpI K wi)
def notBo : Md → Prop
  | .bo => False
  | _ => True
def wiList (te : WE) : WI := fun ρ Q => te ρ fun m d => notBo m ∧ match d with
  | .list xs => Q xs
  | _ => False
def wiTup (te : WE) : WI := fun ρ Q => te ρ fun m d => notBo m ∧ match d with
  | .tup xs => Q xs
  | _ => False
def sgnD (z : Str) : List D := z.cps.toList.map fun c => .str ⟨#[c]⟩
def wiStr (te : WE) : WI := fun ρ Q => te ρ fun _ d => match d with
  | .str z => Q (sgnD z)
  | _ => False
def intsD (lo : Int) (n : Nat) : List D := (List.range n).map fun i => .int (lo + (i : Nat))
def wiRng1 (te : WE) : WI := fun ρ Q => te ρ fun _ d => match d with
  | .int j => j ≤ 16777216 ∧ -(2 ^ 62) ≤ j ∧ Q (intsD 0 j.toNat)
  | _ => False
def wiRng2 (ta tb : WE) : WI := fun ρ Q => ta ρ fun _ x => tb ρ fun _ y => match x, y with
  | .int i, .int j => j - i ≤ 16777216 ∧ (-(2 ^ 62) ≤ i ∧ i < 2 ^ 62 ∧ -(2 ^ 62) ≤ j ∧ j < 2 ^ 62) ∧ Q (intsD i (j - i).toNat)
  | _, _ => False
section
variable {X : Cx} {K : PySem.W.Frag} {e e2 tg : Expr} {te te2 : WE} {pos p : Pos}
theorem PI.imp {iter : Expr} {t t' : TI} (h : PI X tg iter t) (i : ∀ σ H R, t' σ H R → t σ H R) : PI X tg iter t' := fun pins s σ H R I q => h pins s σ H R I (i σ H R q)
theorem SeqIt.imp {J : It} {vs : List V} {c c' : Hp → Prop} (s : SeqIt J vs c) (h : ∀ H, c' H → c H) : SeqIt J vs c' := ⟨fun i H q => s.go i H (h H q), fun i H x H' q => s.yld i H x H' (h H q), fun H q => s.stop H (h H q)⟩
theorem RM.publish {Hs H Hs1 H1 : Hp} {m : Md} {d : D} {v : V} {As : List Addr} (g : Grow Hs H Hs1 H1) (r : RM K Hs1 H1 m d v As) (f : Fresh Hs1 H As) (h : notBo m) : ∃ Hs2, Grow Hs H Hs2 H1 ∧ Rep K Hs2 d v := by
  cases m with
  | sh => exact ⟨Hs1, g, r.2⟩
  | bo => exact h.elim
  | ow fl =>
    have n : ∀ a ∈ As, Hs1 a = none := fun a ha => (f.2 a ha).1
    have o := r.own
    refine ⟨frzH Hs1 H1 As, ⟨g.all, g.sh.trans (frz_same n), frz_wf g.wf o, fun a h => ?_⟩, RepO.rep (frz_same n) r.1 fun a ha => by unfold frzH; rw [if_pos ha]⟩
    unfold frzH at h
    by_cases m : a ∈ As
    · exact .inr (f.2 a m).2
    · rw [if_neg m] at h; exact g.new a h
theorem qi_list (he : QE X K e te) (hK : X.K = K := by rfl) : QI X K tg e (wiList te) := by
  subst hK
  refine PI.imp (pi_list he) fun σ H R ⟨Hs, ρ, tot, Q, sr, h, k⟩ => ⟨Hs, ρ, tot, _, sr, h, fun v H1 Hs1 m d As g1 r1 f1 q1 => ?_⟩
  obtain ⟨nb, q1⟩ := q1
  obtain ⟨Hs2, g2, r2⟩ := r1.publish g1 f1 nb
  cases r2 with
  | list z s rs => exact ⟨_, rfl, ⟨_, Same.seq g2.wf.sub s⟩, k _ H1 Hs2 _ g2 (.seq rs (SeqIt.imp (seq_list X.K _ _) fun H' s' => Same.seq s' s)) (by rw [rs.length]; exact z) q1⟩
  | _ => exact q1.elim
theorem ints_reps {H : Hp} (lo : Int) : ∀ (l : List Nat), Reps K H (l.map fun i => .int (lo + (i : Nat))) (l.map fun i => V.int (lo + (i : Nat)))
  | [] => .nil
  | c :: l => .cons (.int _) (ints_reps lo l)
theorem qi_rng1 (hm : X.mg "range" = none) (he : QE X K e te) (hg : Gl X "range" := by rfl) (hs : starEach [e] X.env = (false, eval e X.env) :: starEach [] X.env := by rfl) (hs' : starEach [e] X.env = [(false, eval e X.env)] := by rfl) : QI X K tg (.Call (.Name "range" p) [e] [] pos) (wiRng1 te) := by
  refine PI.imp (pi_range1 hg hm (pa_cons he pa_nil hs) hs') fun σ H R ⟨Hs, ρ, tot, Q, sr, h, k⟩ => ⟨Hs, ρ, tot, _, sr, h, fun v H1 Hs1 m d As g1 r1 f1 q1 => ?_⟩
  have r := r1.rep g1.wf
  cases r with
  | int j =>
    obtain ⟨h1, h2, q1⟩ := q1
    exact ⟨j, rfl, h2, by omega, k _ H1 Hs1 _ g1 (.seq (ints_reps 0 _) (SeqIt.imp (seq_rng _ _) fun _ _ => trivial)) (by rw [List.length_map, List.length_range, sizeLine_eq]; omega) q1⟩
  | _ => exact q1.elim
section
variable {X : Cx} {K : PySem.W.Frag} {e e2 tg : Expr} {te te2 : WE} {pos p : Pos}
def wiEnum (te : WE) : WI := fun ρ Q => te ρ fun m d => notBo m ∧ match d with
  | .list xs => Q (enumD xs)
  | _ => False
theorem qi_enum {elts : List Expr} {kk : Nat} {tp : Pos} (hm : X.mg "enumerate" = none) (he : QE X K e te) (hK : X.K = K := by rfl) (hg : Gl X "enumerate" := by rfl) (hs : starEach [e] X.env = (false, eval e X.env) :: starEach [] X.env := by rfl) (hs' : starEach [e] X.env = [(false, eval e X.env)] := by rfl) :
    QI X K (.Tuple elts kk tp) (.Call (.Name "enumerate" p) [e] [] pos) (wiEnum te) := by
  subst hK
  refine PI.imp (pi_enum hg hm (pa_cons he pa_nil hs) hs') fun σ H R ⟨Hs, ρ, tot, Q, sr, h, k⟩ => ⟨Hs, ρ, tot, _, sr, h, fun v H1 Hs1 m d As g1 r1 f1 q1 => ?_⟩
  obtain ⟨nb, q1⟩ := q1
  obtain ⟨Hs2, g2, r2⟩ := r1.publish g1 f1 nb
  cases r2 with
  | list z s rs => exact ⟨_, rfl, ⟨_, Same.seq g2.wf.sub s⟩, k _ H1 Hs2 _ g2 (.enum (listAt_sh s rs)) (by rw [enumD, List.length_mapIdx, rs.length]; exact z) q1⟩
  | _ => exact q1.elim
def tpIb (K : PySem.W.Frag) (wi : WI) : TI := fun σ H R => ∃ Hs ρ tot Q, SRel K Hs ρ σ H tot ∧ wi ρ Q ∧ ∀ J H' Hs' ds, Grow Hs H Hs' H' → Walks' K H' J ds → ds.length ≤ sizeLine → Q ds → R J H'
abbrev QIb (X : Cx) (K : PySem.W.Frag) (tg iter : Expr) (wi : WI) : Prop := PI X tg iter (tpIb K wi)
def wbList (te : WE) : WI := fun ρ Q => te ρ fun _ d => match d with
  | .list xs => Q xs
  | _ => False
def wbTup (te : WE) : WI := fun ρ Q => te ρ fun _ d => match d with
  | .tup xs => Q xs
  | _ => False
def wbEnum (te : WE) : WI := fun ρ Q => te ρ fun _ d => match d with
  | .list xs => Q (enumD xs)
  | _ => False
def wbZip (te te2 : WE) : WI := fun ρ Q => te ρ fun _ d => te2 ρ fun _ d2 => match d, d2 with
  | .list xs, .list ys => Q (zipD xs ys)
  | _, _ => False
theorem qb_list (he : QE X K e te) (hK : X.K = K := by rfl) : QIb X K tg e (wbList te) := by
  subst hK
  refine PI.imp (pi_list he) fun σ H R ⟨Hs, ρ, tot, Q, sr, h, k⟩ => ⟨Hs, ρ, tot, _, sr, h, fun v H1 Hs1 m d As g1 r1 f1 q1 => ?_⟩
  have r := r1.rep g1.wf
  cases r with
  | list z s rs => exact ⟨_, rfl, ⟨_, s⟩, k _ H1 Hs1 _ g1 (.list (listAt_sh s rs)) (by rw [rs.length]; exact z) q1⟩
  | _ => exact q1.elim
end
section
variable {X : Cx} {K : PySem.W.Frag} {e e2 tg : Expr} {te te2 : WE} {pos p : Pos}
def wiZip (te te2 : WE) : WI := fun ρ Q => te ρ fun m d => notBo m ∧ te2 ρ fun m2 d2 => notBo m2 ∧ match d, d2 with
  | .list xs, .list ys => Q (zipD xs ys)
  | _, _ => False
theorem qi_zip {elts : List Expr} {kk : Nat} {tp : Pos} (hm : X.mg "zip" = none) (he : QE X K e te) (he2 : QE X K e2 te2) (hK : X.K = K := by rfl) (hg : Gl X "zip" := by rfl) (hs : starEach (e :: [e2]) X.env = (false, eval e X.env) :: starEach [e2] X.env := by rfl) (hs2 : starEach (e2 :: []) X.env = (false, eval e2 X.env) :: starEach [] X.env := by rfl)
    (hs' : starEach [e, e2] X.env = [(false, eval e X.env), (false, eval e2 X.env)] := by rfl) (hs'' : starEach [e2] X.env = [(false, eval e2 X.env)] := by rfl) : QI X K (.Tuple elts kk tp) (.Call (.Name "zip" p) [e, e2] [] pos) (wiZip te te2) := by
  subst hK
  refine PI.imp (pi_zip hg hm (pa_cons he (pa_cons he2 pa_nil hs2) hs) hs' hs'') fun σ H R ⟨Hs, ρ, tot, Q, sr, h, k⟩ => ⟨Hs, ρ, tot, _, sr, h, fun v H1 Hs1 m d As g1 r1 f1 q1 => ?_⟩
  obtain ⟨nb, q1⟩ := q1
  obtain ⟨Hs2, g2, r⟩ := r1.publish g1 f1 nb
  refine ⟨Hs2, ρ, tot, _, sr.grow g2, q1, fun u H3 Hs3 n y Bs g3 r3 f3 q3 => ?_⟩
  obtain ⟨nb3, q3⟩ := q3
  obtain ⟨Hs4, g4, r'⟩ := r3.publish g3 f3 nb3
  have r := r.same g4.sh
  cases r with
  | list z s rs => cases r' with
    | list z2 s2 rs2 => exact ⟨_, _, rfl, ⟨_, Same.seq g4.wf.sub s⟩, ⟨_, Same.seq g4.wf.sub s2⟩, k _ H3 Hs4 _ (g2.trans g4) (.zip (listAt_sh s rs) (listAt_sh s2 rs2)) (by rw [zipD, List.length_zipWith]; have := rs.length; omega) q3⟩
    | _ => exact q3.elim
  | _ => cases r' <;> exact q3.elim
end
def wForL (g : WG) (b : WS) (E : WEnds) : List D → Env → Prop
  | [], ρ => E.nx ρ
  | x :: xs, ρ => g x ρ fun ρ1 => b { E with nx := wForL g b E xs, ct := wForL g b E xs, bk := E.nx } ρ1
def wFor (wi : WI) (g : WG) (b : WS) : WS := fun E ρ => wi ρ fun ds => wForL g b E ds ρ
variable {wi : WI} {g : WG} {b : WS} {body : List Stmt}
theorem qs_for {iter : Expr} (hp : PassesOwn (model X.prog X.w) X.A X.env X.xe) (hc : X.calm = true) (hi : QI X K tg iter wi) (hg : QG X K tg g) (hb : QSs X K body b) (hs : ∀ x, foldedSetIterable iter X.env x = pure x := by intro _; rfl) :
    QS X K (.For tg iter body [] pos) (wFor wi g b) := by
  refine PS.imp (ps_for hp hc hi hg hb hs) fun D σ H ⟨Hs, ρ, tot, E, sr, h, k1, k2, k3, k4⟩ => ?_
  rw [tFor_eq]
  refine ⟨Hs, ρ, tot, _, sr, h, fun J H1 Hs1 ds g1 S hz q1 => ?_⟩
  refine ⟨fun i m σ H => m = ds.length - i ∧ i ≤ ds.length ∧ ∃ Hs' ρ' tot', Same Hs1 Hs' ∧ SRel K Hs' ρ' σ H tot' ∧ wForL g b E (ds.drop i) ρ', ⟨ds.length, by simp, Nat.zero_le _, Hs1, ρ, tot, Same.refl _, sr.grow g1, by simpa using q1⟩, ?_⟩
  rintro i m σ2 H2 ⟨rfl, hi, Hs2, ρ2, tot2, s2, sr2, q2⟩
  by_cases hlt : i < ds.length
  · refine .inr ⟨S.go i Hs2 H2 s2 sr2.wf hlt, fun σ3 H3 => ∃ Hs' ρ' tot', Same Hs1 Hs' ∧ SRel K Hs' ρ' σ3 H3 tot' ∧ wForL g b E (ds.drop (i + 1)) ρ', fun σ3 H3 h3 => ⟨ds.length - (i + 1), by omega, rfl, hlt, h3⟩, fun x H3 y => ?_⟩
    obtain ⟨Hs3, g3, rd⟩ := S.yld i Hs2 H2 x H3 ds[i] s2 sr2.wf (by simp [hlt]) y
    rw [List.drop_eq_getElem_cons hlt] at q2
    have s3 := s2.trans g3.sh
    refine ⟨Hs3, ρ2, tot2, ds[i], _, sr2.grow g3, rd, q2, fun σ4 ρ4 tot4 sr4 _ q4 => ?_⟩
    refine ⟨Hs3, ρ4, tot4, _, sr4, q4, ?_, ?_, ?_, ?_⟩
    · exact fun σ5 H5 Hs5 ρ5 tot5 s5 sr5 q5 => ⟨Hs5, ρ5, tot5, s3.trans s5, sr5, q5⟩
    · exact fun σ5 H5 Hs5 ρ5 tot5 s5 sr5 q5 => k1 σ5 H5 Hs5 ρ5 tot5 ((g1.sh.trans s3).trans s5) sr5 q5
    · exact fun σ5 H5 Hs5 ρ5 tot5 s5 sr5 q5 => ⟨Hs5, ρ5, tot5, s3.trans s5, sr5, q5⟩
    · exact fun v H5 Hs5 m d As s5 => k4 v H5 Hs5 m d As ((g1.sh.trans s3).trans s5)
  · have e : i = ds.length := by omega
    subst e
    refine .inl ⟨S.stop Hs2 H2 s2 sr2.wf, ?_⟩
    rw [List.drop_length] at q2
    exact k1 σ2 H2 Hs2 ρ2 tot2 (g1.sh.trans s2) sr2 q2
theorem forL_by {g : WG} {b : WS} {E : WEnds} (xs : List D) (Pv : Nat → Env → Prop) {ρ : Env} (h0 : Pv 0 ρ)
    (hs : ∀ i x ρ, xs[i]? = some x → Pv i ρ → ∀ N : Env → Prop, (∀ ρ', Pv (i + 1) ρ' → N ρ') → g x ρ fun ρ1 => b { E with nx := N, ct := N, bk := E.nx } ρ1)
    (hd : ∀ ρ, Pv xs.length ρ → E.nx ρ) : wForL g b E xs ρ := by
  have go : ∀ (k i : Nat) (ρ : Env), i + k = xs.length → Pv i ρ → wForL g b E (xs.drop i) ρ := by
    intro k
    induction k with
    | zero =>
      intro i ρ e p
      have : i = xs.length := by omega
      subst this
      rw [List.drop_length]
      exact hd ρ p
    | succ k ih =>
      intro i ρ e p
      have hi : i < xs.length := by omega
      rw [List.drop_eq_getElem_cons hi]
      exact hs i xs[i] ρ (by simp [hi]) p _ fun ρ2 h2 => ih (i + 1) ρ2 (by omega) h2
  have := go xs.length 0 ρ (by omega) h0
  simpa using this
def wWhile (c : WT) (b : WS) : WS := fun E ρ => ∃ (Pv : Env → Prop) (μ : Env → Nat), Pv ρ ∧ ∀ ρ, Pv ρ → c ρ fun k => if k = true then b { E with nx := fun ρ' => Pv ρ' ∧ μ ρ' < μ ρ, ct := fun ρ' => Pv ρ' ∧ μ ρ' < μ ρ, bk := E.nx } ρ else E.nx ρ
theorem qs_while {c : Expr} {tc : WT} (hp : PassesOwn (model X.prog X.w) X.A X.env X.xe) (hc : QT X K c tc) (hb : QSs X K body b) : QS X K (.While c body [] pos) (wWhile tc b) := by
  refine PS.imp (ps_while hp hc hb) fun D σ H ⟨Hs, ρ, tot, E, sr, h, k1, k2, k3, k4⟩ => ?_
  obtain ⟨Pv, μ, p0, turn⟩ := h
  refine ⟨fun m σ H => ∃ Hs' ρ' tot', Same Hs Hs' ∧ SRel K Hs' ρ' σ H tot' ∧ Pv ρ' ∧ μ ρ' = m, ⟨_, Hs, ρ, tot, Same.refl _, sr, p0, rfl⟩, ?_⟩
  rintro m σ2 H2 ⟨Hs2, ρ2, tot2, s2, sr2, p2, rfl⟩
  refine ⟨Hs2, ρ2, tot2, _, sr2, turn ρ2 p2, fun k H3 Hs3 g3 q3 => ?_⟩
  cases k with
  | false => exact k1 σ2 H3 Hs3 ρ2 tot2 (s2.trans g3.sh) (sr2.grow g3) q3
  | true =>
    refine ⟨fun σ' H' => ∃ Hs' ρ' tot', Same Hs Hs' ∧ SRel K Hs' ρ' σ' H' tot' ∧ Pv ρ' ∧ μ ρ' < μ ρ2, fun σ' H' ⟨Hs', ρ', tot', a, b, c, d⟩ => ⟨μ ρ', d, Hs', ρ', tot', a, b, c, rfl⟩, ?_⟩
    have s3 : Same Hs Hs3 := s2.trans g3.sh
    refine ⟨Hs3, ρ2, tot2, _, sr2.grow g3, q3, ?_, ?_, ?_, ?_⟩
    · exact fun σ5 H5 Hs5 ρ5 tot5 s5 sr5 q5 => ⟨Hs5, ρ5, tot5, s3.trans s5, sr5, q5.1, q5.2⟩
    · exact fun σ5 H5 Hs5 ρ5 tot5 s5 sr5 q5 => k1 σ5 H5 Hs5 ρ5 tot5 (s3.trans s5) sr5 q5
    · exact fun σ5 H5 Hs5 ρ5 tot5 s5 sr5 q5 => ⟨Hs5, ρ5, tot5, s3.trans s5, sr5, q5.1, q5.2⟩
    · exact fun v H5 Hs5 m d As s5 => k4 v H5 Hs5 m d As (s3.trans s5)
end
end L2.Q

set_option Elab.async false
set_option linter.all false
set_option maxRecDepth 100000
set_option maxHeartbeats 4000000

namespace L2.Q
open PySem PySem.Spec PyProof.Rows

def okEl (m : Md) (d : D) : Prop := d.flat = true ∨ m = .ow true
def wCompL (g : WG) (tc : WT) (te : WE) : List D → Env → (List D → Prop) → Prop
  | [], _, k => k []
  | x :: xs, ρ, k => g x ρ fun ρ1 => tc ρ1 fun b => if b = true then te ρ1 fun m d => okEl m d ∧ wCompL g tc te xs ρ1 (fun out => k (d :: out)) else wCompL g tc te xs ρ1 k
def compρ (tn : Nat) (ix : List Nat) (ρ : Env) : Env := List.replicate tn none ++ ix.map fun j => (ρ[j]?).join.map shC
def wComp (wi : WI) (g : WG) (tc : WT) (te : WE) (tn : Nat) (ix : List Nat) : WE := fun ρ Q => wi ρ fun ds => wCompL g tc te ds (compρ tn ix ρ) fun out => Q (.ow true) (.list out)
section
variable {X : Cx} {K : PySem.W.Frag}
theorem comp_start {Hs H G : Hp} {ρ : Env} {σ : St} {tot : List Addr} (sr : SRel K Hs ρ σ H tot) (G' : Hp) : ∀ (ix : List Nat), SR K H G' (ix.map fun j => (ρ[j]?).join.map shC) (ix.map fun j => (σ[j]?).join) []
  | [] => .nil
  | j :: ix => by
    have ih := comp_start sr G' ix (G := G)
    simp only [List.map_cons]
    cases e : ρ[j]? with
    | none => exact .non ih
    | some o =>
      cases o with
      | none => exact .non ih
      | some sl =>
        obtain ⟨v, e1, r⟩ := sr.sr.get e
        rw [e1]
        cases sl with
        | sh d => exact .sh (Rep.same sr.wf.sub r) ih
        | ow fl d =>
          obtain ⟨As, _, r, _⟩ := r
          exact .sh (r.rep sr.wf.sub fun _ _ => rfl) ih
        | lk a fl d =>
          obtain ⟨As, _, r, _⟩ := r
          exact .sh (r.rep sr.wf.sub fun _ _ => rfl) ih
theorem rep_start {H G : Hp} {ρ : Env} {σ : St} (s : SR K H G ρ σ []) : ∀ (n : Nat), SR K H G (List.replicate n none ++ ρ) (List.replicate n none ++ σ) []
  | 0 => s
  | n + 1 => .non (rep_start s n)
theorem SR.heap {Hs H H' : Hp} {ρ : Env} {σ : St} (s : SR K Hs H ρ σ []) : SR K Hs H' ρ σ [] := s.stay (Same.refl _) fun a h => nomatch h
theorem comp_lift {wi : WI} {g : WG} {tc : WT} {te : WE} {tn : Nat} {ix : List Nat} {σ : St} {H : Hp} {Qv : VK} (h : tpE K (wComp wi g tc te tn ix) σ H Qv) : tComp (tpIb K wi) (tpG K g) (tpT K tc) (tpE K te) tn ix σ H Qv := by
  obtain ⟨Hs, ρ, tot, Q, sr, h, f⟩ := h
  rw [tComp_eq]
  refine ⟨Hs, ρ, tot, _, sr, h, fun J H1 Hs1 ds g1 S hz q1 D hD => ?_⟩
  have sr1 := sr.grow g1
  have wfi : ∀ {G : Hp} {ys : List V}, Wf H1 G → G D = some (.lst ys) ∨ True → Wf H1 G := fun w _ => w
  have st : SRel K H1 (compρ tn ix ρ) (compσ tn ix σ) (upd H1 D (.lst [])) [] := by
    refine ⟨rep_start (comp_start (G := H1) sr1 _ ix) tn, ⟨(Same.refl H1).upd hD, fun a xs e => ?_⟩, List.nodup_nil, fun a h => nomatch h⟩
    by_cases ha : a = D
    · subst ha; rw [upd_same] at e; cases e
    · rw [upd_ne ha] at e; exact e
  refine ⟨fun i m τ H2 => m = ds.length - i ∧ i ≤ ds.length ∧ ∃ Hs2 ρ2 acc ys As, Same H1 Hs2 ∧ SRel K Hs2 ρ2 τ H2 [] ∧ H2 D = some (.lst ys) ∧ Hs2 D = none ∧ RepOs K Hs2 H2 true acc ys As ∧ (D :: As).Nodup ∧ (∀ a ∈ As, Hs2 a = none) ∧ acc.length ≤ i ∧
      wCompL g tc te (ds.drop i) ρ2 (fun out => Q (.ow true) (.list (acc ++ out))),
    ⟨ds.length, by simp, Nat.zero_le _, H1, _, [], [], [], Same.refl _, st, upd_same, hD, .nil, by simp, (fun a h => nomatch h), Nat.le_refl _, by simpa using q1⟩, ?_⟩
  rintro i m τ H2 ⟨rfl, hi, Hs2, ρ2, acc, ys, As, s2, sr2, eD, nD, ra, nd, own, la, q2⟩
  by_cases hlt : i < ds.length
  · refine .inr ⟨S.go i Hs2 H2 s2 sr2.wf hlt,
      fun τ3 v H4 => ∃ Hs4 ρ4 d m4 As4, Same H1 Hs4 ∧ SRel K Hs4 ρ4 τ3 H4 [] ∧ H4 D = some (.lst ys) ∧ Hs4 D = none ∧ RepOs K Hs4 H4 true acc ys As ∧ RM K Hs4 H4 m4 d v As4 ∧ okEl m4 d ∧ (D :: (As ++ As4)).Nodup ∧ (∀ a ∈ As ++ As4, Hs4 a = none) ∧
        wCompL g tc te (ds.drop (i + 1)) ρ4 (fun out => Q (.ow true) (.list (acc ++ d :: out))),
      fun τ3 H3 => ∃ Hs3 ρ3, Same H1 Hs3 ∧ SRel K Hs3 ρ3 τ3 H3 [] ∧ H3 D = some (.lst ys) ∧ Hs3 D = none ∧ RepOs K Hs3 H3 true acc ys As ∧ (∀ a ∈ As, Hs3 a = none) ∧ wCompL g tc te (ds.drop (i + 1)) ρ3 (fun out => Q (.ow true) (.list (acc ++ out))), ?_, ?_, ?_⟩
    · rintro τ3 v H4 ⟨Hs4, ρ4, d, m4, As4, s4, sr4, e4, n4, ra4, rm4, ok4, nd4, own4, q4⟩
      have lya := ra4.length
      refine ⟨ys, ds.length - (i + 1), e4, by omega, by omega, rfl, hlt, Hs4, ρ4, acc ++ [d], ys ++ [v], ?_⟩
      have wf5 : Wf Hs4 (upd H4 D (.lst (ys ++ [v]))) := ⟨fun a o e => by
          rw [upd_ne (fun z => by subst z; rw [n4] at e; cases e)]; exact sr4.wf.sub a o e, fun a xs e => by
          by_cases ha : a = D
          · subst ha; rw [upd_same] at e; cases e
          · rw [upd_ne ha] at e; exact sr4.wf.tups a xs e⟩
      have sr5 : SRel K Hs4 ρ4 τ3 (upd H4 D (.lst (ys ++ [v]))) [] := ⟨sr4.sr.heap, wf5, List.nodup_nil, fun a h => nomatch h⟩
      have nd4' := List.nodup_cons.mp nd4
      have ra5 : RepOs K Hs4 (upd H4 D (.lst (ys ++ [v]))) true acc ys As := ra4.stay (Same.refl _) fun a ha => upd_ne fun z => nd4'.1 (by subst z; exact List.mem_append_left _ ha)
      have qq : wCompL g tc te (ds.drop (i + 1)) ρ4 (fun out => Q (.ow true) (.list ((acc ++ [d]) ++ out))) := by simpa using q4
      have leaf : d.flat = true → RepO K Hs4 (upd H4 D (.lst (ys ++ [v]))) true d v [] := fun hf => .sh (fun _ => hf) (rm4.flat sr4.wf hf)
      rcases ok4 with hf | rfl
      · refine ⟨As ++ ([] ++ []), s4, sr5, upd_same, n4, ra5.append (.cons (leaf hf) .nil), ?_, fun a ha => own4 a ?_, by rw [List.length_append]; simpa using la, qq⟩
        · rw [List.append_nil, List.append_nil]
          exact List.nodup_cons.mpr ⟨fun z => nd4'.1 (List.mem_append_left _ z), (List.nodup_append.mp nd4'.2).1⟩
        · rw [List.append_nil, List.append_nil] at ha
          exact List.mem_append_left _ ha
      · refine ⟨As ++ (As4 ++ []), s4, sr5, upd_same, n4, ra5.append (.cons (rm4.1.stay (Same.refl _) fun a ha => upd_ne fun z => nd4'.1 (by subst z; exact List.mem_append_right _ ha)) .nil), ?_, fun a ha => own4 a ?_, by rw [List.length_append]; simpa using la, qq⟩
        · rw [List.append_nil]; exact nd4
        · rw [List.append_nil] at ha; exact ha
    · rintro τ3 H3 ⟨Hs3, ρ3, s3, sr3, e3, n3, ra3, own3, q3⟩
      exact ⟨ds.length - (i + 1), by omega, rfl, hlt, Hs3, ρ3, acc, ys, As, s3, sr3, e3, n3, ra3, nd, own3, by omega, q3⟩
    · intro x H3 y
      obtain ⟨Hs3, g3, rd⟩ := S.yld i Hs2 H2 x H3 ds[i] s2 sr2.wf (by simp [hlt]) y
      rw [List.drop_eq_getElem_cons hlt] at q2
      have sr3 := sr2.grow g3
      have s3 := s2.trans g3.sh
      have eD3 : H3 D = some (.lst ys) := g3.all _ _ eD
      have nD3 : Hs3 D = none := g3.hsn nD (by rw [eD]; exact fun z => nomatch z)
      have ra3 := ra.grow g3.sh g3.all
      have own3 : ∀ a ∈ As, Hs3 a = none := fun a ha => g3.hsn (own a ha) (ra.own a ha).ne
      clear eD nD own
      refine ⟨Hs3, ρ2, [], ds[i], _, sr3, rd, q2, fun τ4 ρ4 tot4 sr4 m4 q4 => ?_⟩
      have t4 : tot4 = [] := List.eq_nil_iff_forall_not_mem.mpr fun a ha => nomatch m4 a ha
      subst t4
      refine ⟨Hs3, ρ4, [], _, sr4, q4, fun b H5 Hs5 g5 q5 => ?_⟩
      have sr5 := sr4.grow g5
      have e5 : H5 D = some (.lst ys) := g5.all _ _ eD3
      have n5 : Hs5 D = none := g5.hsn nD3 (by rw [eD3]; exact fun z => nomatch z)
      have ra5 := ra3.grow g5.sh g5.all
      have own5 : ∀ a ∈ As, Hs5 a = none := fun a ha => g5.hsn (own3 a ha) (ra3.own a ha).ne
      cases b with
      | false => exact ⟨Hs5, ρ4, s3.trans g5.sh, sr5, e5, n5, ra5, own5, q5⟩
      | true =>
        refine ⟨Hs5, ρ4, [], _, sr5, q5, fun v H6 Hs6 m6 d6 As6 g6 r6 f6 q6 => ?_⟩
        refine ⟨Hs6, ρ4, d6, m6, As6, (s3.trans g5.sh).trans g6.sh, sr5.grow g6, g6.all _ _ e5, g6.hsn n5 (by rw [e5]; exact fun z => nomatch z), ra5.grow g6.sh g6.all, r6, q6.1, ?_, fun a ha => ?_, q6.2⟩
        · have nd' := List.nodup_cons.mp nd
          refine List.nodup_cons.mpr ⟨fun z => ?_, List.nodup_append.mpr ⟨nd'.2, f6.1, fun a ha b hb e => ?_⟩⟩
          · rcases List.mem_append.mp z with z | z
            · exact nd'.1 z
            · have := (f6.2 D z).2
              rw [e5] at this; cases this
          · subst e
            exact (ra5.own a ha).ne (f6.2 a hb).2
        · rcases List.mem_append.mp ha with z | z
          · exact g6.hsn (own5 a z) (ra5.own a z).ne
          · exact (f6.2 a z).1
  · have e : i = ds.length := by omega
    subst e
    refine .inl ⟨S.stop Hs2 H2 s2 sr2.wf, ?_⟩
    rw [List.drop_length] at q2
    have q2 : Q (.ow true) (.list (acc ++ [])) := q2
    rw [List.append_nil] at q2
    have lya := ra.length
    have rm : RM K Hs2 H2 (.ow true) (.list acc) (.ref D) (D :: As) := ⟨.list (by omega) eD ra, by simp⟩
    obtain ⟨As', r', fr⟩ := back_RM g1.wf s2 sr2.wf rm nd fun a ha => by
      rcases List.mem_cons.mp ha with rfl | ha
      · exact nD
      · exact own a ha
    exact Fin.after f g1 (.ref D) H2 _ (.ow true) (.list acc) As' (back_grow g1.wf s2 sr2.wf) r' fr q2
theorem PTs.imp {ifs : List Expr} {t t' : TT} (h : PTs X ifs t) (i : ∀ σ H Q, t' σ H Q → t σ H Q) : PTs X ifs t' := fun pins s σ H Q I q => h pins s σ H Q I (i σ H Q q)
abbrev QTs (X : Cx) (K : PySem.W.Frag) (ifs : List Expr) (t : WT) : Prop := PTs X ifs (tpT K t)
theorem qts_one {c : Expr} {t : WT} (h : QT X K c t) : QTs X K [c] t := pts_one h
theorem q_comp {tg iter elt : Expr} {ifs : List Expr} {scope : Scope} {pos : Pos} {wi : WI} {g : WG} {tc : WT} {te : WE} {tn cn : List Str} {ix : List Nat} (hc : X.calm = true) (hi : QIb X K tg iter wi) (O : CompOk X scope tn cn ix)
    (hg : ∀ C fp s₃ H₃, QG (cxComp X scope C (tn ++ cn) fp s₃ H₃) K tg g) (hcs : ∀ C fp s₃ H₃, QTs (cxComp X scope C (tn ++ cn) fp s₃ H₃) K ifs tc) (he : ∀ C fp s₃ H₃, QE (cxComp X scope C (tn ++ cn) fp s₃ H₃) K elt te)
    (hs : ∀ x, foldedSetIterable iter X.env x = pure x := by intro _; rfl) : QE X K (.ListComp elt [⟨tg, iter, ifs, 0⟩] scope pos) (wComp wi g tc te tn.length ix) :=
  PE.imp (pe_comp hc hi O hg hcs he hs) fun σ H Qv h => comp_lift h
end
theorem compL_by {g : WG} {tc : WT} {te : WE} (p : D → Bool) (f : D → D) (Iv : Env → Prop) : ∀ (xs : List D) (ρ : Env) (k : List D → Prop), Iv ρ →
    (∀ x ∈ xs, ∀ ρ, Iv ρ → ∀ N1 : Env → Prop, ∀ N2 : Env → D → Prop, (∀ ρ', Iv ρ' → p x = false → N1 ρ') → (∀ ρ', Iv ρ' → p x = true → N2 ρ' (f x)) → g x ρ fun ρ1 => tc ρ1 fun b => if b = true then te ρ1 fun m d => okEl m d ∧ N2 ρ1 d else N1 ρ1) →
    k ((xs.filter p).map f) → wCompL g tc te xs ρ k
  | [], _, k, _, _, h => h
  | x :: xs, ρ, k, iv, hs, h => by
    refine hs x List.mem_cons_self ρ iv _ _ (fun ρ' iv' hp => ?_) (fun ρ' iv' hp => ?_)
    · exact compL_by p f Iv xs ρ' k iv' (fun y hy => hs y (List.mem_cons_of_mem _ hy)) (by simpa [hp] using h)
    · exact compL_by p f Iv xs ρ' _ iv' (fun y hy => hs y (List.mem_cons_of_mem _ hy)) (by simpa [hp] using h)
end L2.Q

set_option Elab.async false
set_option linter.all false
set_option maxRecDepth 100000
set_option maxHeartbeats 4000000

namespace L2.Q
open PySem PySem.Spec PyProof.Rows

structure Place (K : PySem.W.Frag) (Hs H : Hp) (σ : St) (fl : Bool) (d : D) (v : V) (up : Bool → D → Env) : Prop where
  ex : ∃ As', RepO K Hs H fl d v As' ∧ As' ≠ [] ∧ As'.Nodup ∧ (∀ a ∈ As', Hs a = none) ∧ ∀ Hs2 H2 fl2 d2 As2, Same Hs Hs2 → Wf Hs2 H2 → (∀ a, Hs a = none → H a ≠ none → Hs2 a = none) → (fl2 = true → fl = true) →
    RepO K Hs2 H2 fl2 d2 v As2 → As2 ≠ [] → As2.Nodup → (∀ a ∈ As2, Hs2 a = none ∧ (a ∈ As' ∨ H a = none)) → (∀ a, H a ≠ none → a ∉ As' → H2 a = H a) → ∃ tot2, SRel K Hs2 (up fl2 d2) σ H2 tot2
abbrev WP := Env → (Bool → D → (Bool → D → Env) → Prop) → Prop
def tpP (K : PySem.W.Frag) (t : WP) : TE := fun σ H Qv => ∃ Hs ρ tot Q, SRel K Hs ρ σ H tot ∧ t ρ Q ∧ ∀ v H' Hs' fl d up, Grow Hs H Hs' H' → Place K Hs' H' σ fl d v up → Q fl d up → Qv v H'
abbrev QP (X : Cx) (K : PySem.W.Frag) (e : Expr) (t : WP) : Prop := PE X e (tpP K t)
section
variable {K : PySem.W.Frag} {Hs H Hs' H' : Hp} {σ : St} {fl : Bool} {d : D} {v : V} {up : Bool → D → Env}
theorem Place.grow (p : Place K Hs H σ fl d v up) (g : Grow Hs H Hs' H') : Place K Hs' H' σ fl d v up := by
  obtain ⟨As', r, ne, nd, own, k⟩ := p.ex
  refine ⟨As', r.grow g.sh g.all, ne, nd, fun a h => g.hsn (own a h) (r.own a h).ne, fun Hs2 H2 fl2 d2 As2 s2 w2 n2 hf r2 ne2 nd2 o2 st => ?_⟩
  refine k Hs2 H2 fl2 d2 As2 (g.sh.trans s2) w2 (fun a h1 h2 => n2 a (g.hsn h1 h2) ?_) hf r2 ne2 nd2 (fun a h => ⟨(o2 a h).1, (o2 a h).2.imp id g.all.free⟩) fun a h1 h2 => ?_
  · cases e : H a with
    | none => exact absurd e h2
    | some o => rw [g.all a o e]; exact fun z => nomatch z
  · cases e : H a with
    | none => exact absurd e h1
    | some o =>
      have := g.all a o e
      rw [← this]
      exact st a (by rw [this]; exact fun z => nomatch z) h2
mutual
theorem RepO.ne : ∀ {d : D} {v : V} {As : List Addr}, RepO K Hs H true d v As → d.flat = false → As ≠ []
  | _, _, _, .sh f _, h => by rw [f rfl] at h; cases h
  | _, _, _, .list _ _ _, _ => by simp
  | _, _, _, .tup _ _ n rs, h => RepOs.ne rs n
  | _, _, _, .dK _ _ _, _ => by simp
  | _, _, _, .dT _ _ _, _ => by simp
theorem RepOs.ne : ∀ {ds : List D} {vs : List V} {As : List Addr}, RepOs K Hs H true ds vs As → flats ds = false → As ≠ []
  | _, _, _, .nil, h => by simp [flats] at h
  | _, _, _, .cons (d := d) r rs, h => by
    cases e : d.flat with
    | false => exact fun z => RepO.ne r e (List.append_eq_nil_iff.mp z).1
    | true =>
      simp only [flats, e, Bool.true_and] at h
      exact fun z => RepOs.ne rs h (List.append_eq_nil_iff.mp z).2
end
theorem RepO.nil_of {fl : Bool} {d : D} {v : V} {As : List Addr} (r : RepO K Hs H fl d v As) (h : d.flat = true) : As = [] := by
  cases r with
  | sh _ _ => rfl
  | tup _ _ n _ => simp [D.flat, n] at h
  | _ => simp [D.flat] at h
def wpN (i : Nat) : WP := fun ρ Q => match ρ[i]? with
  | some (some (.ow fl d)) => Q fl d fun fl2 d2 => ρ.set i (some (.ow fl2 d2))
  | _ => False
theorem SR.put {Hs H : Hp} {fl : Bool} {d : D} : ∀ {ρ : Env} {σ : St} {tot : List Addr} (i : Nat), SR K Hs H ρ σ tot → ρ[i]? = some (some (.ow fl d)) → tot.Nodup →
    ∃ (v : V) (As tot' : List Addr), σ[i]? = some (some v) ∧ As ≠ [] ∧ RepO K Hs H fl d v As ∧ As.Sublist tot ∧ ∀ Hs2 H2 fl2 d2 As2, Same Hs Hs2 → RepO K Hs2 H2 fl2 d2 v As2 → As2 ≠ [] → As2.Nodup → (∀ a ∈ As2, a ∈ tot → a ∈ As) → (∀ a ∈ tot, a ∉ As → H2 a = H a) →
      ∃ tot2, tot2.Nodup ∧ (∀ a ∈ tot2, a ∈ tot ∨ a ∈ As2) ∧ SR K Hs2 H2 (ρ.set i (some (.ow fl2 d2))) σ tot2
  | _, _, _, _, .nil, e, _ => by simp at e
  | _, _, _, 0, .non _, e, _ => by simp at e
  | _, _, _, 0, .sh _ _, e, _ => by simp at e
  | _, _, _, 0, .lk _ _ _, e, _ => by simp at e
  | _, _, _, 0, .ow (As := B) (tot := t2) (v := v) ne r q, e, n => by
    simp at e
    obtain ⟨rfl, rfl⟩ := e
    obtain ⟨n1, n2, n3⟩ := List.nodup_append.mp n
    refine ⟨v, B, t2, rfl, ne, r, List.sublist_append_left _ _, fun Hs2 H2 fl2 d2 As2 s2 r2 ne2 nd2 dj st => ⟨As2 ++ t2, List.nodup_append.mpr ⟨nd2, n2, fun a ha b hb e => ?_⟩, fun a h => ?_, .ow ne2 r2 (q.stay s2 fun a h => st a (List.mem_append_right _ h) fun z => n3 a z a h rfl)⟩⟩
    · subst e
      exact n3 a (dj a ha (List.mem_append_right _ hb)) a hb rfl
    · exact (List.mem_append.mp h).symm.imp (fun z => List.mem_append_right _ z) id
  | _, _, _, i + 1, .non q, e, n => by
    obtain ⟨v, As, t, a, b, c, d, g⟩ := SR.put i q (by simpa using e) n
    refine ⟨v, As, t, by simpa using a, b, c, d, fun Hs2 H2 fl2 d2 As2 s2 r2 ne2 nd2 dj st => ?_⟩
    obtain ⟨t2, x, y, z⟩ := g Hs2 H2 fl2 d2 As2 s2 r2 ne2 nd2 dj st
    exact ⟨t2, x, y, .non z⟩
  | _, _, _, i + 1, .sh r q, e, n => by
    obtain ⟨v, As, t, a, b, c, d, g⟩ := SR.put i q (by simpa using e) n
    refine ⟨v, As, t, by simpa using a, b, c, d, fun Hs2 H2 fl2 d2 As2 s2 r2 ne2 nd2 dj st => ?_⟩
    obtain ⟨t2, x, y, z⟩ := g Hs2 H2 fl2 d2 As2 s2 r2 ne2 nd2 dj st
    exact ⟨t2, x, y, .sh (r.same s2) z⟩
  | _, _, _, i + 1, .ow (As := B) ne r q, e, n => by
    obtain ⟨n1, n2, n3⟩ := List.nodup_append.mp n
    obtain ⟨v, As, t, a, b, c, d, g⟩ := SR.put i q (by simpa using e) n2
    have hB : ∀ x ∈ B, x ∉ As := fun x hx m => n3 x hx x (d.subset m) rfl
    refine ⟨v, As, B ++ t, by simpa using a, b, c, d.trans (List.sublist_append_right _ _), fun Hs2 H2 fl2 d2 As2 s2 r2 ne2 nd2 dj st => ?_⟩
    obtain ⟨t2, x, y, z⟩ := g Hs2 H2 fl2 d2 As2 s2 r2 ne2 nd2 (fun a ha m => dj a ha (List.mem_append_right _ m)) fun a ha m => st a (List.mem_append_right _ ha) m
    refine ⟨B ++ t2, List.nodup_append.mpr ⟨n1, x, fun a ha b hb e => ?_⟩, fun a h => ?_, .ow ne (r.stay s2 fun a h => st a (List.mem_append_left _ h) (hB a h)) z⟩
    · subst e
      rcases y a hb with w | w
      · exact n3 a ha a w rfl
      · exact hB a ha (dj a w (List.mem_append_left _ ha))
    · rcases List.mem_append.mp h with w | w
      · exact .inl (List.mem_append_left _ w)
      · exact (y a w).imp (fun w => List.mem_append_right _ w) id
  | _, _, _, i + 1, .lk (As := B) ne r q, e, n => by
    obtain ⟨n1, n2, n3⟩ := List.nodup_append.mp n
    obtain ⟨v, As, t, a, b, c, d, g⟩ := SR.put i q (by simpa using e) n2
    have hB : ∀ x ∈ B, x ∉ As := fun x hx m => n3 x hx x (d.subset m) rfl
    refine ⟨v, As, B ++ t, by simpa using a, b, c, d.trans (List.sublist_append_right _ _), fun Hs2 H2 fl2 d2 As2 s2 r2 ne2 nd2 dj st => ?_⟩
    obtain ⟨t2, x, y, z⟩ := g Hs2 H2 fl2 d2 As2 s2 r2 ne2 nd2 (fun a ha m => dj a ha (List.mem_append_right _ m)) fun a ha m => st a (List.mem_append_right _ ha) m
    refine ⟨B ++ t2, List.nodup_append.mpr ⟨n1, x, fun a ha b hb e => ?_⟩, fun a h => ?_, .lk ne (r.stay s2 fun a h => st a (List.mem_append_left _ h) (hB a h)) z⟩
    · subst e
      rcases y a hb with w | w
      · exact n3 a ha a w rfl
      · exact hB a ha (dj a w (List.mem_append_left _ ha))
    · rcases List.mem_append.mp h with w | w
      · exact .inl (List.mem_append_left _ w)
      · exact (y a w).imp (fun w => List.mem_append_right _ w) id
theorem qp_name {X : Cx} {i : Nat} {e : Expr} (h : PE X e (tVar i)) : QP X K e (wpN i) := PE.imp h fun σ H Qv ⟨Hs, ρ, tot, Q, sr, h, f⟩ => by
  unfold wpN at h
  split at h
  · rename_i fl d e1
    obtain ⟨v, As, t, e2, ne, r, sb, g⟩ := SR.put i sr.sr e1 sr.nod
    refine ⟨v, e2, f v H Hs fl d _ (Grow.refl sr.wf) ⟨As, r, ne, sb.nodup sr.nod, fun a h => sr.own a (sb.subset h), fun Hs2 H2 fl2 d2 As2 s2 w2 n2 _ r2 ne2 nd2 o2 st => ?_⟩ h⟩
    obtain ⟨t2, x, y, z⟩ := g Hs2 H2 fl2 d2 As2 s2 r2 ne2 nd2 (fun a ha m => (o2 a ha).2.elim id fun q => absurd q (sr.sr.own a m).ne) fun a ha m => st a (sr.sr.own a ha).ne m
    exact ⟨t2, z, w2, x, fun a h => (y a h).elim (fun q => n2 a (sr.own a q) (sr.sr.own a q).ne) fun q => (o2 a q).1⟩
  · exact h.elim
theorem RepO.wk {fl fl2 : Bool} {d : D} {v : V} {As : List Addr} (h : fl2 = true → fl = true) (r : RepO K Hs H fl d v As) : RepO K Hs H fl2 d v As := by
  cases fl2 with
  | false => exact r.fls
  | true => rw [h rfl] at r; exact r
theorem RepOs.wk {fl fl2 : Bool} {d : List D} {v : List V} {As : List Addr} (h : fl2 = true → fl = true) (r : RepOs K Hs H fl d v As) : RepOs K Hs H fl2 d v As := by
  cases fl2 with
  | false => exact r.fls
  | true => rw [h rfl] at r; exact r
theorem RepOs.at {fl : Bool} : ∀ {ds : List D} {vs : List V} {As : List Addr} {j : Nat} {d : D}, RepOs K Hs H fl ds vs As → ds[j]? = some d → As.Nodup →
    ∃ (v : V) (B : List Addr), vs[j]? = some v ∧ RepO K Hs H fl d v B ∧ B.Sublist As ∧ ∀ Hs2 H2 fl2 d2 B2, Same Hs Hs2 → (fl2 = true → fl = true) → RepO K Hs2 H2 fl2 d2 v B2 → B2.Nodup → (∀ a ∈ B2, a ∈ As → a ∈ B) → (∀ a ∈ As, a ∉ B → H2 a = H a) →
      ∃ As2, As2.Nodup ∧ (∀ a ∈ As2, (a ∈ As ∧ a ∉ B) ∨ a ∈ B2) ∧ (B2 ≠ [] → As2 ≠ []) ∧ RepOs K Hs2 H2 fl2 (ds.set j d2) vs As2
  | _, _, _, _, _, .nil, e, _ => by simp at e
  | _, _, _, 0, _, .cons (As := A) (Bs := B) (v := v) r rs, e, n => by
    simp at e
    subst e
    obtain ⟨n1, n2, n3⟩ := List.nodup_append.mp n
    refine ⟨v, A, rfl, r, List.sublist_append_left _ _, fun Hs2 H2 fl2 d2 B2 s2 hf r2 nd2 dj st => ⟨B2 ++ B, List.nodup_append.mpr ⟨nd2, n2, fun a ha b hb e => ?_⟩, fun a h => ?_, fun ne z => ne (List.append_eq_nil_iff.mp z).1, .cons r2 ((rs.wk hf).stay s2 fun a h => st a (List.mem_append_right _ h) fun z => n3 a z a h rfl)⟩⟩
    · subst e
      exact n3 a (dj a ha (List.mem_append_right _ hb)) a hb rfl
    · rcases List.mem_append.mp h with w | w
      · exact .inr w
      · exact .inl ⟨List.mem_append_right _ w, fun z => n3 a z a w rfl⟩
  | _, _, _, j + 1, _, .cons (As := A) (Bs := B) r rs, e, n => by
    obtain ⟨n1, n2, n3⟩ := List.nodup_append.mp n
    obtain ⟨v, C, a, b, c, g⟩ := RepOs.at (j := j) rs (by simpa using e) n2
    have hA : ∀ x ∈ A, x ∉ C := fun x hx m => n3 x hx x (c.subset m) rfl
    refine ⟨v, C, by simpa using a, b, c.trans (List.sublist_append_right _ _), fun Hs2 H2 fl2 d2 B2 s2 hf r2 nd2 dj st => ?_⟩
    obtain ⟨As2, x, y, w, z⟩ := g Hs2 H2 fl2 d2 B2 s2 hf r2 nd2 (fun a ha m => dj a ha (List.mem_append_right _ m)) fun a ha m => st a (List.mem_append_right _ ha) m
    refine ⟨A ++ As2, List.nodup_append.mpr ⟨n1, x, fun a ha b hb e => ?_⟩, fun a h => ?_, fun ne q => w ne (List.append_eq_nil_iff.mp q).2, .cons ((r.wk hf).stay s2 fun a h => st a (List.mem_append_left _ h) (hA a h)) z⟩
    · subst e
      rcases y a hb with q | q
      · exact n3 a ha a q.1 rfl
      · exact hA a ha (dj a q (List.mem_append_left _ ha))
    · rcases List.mem_append.mp h with q | q
      · exact .inl ⟨List.mem_append_left _ q, hA a q⟩
      · exact (y a q).imp (fun q => ⟨List.mem_append_right _ q.1, q.2⟩) id
def wpIx (p : WP) (t : WE) : WP := fun ρ Q => p ρ fun fl d up => t ρ fun _ y => fl = true ∧ match y with
  | .int i => match d with
    | .list ds => ∃ j d', ixN ds.length i = some j ∧ ds[j]? = some d' ∧ d'.flat = false ∧ Q true d' fun fl2 d2 => up fl2 (.list (ds.set j d2))
    | .tup ds => ∃ j d', ixN ds.length i = some j ∧ ds[j]? = some d' ∧ d'.flat = false ∧ Q true d' fun fl2 d2 => up fl2 (.tup (ds.set j d2))
    | _ => False
  | _ => False
theorem ix_at {α : Type} {xs : List α} {i : Int} {j : Nat} {x : α} (h : ixN xs.length i = some j) (e : xs[j]? = some x) : atI xs i = some x := by unfold L2.atI; rw [h]; exact e
theorem flats_at {ds : List D} {j : Nat} {d : D} (e : ds[j]? = some d) (h : d.flat = false) : flats ds = false := by
  cases q : flats ds with
  | false => rfl
  | true => rw [flats_iff.mp q d (List.mem_of_getElem? e)] at h; cases h
theorem flats_set {ds : List D} {j : Nat} {d d2 : D} (e : ds[j]? = some d) (h : d2.flat = false) : flats (ds.set j d2) = false := by
  have hj : j < ds.length := (List.getElem?_eq_some_iff.mp e).1
  exact flats_at (j := j) (d := d2) (by simp [hj]) h
theorem qp_ix {X : Cx} {a b : Expr} {p : WP} {t : WE} {pos : Pos} (hu : X.A.units + 64 < cLine) (ha : QP X K a p) (hb : QE X K b t) (hs : PlainIx b := by exact fun _ _ => rfl) (hK : X.K = K := by rfl) : QP X K (.Subscript a b pos) (wpIx p t) := by
  refine PE.imp (pe_ix (kIxD hu hK) ha hb hs) fun σ H Qv ⟨Hs, ρ, tot, Q, sr, h, f⟩ => ?_
  refine ⟨Hs, ρ, tot, _, sr, h, fun v H1 Hs1 fl d up g1 p1 q1 => ⟨Hs1, ρ, tot, _, sr.grow g1, q1, fun u H2 Hs2 m y As g2 r2 f2 q2 => ?_⟩⟩
  have p2 := p1.grow g2
  have gg := g1.trans g2
  obtain ⟨rfl, q2⟩ := q2
  have ry := r2.rep g2.wf
  cases ry with
  | int i =>
    obtain ⟨As', r, ne, nd, own, k⟩ := p2.ex
    cases r with
    | sh hf _ => exact absurd rfl ne
    | @list a0 vs0 ds0 A0 hz e rs =>
      obtain ⟨j, d', e1, e2, hd, q⟩ := q2
      obtain ⟨na, nb⟩ := List.nodup_cons.mp nd
      obtain ⟨w, B, e3, r3, sb, g⟩ := rs.at e2 nb
      refine .inl (.inl ⟨_, w, .inl (.inl e), ix_at (by rw [← rs.length]; exact e1) e3, f w H2 Hs2 true d' _ gg ⟨B, r3, r3.ne hd, sb.nodup nb, fun a h => own a (List.mem_cons_of_mem _ (sb.subset h)), fun Hs3 H3 fl3 d3 As3 s3 w3 n3 hf r4 ne3 nd3 o3 st => ?_⟩ q⟩)
      have st' : ∀ x ∈ A0, x ∉ B → H3 x = H2 x := fun x hx m => st x (rs.own x hx).ne m
      obtain ⟨As4, x4, y4, z4, r5⟩ := g Hs3 H3 fl3 d3 As3 s3 hf r4 nd3 (fun a ha m => (o3 a ha).2.elim id fun q => absurd q (rs.own a m).ne) st'
      have eA : H3 a0 = H2 a0 := st a0 (by rw [e]; exact fun z => nomatch z) fun m => na (sb.subset m)
      have cl : ∀ a ∈ As4, Hs3 a = none ∧ (a ∈ a0 :: A0 ∨ H2 a = none) := fun a h => by
        rcases y4 a h with ⟨m, _⟩ | m
        · exact ⟨n3 a (own a (List.mem_cons_of_mem _ m)) (rs.own a m).ne, .inl (List.mem_cons_of_mem _ m)⟩
        · exact ⟨(o3 a m).1, (o3 a m).2.imp (fun q => List.mem_cons_of_mem _ (sb.subset q)) id⟩
      refine k Hs3 H3 fl3 (.list _) (_ :: As4) s3 w3 n3 hf (.list hz (eA.trans e) r5) (by simp) (List.nodup_cons.mpr ⟨fun m => ?_, x4⟩) (fun a h => ?_) fun a h1 h2 => st a h1 fun m => h2 (List.mem_cons_of_mem _ (sb.subset m))
      · rcases y4 _ m with ⟨q, _⟩ | q
        · exact na q
        · rcases (o3 _ q).2 with q | q
          · exact na (sb.subset q)
          · rw [e] at q; cases q
      · rcases List.mem_cons.mp h with rfl | h
        · exact ⟨n3 _ (own _ List.mem_cons_self) (by rw [e]; exact fun z => nomatch z), .inl List.mem_cons_self⟩
        · exact cl a h
    | tup hz e hn rs =>
      obtain ⟨j, d', e1, e2, hd, q⟩ := q2
      obtain ⟨w, B, e3, r3, sb, g⟩ := rs.at e2 nd
      refine .inl (.inr ⟨_, w, .inl (.inl (g2.wf.sub _ _ e)), ix_at (by rw [← rs.length]; exact e1) e3, f w H2 Hs2 true d' _ gg ⟨B, r3, r3.ne hd, sb.nodup nd, fun a h => own a (sb.subset h), fun Hs3 H3 fl3 d3 As3 s3 w3 n3 hf r4 ne3 nd3 o3 st => ?_⟩ q⟩)
      obtain ⟨As4, x4, y4, z4, r5⟩ := g Hs3 H3 fl3 d3 As3 s3 hf r4 nd3 (fun a ha m => (o3 a ha).2.elim id fun q => absurd q (rs.own a m).ne) (fun x hx m => st x (rs.own x hx).ne m)
      have hn2 : flats (List.set _ j d3) = false := flats_set e2 (by
        cases hh : d3.flat with
        | false => rfl
        | true => exact absurd (r4.nil_of hh) ne3)
      refine k Hs3 H3 fl3 (.tup _) As4 s3 w3 n3 hf (.tup hz (s3 _ _ e) hn2 r5) (z4 ne3) x4 (fun a h => ?_) fun a h1 h2 => st a h1 fun m => h2 (sb.subset m)
      rcases y4 a h with ⟨m, _⟩ | m
      · exact ⟨n3 a (own a m) (rs.own a m).ne, .inl m⟩
      · exact ⟨(o3 a m).1, (o3 a m).2.imp (fun q => sb.subset q) id⟩
    | _ => exact q2.elim
  | _ => exact q2.elim
end

section
variable {X : Cx} {K : PySem.W.Frag} {e : Expr} {p : WP} {te : WE} {apos cpos pos : Pos}
def pushFl (fl : Bool) (m : Md) (d : D) : Option Bool := match m with
  | .sh => some (fl && d.flat)
  | .ow b => some (fl && b)
  | .bo => bif d.flat then some fl else none
def wApp (p : WP) (te : WE) : WS := fun E ρ => p ρ fun fl d up => match d with
  | .list xs => te ρ fun m x => xs.length < sizeLine ∧ match pushFl fl m x with
    | some fl2 => E.nx (up fl2 (.list (xs ++ [x])))
    | none => False
  | _ => False
theorem push_rep {Hs H : Hp} {fl fl2 : Bool} {m : Md} {d : D} {v : V} {As : List Addr} (w : Wf Hs H) (r : RM K Hs H m d v As) (h : pushFl fl m d = some fl2) : (fl2 = true → fl = true) ∧ ∃ B, B.Sublist As ∧ RepO K Hs H fl2 d v B := by
  cases m with
  | sh =>
    cases h
    exact ⟨fun z => by cases fl <;> simp_all, [], List.nil_sublist _, .sh (fun z => by cases fl <;> simp_all) r.2⟩
  | ow b =>
    cases h
    refine ⟨fun z => by cases fl <;> simp_all, As, List.Sublist.refl _, r.1.wk fun z => by cases fl <;> simp_all⟩
  | bo =>
    cases hf : d.flat with
    | true =>
      simp only [pushFl, hf, cond_true, Option.some.injEq] at h
      subst h
      exact ⟨id, [], List.nil_sublist _, .sh (fun _ => hf) (r.flat w hf)⟩
    | false => simp [pushFl, hf] at h
theorem Place.put {Hs1 H1 Hs2 H2 : Hp} {σ : St} {fl : Bool} {xs : List D} {v : V} {up : Bool → D → Env} (pl : Place K Hs1 H1 σ fl (.list xs) v up) (g : Grow Hs1 H1 Hs2 H2) :
    ∃ a vs A, v = .ref a ∧ H2 a = some (.lst vs) ∧ H1 a = some (.lst vs) ∧ RepOs K Hs2 H2 fl xs vs A ∧ (a :: A).Nodup ∧ (∀ x ∈ a :: A, Hs2 x = none ∧ H1 x ≠ none) ∧
      ∀ fl2 ys ws C, (fl2 = true → fl = true) → RepOs K Hs2 H2 fl2 ys ws C → ws.length ≤ sizeLine → C.Nodup → a ∉ C → (∀ x ∈ C, x ∈ A ∨ (Hs2 x = none ∧ H1 x = none)) → ∃ tot2, SRel K Hs2 (up fl2 (.list ys)) σ (upd H2 a (.lst ws)) tot2 := by
  obtain ⟨As', r, ne, nd, own, k⟩ := pl.ex
  cases r with
  | sh hf _ => exact absurd rfl ne
  | @list a vs _ A hz e rs =>
    have e2 := g.all _ _ e
    have rs2 := rs.grow g.sh g.all
    have hn : ∀ x ∈ a :: A, Hs2 x = none ∧ H1 x ≠ none := fun x hx => by
      have hx' : H1 x ≠ none := by
        rcases List.mem_cons.mp hx with rfl | hx
        · rw [e]; exact fun z => nomatch z
        · exact (rs.own x hx).ne
      exact ⟨g.hsn (own x hx) hx', hx'⟩
    refine ⟨a, vs, A, rfl, e2, e, rs2, nd, hn, fun fl2 ys ws C hf rw' hw ndC naC hC => ?_⟩
    have w2 : Wf Hs2 (upd H2 a (.lst ws)) := ⟨fun b o q => by
        rw [upd_ne (fun z => by subst z; rw [(hn _ List.mem_cons_self).1] at q; cases q)]; exact g.wf.sub b o q, fun b us q => by
        by_cases hb : b = a
        · subst hb; rw [upd_same] at q; cases q
        · rw [upd_ne hb] at q; exact g.wf.tups b us q⟩
    refine k Hs2 _ fl2 (.list ys) (a :: C) g.sh w2 (fun b h1 h2 => g.hsn h1 h2) hf (.list hw upd_same (rw'.stay (Same.refl _) fun b hb => upd_ne fun z => naC (by subst z; exact hb))) (by simp) (List.nodup_cons.mpr ⟨naC, ndC⟩) (fun b hb => ?_) fun b h1 h2 => ?_
    · rcases List.mem_cons.mp hb with rfl | hb
      · exact ⟨(hn _ List.mem_cons_self).1, .inl List.mem_cons_self⟩
      · rcases hC b hb with q | ⟨q1, q2⟩
        · exact ⟨(hn b (List.mem_cons_of_mem _ q)).1, .inl (List.mem_cons_of_mem _ q)⟩
        · exact ⟨q1, .inr q2⟩
    · rw [upd_ne fun z => h2 (by subst z; exact List.mem_cons_self)]
      cases q : H1 b with
      | none => exact absurd q h1
      | some o => exact g.all b o q
theorem Place.isL {Hs1 H1 : Hp} {σ : St} {fl : Bool} {xs : List D} {v : V} {up : Bool → D → Env} (w : Wf Hs1 H1) (pl : Place K Hs1 H1 σ fl (.list xs) v up) : ∃ a vs, v = .ref a ∧ SqL K H1 a vs := by
  obtain ⟨As', r, ne, nd, own, k⟩ := pl.ex
  cases r with
  | sh hf _ => exact absurd rfl ne
  | list hz e rs => exact ⟨_, _, rfl, .inl (.inl e)⟩
theorem qs_app (ho : QP X K e p) {e2 : Expr} (he : QE X K e2 te) (hK : X.K = K := by rfl) (hs : swapsWith (.Call (.Attribute e "append" apos) [e2] [] cpos) none pos.line X.env = pure false := by rfl)
    (hbase : attributeBase e "append" X.env (eval e X.env) = eval e X.env := by rfl)
    (hfew : ((backTo cpos (starEach [e2] X.env)).all (fun x => !x.1) && (backToKw cpos (keywordEach [] X.env)).all (fun x => x.1.isSome)
      && decide ([e2].length + ([] : List Keyword).length + (if ([] : List Keyword).isEmpty then 0 else 1) < 30)) = true := by rfl)
    (hline : (apos.endLine == cpos.line) = true := by rfl) (hss : starEach (e2 :: []) X.env = (false, eval e2 X.env) :: starEach [] X.env := by rfl) (hplain : (backTo cpos (starEach [] X.env)).any (·.1) = false := by rfl) :
    QS X K (.Expr (.Call (.Attribute e "append" apos) [e2] [] cpos) pos) (wApp p te) := by
  subst hK
  refine PS.imp (ps_expr (pe_bm PySem.F.plainAttrs_list PySem.F.slot_list_append PySem.F.type_list_append mt_append ho (pa_cons he pa_nil hss) hbase hfew hline hss hplain) hs) fun D σ H ⟨Hs, ρ, tot, E, sr, h, k1, k2, k3, k4⟩ => ?_
  refine ⟨Hs, ρ, tot, _, sr, h, fun v H1 Hs1 fl d up g1 p1 q1 => ?_⟩
  cases d with
  | list xs =>
    obtain ⟨a1, vs1, e1, s1⟩ := p1.isL g1.wf
    subst e1
    refine ⟨.inl ⟨rfl, _, s1⟩, Hs1, ρ, tot, _, sr.grow g1, q1, fun y H2 Hs2 m x As g2 r2 f2 q2 => ?_⟩
    obtain ⟨hz, q2⟩ := q2
    obtain ⟨a, vs, A, ea, e2, _, rs, nd, hn, k⟩ := p1.put g2
    cases ea
    have hl := rs.length
    refine ⟨a1, vs, y, rfl, rfl, e2, by omega, ?_⟩
    cases hp : pushFl fl m x with
    | none => rw [hp] at q2; exact q2.elim
    | some fl2 =>
      rw [hp] at q2
      obtain ⟨hf, B, sb, rb⟩ := push_rep g2.wf r2 hp
      obtain ⟨na, nA⟩ := List.nodup_cons.mp nd
      have fB : ∀ x ∈ B, Hs2 x = none ∧ H1 x = none := fun x hx => f2.2 x (sb.subset hx)
      have c1 : (A ++ (B ++ [])).Nodup := by
        rw [List.append_nil]
        exact List.nodup_append.mpr ⟨nA, sb.nodup f2.1, fun x hx z hz e => by subst e; exact (hn x (List.mem_cons_of_mem _ hx)).2 (fB x hz).2⟩
      have c2 : a1 ∉ A ++ (B ++ []) := by
        rw [List.append_nil]
        intro m
        rcases List.mem_append.mp m with m | m
        · exact na m
        · exact (hn _ List.mem_cons_self).2 (fB _ m).2
      have c3 : ∀ x ∈ A ++ (B ++ []), x ∈ A ∨ (Hs2 x = none ∧ H1 x = none) := by
        rw [List.append_nil]
        intro x hx
        exact (List.mem_append.mp hx).imp id fun z => fB x z
      obtain ⟨tot2, sr2⟩ := k fl2 (xs ++ [x]) (vs ++ [y]) (A ++ (B ++ [])) hf ((rs.wk hf).append (.cons rb .nil)) (by rw [List.length_append]; simp; omega) c1 c2 c3
      exact k1 σ _ Hs2 _ tot2 (g1.sh.trans g2.sh) sr2 q2
  | _ => exact q1.elim
def wClear (p : WP) : WS := fun E ρ => p ρ fun fl d up => match d with
  | .list xs => E.nx (up fl (.list []))
  | _ => False
theorem qs_clear (ho : QP X K e p) (hK : X.K = K := by rfl) (hs : swapsWith (.Call (.Attribute e "clear" apos) [] [] cpos) none pos.line X.env = pure false := by rfl)
    (hbase : attributeBase e "clear" X.env (eval e X.env) = eval e X.env := by rfl) (hline : (apos.endLine == cpos.line) = true := by rfl) : QS X K (.Expr (.Call (.Attribute e "clear" apos) [] [] cpos) pos) (wClear p) := by
  subst hK
  refine PS.imp (ps_expr (pe_bm0 PySem.F.plainAttrs_list PySem.F.slot_list_clear PySem.F.type_list_clear mt_clear ho hbase hline) hs) fun D σ H ⟨Hs, ρ, tot, E, sr, h, k1, k2, k3, k4⟩ => ?_
  refine ⟨Hs, ρ, tot, _, sr, h, fun v H1 Hs1 fl d up g1 p1 q1 => ?_⟩
  cases d with
  | list xs =>
    obtain ⟨a, vs, A, ea, e2, _, rs, nd, hn, k⟩ := p1.put (Grow.refl g1.wf)
    subst ea
    refine ⟨.inl ⟨rfl, _, .inl (.inl e2)⟩, a, vs, rfl, rfl, e2, ?_⟩
    obtain ⟨tot2, sr2⟩ := k fl [] [] [] id .nil (Nat.zero_le _) List.nodup_nil (by simp) (fun x hx => nomatch hx)
    exact k1 σ _ Hs1 _ tot2 g1.sh sr2 q1
  | _ => exact q1.elim

def wDNewK : WE := fun _ Q => Q (.ow true) (.dK [])
def wDNewT : WE := fun _ Q => Q (.ow true) (.dT [])
theorem q_dnewK : QE X K (.Dict [] [] pos) wDNewK := PE.imp pe_dnewK fun σ H Qv ⟨Hs, ρ, tot, Q, sr, h, f⟩ => fun a ha =>
  f _ _ Hs (.ow true) (.dK []) [a] (newL sr.wf ha fun _ z => nomatch z) ⟨.dK (vs := []) ⟨Nat.zero_le _, fun p hp => nomatch hp⟩ upd_same .nil, by simp⟩ ⟨by simp, fun b hb => by
    obtain rfl : b = a := by simpa using hb
    exact ⟨sr.wf.sub.free ha, ha⟩⟩ h
theorem q_dnewT : QE X K (.Dict [] [] pos) wDNewT := PE.imp pe_dnewT fun σ H Qv ⟨Hs, ρ, tot, Q, sr, h, f⟩ => fun a ha =>
  f _ _ Hs (.ow true) (.dT []) [a] (newL sr.wf ha fun _ z => nomatch z) ⟨.dT (vs := []) ⟨Nat.zero_le _, fun p hp => nomatch hp⟩ upd_same .nil, by simp⟩ ⟨by simp, fun b hb => by
    obtain rfl : b = a := by simpa using hb
    exact ⟨sr.wf.sub.free ha, ha⟩⟩ h
section
variable {κ : Type} [DecidableEq κ]
theorem put_reps {Hs H : Hp} {fl : Bool} {k : κ} {d : D} {v : V} (r : Rep K Hs d v) (hd : d.flat = true) : ∀ {kvs : List (κ × D)} {vs : List V} {As : List Addr}, RepOs K Hs H fl (kvs.map (·.2)) vs As → ∃ ws Bs, Bs.Sublist As ∧
    RepOs K Hs H fl ((kvs.map fun kv => if kv.1 = k then (kv.1, d) else kv).map (·.2)) ws Bs ∧ ((kvs.map (·.1)).zip vs).map (fun kv => if kv.1 = k then (kv.1, v) else kv) = (((kvs.map fun kv => if kv.1 = k then (kv.1, d) else kv)).map (·.1)).zip ws
  | [], _, _, .nil => ⟨[], [], List.nil_sublist _, .nil, rfl⟩
  | p :: kvs, u :: vs, _, .cons (As := A) q qs => by
    obtain ⟨ws, Bs, sb, rs, e⟩ := put_reps r hd qs
    by_cases h : p.1 = k
    · refine ⟨v :: ws, [] ++ Bs, by simpa using sb.trans (List.sublist_append_right _ _), ?_, ?_⟩
      · simp only [List.map_cons, h, if_true]
        exact .cons (.sh (fun _ => hd) r) rs
      · simp only [List.map_cons, List.zip_cons_cons, h, if_true, e]
    · refine ⟨u :: ws, A ++ Bs, sb.append_left _, ?_, ?_⟩
      · simp only [List.map_cons, h, if_false]
        exact .cons q rs
      · simp only [List.map_cons, List.zip_cons_cons, h, if_false, e]
theorem put_all {Hs H : Hp} {fl : Bool} {k : κ} {d : D} {v : V} (r : Rep K Hs d v) (hd : d.flat = true) {kvs : List (κ × D)} {vs : List V} {As : List Addr} (q : RepOs K Hs H fl (kvs.map (·.2)) vs As) :
    ∃ ws Bs, Bs.Sublist As ∧ RepOs K Hs H fl ((putG kvs k d).map (·.2)) ws Bs ∧ putK ((kvs.map (·.1)).zip vs) k v = ((putG kvs k d).map (·.1)).zip ws := by
  have hl := q.length
  rw [List.length_map] at hl
  unfold putK putG
  rw [zip_put hl]
  cases h : kvs.any fun kv => decide (kv.1 = k) with
  | true =>
    simp only [if_true]
    exact put_reps r hd q
  | false =>
    simp only [Bool.false_eq_true, if_false]
    refine ⟨vs ++ [v], As ++ ([] ++ []), by simp, ?_, ?_⟩
    · rw [List.map_append]
      exact q.append (.cons (.sh (fun _ => hd) r) .nil)
    · rw [List.map_append, List.zip_append (by rw [List.length_map]; exact hl)]
      rfl
theorem putG_len {β : Type} (kvs : List (κ × β)) (k : κ) (v : β) : (putG kvs k v).length ≤ kvs.length + 1 := by
  unfold putG
  split
  · rw [List.length_map]; omega
  · simp
theorem putG_mem {β : Type} {kvs : List (κ × β)} {k : κ} {v : β} {p : κ × β} (h : p ∈ putG kvs k v) : p.1 = k ∨ p.1 ∈ kvs.map (·.1) := by
  unfold putG at h
  split at h
  · obtain ⟨q, hq, e⟩ := List.mem_map.mp h
    by_cases hk : q.1 = k
    · rw [if_pos hk] at e; subst e; exact .inl hk
    · rw [if_neg hk] at e; subst e; exact .inr (List.mem_map.mpr ⟨q, hq, rfl⟩)
  · rcases List.mem_append.mp h with h | h
    · exact .inr (List.mem_map.mpr ⟨p, h, rfl⟩)
    · have : p = (k, v) := by simpa using h
      subst this; exact .inl rfl
end
def wDPut (p : WP) (tk tv : WE) : WS := fun E ρ => tv ρ fun _ x => p ρ fun fl d up => tk ρ fun _ y => x.flat = true ∧ match d with
  | .dK kvs => ∃ k, y.key1 = some k ∧ kvs.length < sizeLine ∧ E.nx (up fl (.dK (putG kvs k x)))
  | .dT kvs => match y with
    | .tup ys => ∃ ks, keys1 ys = some ks ∧ kvs.length < sizeLine ∧ E.nx (up fl (.dT (putG kvs ks x)))
    | _ => False
  | _ => False
theorem key_kOk {H : Hp} {d : D} {v : V} {k : Key} (r : Rep K H d v) (h : d.key1 = some k) : kOk k = true := by
  cases r <;> simp [D.key1] at h <;> subst h
  · rfl
  · rename_i hz; simp [kOk, hz]
theorem keys_kOk {H : Hp} : ∀ {ds : List D} {vs : List V} {ks : List Key}, Reps K H ds vs → keys1 ds = some ks → ks.length = ds.length ∧ ∀ k ∈ ks, kOk k = true
  | _, _, _, .nil, h => by simp [keys1] at h; subst h; exact ⟨rfl, fun k hk => nomatch hk⟩
  | d :: ds, _, ks, .cons r rs, h => by
    unfold keys1 at h
    cases e1 : d.key1 with
    | none => rw [e1] at h; simp at h
    | some k =>
      cases e2 : keys1 ds with
      | none => rw [e1, e2] at h; simp at h
      | some ks' =>
        rw [e1, e2] at h
        simp at h
        subst h
        obtain ⟨a, b⟩ := keys_kOk rs e2
        refine ⟨by simp [a], fun j hj => ?_⟩
        rcases List.mem_cons.mp hj with rfl | hj
        · exact key_kOk r e1
        · exact b j hj
theorem qs_dput {a b c : Expr} {tk tv : WE} {pos' : Pos} (hu : X.A.units + 64 < cLine) (ho : QP X K a p) (hi : QE X K b tk) (hv : QE X K c tv) (hs : swapsWith c (some (.Subscript a b pos')) pos.line X.env = pure false := by rfl) :
    QS X K (.Assign [.Subscript a b pos'] c pos) (wDPut p tk tv) := by
  refine PS.imp (ps_dput (by omega) ho hi hv hs) fun D σ H ⟨Hs, ρ, tot, E, sr, h, k1, k2, k3, k4⟩ => ?_
  refine ⟨Hs, ρ, tot, _, sr, h, fun v H1 Hs1 m1 x As1 g1 r1 f1 q1 => ⟨Hs1, ρ, tot, _, sr.grow g1, q1, fun u H2 Hs2 fl d up g2 p2 q2 => ⟨Hs2, ρ, tot, _, (sr.grow g1).grow g2, q2, fun y H3 Hs3 m3 yd As3 g3 r3 f3 q3 => ?_⟩⟩⟩
  obtain ⟨hx, q3⟩ := q3
  have rx : Rep K Hs3 x v := ((r1.grow g2).grow g3).flat g3.wf hx
  have ry := r3.rep g3.wf
  obtain ⟨As', r, ne, nd, own, k⟩ := p2.ex
  have sm : Same Hs Hs3 := (g1.sh.trans g2.sh).trans g3.sh
  cases r with
  | sh hf _ => exact absurd rfl ne
  | @dK a0 vs kvs A kk e rs =>
    obtain ⟨key, hk, hz, q⟩ := q3
    have ey := ry.key hk
    subst ey
    have e3 := g3.all _ _ e
    obtain ⟨na, nA⟩ := List.nodup_cons.mp nd
    have rs3 := rs.grow g3.sh g3.all
    obtain ⟨ws, Bs, sb, rw', ew⟩ := put_all (k := key) rx hx rs3
    have hl : kvs.length = vs.length := by have := rs.length; rwa [List.length_map] at this
    refine ⟨a0, _, rfl, DPut.k e3 (by rw [List.length_zip, List.length_map, ← hl, Nat.min_self]; exact hz), ?_⟩
    rw [ew]
    have hn : Hs3 a0 = none := g3.hsn (own _ List.mem_cons_self) (by rw [e]; exact fun z => nomatch z)
    have w4 : Wf Hs3 (upd H3 a0 (.dK (((putG kvs key x).map (·.1)).zip ws))) := ⟨fun b o q => by
        rw [upd_ne (fun z => by subst z; rw [hn] at q; cases q)]; exact g3.wf.sub b o q, fun b us q => by
        by_cases hb : b = a0
        · subst hb; rw [upd_same] at q; cases q
        · rw [upd_ne hb] at q; exact g3.wf.tups b us q⟩
    have nB : a0 ∉ Bs := fun z => na (sb.subset z)
    obtain ⟨tot2, sr2⟩ := k Hs3 _ fl (.dK (putG kvs key x)) (a0 :: Bs) g3.sh w4 (fun b h1 h2 => g3.hsn h1 h2) id
      (.dK ⟨Nat.le_trans (putG_len _ _ _) hz, fun p hp => (putG_mem hp).elim (fun z => by rw [z]; exact key_kOk ry hk) fun z => by obtain ⟨p', hp', e'⟩ := List.mem_map.mp z; rw [← e']; exact kk.2 p' hp'⟩ upd_same (rw'.stay (Same.refl _) fun b hb => upd_ne fun z => nB (by subst z; exact hb)))
      (by simp) (List.nodup_cons.mpr ⟨nB, sb.nodup nA⟩) (fun b hb => by
        have hb' : b ∈ a0 :: A := by
          rcases List.mem_cons.mp hb with rfl | hb
          · exact List.mem_cons_self
          · exact List.mem_cons_of_mem _ (sb.subset hb)
        refine ⟨g3.hsn (own b hb') ?_, .inl hb'⟩
        rcases List.mem_cons.mp hb' with rfl | hb'
        · rw [e]; exact fun z => nomatch z
        · exact (rs.own b hb').ne)
      (fun b h1 h2 => by
        rw [upd_ne fun z => h2 (by subst z; exact List.mem_cons_self)]
        cases q : H2 b with
        | none => exact absurd q h1
        | some o => exact g3.all b o q)
    exact k1 σ _ Hs3 _ tot2 sm sr2 q
  | @dT a0 vs kvs A kk e rs =>
    cases ry with
    | tup t1 e1 q1' =>
      obtain ⟨key, hk, hz, q⟩ := q3
      obtain ⟨b, eb, e5⟩ := Rep.keyT (.tup t1 e1 q1') hk
      cases eb
      obtain ⟨kl, ko⟩ := keys_kOk q1' hk
      have e3 := g3.all _ _ e
      obtain ⟨na, nA⟩ := List.nodup_cons.mp nd
      have rs3 := rs.grow g3.sh g3.all
      obtain ⟨ws, Bs, sb, rw', ew⟩ := put_all (k := key) rx hx rs3
      have hl : kvs.length = vs.length := by have := rs.length; rwa [List.length_map] at this
      refine ⟨a0, _, rfl, DPut.t e3 e5 (by rw [List.length_zip, List.length_map, ← hl, Nat.min_self]; exact hz), ?_⟩
      rw [ew]
      have hn : Hs3 a0 = none := g3.hsn (own _ List.mem_cons_self) (by rw [e]; exact fun z => nomatch z)
      have w4 : Wf Hs3 (upd H3 a0 (.dT (((putG kvs key x).map (·.1)).zip ws))) := ⟨fun b o q => by
          rw [upd_ne (fun z => by subst z; rw [hn] at q; cases q)]; exact g3.wf.sub b o q, fun b us q => by
          by_cases hb : b = a0
          · subst hb; rw [upd_same] at q; cases q
          · rw [upd_ne hb] at q; exact g3.wf.tups b us q⟩
      have nB : a0 ∉ Bs := fun z => na (sb.subset z)
      have l1 := q1'.length
      obtain ⟨tot2, sr2⟩ := k Hs3 _ fl (.dT (putG kvs key x)) (a0 :: Bs) g3.sh w4 (fun b h1 h2 => g3.hsn h1 h2) id
        (.dT ⟨Nat.le_trans (putG_len _ _ _) hz, fun p hp => (putG_mem hp).elim (fun z => by rw [z]; exact ⟨by omega, ko⟩) fun z => by obtain ⟨p', hp', e'⟩ := List.mem_map.mp z; rw [← e']; exact kk.2 p' hp'⟩ upd_same (rw'.stay (Same.refl _) fun b hb => upd_ne fun z => nB (by subst z; exact hb)))
        (by simp) (List.nodup_cons.mpr ⟨nB, sb.nodup nA⟩) (fun b hb => by
          have hb' : b ∈ a0 :: A := by
            rcases List.mem_cons.mp hb with rfl | hb
            · exact List.mem_cons_self
            · exact List.mem_cons_of_mem _ (sb.subset hb)
          refine ⟨g3.hsn (own b hb') ?_, .inl hb'⟩
          rcases List.mem_cons.mp hb' with rfl | hb'
          · rw [e]; exact fun z => nomatch z
          · exact (rs.own b hb').ne)
        (fun b h1 h2 => by
          rw [upd_ne fun z => h2 (by subst z; exact List.mem_cons_self)]
          cases q : H2 b with
          | none => exact absurd q h1
          | some o => exact g3.all b o q)
      exact k1 σ _ Hs3 _ tot2 sm sr2 q
    | _ => exact q3.elim
  | _ => exact q3.elim
end
end L2.Q

set_option Elab.async false
set_option linter.all false
set_option maxRecDepth 100000
set_option maxHeartbeats 4000000

namespace L2.Q
open PySem PySem.Spec PyProof.Rows

abbrev WJ := Env → Str → (Str → Prop) → Prop
section
variable {X : Cx} {K : PySem.W.Frag} {e v₁ v₂ : Expr} {es rest : List Expr} {te : WE} {j : WJ} {pos : Pos}
def strs1 : List D → Option (List Str)
  | [] => some []
  | .str x :: xs => (strs1 xs).map (x :: ·)
  | _ :: _ => none
def keyT (k : List Key) : D := .tup (k.map keyD)
def fSortT : W1 := fun _ x Q => match x with
  | .list xs => ∃ ks sh, xs = ks.map keyT ∧ (∀ k ∈ ks, shOf k = true :: sh) ∧ ∀ ms : List (List Key), ms.Perm ks → (ms.Pairwise fun a b => ltK b a = false) → Q (.ow true) (.list (ms.map keyT))
  | _ => False
theorem keyD_of {H : Hp} : ∀ {ks : List Key} {vs : List V}, Reps K H (ks.map keyD) vs → vs = ks.map kV ∧ ∀ k ∈ ks, kOk k = true
  | [], _, .nil => ⟨rfl, fun k h => nomatch h⟩
  | k :: ks, _, .cons r rs => by
    obtain ⟨e, o⟩ := keyD_of rs
    subst e
    cases k with
    | inl i => cases r; exact ⟨rfl, fun j hj => by rcases List.mem_cons.mp hj with rfl | hj; rfl; exact o j hj⟩
    | inr x =>
      cases r with
      | str hz => exact ⟨rfl, fun j hj => by rcases List.mem_cons.mp hj with rfl | hj; simp [kOk, hz]; exact o j hj⟩
theorem tups_at {H : Hp} : ∀ {ks : List (List Key)} {vs : List V}, Reps K H (ks.map keyT) vs → TupsAt H vs ks ∧ ∀ k ∈ ks, k.length ≤ sizeLine ∧ ∀ j ∈ k, kOk j = true
  | [], _, .nil => ⟨.nil, fun k h => nomatch h⟩
  | k :: ks, _, .cons r rs => by
    obtain ⟨t, o⟩ := tups_at rs
    cases r with
    | tup hz e q =>
      obtain ⟨e2, o2⟩ := keyD_of q
      subst e2
      exact ⟨.cons ⟨_, rfl, e⟩ t, fun j hj => by
        rcases List.mem_cons.mp hj with rfl | hj
        · exact ⟨by simpa using hz, o2⟩
        · exact o j hj⟩
theorem br_sortT : BrC K (rSortT K) fSortT := by
  intro Hs H m x v As Qd Qv w rx h f
  have r1 := rx.rep w
  cases r1 with
  | list z s q =>
    obtain ⟨ks, sh, rfl, hs, h⟩ := h
    obtain ⟨ta, ok⟩ := tups_at q
    have hl := q.length
    rw [List.length_map] at hl
    refine ⟨_, ks, sh, s, ta, hs, fun zs ms l tz pm pw hl' => ?_⟩
    have rr := tups_rep (K := K) tz fun k hk => ok k (pm.mem_iff.mp hk)
    exact f.lst w (by rw [List.length_map, pm.length_eq]; omega) rr (tups_flat ms) (h ms pm pw) l hl'
  | _ => exact h.elim
theorem kSortT (hK : X.K = K := by rfl) : CallR X (.builtin "sorted") (rSortT K) := by subst hK; exact call_sortT
theorem kb_sorted : bootBuiltins "sorted" = some (.builtin "sorted") := by decide +kernel
end
end L2.Q

set_option Elab.async false
set_option linter.all false
set_option maxRecDepth 100000
set_option maxHeartbeats 4000000

namespace L2.Q
open PySem PySem.Spec PyProof.Rows

theorem SR.addrs {K : PySem.W.Frag} {Hs H : Hp} : ∀ {ρ : Env} {σ : St} {tot : List Addr}, SR K Hs H ρ σ tot → tot.Nodup → ∃ F : Nat → List Addr, (∀ i fl d, ρ[i]? = some (some (.ow fl d)) → ∃ v, σ[i]? = some (some v) ∧ F i ≠ [] ∧ RepO K Hs H fl d v (F i)) ∧
    (∀ i, (F i).Sublist tot) ∧ ∀ i j, i ≠ j → ∀ a ∈ F i, a ∉ F j
  | _, _, _, .nil, _ => ⟨fun _ => [], fun i fl d e => by simp at e, fun i => List.nil_sublist _, fun i j _ a h => nomatch h⟩
  | _, _, _, .non s, n => by
    obtain ⟨F, a, b, c⟩ := SR.addrs s n
    refine ⟨fun i => match i with | 0 => [] | i + 1 => F i, fun i fl d e => ?_, fun i => ?_, fun i j ne x hx => ?_⟩
    · cases i with
      | zero => simp at e
      | succ i => exact a i fl d (by simpa using e)
    · cases i with
      | zero => exact List.nil_sublist _
      | succ i => exact b i
    · cases i with
      | zero => exact nomatch hx
      | succ i =>
        cases j with
        | zero => exact fun z => nomatch z
        | succ j => exact c i j (fun z => ne (by rw [z])) x hx
  | _, _, _, .sh _ s, n => by
    obtain ⟨F, a, b, c⟩ := SR.addrs s n
    refine ⟨fun i => match i with | 0 => [] | i + 1 => F i, fun i fl d e => ?_, fun i => ?_, fun i j ne x hx => ?_⟩
    · cases i with
      | zero => simp at e
      | succ i => exact a i fl d (by simpa using e)
    · cases i with
      | zero => exact List.nil_sublist _
      | succ i => exact b i
    · cases i with
      | zero => exact nomatch hx
      | succ i =>
        cases j with
        | zero => exact fun z => nomatch z
        | succ j => exact c i j (fun z => ne (by rw [z])) x hx
  | _, _, _, .ow (As := B) (tot := t2) ne0 r s, n => by
    obtain ⟨n1, n2, n3⟩ := List.nodup_append.mp n
    obtain ⟨F, a, b, c⟩ := SR.addrs s n2
    refine ⟨fun i => match i with | 0 => B | i + 1 => F i, fun i fl d e => ?_, fun i => ?_, fun i j ne x hx => ?_⟩
    · cases i with
      | zero => simp at e; obtain ⟨rfl, rfl⟩ := e; exact ⟨_, rfl, ne0, r⟩
      | succ i => exact a i fl d (by simpa using e)
    · cases i with
      | zero => exact List.sublist_append_left _ _
      | succ i => exact (b i).trans (List.sublist_append_right _ _)
    · cases i with
      | zero =>
        cases j with
        | zero => exact absurd rfl ne
        | succ j => exact fun z => n3 x hx x ((b j).subset z) rfl
      | succ i =>
        cases j with
        | zero => exact fun z => n3 x z x ((b i).subset hx) rfl
        | succ j => exact c i j (fun z => ne (by rw [z])) x hx
  | _, _, _, .lk (As := B) (tot := t2) ne0 r s, n => by
    obtain ⟨n1, n2, n3⟩ := List.nodup_append.mp n
    obtain ⟨F, a, b, c⟩ := SR.addrs s n2
    refine ⟨fun i => match i with | 0 => B | i + 1 => F i, fun i fl d e => ?_, fun i => ?_, fun i j ne x hx => ?_⟩
    · cases i with
      | zero => simp at e
      | succ i => exact a i fl d (by simpa using e)
    · cases i with
      | zero => exact List.sublist_append_left _ _
      | succ i => exact (b i).trans (List.sublist_append_right _ _)
    · cases i with
      | zero =>
        cases j with
        | zero => exact absurd rfl ne
        | succ j => exact fun z => n3 x hx x ((b j).subset z) rfl
      | succ i =>
        cases j with
        | zero => exact fun z => n3 x z x ((b i).subset hx) rfl
        | succ j => exact c i j (fun z => ne (by rw [z])) x hx
abbrev Plan := List (WE ⊕ Nat)
def mvs : Plan → List Nat
  | [] => []
  | .inl _ :: r => mvs r
  | .inr i :: r => i :: mvs r
def movS : Option (Option Sl) → Option (Md × D)
  | some (some (.sh d)) => some (.sh, d)
  | some (some (.ow fl d)) => some (.ow fl, d)
  | _ => none
def wPlan : Plan → Env → (List (Md × D) → Prop) → Prop
  | [], _, Q => Q []
  | .inl t :: r, ρ, Q => t ρ fun m x => wPlan r ρ fun ps => Q ((m, x) :: ps)
  | .inr i :: r, ρ, Q => match movS ρ[i]? with
    | some p => wPlan r ρ fun ps => Q (p :: ps)
    | none => False
def tpM (K : PySem.W.Frag) (pl : Plan) : TA := fun σ H Qv => ∃ (Hs : Hp) (ρ : Env) (tot : List Addr) (F : Nat → List Addr) (Q : List (Md × D) → Prop), SRel K Hs ρ σ H tot ∧ (∀ i fl d, ρ[i]? = some (some (.ow fl d)) → ∃ v, σ[i]? = some (some v) ∧ F i ≠ [] ∧ RepO K Hs H fl d v (F i)) ∧ (∀ i, (F i).Sublist tot) ∧ (∀ i j, i ≠ j → ∀ a ∈ F i, a ∉ F j) ∧
  wPlan pl ρ Q ∧ ∀ vs H' Hs' ps As, Grow Hs H Hs' H' → RMs K Hs' H' ps vs As → As.Nodup → (∀ a ∈ As, Hs' a = none ∧ (H a = none ∨ ∃ i ∈ mvs pl, a ∈ F i)) → Q ps → Qv vs H'
abbrev QM (X : Cx) (K : PySem.W.Frag) (es : List Expr) (pl : Plan) : Prop := PA X es (tpM K pl)
section
variable {X : Cx} {K : PySem.W.Frag} {e : Expr} {es : List Expr} {te : WE} {pl : Plan} {pos : Pos}
theorem qm_nil : QM X K [] [] := PA.imp pa_nil fun σ H Qv ⟨Hs, ρ, tot, F, Q, sr, h1, h2, h3, h, f⟩ => f [] H Hs [] [] (Grow.refl sr.wf) .nil List.nodup_nil (fun a h => nomatch h) h
theorem qm_e (ha : QE X K e te) (hr : QM X K es pl) (hs : starEach (e :: es) X.env = (false, eval e X.env) :: starEach es X.env := by rfl) : QM X K (e :: es) (.inl te :: pl) := by
  refine PA.imp (pa_cons ha hr hs) fun σ H Qv ⟨Hs, ρ, tot, F, Q, sr, h1, h2, h3, h, f⟩ => ?_
  refine ⟨Hs, ρ, tot, _, sr, h, fun v H1 Hs1 m x As g1 r1 f1 q1 => ⟨Hs1, ρ, tot, F, _, sr.grow g1, (fun i fl d e => ?_), h2, h3, q1, fun vs H2 Hs2 ps Bs g2 r2 nd2 o2 q2 => ?_⟩⟩
  · obtain ⟨v, a, b, c⟩ := h1 i fl d e
    exact ⟨v, a, b, c.grow g1.sh g1.all⟩
  · refine f (v :: vs) H2 Hs2 _ _ (g1.trans g2) (.cons (r1.grow g2) r2) (List.nodup_append.mpr ⟨f1.1, nd2, fun a ha b hb e => ?_⟩) (fun a ha => ?_) q2
    · subst e
      rcases (o2 a hb).2 with z | ⟨i, _, z⟩
      · exact (r1.own a ha).ne z
      · exact (sr.sr.own a ((h2 i).subset z)).ne (f1.2 a ha).2
    · rcases List.mem_append.mp ha with z | z
      · exact ⟨g2.hsn (f1.2 a z).1 (r1.own a z).ne, .inl (f1.2 a z).2⟩
      · exact ⟨(o2 a z).1, (o2 a z).2.imp g1.all.free id⟩
theorem qm_v {i : Nat} (ha : PE X e (tVar i)) (hr : QM X K es pl) (hi : i ∉ mvs pl := by decide) (hs : starEach (e :: es) X.env = (false, eval e X.env) :: starEach es X.env := by rfl) : QM X K (e :: es) (.inr i :: pl) := by
  refine PA.imp (pa_cons ha hr hs) fun σ H Qv ⟨Hs, ρ, tot, F, Q, sr, h1, h2, h3, h, f⟩ => ?_
  unfold wPlan at h
  cases hm : movS ρ[i]? with
  | none => rw [hm] at h; exact h.elim
  | some p =>
    rw [hm] at h
    have key : ∃ v A, σ[i]? = some (some v) ∧ RM K Hs H p.1 p.2 v A ∧ A.Nodup ∧ ∀ a ∈ A, a ∈ F i := by
      cases e1 : ρ[i]? with
      | none => rw [e1] at hm; cases hm
      | some o =>
        cases o with
        | none => rw [e1] at hm; cases hm
        | some sl =>
          cases sl with
          | sh d =>
            rw [e1] at hm; cases hm
            obtain ⟨v, a, b⟩ := sr.sr.get e1
            exact ⟨v, [], a, ⟨rfl, b⟩, List.nodup_nil, fun a h => nomatch h⟩
          | lk a fl d => rw [e1] at hm; cases hm
          | ow fl d =>
            rw [e1] at hm; cases hm
            obtain ⟨v, a, b, c⟩ := h1 i fl d e1
            exact ⟨v, F i, a, ⟨c, b⟩, (h2 i).nodup sr.nod, fun a h => h⟩
    obtain ⟨v, A, ev, rm, ndA, hA⟩ := key
    refine ⟨v, ev, Hs, ρ, tot, F, _, sr, h1, h2, h3, h, fun vs H2 Hs2 ps Bs g2 r2 nd2 o2 q2 => ?_⟩
    refine f (v :: vs) H2 Hs2 _ _ g2 (.cons (rm.grow g2) r2) (List.nodup_append.mpr ⟨ndA, nd2, fun a ha b hb e => ?_⟩) (fun a ha => ?_) q2
    · subst e
      rcases (o2 a hb).2 with z | ⟨j, hj, z⟩
      · exact (rm.own a ha).ne z
      · exact h3 i j (fun z => hi (by rw [z]; exact hj)) a (hA a ha) z
    · rcases List.mem_append.mp ha with z | z
      · have : a ∈ tot := (h2 i).subset (hA a z)
        exact ⟨g2.hsn (sr.own a this) (sr.sr.own a this).ne, .inr ⟨i, List.mem_cons_self, hA a z⟩⟩
      · exact ⟨(o2 a z).1, (o2 a z).2.imp id fun ⟨j, hj, q⟩ => ⟨j, List.mem_cons_of_mem _ hj, q⟩⟩
def wRetT (pl : Plan) : WS := fun E ρ => wPlan pl ρ fun ps => ps.length ≤ sizeLine ∧ E.rt (tupMd ps) (.tup (ps.map (·.2)))
theorem qs_retT {x1} {tpos : Pos} (h : QM X K es pl) : QS X K (.Return (some (.Tuple es x1 tpos)) pos) (wRetT pl) := by
  refine PS.imp (ps_ret (pe_tup h)) fun D σ H ⟨Hs, ρ, tot, E, sr, h, k1, k2, k3, k4⟩ => ?_
  obtain ⟨F, h1, h2, h3⟩ := sr.sr.addrs sr.nod
  refine ⟨Hs, ρ, tot, F, _, sr, h1, h2, h3, h, fun vs H1 Hs1 ps As g1 r1 nd1 o1 q1 => ?_⟩
  obtain ⟨hz, q⟩ := q1
  have rl := r1.reps g1.wf
  have hl := rl.length
  rw [List.length_map] at hl
  refine ⟨by omega, fun p hp => ?_⟩
  have g2 := newT (vs := vs) g1.wf hp
  have sm : Same Hs (upd Hs1 p (.tup vs)) := g1.sh.trans g2.sh
  unfold tupMd at q
  cases e1 : ps.all okSh with
  | true =>
    rw [e1] at q
    exact k4 _ _ _ .sh _ [] sm g2.wf ⟨rfl, .tup (by omega) upd_same ((r1.sh g1.wf e1).same g2.sh)⟩ List.nodup_nil (fun a h => nomatch h) q
  | false =>
    rw [e1] at q
    cases e2 : ps.all okOw with
    | false =>
      rw [e2] at q
      exact k4 _ _ _ .bo _ [] sm g2.wf ⟨rfl, .tup (by omega) upd_same (rl.same g2.all)⟩ List.nodup_nil (fun a h => nomatch h) q
    | true =>
      rw [e2] at q
      obtain ⟨Bs, sb, nz, ro⟩ := r1.ow (fl := ps.all okFl) g1.wf e2 fun z => z
      have hne : flats (ps.map (·.2)) = false := by
        cases hf : flats (ps.map (·.2)) with
        | false => rfl
        | true => rw [flats_sh hf] at e1; cases e1
      exact k4 _ _ _ (.ow _) _ Bs sm g2.wf ⟨.tup (by omega) upd_same hne (ro.grow g2.sh g2.all), nz e1⟩ (sb.nodup nd1) (fun a ha => g2.hsn (o1 a (sb.subset ha)).1 (ro.own a ha).ne) q
end
end L2.Q

set_option Elab.async false
set_option linter.all false
set_option maxRecDepth 100000
set_option maxHeartbeats 4000000

namespace L2.Q
open PySem PySem.Spec PyProof.Rows

def spLaw : SpD := fun ds Q => ∃ ns : List Int, ds = [.list (ns.map .int)] ∧ ns.length ≤ 63 ∧ ∀ m, Q m (.bl true)
theorem ints_rep {K : PySem.W.Frag} {H : Hp} : ∀ (ns : List Int), Reps K H (ns.map .int) (ns.map V.int)
  | [] => .nil
  | n :: ns => .cons (.int n) (ints_rep ns)
theorem law_lift {K : PySem.W.Frag} {H : Hp} {a : Addr} {ns : List Int} {E : XK} (hl : ns.length ≤ 63) (hS : SqL K H a (ns.map V.int)) : liftSp K spLaw [.ref a] H (fun v _ => v = .bl true) E := by
  refine ⟨[.list (ns.map .int)], fun _ d => d = .bl true, .cons (.list (by rw [List.length_map]; exact Nat.le_trans hl (by decide)) hS (ints_rep ns)) .nil, ⟨ns, rfl, hl, fun _ => rfl⟩, ?_⟩
  intro v H' Hs' m d As s w r nd own q
  subst q
  have := r.rep w
  cases this
  rfl

abbrev sg (x : Str) : List Nat := x.cps.toList
theorem sg_app (x y : Str) : sg (x ++ y) = sg x ++ sg y := by
  show (x.cps ++ y.cps).toList = _
  simp [sg]
theorem empty_app (x : Str) : Str.empty ++ x = x := str_ext (by rw [← sg, sg_app]; rfl)
def okS (x : Str) : Prop := ∀ c ∈ sg x, c < 0x110000
theorem okS_iff (x : Str) : PyData.strOk x = true ↔ okS x := by
  unfold PyData.strOk okS sg
  rw [Array.all_eq_true']
  simp
end L2.Q
namespace L2.Q
open PySem PySem.Spec PyProof.Rows
theorem atI0 {α : Type} (x : α) (l : List α) : atI (x :: l) 0 = some x := by simp [L2.atI, ixN]
theorem atI1 {α : Type} (x y : α) (l : List α) : atI (x :: y :: l) 1 = some y := by
  have := atI_nat (xs := x :: y :: l) (j := 1) (v := y) rfl
  exact this
theorem atI2 {α : Type} (x y z : α) (l : List α) : atI (x :: y :: z :: l) 2 = some z := by
  have := atI_nat (xs := x :: y :: z :: l) (j := 2) (v := z) rfl
  exact this
theorem empty_len : Str.empty.length = 0 := by decide
end L2.Q

set_option Elab.async false
set_option linter.all false
set_option maxRecDepth 100000
set_option maxHeartbeats 4000000

namespace L2.Q.R
open PySem PySem.Spec PyProof.Rows L2.Q
section
variable {f : D → Prop} {k : Kt f}
theorem on_non : onK .non k = f .non := rfl
theorem on_bl {b : Bool} : onK (.bl b) k = f (.bl b) := rfl
theorem on_int {i : Int} : onK (.int i) k = f (.int i) := rfl
theorem on_str {x : Str} : onK (.str x) k = f (.str x) := rfl
theorem on_list {xs : List D} : onK (.list xs) k = f (.list xs) := rfl
theorem on_tup {xs : List D} : onK (.tup xs) k = f (.tup xs) := rfl
theorem on_dK {xs : List (Key × D)} : onK (.dK xs) k = f (.dK xs) := rfl
theorem on_dT {xs : List (List Key × D)} : onK (.dT xs) k = f (.dT xs) := rfl
end
theorem on_true {f : Bool → Prop} {k : Kt f} : onK true k = f true := rfl
theorem on_false {f : Bool → Prop} {k : Kt f} : onK false k = f false := rfl
theorem on_msh {d : D} {f : Md × D → Prop} {k : Kt f} : onK (Md.sh, d) k = f (.sh, d) := rfl
theorem on_mow {b : Bool} {d : D} {f : Md × D → Prop} {k : Kt f} : onK (Md.ow b, d) k = f (.ow b, d) := rfl
theorem on_mbo {d : D} {f : Md × D → Prop} {k : Kt f} : onK (Md.bo, d) k = f (.bo, d) := rfl
theorem on_ssh {d : D} {f : Option Sl → Prop} {k : Kt f} : onK (some (.sh d)) k = f (some (.sh d)) := rfl
theorem on_sow {b : Bool} {d : D} {f : Option Sl → Prop} {k : Kt f} : onK (some (.ow b d)) k = f (some (.ow b d)) := rfl
theorem on_smd {p : Md × D} {f : Option (Md × D) → Prop} {k : Kt f} : onK (some p) k = f (some p) := rfl
theorem on_sb {p : Bool} {f : Option Bool → Prop} {k : Kt f} : onK (some p) k = f (some p) := rfl
theorem on_vsh {d : D} {f : Option (Option Sl) → Prop} {k : Kt f} : onK (some (some (.sh d))) k = f (some (some (.sh d))) := rfl
theorem on_vow {b : Bool} {d : D} {f : Option (Option Sl) → Prop} {k : Kt f} : onK (some (some (.ow b d))) k = f (some (some (.ow b d))) := rfl
section
variable {E : WEnds} {ρ : Env} {Q : Md → D → Prop} {B : Bool → Prop} {t u : WS} {te ta tb tc to' : WE} {tt tu : WT} {tar : WA} {i j n : Nat} {m m' : Md} {d d' : D} {sp : SpD} {p : WP} {R : List (Md × D) → Prop}
theorem wNext_ : wNext E ρ = E.nx ρ := rfl
theorem wSeq_ : wSeq t u E ρ = t { E with nx := u E } ρ := rfl
theorem wRet_ : wRet te E ρ = te ρ E.rt := rfl
def put (sl : Option Sl) (k : Sl → Prop) : Prop := match sl with
  | some s => k s
  | none => False
theorem put_sh {k : Sl → Prop} : put (some (.sh d)) k = k (.sh d) := rfl
theorem put_ow {b : Bool} {k : Sl → Prop} : put (some (.ow b d)) k = k (.ow b d) := rfl
theorem wSet_ : wSet i te E ρ = te ρ fun m d => onK (asg m d) (f := fun o => put o fun sl => E.nx (ρ.set i (some sl))) ⟨⟩ := rfl
theorem wIfS_ : wIfS tt t u E ρ = tt ρ fun b => onK b (f := fun b => if b = true then t E ρ else u E ρ) ⟨⟩ := rfl
theorem wRetV_ : wRetV i E ρ = onK ρ[i]? (f := fun o => match o with
  | some (some (.sh d)) => E.rt .sh d
  | some (some (.ow fl d)) => E.rt (.ow fl) d
  | _ => False) ⟨⟩ := rfl
theorem wRetT_ {pl : Plan} : wRetT pl E ρ = wPlan pl ρ fun ps => ps.length ≤ sizeLine ∧ E.rt (tupMd ps) (.tup (ps.map (·.2))) := rfl
theorem wPlan_nil : wPlan [] ρ R = R [] := rfl
theorem wPlan_e {r : Plan} : wPlan (.inl te :: r) ρ R = te ρ fun m x => wPlan r ρ fun ps => R ((m, x) :: ps) := rfl
def mov (o : Option (Md × D)) (k : Md × D → Prop) : Prop := match o with
  | some p => k p
  | none => False
theorem mov_some {p : Md × D} {k : Md × D → Prop} : mov (some p) k = k p := rfl
theorem wPlan_v {r : Plan} : wPlan (.inr i :: r) ρ R = onK (movS ρ[i]?) (f := fun o => mov o fun p => wPlan r ρ fun ps => R (p :: ps)) ⟨⟩ := rfl
theorem wFrz_ : wFrz i t E ρ = t E (frzE i ρ) := rfl
-- tests
def bol (d : D) (B : Bool → Prop) : Prop := match d with
  | .bl b => B b
  | _ => False
theorem bol_bl {b : Bool} : bol (.bl b) B = B b := rfl
theorem wB_ : wB te ρ B = te ρ fun _ x => onK x (f := fun x => bol x B) ⟨⟩ := rfl
theorem wTru_ : wTru te ρ B = te ρ fun _ x => onK x (f := fun x => ∃ b, truD x = some b ∧ B b) ⟨⟩ := rfl
theorem wNot_ : wNot tt ρ B = tt ρ fun c => B (!c) := rfl
theorem wAnd_ : wAnd tt tu ρ B = tt ρ fun c => onK c (f := fun c => if c = true then tu ρ B else B false) ⟨⟩ := rfl
theorem wOr_ : wOr tt tu ρ B = tt ρ fun c => onK c (f := fun c => if c = true then B true else tu ρ B) ⟨⟩ := rfl
-- expressions
theorem wVar_ : wVar i ρ Q = onK ρ[i]? (f := fun o => useS o Q) ⟨⟩ := rfl
theorem useS_sh : useS (some (some (.sh d))) Q = Q .sh d := rfl
theorem useS_ow {b : Bool} : useS (some (some (.ow b d))) Q = Q .bo d := rfl
theorem wC_ : wC d ρ Q = Q .sh d := rfl
theorem wOp_ {f : W2} : wOp f ta tb ρ Q = ta ρ fun m x => tb ρ fun n y => f m x n y Q := rfl
theorem wUn_ {f : W1} : wUn f ta ρ Q = ta ρ fun m x => f m x Q := rfl
theorem wAndV_ : wAndV ta tb ρ Q = ta ρ fun _ x => onK x (f := fun x => bol x fun c => onK c (f := fun c => if c = true then tb ρ Q else Q .sh (.bl false)) ⟨⟩) ⟨⟩ := by unfold wAndV onK bol; rfl
theorem wNotV_ : wNotV ta ρ Q = ta ρ fun _ x => onK x (f := fun x => bol x fun c => Q .sh (.bl (!c))) ⟨⟩ := by unfold wNotV onK bol; rfl
theorem wCons_ : wCons te tar ρ R = te ρ fun m x => tar ρ fun ps => R ((m, x) :: ps) := rfl
theorem wNil_ : wNil ρ R = R [] := rfl
theorem wTup_ : wTup tar ρ Q = tar ρ fun ps => ps.length ≤ sizeLine ∧ Q (tupMd ps) (.tup (ps.map (·.2))) := rfl
theorem wLst_ : wLst tar ρ Q = tar ρ fun ps => ps.length ≤ sizeLine ∧ Q (lstMd ps) (.list (ps.map (·.2))) := rfl
theorem wCall_ : wCall sp tar ρ Q = tar ρ fun ps => sp (ps.map (·.2)) fun m d => onK (m, d) (f := fun p => Q (retM p.1 p.2) p.2) ⟨⟩ := rfl
-- operators
section
variable {x y : Str} {a b : Int} {xs ys : List D} {kvs : List (Key × D)} {kts : List (List Key × D)}
theorem fAdd_ii : fAdd m (.int a) m' (.int b) Q = Q .sh (.int (a + b)) := rfl
theorem fAdd_ss : fAdd m (.str x) m' (.str y) Q = (x.length + y.length ≤ sizeLine ∧ Q .sh (.str (x ++ y))) := rfl
theorem fAdd_ll : fAdd m (.list xs) m' (.list ys) Q = (xs.length + ys.length ≤ sizeLine ∧ ((flats xs = true ∧ flats ys = true ∧ Q (.ow true) (.list (xs ++ ys))) ∨ (m = .sh ∧ m' = .sh ∧ Q (.ow false) (.list (xs ++ ys))))) := rfl
theorem fAdd_tt : fAdd m (.tup xs) m' (.tup ys) Q = (xs ≠ [] ∧ xs.length + ys.length ≤ sizeLine ∧ flats xs = true ∧ flats ys = true ∧ Q .sh (.tup (xs ++ ys))) := rfl
theorem fMul_ii : fMul m (.int a) m' (.int b) Q = (CMul a b ∧ Q .sh (.int (a * b))) := rfl
theorem fDiv_ii : fDiv m (.int a) m' (.int b) Q = ((0 < b ∧ b < 1073741824) ∧ Q .sh (.int (a / b))) := rfl
theorem fMod_ii : fMod m (.int a) m' (.int b) Q = (0 < b ∧ Q .sh (.int (a % b))) := rfl
theorem fLt_ii : fLt m (.int a) m' (.int b) Q = Q .sh (.bl (decide (a < b))) := rfl
theorem fLt_ss : fLt m (.str x) m' (.str y) Q = Q .sh (.bl (ltS x y)) := rfl
theorem fGe_ii : fGe m (.int a) m' (.int b) Q = Q .sh (.bl (decide (b ≤ a))) := rfl
theorem fEq_ii : fEq m (.int a) m' (.int b) Q = Q .sh (.bl (decide (a = b))) := rfl
theorem fEq_ss : fEq m (.str x) m' (.str y) Q = Q .sh (.bl (decide (x = y))) := rfl
theorem fEq_bb {k l : Bool} : fEq m (.bl k) m' (.bl l) Q = Q .sh (.bl (decide (k = l))) := rfl
theorem fEq_l : fEq m (.list xs) m' d Q = (okD 12 (.list xs) = true ∧ okD 12 d = true ∧ Q .sh (.bl (eqD (.list xs) d))) := by cases d <;> rfl
theorem fEq_t : fEq m (.tup xs) m' d Q = (okD 12 (.tup xs) = true ∧ okD 12 d = true ∧ Q .sh (.bl (eqD (.tup xs) d))) := by cases d <;> rfl
theorem fEq_n : fEq m .non m' d Q = (okD 12 .non = true ∧ okD 12 d = true ∧ Q .sh (.bl (eqD .non d))) := by cases d <;> rfl
theorem fNe_ii : fNe m (.int a) m' (.int b) Q = Q .sh (.bl (!decide (a = b))) := rfl
theorem fNe_ss : fNe m (.str x) m' (.str y) Q = Q .sh (.bl (!decide (x = y))) := rfl
theorem fNe_l : fNe m (.list xs) m' d Q = (okD 12 (.list xs) = true ∧ okD 12 d = true ∧ Q .sh (.bl (!eqD (.list xs) d))) := by cases d <;> rfl
theorem fNe_t : fNe m (.tup xs) m' d Q = (okD 12 (.tup xs) = true ∧ okD 12 d = true ∧ Q .sh (.bl (!eqD (.tup xs) d))) := by cases d <;> rfl
theorem fNe_n : fNe m .non m' d Q = (okD 12 .non = true ∧ okD 12 d = true ∧ Q .sh (.bl (!eqD .non d))) := by cases d <;> rfl
theorem fIn_s {neg : Bool} : fIn neg m (.str x) m' (.str y) Q = Q .sh (.bl (if neg then !inS x y else inS x y)) := rfl
theorem fIn_l {neg : Bool} : fIn neg m d m' (.list ys) Q = (scalD d = true ∧ ys.all scalD = true ∧ Q .sh (.bl (if neg then !inD d ys else inD d ys))) := rfl
theorem fIn_t {neg : Bool} : fIn neg m d m' (.tup ys) Q = (scalD d = true ∧ ys.all scalD = true ∧ Q .sh (.bl (if neg then !inD d ys else inD d ys))) := rfl
theorem fIn_K {neg : Bool} : fIn neg m d m' (.dK kvs) Q = ∃ k, d.key1 = some k ∧ Q .sh (.bl (if neg then !(getG kvs k).isSome else (getG kvs k).isSome)) := rfl
theorem fIn_T {neg : Bool} : fIn neg m (.tup xs) m' (.dT kts) Q = ∃ ks, keys1 xs = some ks ∧ Q .sh (.bl (if neg then !(getG kts ks).isSome else (getG kts ks).isSome)) := rfl
theorem fNeg_ : fNeg m (.int a) Q = Q .sh (.int (-a)) := rfl
theorem fIx_l : fIx m (.list xs) m' (.int a) Q = ∃ d, atI xs a = some d ∧ onK d (f := fun d => Q (itm m d) d) ⟨⟩ := rfl
theorem fIx_t : fIx m (.tup xs) m' (.int a) Q = ∃ d, atI xs a = some d ∧ onK d (f := fun d => Q (itm m d) d) ⟨⟩ := rfl
theorem fIx_s : fIx m (.str x) m' (.int a) Q = ∃ c, atI x.cps.toList a = some c ∧ Q .sh (.str ⟨#[c]⟩) := rfl
theorem fIx_K : fIx m (.dK kvs) m' d Q = ∃ k d', d.key1 = some k ∧ getG kvs k = some d' ∧ onK d' (f := fun d' => Q (itm m d') d') ⟨⟩ := rfl
theorem fIx_T : fIx m (.dT kts) m' (.tup ys) Q = ∃ ks d', keys1 ys = some ks ∧ getG kts ks = some d' ∧ onK d' (f := fun d' => Q (itm m d') d') ⟨⟩ := rfl
theorem fLen_s : fLen m (.str x) Q = Q .sh (.int x.length) := rfl
theorem fLen_l : fLen m (.list xs) Q = Q .sh (.int xs.length) := rfl
theorem fLen_t : fLen m (.tup xs) Q = Q .sh (.int xs.length) := rfl
theorem fLen_K : fLen m (.dK kvs) Q = Q .sh (.int kvs.length) := rfl
theorem fLen_T : fLen m (.dT kts) Q = Q .sh (.int kts.length) := rfl
theorem fIsi_ {T : String} : fIsi T m d Q = Q .sh (.bl (isiT d.ty T)) := rfl
theorem fList_l : fList m (.list xs) Q = ((flats xs = true ∧ Q (.ow true) (.list xs)) ∨ (m = .sh ∧ Q (.ow false) (.list xs))) := rfl
theorem fList_t : fList m (.tup xs) Q = ((flats xs = true ∧ Q (.ow true) (.list xs)) ∨ (m = .sh ∧ Q (.ow false) (.list xs))) := rfl
theorem fList_T : fList m (.dT kts) Q = Q (.ow true) (.list (kts.map fun kv => .tup (kv.1.map keyD))) := rfl
theorem wSl_ {tl th : WO} : wSl te tl th ρ Q = te ρ fun m x => tl ρ fun lo => th ρ fun hi => fSl m x lo hi Q := rfl
theorem wNoPart_ {O : Option Int → Prop} : wNoPart ρ O = O none := rfl
def int' (d : D) (k : Int → Prop) : Prop := match d with
  | .int i => k i
  | _ => False
theorem int'_i {k : Int → Prop} : int' (.int a) k = k a := rfl
theorem wPart_ {O : Option Int → Prop} : wPart te ρ O = te ρ fun _ x => onK x (f := fun x => int' x fun i => O (some i)) ⟨⟩ := by unfold wPart onK int'; rfl
theorem fSl_s {lo hi : Option Int} : fSl m (.str x) lo hi Q = Q .sh (.str (cutS x lo hi)) := rfl
theorem fSl_l {lo hi : Option Int} : fSl m (.list xs) lo hi Q = ((flats xs = true ∧ Q (.ow true) (.list (cutG xs lo hi))) ∨ (m = .sh ∧ Q (.ow false) (.list (cutG xs lo hi)))) := rfl
theorem fSl_t {lo hi : Option Int} : fSl m (.tup xs) lo hi Q = (flats xs = true ∧ ¬ (HT.sIx xs.length 0 lo = 0 ∧ HT.sIx xs.length xs.length hi = xs.length) ∧ Q .sh (.tup (cutG xs lo hi))) := rfl
end
-- texts
def str' (d : D) (k : Str → Prop) : Prop := match d with
  | .str x => k x
  | _ => False
theorem str'_s {x : Str} {k : Str → Prop} : str' (.str x) k = k x := rfl
def list' (d : D) (k : List D → Prop) : Prop := match d with
  | .list x => k x
  | _ => False
theorem list'_l {x : List D} {k : List D → Prop} : list' (.list x) k = k x := rfl
-- places
theorem wpN_ {P : Bool → D → (Bool → D → Env) → Prop} : wpN i ρ P = onK ρ[i]? (f := fun o => match o with
  | some (some (.ow fl d)) => P fl d fun fl2 d2 => ρ.set i (some (.ow fl2 d2))
  | _ => False) ⟨⟩ := rfl
def fl' (o : Option Bool) (k : Bool → Prop) : Prop := match o with
  | some b => k b
  | none => False
theorem fl'_some {b : Bool} {k : Bool → Prop} : fl' (some b) k = k b := rfl
theorem wApp_ : wApp p te E ρ = p ρ fun fl d up => onK d (f := fun d => list' d fun xs => te ρ fun m x => xs.length < sizeLine ∧ onK (pushFl fl m x) (f := fun o => fl' o fun fl2 => E.nx (up fl2 (.list (xs ++ [x])))) ⟨⟩) ⟨⟩ := by unfold wApp onK list' fl'; rfl
theorem wClear_ : wClear p E ρ = p ρ fun fl d up => onK d (f := fun d => list' d fun xs => E.nx (up fl (.list []))) ⟨⟩ := by unfold wClear onK list'; rfl
theorem wDNewK_ : wDNewK ρ Q = Q (.ow true) (.dK []) := rfl
theorem wDNewT_ : wDNewT ρ Q = Q (.ow true) (.dT []) := rfl
def dct (d y : D) (k1 : List (Key × D) → Prop) (k2 : List (List Key × D) → List D → Prop) : Prop := match d with
  | .dK kvs => k1 kvs
  | .dT kvs => match y with
    | .tup ys => k2 kvs ys
    | _ => False
  | _ => False
theorem dct_K {y : D} {kvs : List (Key × D)} {k1 : List (Key × D) → Prop} {k2 : List (List Key × D) → List D → Prop} : dct (.dK kvs) y k1 k2 = k1 kvs := rfl
theorem dct_T {ys : List D} {kvs : List (List Key × D)} {k1 : List (Key × D) → Prop} {k2 : List (List Key × D) → List D → Prop} : dct (.dT kvs) (.tup ys) k1 k2 = k2 kvs ys := rfl
theorem wDPut_ {tk tv : WE} : wDPut p tk tv E ρ = tv ρ fun _ x => p ρ fun fl d up => tk ρ fun _ y => x.flat = true ∧ onK d (f := fun d => dct d y (fun kvs => ∃ k, y.key1 = some k ∧ kvs.length < sizeLine ∧ E.nx (up fl (.dK (putG kvs k x)))) (fun kvs ys => ∃ ks, keys1 ys = some ks ∧ kvs.length < sizeLine ∧ E.nx (up fl (.dT (putG kvs ks x))))) ⟨⟩ := by
  unfold wDPut onK dct
  rfl
-- loops
variable {LQ : List D → Prop}
theorem wFor_ {wi : WI} {g : WG} {b : WS} : wFor wi g b E ρ = wi ρ fun ds => wForL g b E ds ρ := rfl
theorem wiList_ : wiList te ρ LQ = te ρ fun m d => notBo m ∧ onK d (f := fun d => list' d LQ) ⟨⟩ := by unfold wiList onK list'; rfl
def tup' (d : D) (k : List D → Prop) : Prop := match d with
  | .tup x => k x
  | _ => False
theorem tup'_l {x : List D} {k : List D → Prop} : tup' (.tup x) k = k x := rfl
theorem wiTup_ : wiTup te ρ LQ = te ρ fun m d => notBo m ∧ onK d (f := fun d => tup' d LQ) ⟨⟩ := by unfold wiTup onK tup'; rfl
theorem wiStr_ : wiStr te ρ LQ = te ρ fun _ d => onK d (f := fun d => str' d fun z => LQ (sgnD z)) ⟨⟩ := by unfold wiStr onK str'; rfl
theorem wiRng1_ : wiRng1 te ρ LQ = te ρ fun _ d => onK d (f := fun d => int' d fun j => j ≤ 16777216 ∧ -(2 ^ 62) ≤ j ∧ LQ (intsD 0 j.toNat)) ⟨⟩ := by unfold wiRng1 onK int'; rfl
theorem wiRng2_ : wiRng2 ta tb ρ LQ = ta ρ fun _ x => tb ρ fun _ y => onK x (f := fun x => int' x fun i => onK y (f := fun y => int' y fun j => j - i ≤ 16777216 ∧ (-(2 ^ 62) ≤ i ∧ i < 2 ^ 62 ∧ -(2 ^ 62) ≤ j ∧ j < 2 ^ 62) ∧ LQ (intsD i (j - i).toNat)) ⟨⟩) ⟨⟩ := by
  unfold wiRng2 onK int'
  congr 1
  funext _ x
  congr 1
  funext _ y
  cases x <;> cases y <;> rfl
theorem notBo_sh : notBo .sh = True := rfl
theorem notBo_ow {b : Bool} : notBo (.ow b) = True := rfl
theorem notBo_bo : notBo .bo = False := rfl
theorem gN_ {N : Env → Prop} : gN i d ρ N = N (ρ.set i (some (.sh d))) := rfl
theorem gT_ {gs : WGs} {N : Env → Prop} : gT n gs d ρ N = onK d (f := fun d => tup' d fun ds => ds.length = n ∧ gs ds ρ N) ⟨⟩ := by unfold gT onK tup'; rfl
theorem gCons_ {g : WG} {gs : WGs} {ds : List D} {N : Env → Prop} : gCons' g gs (d :: ds) ρ N = g d ρ fun ρ' => gs ds ρ' N := rfl
theorem gNil_ {N : Env → Prop} : gNil' [] ρ N = N ρ := by simp [gNil']
theorem wComp_ {wi : WI} {g : WG} {tn : Nat} {ix : List Nat} : wComp wi g tt te tn ix ρ Q = wi ρ fun ds => wCompL g tt te ds (compρ tn ix ρ) fun out => Q (.ow true) (.list out) := rfl
end
theorem B {c : Bool} {f : Bool → Prop} {k : Kt f} (h1 : c = true → f true) (h2 : c = false → f false) : onK c k := by
  cases c with
  | true => exact h1 rfl
  | false => exact h2 rfl
theorem D {p : Prop} [Decidable p] {f : Bool → Prop} {k : Kt f} (h1 : p → f true) (h2 : ¬ p → f false) : onK (decide p) k :=
  B (fun h => h1 (of_decide_eq_true h)) fun h => h2 (of_decide_eq_false h)
theorem T {c : Bool} {f : Bool → Prop} {k : Kt f} (h : c = true) (h1 : f true) : onK c k := by subst h; exact h1
theorem F {c : Bool} {f : Bool → Prop} {k : Kt f} (h : c = false) (h1 : f false) : onK c k := by subst h; exact h1
end L2.Q.R

set_option Elab.async false
set_option linter.all false
set_option maxRecDepth 100000
set_option maxHeartbeats 4000000

namespace L2
open PySem PySem.Spec PyProof.Rows
section
variable {X : Cx}
def rRng1 : List V → Hp → VK → Prop := fun vs H Q => ∃ j : Int, vs = [.int j] ∧ ∀ p, H p = none → Q (.ref p) (upd H p (.rng 0 j))
def rRng2 : List V → Hp → VK → Prop := fun vs H Q => ∃ i j : Int, vs = [.int i, .int j] ∧ ∀ p, H p = none → Q (.ref p) (upd H p (.rng i j))
theorem call_rng1 : CallR X (.type "range") rRng1 := by
  intro pins s σ H xs us Q I r h
  obtain ⟨j, rfl, q⟩ := h
  obtain ⟨u, rfl, ru⟩ := Vals.one r
  obtain ⟨t, rfl⟩ := ru
  exact call_range_1 ⟨.ref _, _, I.laid (a := s.heap.objs.size) (o := .rng 0 j) (fun _ _ q => Heap.get?_push_of_some _ q) (Nat.le_refl _) ⟨_, _, _, Heap.get?_push_size _ rfl⟩, rfl, q _ I.fresh⟩
theorem call_rng2 : CallR X (.type "range") rRng2 := by
  intro pins s σ H xs us Q I r h
  obtain ⟨i, j, rfl, q⟩ := h
  cases r with
  | cons r rr =>
    cases rr with
    | cons r' rr =>
      cases rr
      obtain ⟨t, rfl⟩ := r
      obtain ⟨t', rfl⟩ := r'
      exact call_range_2 ⟨.ref _, _, I.laid (a := s.heap.objs.size) (o := .rng i j) (fun _ _ q => Heap.get?_push_of_some _ q) (Nat.le_refl _) ⟨_, _, _, Heap.get?_push_size _ rfl⟩, rfl, q _ I.fresh⟩
def intsV (lo : Int) (n : Nat) : List V := (List.range n).map fun i => .int (lo + (i : Nat))
def rListR : List V → Hp → VK → Prop := fun vs H Q => ∃ p i j, vs = [.ref p] ∧ H p = some (.rng i j) ∧ (-(2 ^ 62) ≤ i ∧ i < 2 ^ 62 ∧ -(2 ^ 62) ≤ j ∧ j < 2 ^ 62) ∧ j - i ≤ 16777216 ∧ ∀ l, H l = none → Q (.ref l) (upd H l (.lst (intsV i (j - i).toNat)))
theorem call_listR (hc : X.calm = true) : CallR X (.type "list") rListR := by
  intro pins s σ H xs us Q I r h
  obtain ⟨p, i, j, rfl, e, ⟨h1, h2, h3, h4⟩, hz, q⟩ := h
  obtain ⟨u, rfl, ru⟩ := Vals.one r
  cases ru
  obtain ⟨t, u, v, ho⟩ := (show ObjOk X.prog X.w H s.heap p (.rng i j) from I.hok p _ e)
  have en : Builtin.Range.rangeSize i j 1 = ((j - i).toNat : Nat) := by rw [rangeSize_one]; split <;> omega
  have z2 : (j - i).toNat ≤ 2 ^ 24 := by omega
  refine call_list_range (n := (j - i).toNat) (I.ok.hd hc) ho (small_one h1 h2 h3 h4) en z2 fun h' tk acc c kp eo hacc => ?_
  refine ⟨.ref _, _, I.laid (a := s.heap.objs.size) (o := .lst (intsV i (j - i).toNat)) (t' := tk) kp (Nat.le_refl _) ⟨?_, acc.toList, c, ?_, by rw [Array.toArray_toList]; exact eo⟩, rfl, q _ I.fresh⟩
  · rw [intsV, List.length_map, List.length_range, sizeLine_eq]; omega
  · have go : ∀ (n k : Nat) (ac : List Value), ac.length = n → (∀ (m : Nat) (v : Value), ac[m]? = some v → ∃ t, v = .int (i + ((k + m : Nat) : Int) * 1) t) → Vals ((List.range' k n).map fun m => .int (i + (m : Nat))) ac := by
      intro n
      induction n with
      | zero => intro k ac hl _; cases ac with
        | nil => exact .nil
        | cons _ _ => cases hl
      | succ n ih =>
        intro k ac hl hi
        cases ac with
        | nil => cases hl
        | cons v ac =>
          rw [List.range'_succ, List.map_cons]
          refine .cons ?_ (ih (k + 1) ac (by simpa using hl) fun m v h => ?_)
          · obtain ⟨t, rfl⟩ := hi 0 v rfl
            exact ⟨t, by simp⟩
          · obtain ⟨t, rfl⟩ := hi (m + 1) v (by simpa using h)
            exact ⟨t, by rw [show k + 1 + m = k + (m + 1) by omega]⟩
    have := go (j - i).toNat 0 acc.toList (by rw [Array.length_toList]; exact hacc.1) fun m v h => by
      obtain ⟨t, rfl⟩ := hacc.2 m v (by simpa using h)
      exact ⟨t, by simp⟩
    rw [intsV, List.range_eq_range']
    exact this
end
end L2

namespace L2.Q
open PySem PySem.Spec PyProof.Rows
section
variable {X : Cx} {K : PySem.W.Frag} {e e2 tg : Expr} {te te2 : WE} {pos p p2 pos2 cpos apos : Pos}
def wListR1 (te : WE) : WE := fun ρ Q => te ρ fun _ d => match d with
  | .int j => j ≤ 16777216 ∧ -(2 ^ 62) ≤ j ∧ Q (.ow true) (.list (intsD 0 j.toNat))
  | _ => False
def wListR2 (te te2 : WE) : WE := fun ρ Q => te ρ fun _ x => te2 ρ fun _ y => match x, y with
  | .int i, .int j => j - i ≤ 16777216 ∧ (-(2 ^ 62) ≤ i ∧ i < 2 ^ 62 ∧ -(2 ^ 62) ≤ j ∧ j < 2 ^ 62) ∧ Q (.ow true) (.list (intsD i (j - i).toNat))
  | _, _ => False
theorem ints_flat (lo : Int) (n : Nat) : flats (intsD lo n) = true := flats_iff.mpr fun x hx => by
  obtain ⟨i, _, rfl⟩ := List.mem_map.mp hx
  rfl
theorem q_listR1 (hm : X.mg "list" = none) (hm2 : X.mg "range" = none) (hc : X.calm = true) (he : QE X K e te) (hg : Gl X "list" := by rfl) (hg2 : Gl X "range" := by rfl) (hs : starEach [e] X.env = (false, eval e X.env) :: starEach [] X.env := by rfl)
    (hs2 : starEach [.Call (.Name "range" p2) [e] [] pos2] X.env = (false, eval (.Call (.Name "range" p2) [e] [] pos2) X.env) :: starEach [] X.env := by rfl) : QE X K (.Call (.Name "list" p) [.Call (.Name "range" p2) [e] [] pos2] [] pos) (wListR1 te) := by
  refine PE.imp (pe_callTy (call_listR hc) hg hm boot_list (pa_cons (pe_callTy call_rng1 hg2 hm2 boot_range (pa_cons he pa_nil hs) (by decide) (by decide) hs) pa_nil hs2) (by decide) (by decide) hs2) fun σ H Qv ⟨Hs, ρ, tot, Q, sr, h, fin⟩ => ?_
  refine ⟨Hs, ρ, tot, _, sr, h, fun v H1 Hs1 m d As g1 r1 f1 q1 => ?_⟩
  have r := r1.rep g1.wf
  cases r with
  | int j =>
    obtain ⟨h1, h2, q1⟩ := q1
    refine ⟨j, rfl, fun a ha => ⟨a, 0, j, rfl, upd_same, ⟨by omega, by omega, by omega, by omega⟩, by omega, fun l hl => ?_⟩⟩
    have g2 := g1.trans (newL (o := .rng 0 j) g1.wf ha fun _ z => nomatch z)
    have hz : (intsD 0 j.toNat).length ≤ sizeLine := by rw [intsD, List.length_map, List.length_range, sizeLine_eq]; omega
    have := Fin.lst (Fin.after fin g2) g2.wf hz (ints_reps (K := K) 0 (List.range j.toNat)) (ints_flat 0 j.toNat) q1 l hl
    simpa [intsV] using this
  | _ => exact q1.elim
theorem q_listR2 (hm : X.mg "list" = none) (hm2 : X.mg "range" = none) (hc : X.calm = true) (he : QE X K e te) (he2 : QE X K e2 te2) (hg : Gl X "list" := by rfl) (hg2 : Gl X "range" := by rfl) (hs : starEach (e :: [e2]) X.env = (false, eval e X.env) :: starEach [e2] X.env := by rfl) (hs3 : starEach (e2 :: []) X.env = (false, eval e2 X.env) :: starEach [] X.env := by rfl)
    (hs2 : starEach [.Call (.Name "range" p2) [e, e2] [] pos2] X.env = (false, eval (.Call (.Name "range" p2) [e, e2] [] pos2) X.env) :: starEach [] X.env := by rfl) (hpl : (backTo pos2 (starEach [e2] X.env)).any (·.1) = false := by rfl) : QE X K (.Call (.Name "list" p) [.Call (.Name "range" p2) [e, e2] [] pos2] [] pos) (wListR2 te te2) := by
  refine PE.imp (pe_callTy (call_listR hc) hg hm boot_list (pa_cons (pe_callTy call_rng2 hg2 hm2 boot_range (pa_cons he (pa_cons he2 pa_nil hs3) hs) (by decide) (by decide) hs hpl) pa_nil hs2) (by decide) (by decide) hs2) fun σ H Qv ⟨Hs, ρ, tot, Q, sr, h, fin⟩ => ?_
  refine ⟨Hs, ρ, tot, _, sr, h, fun v H1 Hs1 m d As g1 r1 f1 q1 => ⟨Hs1, ρ, tot, _, sr.grow g1, q1, fun u H2 Hs2 n y Bs g2 r2 f2 q2 => ?_⟩⟩
  have r := (r1.grow g2).rep g2.wf
  have r' := r2.rep g2.wf
  cases r with
  | int i => cases r' with
    | int j =>
      obtain ⟨h1, h2, q2⟩ := q2
      refine ⟨i, j, rfl, fun a ha => ⟨a, i, j, rfl, upd_same, h2, by omega, fun l hl => ?_⟩⟩
      have g3 := (g1.trans g2).trans (newL (o := .rng i j) g2.wf ha fun _ z => nomatch z)
      have hz : (intsD i (j - i).toNat).length ≤ sizeLine := by rw [intsD, List.length_map, List.length_range, sizeLine_eq]; omega
      have := Fin.lst (Fin.after fin g3) g3.wf hz (ints_reps (K := K) i (List.range (j - i).toNat)) (ints_flat i (j - i).toNat) q2 l hl
      simpa [intsV] using this
    | _ => exact q2.elim
  | _ => cases r' <;> exact q2.elim
def wD1 (tk tv : WE) : WE := fun ρ Q => tk ρ fun _ x => tv ρ fun _ y => ∃ k, x.key1 = some k ∧ y.flat = true ∧ Q (.ow true) (.dK [(k, y)])
theorem q_dict1 (he : QE X K e te) (he2 : QE X K e2 te2) : QE X K (.Dict [some e] [e2] pos) (wD1 te te2) := by
  refine PE.imp (pe_disp (pps_cons he he2 pps_nil) rfl rfl (by simp) (by simp)) fun σ H Qv ⟨Hs, ρ, tot, Q, sr, h, fin⟩ => fun a ha => ?_
  have g0 : Grow Hs H Hs (upd H a (.dK [])) := newL sr.wf ha fun _ z => nomatch z
  refine ⟨Hs, ρ, tot, _, sr.grow g0, h, fun v H1 Hs1 m x As g1 r1 f1 q1 => ⟨Hs1, ρ, tot, _, (sr.grow g0).grow g1, q1, fun u H2 Hs2 n y Bs g2 r2 f2 q2 => ?_⟩⟩
  obtain ⟨k, ek, fy, q2⟩ := q2
  have rx := (r1.grow g2).rep g2.wf
  have ex := rx.key ek
  subst ex
  have ry := r2.flat g2.wf fy
  have gg := (g0.trans g1).trans g2
  have e2 : H2 a = some (.dK []) := g2.all _ _ (g1.all _ _ upd_same)
  have nH : Hs a = none := sr.wf.sub.free ha
  have n2 : Hs2 a = none := g2.hsn (g1.hsn nH (by rw [upd_same]; exact fun z => nomatch z)) (by rw [g1.all _ _ upd_same]; exact fun z => nomatch z)
  refine ⟨e2, [(k, u)], rfl, by simp, ?_⟩
  have g3 : Grow Hs H Hs2 (upd H2 a (.dK [(k, u)])) := ⟨fun b o hb => by rw [upd_ne (ne_of_none hb ha)]; exact gg.all b o hb, gg.sh, ⟨fun b o hb => by rw [upd_ne (ne_of_none hb n2)]; exact gg.wf.sub b o hb, fun b vs hb => by
    by_cases z : b = a
    · subst z; rw [upd_same] at hb; cases hb
    · rw [upd_ne z] at hb; exact gg.wf.tups b vs hb⟩, gg.new⟩
  exact fin (.ref a) _ Hs2 (.ow true) (.dK [(k, y)]) [a] g3 ⟨.dK (vs := [u]) (As := []) ⟨by rw [sizeLine_eq]; simp, fun p hp => by
    have : p = (k, y) := by simpa using hp
    subst this; exact key_kOk rx ek⟩ upd_same (.cons (As := []) (.sh (fun _ => fy) ry) .nil), by simp⟩ ⟨by simp, fun b hb => by
    obtain rfl : b = a := by simpa using hb
    exact ⟨n2, ha⟩⟩ q2

def fSort1 : W1 := fun _ x Q => match x with
  | .list xs => ∃ ks b, xs = ks.map keyD ∧ (∀ k ∈ ks, isI k = b) ∧ ∀ ms : List Key, ms.Perm ks → (ms.Pairwise fun a b => lt1 b a = false) → Q (.ow true) (.list (ms.map keyD))
  | .dK kvs => ∃ b, (∀ p ∈ kvs, isI p.1 = b) ∧ ∀ ms : List Key, ms.Perm (kvs.map (·.1)) → (ms.Pairwise fun a b => lt1 b a = false) → Q (.ow true) (.list (ms.map keyD))
  | _ => False
theorem br_sort1 : BrC K (rSort1 K) fSort1 := by
  intro Hs H m x v As Qd Qv w rx h f
  have r1 := rx.rep w
  cases r1 with
  | list z s q =>
    obtain ⟨ks, b, rfl, hb, h⟩ := h
    obtain ⟨e, ok⟩ := keyD_of q
    subst e
    refine ⟨ks, b, .inl s, hb, fun ms l pm pw hl => ?_⟩
    exact f.lst w (by rw [List.length_map, pm.length_eq]; simpa using z) (keys_rep fun k hk => ok k (pm.mem_iff.mp hk)) (keys_flat ms) (h ms pm pw) l hl
  | @dK a vs kvs kk e q =>
    obtain ⟨b, hb, h⟩ := h
    have hlen := q.length
    rw [List.length_map] at hlen
    have ez : (((kvs.map (·.1)).zip vs).map (·.1)) = kvs.map (·.1) := by rw [List.map_fst_zip (by rw [List.length_map]; omega)]
    refine ⟨kvs.map (·.1), b, .inr ⟨_, e, ez.symm⟩, fun k hk => ?_, fun ms l pm pw hl => ?_⟩
    · obtain ⟨p, hp, rfl⟩ := List.mem_map.mp hk
      exact hb p hp
    · refine f.lst w (by rw [List.length_map, pm.length_eq, List.length_map]; exact kk.1) (keys_rep fun k hk => ?_) (keys_flat ms) (h ms pm pw) l hl
      obtain ⟨p, hp, rfl⟩ := List.mem_map.mp (pm.mem_iff.mp hk)
      exact kk.2 p hp
  | _ => exact h.elim
theorem kSort1 (hc : X.calm = true := by rfl) (hK : X.K = K := by rfl) : CallR X (.builtin "sorted") (rSort1 K) := by subst hK; exact call_sort1 hc

section
variable {Hs H : Hp} {fl : Bool}
theorem RepOs.erase : ∀ {ds : List D} {vs : List V} {As : List Addr} (k : Nat), RepOs K Hs H fl ds vs As → ∃ Bs, Bs.Sublist As ∧ RepOs K Hs H fl (ds.eraseIdx k) (vs.eraseIdx k) Bs
  | _, _, _, _, .nil => ⟨[], List.Sublist.refl _, .nil⟩
  | _, _, _, 0, .cons (As := A) (Bs := B) r rs => ⟨B, List.sublist_append_right _ _, rs⟩
  | _, _, _, k + 1, .cons (As := A) (Bs := B) r rs => by
    obtain ⟨C, sb, q⟩ := RepOs.erase k rs
    exact ⟨A ++ C, sb.append_left _, .cons r q⟩
theorem RepOs.getF : ∀ {ds : List D} {vs : List V} {As : List Addr} {k : Nat} {d : D}, RepOs K Hs H fl ds vs As → ds[k]? = some d → d.flat = true → Wf Hs H → ∃ v, vs[k]? = some v ∧ Rep K Hs d v
  | _, _, _, _, _, .nil, e, _, _ => by simp at e
  | _, _, _, 0, _, .cons r rs, e, hf, w => by
    simp at e
    subst e
    exact ⟨_, rfl, (r.rep w.sub fun _ _ => rfl).flatIn w.tups hf⟩
  | _, _, _, k + 1, _, .cons r rs, e, hf, w => RepOs.getF (k := k) rs (by simpa using e) hf w
end
def wPop (i : Nat) (p : WP) : WS := fun E ρ => p ρ fun fl d up => match d with
  | .list xs => ∃ y, xs[xs.length - 1]? = some y ∧ y.flat = true ∧ E.nx ((up fl (.list xs.dropLast)).set i (some (.sh y)))
  | _ => False
theorem eraseLast {α : Type} (xs : List α) : xs.eraseIdx (xs.length - 1) = xs.dropLast := by
  rw [List.dropLast_eq_take, List.eraseIdx_eq_take_drop_succ]
  rw [List.drop_eq_nil_of_le (by omega), List.append_nil]
theorem qs_pop {wp : WP} {i : Nat} {x : Str} {pos' : Pos} (hN : X.N.Nodup) (hi : X.N[i]? = some x) (hx : Loc X.env.scope x) (ho : QP X K e wp) (hK : X.K = K := by rfl)
    (hbase : attributeBase e "pop" X.env (eval e X.env) = eval e X.env := by rfl) (hline : (apos.endLine == cpos.line) = true := by rfl)
    (hs : swapsWith (.Call (.Attribute e "pop" apos) [] [] cpos) (some (.Name x pos')) pos.line X.env = pure false := by rfl) (hf : X.fn x = true ∨ X.env.scope.names.lookup x = some .local := by first | exact .inl rfl | exact .inr rfl | assumption) :
    QS X K (.Assign [.Name x pos'] (.Call (.Attribute e "pop" apos) [] [] cpos) pos) (wPop i wp) := by
  subst hK
  refine PS.imp (ps_set hN hi hx (pe_bm0 PySem.F.plainAttrs_list PySem.F.slot_list_pop PySem.F.type_list_pop mt_pop ho hbase hline) hs hf) fun D σ H ⟨Hs, ρ, tot, E, sr, h, k1, k2, k3, k4⟩ => ?_
  refine ⟨Hs, ρ, tot, _, sr, h, fun v H1 Hs1 fl d up g1 p1 q1 => ?_⟩
  cases d with
  | list xs =>
    obtain ⟨y, ey, fy, q1⟩ := q1
    obtain ⟨a, vs, A, ea, e2, _, rs, nd, hn, k⟩ := p1.put (Grow.refl g1.wf)
    subst ea
    obtain ⟨nA, ndA⟩ := List.nodup_cons.mp nd
    obtain ⟨u, eu, ru⟩ := rs.getF ey fy g1.wf
    obtain ⟨B, sb, rb⟩ := rs.erase (xs.length - 1)
    have hl := rs.length
    rw [eraseLast] at rb
    rw [hl, eraseLast] at rb
    rw [hl] at eu
    refine ⟨.inl ⟨rfl, _, .inl (.inl e2)⟩, a, vs, u, rfl, rfl, e2, eu, ?_⟩
    have hz : vs.dropLast.length ≤ sizeLine := by
      rcases p1.ex with ⟨As', r, ne, _⟩
      cases r with
      | sh _ _ => exact absurd rfl ne
      | list hz e3 _ => rw [e2] at e3; cases e3; rw [List.length_dropLast]; omega
    obtain ⟨tot2, sr2⟩ := k fl _ _ B id rb hz (sb.nodup ndA) (fun z => nA (sb.subset z)) (fun x hx => .inl (sb.subset hx))
    obtain ⟨tot3, _, sr3⟩ := sr2.setSh i ru
    exact k1 _ _ Hs1 _ tot3 g1.sh sr3 q1
  | _ => exact q1.elim
def wPopAt (i : Nat) (p : WP) (tk : WE) : WS := fun E ρ => p ρ fun fl d up => match d with
  | .list xs => tk ρ fun _ j => match j with
    | .int j => ∃ y, 0 ≤ j ∧ xs[j.toNat]? = some y ∧ y.flat = true ∧ E.nx ((up fl (.list (xs.eraseIdx j.toNat))).set i (some (.sh y)))
    | _ => False
  | _ => False
theorem qs_popAt {wp : WP} {i : Nat} {x : Str} {pos' : Pos} (hN : X.N.Nodup) (hi : X.N[i]? = some x) (hx : Loc X.env.scope x) (ho : QP X K e wp) (he : QE X K e2 te2) (hK : X.K = K := by rfl)
    (hbase : attributeBase e "pop" X.env (eval e X.env) = eval e X.env := by rfl)
    (hfew : ((backTo cpos (starEach [e2] X.env)).all (fun x => !x.1) && (backToKw cpos (keywordEach [] X.env)).all (fun x => x.1.isSome)
      && decide ([e2].length + ([] : List Keyword).length + (if ([] : List Keyword).isEmpty then 0 else 1) < 30)) = true := by rfl)
    (hline : (apos.endLine == cpos.line) = true := by rfl) (hss : starEach (e2 :: []) X.env = (false, eval e2 X.env) :: starEach [] X.env := by rfl) (hplain : (backTo cpos (starEach [] X.env)).any (·.1) = false := by rfl)
    (hs : swapsWith (.Call (.Attribute e "pop" apos) [e2] [] cpos) (some (.Name x pos')) pos.line X.env = pure false := by rfl) (hf : X.fn x = true ∨ X.env.scope.names.lookup x = some .local := by first | exact .inl rfl | exact .inr rfl | assumption) :
    QS X K (.Assign [.Name x pos'] (.Call (.Attribute e "pop" apos) [e2] [] cpos) pos) (wPopAt i wp te2) := by
  subst hK
  refine PS.imp (ps_set hN hi hx (pe_bm PySem.F.plainAttrs_list PySem.F.slot_list_pop PySem.F.type_list_pop mt_popAt ho (pa_cons he pa_nil hss) hbase hfew hline hss hplain) hs hf) fun D σ H ⟨Hs, ρ, tot, E, sr, h, k1, k2, k3, k4⟩ => ?_
  refine ⟨Hs, ρ, tot, _, sr, h, fun v H1 Hs1 fl d up g1 p1 q1 => ?_⟩
  cases d with
  | list xs =>
    obtain ⟨a1, vs1, e1, s1⟩ := p1.isL g1.wf
    subst e1
    refine ⟨.inl ⟨rfl, _, s1⟩, Hs1, ρ, tot, _, sr.grow g1, q1, fun w H2 Hs2 m jd As g2 r2 f2 q2 => ?_⟩
    have rj := r2.rep g2.wf
    cases rj with
    | int j =>
      obtain ⟨y, hj, ey, fy, q2⟩ := q2
      obtain ⟨a, vs, A, ea, e2, e21, rs, nd, hn, k⟩ := p1.put g2
      cases ea
      obtain ⟨nA, ndA⟩ := List.nodup_cons.mp nd
      obtain ⟨u, eu, ru⟩ := rs.getF ey fy g2.wf
      obtain ⟨B, sb, rb⟩ := rs.erase j.toNat
      have hl := rs.length
      have hz0 : vs.length ≤ sizeLine := by
        rcases p1.ex with ⟨As', r, ne, _⟩
        cases r with
        | sh _ _ => exact absurd rfl ne
        | list hz e3 _ => rw [e21] at e3; cases e3; exact hz
      have hlt : j.toNat < vs.length := by
        rcases Nat.lt_or_ge j.toNat vs.length with q | q
        · exact q
        · rw [List.getElem?_eq_none q] at eu; cases eu
      have hsl : sizeLine < 2 ^ 62 := by rw [sizeLine_eq]; decide
      refine ⟨a1, vs, j, j.toNat, u, rfl, rfl, e2, by omega, by omega, ?_, eu, ?_⟩
      · unfold seqIndex?
        simp only [show ¬ j < 0 by omega, if_false]
        rw [if_pos (by simp only [Bool.and_eq_true, decide_eq_true_eq]; omega)]
      · have hz : (vs.eraseIdx j.toNat).length ≤ sizeLine := by rw [List.length_eraseIdx]; split <;> omega
        obtain ⟨tot2, sr2⟩ := k fl _ _ B id rb hz (sb.nodup ndA) (fun z => nA (sb.subset z)) (fun x hx => .inl (sb.subset hx))
        obtain ⟨tot3, _, sr3⟩ := sr2.setSh i ru
        exact k1 _ _ Hs2 _ tot3 (g1.sh.trans g2.sh) sr3 q2
    | _ => exact q2.elim
  | _ => exact q1.elim
end
section
variable {K : PySem.W.Frag} {Hs H : Hp} {fl : Bool} {d : D} {a : Addr}
theorem SR.lock : ∀ {ρ : Env} {σ : St} {tot : List Addr} {i : Nat}, SR K Hs H ρ σ tot → ρ[i]? = some (some (.ow fl d)) → σ[i]? = some (some (.ref a)) → SR K Hs H (ρ.set i (some (.lk a fl d))) σ tot
  | _, _, _, _, .nil, e, _ => by simp at e
  | _, _, _, 0, .non q, e, _ => by simp at e
  | _, _, _, 0, .sh r q, e, _ => by simp at e
  | _, _, _, 0, .lk ne r q, e, _ => by simp at e
  | _, _, _, 0, .ow ne r q, e, e2 => by
    simp at e e2
    obtain ⟨rfl, rfl⟩ := e
    subst e2
    exact .lk ne r q
  | _, _, _, i + 1, .non q, e, e2 => .non (SR.lock (i := i) q (by simpa using e) (by simpa using e2))
  | _, _, _, i + 1, .sh r q, e, e2 => .sh r (SR.lock (i := i) q (by simpa using e) (by simpa using e2))
  | _, _, _, i + 1, .ow ne r q, e, e2 => .ow ne r (SR.lock (i := i) q (by simpa using e) (by simpa using e2))
  | _, _, _, i + 1, .lk ne r q, e, e2 => .lk ne r (SR.lock (i := i) q (by simpa using e) (by simpa using e2))
theorem SR.unlock : ∀ {ρ : Env} {σ : St} {tot : List Addr} {i : Nat}, SR K Hs H ρ σ tot → ρ[i]? = some (some (.lk a fl d)) → SR K Hs H (ρ.set i (some (.ow fl d))) σ tot
  | _, _, _, _, .nil, e => by simp at e
  | _, _, _, 0, .non q, e => by simp at e
  | _, _, _, 0, .sh r q, e => by simp at e
  | _, _, _, 0, .ow ne r q, e => by simp at e
  | _, _, _, 0, .lk ne r q, e => by
    simp at e
    obtain ⟨rfl, rfl, rfl⟩ := e
    exact .ow ne r q
  | _, _, _, i + 1, .non q, e => .non (SR.unlock (i := i) q (by simpa using e))
  | _, _, _, i + 1, .sh r q, e => .sh r (SR.unlock (i := i) q (by simpa using e))
  | _, _, _, i + 1, .ow ne r q, e => .ow ne r (SR.unlock (i := i) q (by simpa using e))
  | _, _, _, i + 1, .lk ne r q, e => .lk ne r (SR.unlock (i := i) q (by simpa using e))
theorem SRel.lock {ρ : Env} {σ : St} {tot : List Addr} {i : Nat} (s : SRel K Hs ρ σ H tot) (e : ρ[i]? = some (some (.ow fl d))) (e2 : σ[i]? = some (some (.ref a))) : SRel K Hs (ρ.set i (some (.lk a fl d))) σ H tot := ⟨s.sr.lock e e2, s.wf, s.nod, s.own⟩
theorem SRel.unlock {ρ : Env} {σ : St} {tot : List Addr} {i : Nat} (s : SRel K Hs ρ σ H tot) (e : ρ[i]? = some (some (.lk a fl d))) : SRel K Hs (ρ.set i (some (.ow fl d))) σ H tot := ⟨s.sr.unlock e, s.wf, s.nod, s.own⟩
theorem listAt_own {xs : List D} (hf : flats xs = true) : ListAt K a xs fun Hs H => ∃ As, RepO K Hs H fl (.list xs) (.ref a) As := fun Hs H ⟨As, r⟩ w => by
  have r' := r.rep w.sub fun _ _ => rfl
  cases r' with
  | list z s rs => exact ⟨_, s, rs.flatIn w.tups hf⟩
end
abbrev WIL := Env → (List D → Prop) → Prop
def tpIL (K : PySem.W.Frag) (i : Nat) (wi : WIL) : TI := fun σ H R => ∃ Hs ρ tot Q fl d, SRel K Hs ρ σ H tot ∧ ρ[i]? = some (some (.ow fl d)) ∧ wi ρ Q ∧
  ∀ J ds a, σ[i]? = some (some (.ref a)) → WalkS K J ds (fun Hs H => ∃ As, RepO K Hs H fl d (.ref a) As) → Q ds → R J H
abbrev QIL (X : Cx) (K : PySem.W.Frag) (tg iter : Expr) (i : Nat) (wi : WIL) : Prop := PI X tg iter (tpIL K i wi)
def wlList (i : Nat) : WIL := fun ρ Q => match ρ[i]? with
  | some (some (.ow _ (.list xs))) => flats xs = true ∧ Q xs
  | _ => False
def wlEnum (i : Nat) : WIL := fun ρ Q => match ρ[i]? with
  | some (some (.ow _ (.list xs))) => flats xs = true ∧ Q (enumD xs)
  | _ => False
def wForLB (i : Nat) (a : Addr) (fl : Bool) (d : D) (g : WG) (b : WS) (E : WEnds) : List D → Env → Prop
  | [], ρ => ρ[i]? = some (some (.lk a fl d)) ∧ E.nx (ρ.set i (some (.ow fl d)))
  | x :: xs, ρ => ρ[i]? = some (some (.lk a fl d)) ∧ g x ρ fun ρ1 => b { E with nx := wForLB i a fl d g b E xs, ct := wForLB i a fl d g b E xs, bk := fun ρ2 => ρ2[i]? = some (some (.lk a fl d)) ∧ E.nx (ρ2.set i (some (.ow fl d))) } ρ1
def wForB (i : Nat) (wi : WIL) (g : WG) (b : WS) : WS := fun E ρ => ∃ fl d, ρ[i]? = some (some (.ow fl d)) ∧ wi ρ fun ds => ∀ a, wForLB i a fl d g b E ds (ρ.set i (some (.lk a fl d)))
section
variable {X : Cx} {K : PySem.W.Frag} {e tg : Expr} {i : Nat} {pos p : Pos} {wi : WIL} {g : WG} {b : WS} {body : List Stmt}
theorem ql_enum {elts : List Expr} {kk : Nat} {tp : Pos} (hm : X.mg "enumerate" = none) (h : PE X e (tVar i)) (hK : X.K = K := by rfl) (hg : Gl X "enumerate" := by rfl) (hs : starEach [e] X.env = (false, eval e X.env) :: starEach [] X.env := by rfl) (hs' : starEach [e] X.env = [(false, eval e X.env)] := by rfl) :
    QIL X K (.Tuple elts kk tp) (.Call (.Name "enumerate" p) [e] [] pos) i (wlEnum i) := by
  subst hK
  refine PI.imp (pi_enum hg hm (pa_cons h pa_nil hs) hs') fun σ H R ⟨Hs, ρ, tot, Q, fl, d, sr, e1, h, k⟩ => ?_
  unfold wlEnum at h
  rw [e1] at h
  obtain ⟨v, e2, As, ne, r, _⟩ := sr.sr.get e1
  cases d with
  | list xs =>
    obtain ⟨hf, h⟩ := h
    have r' := r.rep sr.wf.sub fun _ _ => rfl
    cases r' with
    | @list a _ _ z s rs => exact ⟨.ref a, e2, a, rfl, ⟨_, s⟩, k _ _ a e2 (.enum (listAt_own hf)) h⟩
  | _ => exact h.elim
theorem qs_forB {iter : Expr} (hp : PassesOwn (model X.prog X.w) X.A X.env X.xe) (hc : X.calm = true) (hi : QIL X K tg iter i wi) (hg : QG X K tg g) (hb : QSs X K body b) (hs : ∀ x, foldedSetIterable iter X.env x = pure x := by intro _; rfl) :
    QS X K (.For tg iter body [] pos) (wForB i wi g b) := by
  refine PS.imp (ps_for hp hc hi hg hb hs) fun D σ H ⟨Hs, ρ, tot, E, sr, ⟨fl, d, e0, h⟩, k1, k2, k3, k4⟩ => ?_
  rw [tFor_eq]
  refine ⟨Hs, ρ, tot, _, fl, d, sr, e0, h, fun J ds a ea S q1 => ?_⟩
  have q1 := q1 a
  have hi : i < ρ.length := by
    rcases Nat.lt_or_ge i ρ.length with q | q
    · exact q
    · rw [List.getElem?_eq_none q] at e0; cases e0
  refine ⟨fun j m σ H => m = ds.length - j ∧ j ≤ ds.length ∧ ∃ Hs' ρ' tot', Same Hs Hs' ∧ SRel K Hs' ρ' σ H tot' ∧ wForLB i a fl d g b E (ds.drop j) ρ', ⟨ds.length, by simp, Nat.zero_le _, Hs, _, tot, Same.refl _, sr.lock e0 ea, by simpa using q1⟩, ?_⟩
  rintro j m σ2 H2 ⟨rfl, hj, Hs2, ρ2, tot2, s2, sr2, q2⟩
  have lk : ρ2[i]? = some (some (.lk a fl d)) := by
    cases hd : ds.drop j with
    | nil => rw [hd] at q2; exact q2.1
    | cons x xs => rw [hd] at q2; exact q2.1
  have C2 : ∃ As, RepO K Hs2 H2 fl d (.ref a) As := by
    obtain ⟨v, ev, As, ne, r, e, _⟩ := sr2.sr.get lk
    subst e
    exact ⟨As, r⟩
  by_cases hlt : j < ds.length
  · refine .inr ⟨S.go j Hs2 H2 C2 sr2.wf hlt, fun σ3 H3 => ∃ Hs' ρ' tot', Same Hs Hs' ∧ SRel K Hs' ρ' σ3 H3 tot' ∧ wForLB i a fl d g b E (ds.drop (j + 1)) ρ', fun σ3 H3 h3 => ⟨ds.length - (j + 1), by omega, rfl, hlt, h3⟩, fun x H3 y => ?_⟩
    obtain ⟨Hs3, g3, rd⟩ := S.yld j Hs2 H2 x H3 ds[j] C2 sr2.wf (by simp [hlt]) y
    rw [List.drop_eq_getElem_cons hlt] at q2
    have s3 := s2.trans g3.sh
    refine ⟨Hs3, ρ2, tot2, ds[j], _, sr2.grow g3, rd, q2.2, fun σ4 ρ4 tot4 sr4 _ q4 => ?_⟩
    refine ⟨Hs3, ρ4, tot4, _, sr4, q4, ?_, ?_, ?_, ?_⟩
    · exact fun σ5 H5 Hs5 ρ5 tot5 s5 sr5 q5 => ⟨Hs5, ρ5, tot5, s3.trans s5, sr5, q5⟩
    · exact fun σ5 H5 Hs5 ρ5 tot5 s5 sr5 q5 => k1 σ5 H5 Hs5 _ tot5 (s3.trans s5) (sr5.unlock q5.1) q5.2
    · exact fun σ5 H5 Hs5 ρ5 tot5 s5 sr5 q5 => ⟨Hs5, ρ5, tot5, s3.trans s5, sr5, q5⟩
    · exact fun v H5 Hs5 m d As s5 => k4 v H5 Hs5 m d As (s3.trans s5)
  · have e : j = ds.length := by omega
    subst e
    refine .inl ⟨S.stop Hs2 H2 C2 sr2.wf, ?_⟩
    rw [List.drop_length] at q2
    exact k1 σ2 H2 Hs2 _ tot2 s2 (sr2.unlock q2.1) q2.2
theorem forLB_by {a : Addr} {fl : Bool} {d : D} {E : WEnds} (xs : List D) (Pv : Nat → Env → Prop) {ρ : Env} (h0 : Pv 0 ρ) (hl : ∀ j ρ, Pv j ρ → ρ[i]? = some (some (.lk a fl d)))
    (hs : ∀ j x ρ, xs[j]? = some x → Pv j ρ → ∀ N : Env → Prop, (∀ ρ', Pv (j + 1) ρ' → N ρ') → g x ρ fun ρ1 => b { E with nx := N, ct := N, bk := fun ρ2 => ρ2[i]? = some (some (.lk a fl d)) ∧ E.nx (ρ2.set i (some (.ow fl d))) } ρ1)
    (hd : ∀ ρ, Pv xs.length ρ → E.nx (ρ.set i (some (.ow fl d)))) : wForLB i a fl d g b E xs ρ := by
  have go : ∀ (k j : Nat) (ρ : Env), j + k = xs.length → Pv j ρ → wForLB i a fl d g b E (xs.drop j) ρ := by
    intro k
    induction k with
    | zero =>
      intro j ρ e p
      have : j = xs.length := by omega
      subst this
      rw [List.drop_length]
      exact ⟨hl _ ρ p, hd ρ p⟩
    | succ k ih =>
      intro j ρ e p
      have hj : j < xs.length := by omega
      rw [List.drop_eq_getElem_cons hj]
      exact ⟨hl _ ρ p, hs j xs[j] ρ (by simp [hj]) p _ fun ρ2 h2 => ih (j + 1) ρ2 (by omega) h2⟩
  have := go xs.length 0 ρ (by omega) h0
  simpa using this
end
section
variable {X : Cx} {K : PySem.W.Frag}
theorem qs_setComp {i : Nat} {x : Str} {tg iter elt : Expr} {ifs : List Expr} {scope : Scope} {pos pos' spos : Pos} {wi : WI} {g : WG} {tc : WT} {te : WE} {tn cn : List Str} {ix : List Nat} (hN : X.N.Nodup) (hi0 : X.N[i]? = some x) (hx : Loc X.env.scope x) (hc : X.calm = true)
    (hi : QIb X K tg iter wi) (O : CompOk X scope tn cn ix)
    (hg : ∀ C fp s₃ H₃, QG (cxComp X scope C (tn ++ cn) fp s₃ H₃) K tg g) (hcs : ∀ C fp s₃ H₃, QTs (cxComp X scope C (tn ++ cn) fp s₃ H₃) K ifs tc) (he : ∀ C fp s₃ H₃, QE (cxComp X scope C (tn ++ cn) fp s₃ H₃) K elt te)
    (hsw : swapsWith (.ListComp elt [⟨tg, iter, ifs, 0⟩] scope pos) (some (.Name x pos')) spos.line X.env = pure true := by rfl)
    (hs : ∀ x, foldedSetIterable iter X.env x = pure x := by intro _; rfl) (hf : X.fn x = true ∨ X.env.scope.names.lookup x = some .local := by first | exact .inl rfl | exact .inr rfl | assumption) :
    QS X K (.Assign [.Name x pos'] (.ListComp elt [⟨tg, iter, ifs, 0⟩] scope pos) spos) (wSet i (wComp wi g tc te tn.length ix)) :=
  PS.imp (ps_setComp hN hi0 hx hc hi O hg hcs he hsw hs hf) fun D σ H ⟨Hs, ρ, tot, E, sr, h, k1, k2, k3, k4⟩ => by
    refine comp_lift ⟨Hs, ρ, tot, _, sr, h, fun v H1 Hs1 m d As g1 r1 f1 q1 => ?_⟩
    have q1 : match asg m d with
      | some sl => E.nx (ρ.set i (some sl))
      | none => False := q1
    cases e : asg m d with
    | none => rw [e] at q1; exact q1.elim
    | some sl =>
      rw [e] at q1
      obtain ⟨tot', s'⟩ := (sr.grow g1).set i r1 f1.1 (fun a ha => ⟨(f1.2 a ha).1, fun m => (sr.sr.own a m).ne (f1.2 a ha).2⟩) e
      exact k1 _ H1 Hs1 _ tot' g1.sh s' q1
end
end L2.Q

set_option Elab.async false
set_option linter.all false
set_option maxRecDepth 100000
set_option maxHeartbeats 4000000

namespace L2.Q.R
open PySem PySem.Spec PyProof.Rows L2.Q
section
variable {E : WEnds} {ρ : Env} {Q : Md → L2.Q.D → Prop} {te te2 tk : WE} {i : Nat} {d : L2.Q.D} {p : WP} {a : Addr} {b : Bool} {LQ : List L2.Q.D → Prop}
theorem on_slk {f : Option Sl → Prop} {k : Kt f} : onK (some (.lk a b d)) k = f (some (.lk a b d)) := rfl
theorem on_vlk {f : Option (Option Sl) → Prop} {k : Kt f} : onK (some (some (.lk a b d))) k = f (some (some (.lk a b d))) := rfl
theorem useS_lk : useS (some (some (.lk a b d))) Q = Q .bo d := rfl
theorem wListR1_ : wListR1 te ρ Q = te ρ fun _ d => onK d (f := fun d => int' d fun j => j ≤ 16777216 ∧ -(2 ^ 62) ≤ j ∧ Q (.ow true) (.list (intsD 0 j.toNat))) ⟨⟩ := by unfold wListR1 onK int'; rfl
theorem wListR2_ : wListR2 te te2 ρ Q = te ρ fun _ x => te2 ρ fun _ y => onK x (f := fun x => int' x fun i => onK y (f := fun y => int' y fun j => j - i ≤ 16777216 ∧ (-(2 ^ 62) ≤ i ∧ i < 2 ^ 62 ∧ -(2 ^ 62) ≤ j ∧ j < 2 ^ 62) ∧ Q (.ow true) (.list (intsD i (j - i).toNat))) ⟨⟩) ⟨⟩ := by
  unfold wListR2 onK int'
  congr 1
  funext _ x
  congr 1
  funext _ y
  cases x <;> cases y <;> rfl
theorem wD1_ : wD1 tk te ρ Q = tk ρ fun _ x => te ρ fun _ y => ∃ k, x.key1 = some k ∧ y.flat = true ∧ Q (.ow true) (.dK [(k, y)]) := rfl
theorem wPop_ : wPop i p E ρ = p ρ fun fl d up => onK d (f := fun d => list' d fun xs => ∃ y, xs[xs.length - 1]? = some y ∧ y.flat = true ∧ onK y (f := fun y => E.nx ((up fl (.list xs.dropLast)).set i (some (.sh y)))) ⟨⟩) ⟨⟩ := by unfold wPop onK list'; rfl
theorem wPopAt_ : wPopAt i p tk E ρ = p ρ fun fl d up => onK d (f := fun d => list' d fun xs => tk ρ fun _ j => onK j (f := fun j => int' j fun j => ∃ y, 0 ≤ j ∧ xs[j.toNat]? = some y ∧ y.flat = true ∧ onK y (f := fun y => E.nx ((up fl (.list (xs.eraseIdx j.toNat))).set i (some (.sh y)))) ⟨⟩) ⟨⟩) ⟨⟩ := by unfold wPopAt onK list' int'; rfl
def own' (o : Option (Option Sl)) (k : Bool → L2.Q.D → Prop) : Prop := match o with
  | some (some (.ow fl d)) => k fl d
  | _ => False
theorem own'_ow {k : Bool → L2.Q.D → Prop} : own' (some (some (.ow b d))) k = k b d := rfl
theorem wForB_ {wi : WIL} {g : WG} {b : WS} : wForB i wi g b E ρ = onK ρ[i]? (f := fun o => own' o fun fl d => wi ρ fun ds => ∀ a, wForLB i a fl d g b E ds (ρ.set i (some (.lk a fl d)))) ⟨⟩ := by
  unfold wForB onK own'
  generalize ρ[i]? = o
  rcases o with _ | _ | d | ⟨fl, d⟩ | ⟨a, fl, d⟩
  · exact propext ⟨(fun ⟨_, _, e, _⟩ => nomatch e), fun z => z.elim⟩
  · exact propext ⟨(fun ⟨_, _, e, _⟩ => nomatch e), fun z => z.elim⟩
  · exact propext ⟨(fun ⟨_, _, e, _⟩ => nomatch e), fun z => z.elim⟩
  · exact propext ⟨fun ⟨fl', d', e, h'⟩ => by cases e; exact h', fun h' => ⟨fl, d, rfl, h'⟩⟩
  · exact propext ⟨(fun ⟨_, _, e, _⟩ => nomatch e), fun z => z.elim⟩
theorem wlList_ : wlList i ρ LQ = onK ρ[i]? (f := fun o => own' o fun _ d => onK d (f := fun d => list' d fun xs => flats xs = true ∧ LQ xs) ⟨⟩) ⟨⟩ := by
  unfold wlList onK own' list'
  generalize ρ[i]? = o
  rcases o with _ | _ | d | ⟨fl, d⟩ | ⟨a, fl, d⟩ <;> try rfl
  cases d <;> rfl
theorem wlEnum_ : wlEnum i ρ LQ = onK ρ[i]? (f := fun o => own' o fun _ d => onK d (f := fun d => list' d fun xs => flats xs = true ∧ LQ (enumD xs)) ⟨⟩) ⟨⟩ := by
  unfold wlEnum onK own' list'
  generalize ρ[i]? = o
  rcases o with _ | _ | d | ⟨fl, d⟩ | ⟨a, fl, d⟩ <;> try rfl
  cases d <;> rfl
theorem wiEnum_ : wiEnum te ρ LQ = te ρ fun m d => notBo m ∧ onK d (f := fun d => list' d fun xs => LQ (enumD xs)) ⟨⟩ := by unfold wiEnum onK list'; rfl
theorem wbEnum_ : wbEnum te ρ LQ = te ρ fun _ d => onK d (f := fun d => list' d fun xs => LQ (enumD xs)) ⟨⟩ := by unfold wbEnum onK list'; rfl
theorem wbList_ : wbList te ρ LQ = te ρ fun _ d => onK d (f := fun d => list' d LQ) ⟨⟩ := by unfold wbList onK list'; rfl
theorem wbTup_ : wbTup te ρ LQ = te ρ fun _ d => onK d (f := fun d => tup' d LQ) ⟨⟩ := by unfold wbTup onK tup'; rfl
theorem wiZip_ : wiZip te te2 ρ LQ = te ρ fun m x => notBo m ∧ te2 ρ fun m2 y => notBo m2 ∧ onK x (f := fun x => list' x fun xs => onK y (f := fun y => list' y fun ys => LQ (zipD xs ys)) ⟨⟩) ⟨⟩ := by
  unfold wiZip onK list'
  congr 1
  funext _ x
  congr 2
  funext _ y
  cases x <;> cases y <;> rfl
theorem wbZip_ : wbZip te te2 ρ LQ = te ρ fun _ x => te2 ρ fun _ y => onK x (f := fun x => list' x fun xs => onK y (f := fun y => list' y fun ys => LQ (zipD xs ys)) ⟨⟩) ⟨⟩ := by
  unfold wbZip onK list'
  congr 1
  funext _ x
  congr 1
  funext _ y
  cases x <;> cases y <;> rfl
def wpAt (d : L2.Q.D) (i : Int) (P : Bool → L2.Q.D → (Bool → L2.Q.D → Env) → Prop) (up : Bool → L2.Q.D → Env) : Prop := match d with
  | .list ds => ∃ j d', ixN ds.length i = some j ∧ ds[j]? = some d' ∧ d'.flat = false ∧ onK d' (f := fun d' => P true d' fun fl2 d2 => up fl2 (.list (ds.set j d2))) ⟨⟩
  | .tup ds => ∃ j d', ixN ds.length i = some j ∧ ds[j]? = some d' ∧ d'.flat = false ∧ onK d' (f := fun d' => P true d' fun fl2 d2 => up fl2 (.tup (ds.set j d2))) ⟨⟩
  | _ => False
section
variable {P : Bool → L2.Q.D → (Bool → L2.Q.D → Env) → Prop} {up : Bool → L2.Q.D → Env} {ds : List L2.Q.D} {j : Int}
theorem wpAt_l : wpAt (.list ds) j P up = ∃ k d', ixN ds.length j = some k ∧ ds[k]? = some d' ∧ d'.flat = false ∧ onK d' (f := fun d' => P true d' fun fl2 d2 => up fl2 (.list (ds.set k d2))) ⟨⟩ := rfl
theorem wpAt_t : wpAt (.tup ds) j P up = ∃ k d', ixN ds.length j = some k ∧ ds[k]? = some d' ∧ d'.flat = false ∧ onK d' (f := fun d' => P true d' fun fl2 d2 => up fl2 (.tup (ds.set k d2))) ⟨⟩ := rfl
theorem wpIx_ : wpIx p te ρ P = p ρ fun fl d up => te ρ fun _ y => fl = true ∧ onK y (f := fun y => int' y fun i => onK d (f := fun d => wpAt d i P up) ⟨⟩) ⟨⟩ := by
  unfold wpIx onK int' wpAt
  rfl
end
end
end L2.Q.R

local macro_rules | `(tactic| walk_at "q") => `(tactic| simp -dsimp only [↓L2.Q.R.on_non, ↓L2.Q.R.on_bl, ↓L2.Q.R.on_int, ↓L2.Q.R.on_str, ↓L2.Q.R.on_list, ↓L2.Q.R.on_tup, ↓L2.Q.R.on_dK, ↓L2.Q.R.on_dT, ↓L2.Q.R.on_true, ↓L2.Q.R.on_false, ↓L2.Q.R.on_msh, ↓L2.Q.R.on_mow, ↓L2.Q.R.on_mbo, ↓L2.Q.R.on_ssh, ↓L2.Q.R.on_sow, ↓L2.Q.R.on_smd, ↓L2.Q.R.on_sb, ↓L2.Q.R.on_vsh, ↓L2.Q.R.on_vow, ↓L2.Q.R.wNext_, ↓L2.Q.R.wSeq_, ↓L2.Q.R.wRet_, ↓L2.Q.R.put_sh, ↓L2.Q.R.put_ow, ↓L2.Q.R.wSet_, ↓L2.Q.R.wIfS_, ↓L2.Q.R.wRetV_, ↓L2.Q.R.wRetT_, ↓L2.Q.R.wPlan_nil, ↓L2.Q.R.wPlan_e, ↓L2.Q.R.mov_some, ↓L2.Q.R.wPlan_v, ↓L2.Q.R.wFrz_, ↓L2.Q.R.bol_bl, ↓L2.Q.R.wB_, ↓L2.Q.R.wTru_, ↓L2.Q.R.wNot_, ↓L2.Q.R.wAnd_, ↓L2.Q.R.wOr_, ↓L2.Q.R.wVar_, ↓L2.Q.R.useS_sh, ↓L2.Q.R.useS_ow, ↓L2.Q.R.wC_, ↓L2.Q.R.wOp_, ↓L2.Q.R.wUn_, ↓L2.Q.R.wAndV_, ↓L2.Q.R.wNotV_, ↓L2.Q.R.wCons_, ↓L2.Q.R.wNil_, ↓L2.Q.R.wTup_, ↓L2.Q.R.wLst_, ↓L2.Q.R.wCall_, ↓L2.Q.R.fAdd_ii, ↓L2.Q.R.fAdd_ss, ↓L2.Q.R.fAdd_ll, ↓L2.Q.R.fAdd_tt, ↓L2.Q.R.fMul_ii, ↓L2.Q.R.fDiv_ii, ↓L2.Q.R.fMod_ii, ↓L2.Q.R.fLt_ii, ↓L2.Q.R.fLt_ss, ↓L2.Q.R.fGe_ii, ↓L2.Q.R.fEq_ii, ↓L2.Q.R.fEq_ss, ↓L2.Q.R.fEq_bb, ↓L2.Q.R.fEq_l, ↓L2.Q.R.fEq_t, ↓L2.Q.R.fEq_n, ↓L2.Q.R.fNe_ii, ↓L2.Q.R.fNe_ss, ↓L2.Q.R.fNe_l, ↓L2.Q.R.fNe_t, ↓L2.Q.R.fNe_n, ↓L2.Q.R.fIn_s, ↓L2.Q.R.fIn_l, ↓L2.Q.R.fIn_t, ↓L2.Q.R.fIn_K, ↓L2.Q.R.fIn_T, ↓L2.Q.R.fNeg_, ↓L2.Q.R.fIx_l, ↓L2.Q.R.fIx_t, ↓L2.Q.R.fIx_s, ↓L2.Q.R.fIx_K, ↓L2.Q.R.fIx_T, ↓L2.Q.R.fLen_s, ↓L2.Q.R.fLen_l, ↓L2.Q.R.fLen_t, ↓L2.Q.R.fLen_K, ↓L2.Q.R.fLen_T, ↓L2.Q.R.fIsi_, ↓L2.Q.R.fList_l, ↓L2.Q.R.fList_t, ↓L2.Q.R.fList_T, ↓L2.Q.R.wSl_, ↓L2.Q.R.wNoPart_, ↓L2.Q.R.int'_i, ↓L2.Q.R.wPart_, ↓L2.Q.R.fSl_s, ↓L2.Q.R.fSl_l, ↓L2.Q.R.fSl_t, ↓L2.Q.R.str'_s, ↓L2.Q.R.list'_l, ↓L2.Q.R.wpN_, ↓L2.Q.R.fl'_some, ↓L2.Q.R.wApp_, ↓L2.Q.R.wClear_, ↓L2.Q.R.wDNewK_, ↓L2.Q.R.wDNewT_, ↓L2.Q.R.dct_K, ↓L2.Q.R.dct_T, ↓L2.Q.R.wDPut_, ↓L2.Q.R.wFor_, ↓L2.Q.R.wiList_, ↓L2.Q.R.tup'_l, ↓L2.Q.R.wiTup_, ↓L2.Q.R.wiStr_, ↓L2.Q.R.wiRng1_, ↓L2.Q.R.wiRng2_, ↓L2.Q.R.notBo_sh, ↓L2.Q.R.notBo_ow, ↓L2.Q.R.notBo_bo, ↓L2.Q.R.gN_, ↓L2.Q.R.gT_, ↓L2.Q.R.gCons_, ↓L2.Q.R.gNil_, ↓L2.Q.R.wComp_, ↓L2.Q.R.on_slk, ↓L2.Q.R.on_vlk, ↓L2.Q.R.useS_lk, ↓L2.Q.R.wListR1_, ↓L2.Q.R.wListR2_, ↓L2.Q.R.wD1_, ↓L2.Q.R.wPop_, ↓L2.Q.R.wPopAt_, ↓L2.Q.R.own'_ow, ↓L2.Q.R.wForB_, ↓L2.Q.R.wlList_, ↓L2.Q.R.wlEnum_, ↓L2.Q.R.wiEnum_, ↓L2.Q.R.wbEnum_, ↓L2.Q.R.wbList_, ↓L2.Q.R.wbTup_, ↓L2.Q.R.wiZip_, ↓L2.Q.R.wbZip_, ↓L2.Q.R.wpIx_, ↓L2.Q.R.wpAt_l, ↓L2.Q.R.wpAt_t, L2.Q.movS, L2.Q.tupMd, L2.Q.lstMd, L2.Q.okSh, L2.Q.okOw, L2.Q.okFl, L2.Q.retM, L2.Q.strs1, L2.Q.frzE, L2.Q.shS, L2.Q.shC, L2.Q.pushFl, L2.Q.compρ, L2.Q.asg, L2.Q.itm, L2.Q.startD, L2.Q.D.flat, L2.Q.flats, L2.Q.D.isN, L2.Q.D.ty, L2.Q.truD, L2.Q.D.key1, L2.Q.keys1, L2.Q.fSortT, L2.Q.fSort1, List.length_map, List.map_cons, List.map_nil, List.length_cons, List.length_nil, List.replicate_succ, List.replicate_zero, List.cons_append, List.nil_append, List.append_nil, List.getElem?_cons_zero, List.getElem?_cons_succ, List.getElem?_nil, List.set_cons_zero, List.set_cons_succ, List.all_cons, List.all_nil, Option.some.injEq, Option.join_some, Option.map_some, Option.map_none, Nat.reduceAdd, Nat.reduceSub, true_and, and_true, Bool.and_true, Bool.true_and, Bool.and_false, Bool.false_and, Bool.not_true, Bool.not_false, Bool.false_eq_true, if_true, if_false, decide_true, decide_false, reduceIte, cond_true, cond_false, PySem.sizeLine_eq, L2.Q.atI0, L2.Q.atI1, L2.Q.atI2, L2.Q.str_app_len, L2.Q.empty_len, L2.Q.empty_app, Nat.zero_add, exists_eq_left', Int.reduceLT, Int.reduceLE, Int.reducePow, Int.reduceNeg, Int.reduceToNat, Int.reduceAdd, Int.reduceMul, Int.reduceSub, Nat.reduceLeDiff, Nat.reduceLT, false_or, or_false, and_self, L2.ex_eq])
local macro_rules | `(tactic| walk_at "o") => `(tactic| repeat (refine And.intro (by first | omega | exact ⟨by omega, by omega⟩ | decide) ?_))

namespace L2.Q.Law
open PySem PySem.Spec PyProof.Rows
/-! ### the defs as readings -/
/-! ### what many laws share -/
theorem small {n : Nat} (h : n ≤ 10000) : n ≤ sizeLine := Nat.le_trans h (by decide)
theorem smallL {n : Nat} (h : n ≤ 10000) : n < sizeLine := Nat.lt_of_le_of_lt h (by decide)
/-- a small letter -/
def isLet (c : Nat) : Bool := decide (97 ≤ c ∧ c ≤ 122)
abbrev abc : Str := "abcdefghijklmnopqrstuvwxyz"
theorem abc_list : sg abc = (List.range 26).map (97 + ·) := by decide +kernel
/-- the k-th letter -/
theorem abc_at {i : Int} (h0 : 0 ≤ i) (h1 : i < 26) : ∃ c, atI (sg abc) i = some c ∧ isLet c = true := by
  refine ⟨97 + i.toNat, ?_, ?_⟩
  · have : atI (sg abc) ((i.toNat : Nat) : Int) = some (97 + i.toNat) := atI_nat (by
      rw [abc_list]
      have : i.toNat < 26 := by omega
      simp [this])
    rwa [Int.toNat_of_nonneg h0] at this
  · simp [isLet]; omega
theorem abc_atm (x : Int) : ∃ c, atI (sg abc) (x % 26) = some c ∧ isLet c = true := abc_at (Int.emod_nonneg _ (by decide)) (Int.emod_lt_of_pos _ (by decide))
/-- letters alone -/
def lets (x : Str) : Prop := ∀ c ∈ sg x, isLet c = true
def Open (x : Str) : Prop := 1 ≤ x.length ∧ x.length ≤ 6 ∧ lets x
def Deed (x : Str) : Prop := x = "*" ∨ Open x
theorem lets_app {x y : Str} (hx : lets x) (hy : lets y) : lets (x ++ y) := fun c hc => by
  rw [sg_app] at hc
  exact (List.mem_append.mp hc).elim (hx c) (hy c)
theorem lets_one {c : Nat} (h : isLet c = true) : lets ⟨#[c]⟩ := fun d hd => by
  have : d = c := by simpa [sg] using hd
  rw [this]; exact h
theorem lets_cut {x : Str} (h : lets x) (lo hi : Option Int) : lets (cutS x lo hi) := fun c hc => by
  unfold cutS sg at hc
  rw [List.toList_toArray] at hc
  exact h c (List.mem_of_mem_drop (List.mem_of_mem_take hc))
theorem one_length (c : Nat) : (⟨#[c]⟩ : Str).length = 1 := rfl
theorem Deed.len {x : Str} (h : Deed x) : x.length ≤ 6 := by
  rcases h with rfl | h
  · decide
  · exact h.2.1
theorem Deed.ok {x : Str} (h : Deed x) : PyData.strOk x = true := by
  rw [okS_iff]
  rcases h with rfl | h
  · have : sg "*" = [42] := by decide +kernel
    intro c hc
    rw [this] at hc
    have : c = 42 := by simpa using hc
    omega
  · intro c hc
    have := h.2.2 c hc
    simp [isLet] at this
    omega
/-! ### steps -/
abbrev Stp := Int × Str × Int
def stpK (s : Stp) : List Key := [.inl s.1, .inr s.2.1, .inl s.2.2]
def stpD (s : Stp) : D := .tup [.int s.1, .str s.2.1, .int s.2.2]
theorem keyT_stp (s : Stp) : keyT (stpK s) = stpD s := rfl
def mD (many : Int) (steps : List Stp) : D := .tup [.int many, .list (steps.map stpD)]
theorem flat_stps : ∀ (l : List Stp), flats (l.map stpD) = true
  | [] => rfl
  | x :: l => by simp [flats, flat_stps l, stpD, D.flat]
/-- a step between states below many with a deed -/
def StOk (many : Int) (s : Stp) : Prop := 0 ≤ s.1 ∧ s.1 < many ∧ Deed s.2.1 ∧ 0 ≤ s.2.2 ∧ s.2.2 < many
theorem stp_ok {many : Int} {s : Stp} (n : Nat) (h : StOk many s) : okD (n + 1) (stpD s) = true := by
  have := h.2.2.1.ok
  simp [okD, stpD, this]
theorem stps_ok {many : Int} {l : List Stp} (n : Nat) (h : ∀ s ∈ l, StOk many s) : okD (n + 2) (.list (l.map stpD)) = true := by
  simp only [okD, List.all_map, List.all_eq_true]
  intro s hs
  exact stp_ok n (h s hs)
theorem m_ok {many : Int} {l : List Stp} (n : Nat) (h : ∀ s ∈ l, StOk many s) : okD (n + 3) (mD many l) = true := by
  have h2 := stps_ok n h
  show (okD (n + 2) (.int many) && (okD (n + 2) (.list (l.map stpD)) && true)) = true
  rw [h2]
  rfl
theorem nb_stps : ∀ (l : List Stp), nbs (l.map stpD) = true
  | [] => rfl
  | x :: l => by simp [nbs, nb_stps l, stpD, D.nb]
theorem nb_m (many : Int) (l : List Stp) : (mD many l).nb = true := by simp [mD, D.nb, nbs, nb_stps]
theorem eq_self {x : D} (h : x.nb = true) : eqD x x = true := (eqD_iff x x h h).mpr rfl
theorem stpD_inj {s t : Stp} (h : stpD s = stpD t) : s = t := by
  obtain ⟨a, b, c⟩ := s
  obtain ⟨a', b', c'⟩ := t
  simp [stpD] at h
  obtain ⟨rfl, rfl, rfl⟩ := h
  rfl
theorem stps_inj : ∀ {l m : List Stp}, l.map stpD = m.map stpD → l = m
  | [], [], _ => rfl
  | [], _ :: _, h => by simp at h
  | _ :: _, [], h => by simp at h
  | x :: l, y :: m, h => by
    simp only [List.map_cons, List.cons.injEq] at h
    rw [stpD_inj h.1, stps_inj h.2]
theorem stpK_inj {s t : Stp} (h : stpK s = stpK t) : s = t := by
  obtain ⟨a, b, c⟩ := s
  obtain ⟨a', b', c'⟩ := t
  simp [stpK] at h
  obtain ⟨rfl, rfl, rfl⟩ := h
  rfl
/-- the order of steps -/
def ltP (s t : Stp) : Bool := ltK (stpK s) (stpK t)
/-- all of a list of keys are steps -/
theorem to_stps {P : Stp → Prop} : ∀ {ks : List (List Key)}, (∀ k ∈ ks, ∃ s, k = stpK s ∧ P s) → ∃ l : List Stp, ks = l.map stpK ∧ ∀ s ∈ l, P s
  | [], _ => ⟨[], rfl, fun s h => nomatch h⟩
  | k :: ks, h => by
    obtain ⟨s, rfl, p⟩ := h k List.mem_cons_self
    obtain ⟨l, rfl, q⟩ := to_stps fun k hk => h k (List.mem_cons_of_mem _ hk)
    refine ⟨s :: l, rfl, fun t ht => ?_⟩
    rcases List.mem_cons.mp ht with rfl | ht
    · exact p
    · exact q t ht
/-! ### a dict keyed by steps, each put once -/
abbrev Kn := List (List Key × D)
/-- the keys of a dict: steps with P, none twice -/
def StD (P : Stp → Prop) (kvs : Kn) : Prop := (∀ p ∈ kvs, ∃ s, p.1 = stpK s ∧ P s) ∧ (kvs.map (·.1)).Nodup
theorem keys_putG {κ β : Type} [DecidableEq κ] (kvs : List (κ × β)) (k : κ) (v : β) : (putG kvs k v).map (·.1) = if k ∈ kvs.map (·.1) then kvs.map (·.1) else kvs.map (·.1) ++ [k] := by
  unfold putG
  by_cases h : k ∈ kvs.map (·.1)
  · have : (kvs.any fun kv => decide (kv.1 = k)) = true := by
      obtain ⟨p, hp, e⟩ := List.mem_map.mp h
      exact List.any_eq_true.mpr ⟨p, hp, decide_eq_true e⟩
    rw [if_pos this, if_pos h, List.map_map]
    apply List.map_congr_left
    intro p _
    show (if p.1 = k then (p.1, v) else p).1 = p.1
    split <;> rfl
  · have : ¬ (kvs.any fun kv => decide (kv.1 = k)) = true := by
      intro z
      obtain ⟨p, hp, e⟩ := List.any_eq_true.mp z
      exact h (List.mem_map.mpr ⟨p, hp, of_decide_eq_true e⟩)
    rw [if_neg this, if_neg h, List.map_append]
    rfl
theorem StD.put {P : Stp → Prop} {kvs : Kn} {s : Stp} {d : D} (h : StD P kvs) (hs : P s) : StD P (putG kvs (stpK s) d) := by
  refine ⟨fun p hp => ?_, ?_⟩
  · rcases putG_mem hp with e | e
    · exact ⟨s, e, hs⟩
    · obtain ⟨q, hq, e⟩ := List.mem_map.mp e
      rw [← e]
      exact h.1 q hq
  · rw [keys_putG]
    split
    · exact h.2
    · rename_i hn
      exact List.nodup_append.mpr ⟨h.2, by simp, fun a ha b hb e => by
        have : b = stpK s := by simpa using hb
        subst this; subst e; exact hn ha⟩
theorem StD.nil {P : Stp → Prop} : StD P [] := ⟨(fun p hp => nomatch hp), List.nodup_nil⟩
/-- sorted(list(d)) of such a dict -/
theorem StD.sorted {P : Stp → Prop} {kvs : Kn} (h : StD P kvs) {Q : Md → D → Prop} (k : ∀ steps : List Stp, (steps.map stpK).Perm (kvs.map (·.1)) → (∀ s ∈ steps, P s) → steps.Pairwise (fun a b => ltP a b = true) → steps.length = kvs.length → Q (.ow true) (.list (steps.map stpD))) :
    fSortT (.ow true) (.list (kvs.map fun kv => .tup (kv.1.map keyD))) Q := by
  refine ⟨kvs.map (·.1), [false, true], by rw [List.map_map]; rfl, fun k hk => ?_, fun ms pm pw => ?_⟩
  · obtain ⟨p, hp, rfl⟩ := List.mem_map.mp hk
    obtain ⟨s, e, _⟩ := h.1 p hp
    rw [e]; rfl
  · obtain ⟨l, rfl, hl⟩ := to_stps (P := P) (ks := ms) fun k hk => by
      obtain ⟨p, hp, e⟩ := List.mem_map.mp (pm.mem_iff.mp hk)
      rw [← e]
      exact h.1 p hp
    have e : (l.map stpK).map keyT = l.map stpD := by rw [List.map_map]; rfl
    rw [e]
    refine k l pm hl ?_ (by have := pm.length_eq; simpa using this)
    have nd : (l.map stpK).Nodup := pm.nodup_iff.mpr h.2
    rw [List.pairwise_map] at pw
    have nd' : l.Pairwise fun a b => stpK a ≠ stpK b := by
      rw [List.Nodup, List.pairwise_map] at nd
      exact nd
    refine (pw.and nd').imp fun {a b} ⟨h1, h2⟩ => ?_
    unfold ltP
    cases h3 : ltK (stpK a) (stpK b) with
    | true => rfl
    | false => exact absurd (ltK_tot (a := stpK a) (b := stpK b) rfl h3 h1) h2

/-! ### states met -/
/-- come to from 0 by steps -/
inductive Reach (steps : List Stp) : Int → Prop
  | zero : Reach steps 0
  | step {s : Stp} : Reach steps s.1 → s ∈ steps → Reach steps s.2.2
theorem len_le_of_sub {α : Type} [DecidableEq α] : ∀ {l m : List α}, l.Nodup → (∀ x ∈ l, x ∈ m) → l.length ≤ m.length
  | [], _, _, _ => Nat.zero_le _
  | x :: l, m, nd, h => by
    obtain ⟨hx, nd⟩ := List.nodup_cons.mp nd
    have hm := h x List.mem_cons_self
    have := len_le_of_sub (l := l) (m := m.erase x) nd fun y hy => (List.mem_erase_of_ne (fun e => by subst e; exact hx hy)).mpr (h y (List.mem_cons_of_mem _ hy))
    rw [List.length_erase_of_mem hm] at this
    have := List.length_pos_of_mem hm
    simp only [List.length_cons]
    omega
def rangeI (n : Nat) : List Int := (List.range n).map fun i => ((i : Nat) : Int)
theorem rangeI_len (n : Nat) : (rangeI n).length = n := by simp [rangeI]
theorem mem_rangeI {n : Nat} {x : Int} : x ∈ rangeI n ↔ 0 ≤ x ∧ x < n := by
  unfold rangeI
  rw [List.mem_map]
  constructor
  · rintro ⟨i, hi, rfl⟩
    have := List.mem_range.mp hi
    omega
  · intro ⟨h0, h1⟩
    exact ⟨x.toNat, List.mem_range.mpr (by omega), by omega⟩
theorem rangeI_up (n : Nat) : (rangeI n).Pairwise (· < ·) := by
  unfold rangeI
  rw [List.pairwise_map]
  exact List.pairwise_lt_range.imp fun h => by omega
theorem ints_rangeI (n : Nat) : intsD 0 n = (rangeI n).map D.int := by simp [intsD, rangeI]
/-- a rising list is told by what is in it -/
theorem up_uniq : ∀ {l m : List Int}, l.Pairwise (· < ·) → m.Pairwise (· < ·) → (∀ x, x ∈ l ↔ x ∈ m) → l = m
  | [], [], _, _, _ => rfl
  | [], y :: m, _, _, h => absurd ((h y).mpr List.mem_cons_self) (by simp)
  | x :: l, [], _, _, h => absurd ((h x).mp List.mem_cons_self) (by simp)
  | x :: l, y :: m, hl, hm, h => by
    obtain ⟨a1, a2⟩ := List.pairwise_cons.mp hl
    obtain ⟨b1, b2⟩ := List.pairwise_cons.mp hm
    have e : x = y := by
      rcases List.mem_cons.mp ((h x).mp List.mem_cons_self) with e | e
      · exact e
      · rcases List.mem_cons.mp ((h y).mpr List.mem_cons_self) with e' | e'
        · exact e'.symm
        · have := b1 x e; have := a1 y e'; omega
    subst e
    rw [up_uniq a2 b2 fun z => ⟨fun hz => by
      rcases List.mem_cons.mp ((h z).mp (List.mem_cons_of_mem _ hz)) with e | e
      · subst e; exact absurd (a1 z hz) (by omega)
      · exact e, fun hz => by
      rcases List.mem_cons.mp ((h z).mpr (List.mem_cons_of_mem _ hz)) with e | e
      · subst e; exact absurd (b1 z hz) (by omega)
      · exact e⟩]
theorem up_nodup {l : List Int} (h : l.Pairwise (· < ·)) : l.Nodup := h.imp fun h => by omega
/-- steps between states below many -/
def StIn (many : Int) (steps : List Stp) : Prop := ∀ s ∈ steps, StOk many s
theorem Reach.lt {many : Int} {steps : List Stp} (h : StIn many steps) (hm : 1 ≤ many) {x : Int} (r : Reach steps x) : 0 ≤ x ∧ x < many := by
  cases r with
  | zero => omega
  | step r hs => exact ⟨(h _ hs).2.2.2.1, (h _ hs).2.2.2.2⟩
/-! a dict of ints as a set -/
def setK (ks : List Int) : List (Key × D) := ks.map fun x => (.inl x, .bl true)
theorem setK_keys (ks : List Int) : (setK ks).map (·.1) = ks.map fun x => (Sum.inl x : Key) := by simp [setK, List.map_map, Function.comp_def]
theorem setK_len (ks : List Int) : (setK ks).length = ks.length := by simp [setK]
theorem inl_mem {ks : List Int} {x : Int} : ((Sum.inl x : Key) ∈ ks.map fun x => (Sum.inl x : Key)) ↔ x ∈ ks := by
  rw [List.mem_map]
  exact ⟨fun ⟨y, hy, e⟩ => by cases e; exact hy, fun h => ⟨x, h, rfl⟩⟩
def insI (ks : List Int) (x : Int) : List Int := if x ∈ ks then ks else ks ++ [x]
theorem any_iff {κ β : Type} [DecidableEq κ] {kvs : List (κ × β)} {k : κ} : (kvs.any fun kv => decide (kv.1 = k)) = true ↔ k ∈ kvs.map (·.1) := by
  rw [List.any_eq_true, List.mem_map]
  exact ⟨fun ⟨p, hp, e⟩ => ⟨p, hp, of_decide_eq_true e⟩, fun ⟨p, hp, e⟩ => ⟨p, hp, decide_eq_true e⟩⟩
theorem put_set (ks : List Int) (x : Int) : putG (setK ks) (.inl x) (.bl true) = setK (insI ks x) := by
  unfold putG insI
  by_cases h : x ∈ ks
  · rw [if_pos h, if_pos (any_iff.mpr (by rw [setK_keys]; exact inl_mem.mpr h))]
    unfold setK
    rw [List.map_map]
    apply List.map_congr_left
    intro y _
    show (if (Sum.inl y : Key) = Sum.inl x then ((Sum.inl y : Key), D.bl true) else (.inl y, .bl true)) = _
    split <;> rfl
  · rw [if_neg h, if_neg (fun z => h (inl_mem.mp (by rw [← setK_keys]; exact any_iff.mp z)))]
    simp [setK]
theorem get_iff {κ β : Type} [DecidableEq κ] : ∀ {kvs : List (κ × β)} {k : κ}, (getG kvs k).isSome = true ↔ k ∈ kvs.map (·.1)
  | [], k => by simp [getG]
  | p :: kvs, k => by
    have ih := get_iff (kvs := kvs) (k := k)
    rw [List.map_cons, List.mem_cons]
    by_cases h : p.1 = k
    · subst h; simp [getG]
    · have : getG (p :: kvs) k = getG kvs k := by simp [getG, h]
      rw [this, ih]
      exact ⟨.inr, fun z => z.elim (fun e => absurd e.symm h) id⟩
theorem get_set (ks : List Int) (x : Int) : (getG (setK ks) (.inl x)).isSome = decide (x ∈ ks) := by
  rw [Bool.eq_iff_iff, get_iff, setK_keys, inl_mem, decide_eq_true_iff]
theorem mem_insI {ks : List Int} {x y : Int} : y ∈ insI ks x ↔ y ∈ ks ∨ y = x := by
  unfold insI
  split
  · rename_i h; exact ⟨.inl, fun z => z.elim id fun e => by subst e; exact h⟩
  · simp
theorem insI_nodup {ks : List Int} {x : Int} (h : ks.Nodup) : (insI ks x).Nodup := by
  unfold insI
  split
  · exact h
  · rename_i hx
    exact List.nodup_append.mpr ⟨h, by simp, fun a ha b hb e => by
      have : b = x := by simpa using hb
      subst this; subst e; exact hx ha⟩
/-- the dict of places -/
def idxD (ms : List Int) : List (Key × D) := ms.mapIdx fun k x => (.inl x, .int k)
theorem idxD_keys (ms : List Int) : (idxD ms).map (·.1) = ms.map fun x => (Sum.inl x : Key) := by
  apply List.ext_getElem?
  intro i
  simp [idxD, List.getElem?_mapIdx]
  cases ms[i]? <;> rfl
theorem idxD_snoc (ms : List Int) (x : Int) : idxD (ms ++ [x]) = idxD ms ++ [(.inl x, .int ms.length)] := by simp [idxD, List.mapIdx_append]
theorem put_idx {ms : List Int} {x : Int} (h : x ∉ ms) : putG (idxD ms) (.inl x) (.int ms.length) = idxD (ms ++ [x]) := by
  unfold putG
  rw [if_neg (fun z => h (inl_mem.mp (by rw [← idxD_keys]; exact any_iff.mp z))), idxD_snoc]
theorem idxD_len (ms : List Int) : (idxD ms).length = ms.length := by simp [idxD]
theorem getG_app {κ β : Type} [DecidableEq κ] : ∀ (l m : List (κ × β)) (k : κ), getG (l ++ m) k = match getG l k with
    | some v => some v
    | none => getG m k
  | [], m, k => rfl
  | p :: l, m, k => by
    by_cases h : p.1 = k
    · subst h; simp [getG]
    · have e1 : getG (p :: l) k = getG l k := by simp [getG, h]
      have e2 : getG (p :: l ++ m) k = getG (l ++ m) k := by simp [getG, h]
      rw [e1, e2, getG_app l m k]
def ixI (ms : List Int) (x : Int) : Int := (ms.idxOf x : Nat)
theorem get_idx : ∀ (l ms : List Int) {x : Int}, x ∈ ms → (l ++ ms).Nodup → getG (ms.mapIdx fun k y => ((Sum.inl y : Key), D.int ((l.length + k : Nat) : Int))) (.inl x) = some (.int ((l.length + ms.idxOf x : Nat) : Int))
  | _, [], _, h, _ => nomatch h
  | l, y :: ms, x, h, nd => by
    rw [List.mapIdx_cons]
    by_cases e : y = x
    · subst e
      simp [getG]
    · have hx : x ∈ ms := by
        rcases List.mem_cons.mp h with z | z
        · exact absurd z.symm e
        · exact z
      have ih := get_idx (l ++ [y]) ms hx (by simpa using nd)
      have : ∀ (v : D) (r : List (Key × D)), getG (((Sum.inl y : Key), v) :: r) (.inl x) = getG r (.inl x) := fun v r => by
        simp [getG, e]
      rw [this]
      rw [List.idxOf_cons]
      have hb : (y == x) = false := by simpa using e
      rw [hb]
      simp only [cond_false]
      simp only [List.length_append, List.length_singleton] at ih
      rw [show (fun (k : Nat) (y' : Int) => ((Sum.inl y' : Key), D.int ((l.length + (k + 1) : Nat) : Int))) = fun k y' => ((Sum.inl y' : Key), D.int ((l.length + 1 + k : Nat) : Int)) by funext k y'; rw [show l.length + (k + 1) = l.length + 1 + k by omega]]
      rw [ih]
      rw [show l.length + 1 + ms.idxOf x = l.length + (ms.idxOf x + 1) by omega]
theorem get_ix {ms : List Int} {x : Int} (h : x ∈ ms) (nd : ms.Nodup) : getG (idxD ms) (.inl x) = some (.int (ixI ms x)) := by
  have := get_idx [] ms h (by simpa using nd)
  simpa [idxD, ixI] using this
theorem get_ixS (ms : List Int) (x : Int) : (getG (idxD ms) (.inl x)).isSome = decide (x ∈ ms) := by
  rw [Bool.eq_iff_iff, get_iff, idxD_keys, inl_mem, decide_eq_true_iff]
/-- the steps between those met, by their places -/
def trimS (ms : List Int) (steps : List Stp) : List Stp := (steps.filter fun s => decide (s.1 ∈ ms)).map fun s => (ixI ms s.1, s.2.1, ixI ms s.2.2)
/-- ms: just the states met, rising -/
structure Met (steps : List Stp) (ms : List Int) : Prop where
  up : ms.Pairwise (· < ·)
  mem : ∀ x, x ∈ ms ↔ Reach steps x
theorem Met.uniq {steps : List Stp} {l m : List Int} (a : Met steps l) (b : Met steps m) : l = m := up_uniq a.up b.up fun x => (a.mem x).trans (b.mem x).symm
theorem Met.to {steps : List Stp} {ms : List Int} (a : Met steps ms) {s : Stp} (hs : s ∈ steps) (h : s.1 ∈ ms) : s.2.2 ∈ ms := (a.mem _).mpr (.step ((a.mem _).mp h) hs)
theorem Met.zero {steps : List Stp} {ms : List Int} (a : Met steps ms) : 0 ∈ ms := (a.mem 0).mpr .zero
theorem Met.len {many : Int} {steps : List Stp} {ms : List Int} (a : Met steps ms) (h : StIn many steps) (hm : 1 ≤ many) : 1 ≤ ms.length ∧ (ms.length : Int) ≤ many := by
  refine ⟨List.length_pos_of_mem a.zero, ?_⟩
  have := len_le_of_sub (m := rangeI many.toNat) (up_nodup a.up) fun x hx => by
    have := ((a.mem x).mp hx).lt h hm
    exact mem_rangeI.mpr (by omega)
  rw [rangeI_len] at this
  omega
theorem ixI_lt {ms : List Int} {x : Int} (h : x ∈ ms) : 0 ≤ ixI ms x ∧ ixI ms x < ms.length := by
  have := List.idxOf_lt_length_of_mem h
  unfold ixI
  omega
theorem trim_in {many : Int} {steps : List Stp} {ms : List Int} (a : Met steps ms) (h : StIn many steps) : StIn ms.length (trimS ms steps) := by
  intro s hs
  obtain ⟨t, ht, rfl⟩ := List.mem_map.mp hs
  obtain ⟨ht, hm⟩ := List.mem_filter.mp ht
  have hm := of_decide_eq_true hm
  have h1 := ixI_lt hm
  have h2 := ixI_lt (a.to ht hm)
  exact ⟨h1.1, h1.2, (h t ht).2.2.1, h2.1, h2.2⟩
theorem trim_len (ms : List Int) (steps : List Stp) : (trimS ms steps).length ≤ steps.length := by
  unfold trimS
  rw [List.length_map]
  exact List.length_filter_le _ _
theorem ixI_zero {many : Int} {steps : List Stp} {ms : List Int} (a : Met steps ms) (h : StIn many steps) (hm : 1 ≤ many) : ixI ms 0 = 0 := by
  have hz := a.zero
  have up := a.up
  have ge : ∀ x ∈ ms, 0 ≤ x := fun x hx => (((a.mem x).mp hx).lt h hm).1
  cases ms with
  | nil => nomatch hz
  | cons y ms =>
    rcases List.mem_cons.mp hz with e | e
    · subst e; simp [ixI]
    · have := (List.pairwise_cons.mp up).1 0 e
      have := ge y List.mem_cons_self
      omega
theorem reach_ix {many : Int} {steps : List Stp} {ms : List Int} (a : Met steps ms) (h : StIn many steps) (hm : 1 ≤ many) {x : Int} (r : Reach steps x) : Reach (trimS ms steps) (ixI ms x) := by
  induction r with
  | zero => rw [ixI_zero a h hm]; exact .zero
  | @step s r hs ih => exact .step (s := (ixI ms s.1, s.2.1, ixI ms s.2.2)) ih (List.mem_map.mpr ⟨s, List.mem_filter.mpr ⟨hs, decide_eq_true ((a.mem _).mpr r)⟩, rfl⟩)
theorem ixI_get {ms : List Int} (nd : ms.Nodup) {k : Nat} (hk : k < ms.length) : ixI ms ms[k] = k := by
  unfold ixI
  rw [nd.idxOf_getElem k hk]
/-- all states of the trimmed one are met -/
theorem met_trim {many : Int} {steps : List Stp} {ms : List Int} (a : Met steps ms) (h : StIn many steps) (hm : 1 ≤ many) : Met (trimS ms steps) (rangeI ms.length) := by
  have hl := a.len h hm
  refine ⟨rangeI_up _, fun x => ?_⟩
  rw [mem_rangeI]
  constructor
  · intro ⟨h0, h1⟩
    have hk : x.toNat < ms.length := by omega
    have := reach_ix a h hm ((a.mem _).mp (List.getElem_mem hk))
    rw [ixI_get (up_nodup a.up) hk] at this
    rwa [show ((x.toNat : Nat) : Int) = x by omega] at this
  · intro r
    have := r.lt (trim_in a h) (by omega)
    omega
theorem ixI_range {n : Nat} {x : Int} (h : 0 ≤ x ∧ x < n) : ixI (rangeI n) x = x := by
  have hk : x.toNat < (rangeI n).length := by rw [rangeI_len]; omega
  have := ixI_get (up_nodup (rangeI_up n)) hk
  have e : (rangeI n)[x.toNat] = x := by simp [rangeI]; omega
  rw [e] at this
  omega
theorem trim_trim {many : Int} {steps : List Stp} {ms : List Int} (a : Met steps ms) (h : StIn many steps) (hm : 1 ≤ many) : trimS (rangeI ms.length) (trimS ms steps) = trimS ms steps := by
  have hin := trim_in a h
  generalize trimS ms steps = t at *
  unfold trimS
  rw [List.filter_eq_self.mpr fun s hs => decide_eq_true (mem_rangeI.mpr ⟨(hin s hs).1, (hin s hs).2.1⟩)]
  have : t.map (fun s => (ixI (rangeI ms.length) s.1, s.2.1, ixI (rangeI ms.length) s.2.2)) = t.map id := List.map_congr_left fun s hs => by
    have := hin s hs
    rw [ixI_range ⟨this.1, this.2.1⟩, ixI_range ⟨this.2.2.2.1, this.2.2.2.2⟩]
    rfl
  rw [this, List.map_id]

def w_met : WS :=
  (wSeq (wSet 1 (wD1 (wC (.int 0)) (wC (.bl true))))
  (wSeq (wSet 2 (wLst (wCons (wC (.int 0)) wNil)))
  (wSeq (wWhile (wTru (wVar 2))
  (wSeq (wPop 3 (wpN 2))
  (wFrz 0 (wFor (wiList (wOp fIx (wVar 0) (wC (.int 1)))) (gN 4)
  (wIfS (wAnd (wB (wOp fEq (wOp fIx (wVar 4) (wC (.int 0))) (wVar 3))) (wB (wOp (fIn true) (wOp fIx (wVar 4) (wC (.int 2))) (wVar 1))))
  (wSeq (wDPut (wpN 1) (wOp fIx (wVar 4) (wC (.int 2))) (wC (.bl true)))
  (wApp (wpN 2) (wOp fIx (wVar 4) (wC (.int 2)))))
  wNext)))))
  (wRet (wUn fSort1 (wVar 1))))))
def sp_met : SpD := fun ds Q => ∃ (many : Int) (steps : List Stp), ds = [mD many steps] ∧ 1 ≤ many ∧ many ≤ 20 ∧ StIn many steps ∧ ∀ ms, Met steps ms → Q (.ow true) (.list (ms.map .int))
theorem len_met (ds Q) (h : sp_met ds Q) : ds.length = ["m"].length := by obtain ⟨_, _, rfl, _⟩ := h; rfl
/-- states come to so far -/
structure Came (many : Int) (steps : List Stp) (ks : List Int) : Prop where
  nd : ks.Nodup
  z : 0 ∈ ks
  r : ∀ x ∈ ks, Reach steps x ∧ 0 ≤ x ∧ x < many
theorem Came.len {many : Int} {steps : List Stp} {ks : List Int} (c : Came many steps ks) (h : many ≤ 20) : ks.length ≤ 20 := by
  have := len_le_of_sub (m := rangeI 20) c.nd fun x hx => mem_rangeI.mpr (by have := (c.r x hx).2; omega)
  rwa [rangeI_len] at this
theorem Came.ins {many : Int} {steps : List Stp} {ks : List Int} (c : Came many steps ks) (hm : StIn many steps) {s : Stp} (hs : s ∈ steps) (h : s.1 ∈ ks) : Came many steps (insI ks s.2.2) :=
  ⟨insI_nodup c.nd, mem_insI.mpr (.inl c.z), fun x hx => by
    rcases mem_insI.mp hx with hx | rfl
    · exact c.r x hx
    · exact ⟨.step (c.r _ h).1 hs, (hm s hs).2.2.2⟩⟩
theorem Came.one {many : Int} {steps : List Stp} (h : 1 ≤ many) : Came many steps [0] := ⟨by simp, by simp, fun x hx => by
  have : x = 0 := by simpa using hx
  subst this; exact ⟨.zero, by omega, by omega⟩⟩
theorem closed_all {steps : List Stp} {ks : List Int} (z : 0 ∈ ks) (h : ∀ s ∈ steps, s.1 ∈ ks → s.2.2 ∈ ks) {x : Int} (r : Reach steps x) : x ∈ ks := by
  induction r with
  | zero => exact z
  | step r hs ih => exact h _ hs ih
/-- sorted(d), d such a dict -/
theorem sort_set {steps : List Stp} {ks : List Int} {many : Int} (c : Came many steps ks) (h : ∀ s ∈ steps, s.1 ∈ ks → s.2.2 ∈ ks) {Q : Md → D → Prop} (k : ∀ ms, Met steps ms → Q (.ow true) (.list (ms.map .int))) : fSort1 .bo (.dK (setK ks)) Q := by
  refine ⟨true, fun p hp => ?_, fun ms pm pw => ?_⟩
  · obtain ⟨x, _, rfl⟩ := List.mem_map.mp hp
    rfl
  · rw [setK_keys] at pm
    obtain ⟨l, rfl⟩ : ∃ l : List Int, ms = l.map fun x => (Sum.inl x : Key) := by
      have hm : ∀ k ∈ ms, ∃ x : Int, k = Sum.inl x := fun k hk => by
        obtain ⟨x, _, rfl⟩ := List.mem_map.mp (pm.mem_iff.mp hk)
        exact ⟨x, rfl⟩
      clear pm pw
      induction ms with
      | nil => exact ⟨[], rfl⟩
      | cons k ms ih =>
        obtain ⟨l, rfl⟩ := ih fun j hj => hm j (List.mem_cons_of_mem _ hj)
        obtain ⟨x, rfl⟩ := hm k List.mem_cons_self
        exact ⟨x :: l, rfl⟩
    have e : (l.map fun x => (Sum.inl x : Key)).map keyD = l.map D.int := by rw [List.map_map]; rfl
    rw [e]
    have mem : ∀ x, x ∈ l ↔ x ∈ ks := fun x => by rw [← inl_mem (ks := l), ← inl_mem (ks := ks)]; exact pm.mem_iff
    have nd : l.Nodup := by
      have : (l.map fun x => (Sum.inl x : Key)).Nodup := pm.nodup_iff.mpr (by
        have := c.nd
        unfold List.Nodup at *
        rw [List.pairwise_map]
        exact this.imp fun h e => h (Sum.inl.inj e))
      unfold List.Nodup at *
      rw [List.pairwise_map] at this
      exact this.imp fun h e => h (by rw [e])
    refine k l ⟨?_, fun x => (mem x).trans ⟨fun hx => (c.r x hx).1, closed_all c.z h⟩⟩
    rw [List.pairwise_map] at pw
    refine (pw.and nd).imp fun {a b} ⟨h1, h2⟩ => ?_
    have h1 : ¬ b < a := by simpa [lt1] using h1
    omega
theorem stp_at {steps : List Stp} {i : Nat} {x : D} (h : (steps.map stpD)[i]? = some x) : ∃ p d r, x = .tup [.int p, .str d, .int r] ∧ (p, d, r) ∈ steps ∧ steps.take (i + 1) = steps.take i ++ [(p, d, r)] := by
  rw [List.getElem?_map] at h
  cases e : steps[i]? with
  | none => rw [e] at h; cases h
  | some s =>
    rw [e] at h
    cases h
    obtain ⟨p, d, r⟩ := s
    exact ⟨p, d, r, rfl, List.mem_of_getElem? e, by rw [List.take_add_one, e]; rfl⟩
theorem p_met : ∀ ds Q, sp_met ds Q → w_met { nx := fun _ => Q .sh .non, rt := Q } (startD 5 ds) := by
  rintro ds Q ⟨many, steps, rfl, h0, h1, hin, h⟩
  unfold w_met mD
  walk_at "q"
  refine ⟨fun ρ => ∃ (ks wait : List Int) (o3 o4 : Option Sl), Came many steps ks ∧ (∀ x ∈ wait, x ∈ ks) ∧ wait.length ≤ ks.length ∧ (∀ s ∈ steps, s.1 ∈ ks → s.1 ∉ wait → s.2.2 ∈ ks) ∧
      ρ = [some (.sh (.tup [.int many, .list (steps.map stpD)])), some (.ow true (.dK (setK ks))), some (.ow true (.list (wait.map .int))), o3, o4],
    fun ρ => match ρ with
      | [_, some (.ow _ (.dK kvs)), some (.ow _ (.list w)), _, _] => 2 * (20 - kvs.length) + w.length
      | _ => 0, ⟨[0], [0], none, none, Came.one h0, by simp, by simp, fun s _ e hn => absurd (by simpa using e) (by simpa using hn), rfl⟩, ?_⟩
  rintro ρ ⟨ks0, wait, o3, o4, hc, hw, hwl, hcl, rfl⟩
  have hkl := hc.len h1
  walk_at "q"
  by_cases hne : wait = []
  · subst hne
    rw [if_neg (by simp)]
    exact sort_set hc (fun s hs hm => hcl s hs hm (by simp)) h
  · obtain ⟨w0, st, rfl⟩ : ∃ w0 st, wait = w0 ++ [st] := ⟨wait.dropLast, wait.getLast hne, (List.dropLast_concat_getLast hne).symm⟩
    rw [if_pos (by simp)]
    refine ⟨.int st, by simp, rfl, ?_⟩
    walk_at "q"
    rw [show (List.map D.int (w0 ++ [st])).dropLast = w0.map D.int by simp]
    simp only [List.length_append, List.length_singleton, setK_len] at hwl ⊢
    refine forL_by _ (fun i ρ => ∃ (ks wait : List Int) (o4 : Option Sl), Came many steps ks ∧ st ∈ ks ∧ (∀ x ∈ wait, x ∈ ks) ∧ wait.length + 1 ≤ ks.length ∧ (∀ s ∈ steps, s.1 ∈ ks → s.1 ∉ wait → s.1 ≠ st → s.2.2 ∈ ks) ∧ (∀ s ∈ steps.take i, s.1 = st → s.2.2 ∈ ks) ∧
      2 * (20 - ks.length) + wait.length < 2 * (20 - ks0.length) + (w0.length + 1) ∧
      ρ = [some (.sh (.tup [.int many, .list (steps.map stpD)])), some (.ow true (.dK (setK ks))), some (.ow true (.list (wait.map .int))), some (.sh (.int st)), o4])
      ⟨ks0, w0, _, hc, hw st (by simp), fun x hx => hw x (by simp [hx]), by omega, fun s hs h1 h2 h3 => hcl s hs h1 (by simp [h2, h3]), by simp, by omega, rfl⟩ ?_ ?_
    · rintro i x ρ hx ⟨ks, wait, o4, hc, hst, hw, hwl, hcl, hdn, hmu, rfl⟩ N hN
      obtain ⟨p, d, r, rfl, hs, et⟩ := stp_at hx
      have hkl := hc.len h1
      walk_at "q"
      have no : p = st → r ∈ ks → N [some (.sh (.tup [.int many, .list (steps.map stpD)])), some (.ow true (.dK (setK ks))), some (.ow true (.list (wait.map .int))), some (.sh (.int st)), some (.sh (.tup [.int p, .str d, .int r]))] := fun e hr =>
        hN _ ⟨ks, wait, _, hc, hst, hw, hwl, hcl, fun s hs e => by
          rw [et] at hs
          rcases List.mem_append.mp hs with hs | hs
          · exact hdn s hs e
          · obtain rfl : s = (p, d, r) := by simpa using hs
            exact hr, hmu, rfl⟩
      refine R.D (fun e => ?_) fun e => ?_
      · walk_at "q"
        by_cases hr : r ∈ ks
        · refine R.F (by rw [get_set]; simp [hr]) ?_
          walk_at "q"
          exact no e hr
        · refine R.T (by rw [get_set]; simp [hr]) ?_
          walk_at "q"
          rw [put_set]
          have ei : insI ks r = ks ++ [r] := by unfold insI; rw [if_neg hr]
          have hc' : Came many steps (insI ks r) := hc.ins hin hs (by rw [show ((p, d, r) : Stp).1 = st from e]; exact hst)
          have hkl' := hc'.len h1
          rw [ei] at hc' hkl' ⊢
          rw [List.length_append, List.length_singleton] at hkl'
          rw [setK_len]
          walk_at "o"
          rw [show wait.map D.int ++ [D.int r] = (wait ++ [r]).map D.int by simp]
          refine hN _ ⟨ks ++ [r], wait ++ [r], _, hc', by simp [hst], fun x hx => ?_, by simp; omega, fun s hs h1 h2 h3 => ?_, fun s hs e' => ?_, by simp; omega, rfl⟩
          · rcases List.mem_append.mp hx with hx | hx
            · simp [hw x hx]
            · simp at hx; simp [hx]
          · simp only [List.mem_append, List.mem_singleton, not_or] at h1 h2 ⊢
            rcases h1 with h1 | h1
            · exact .inl (hcl s hs h1 h2.1 h3)
            · exact absurd h1 h2.2
          · rw [et] at hs
            rcases List.mem_append.mp hs with hs | hs
            · simp [hdn s hs e']
            · obtain rfl : s = (p, d, r) := by simpa using hs
              simp
      · walk_at "q"
        refine hN _ ⟨ks, wait, _, hc, hst, hw, hwl, hcl, fun s hs e' => ?_, hmu, rfl⟩
        rw [et] at hs
        rcases List.mem_append.mp hs with hs | hs
        · exact hdn s hs e'
        · obtain rfl : s = (p, d, r) := by simpa using hs
          exact absurd e' e
    · rintro ρ ⟨ks, wait, o4, hc, hst, hw, hwl, hcl, hdn, hmu, rfl⟩
      rw [List.length_map, List.take_length] at hdn
      refine ⟨⟨ks, wait, _, _, hc, hw, by omega, fun s hs h1 h2 => ?_, rfl⟩, by simpa [setK_len] using hmu⟩
      by_cases e : s.1 = st
      · exact hdn s hs e
      · exact hcl s hs h1 h2 e
def w__law_whole : WS :=
  (wRet (wAndV (wUn (fIsi "int") (wVar 0)) (wNotV (wUn (fIsi "bool") (wVar 0)))))
def sp__law_whole : SpD := fun ds Q => ∃ i : Int, ds = [.int i] ∧ Q .sh (.bl true)
theorem len__law_whole (ds Q) (h : sp__law_whole ds Q) : ds.length = ["_law_found"].length := by obtain ⟨_, rfl, _⟩ := h; rfl
theorem p__law_whole : ∀ ds Q, sp__law_whole ds Q → w__law_whole { nx := fun _ => Q .sh .non, rt := Q } (startD 1 ds) := by
  rintro ds Q ⟨i, rfl, h⟩
  unfold w__law_whole
  walk_at "q"
  refine R.T (by decide) ?_
  walk_at "q"
  exact h
def w__law_cell_at : WS :=
  (wSeq (wIfS (wB (wOp fLt (wVar 1) (wUn fLen (wVar 0))))
  (wRet (wOp fIx (wVar 0) (wVar 1)))
  wNext)
  (wRet (wC (.int 0))))
def sp__law_cell_at : SpD := fun ds Q => ∃ (ns : List Int) (k : Int), ds = [.list (ns.map .int), .int k] ∧ 0 ≤ k ∧ Q .sh (.int (ns.getD k.toNat 0))
theorem len__law_cell_at (ds Q) (h : sp__law_cell_at ds Q) : ds.length = ["_law_script", "_law_k"].length := by obtain ⟨_, _, rfl, _⟩ := h; rfl
theorem p__law_cell_at : ∀ ds Q, sp__law_cell_at ds Q → w__law_cell_at { nx := fun _ => Q .sh .non, rt := Q } (startD 2 ds) := by
  rintro ds Q ⟨ns, k, rfl, hk, h⟩
  unfold w__law_cell_at
  walk_at "q"
  refine R.D (fun hl => ?_) fun hl => ?_
  · walk_at "q"
    have hn : k.toNat < ns.length := by omega
    refine ⟨.int ns[k.toNat], ?_, ?_⟩
    · have := atI_nat (xs := ns.map D.int) (j := k.toNat) (v := .int ns[k.toNat]) (by simp [hn])
      rwa [Int.toNat_of_nonneg hk] at this
    · show Q .sh _; simpa [List.getD, hn] using h
  · walk_at "q"
    have : ns.getD k.toNat 0 = 0 := by
      have : ns.length ≤ k.toNat := by omega
      simp [List.getD, List.getElem?_eq_none this]
    rwa [this] at h

def w__law_names : WS :=
  (wSeq (wSet 1 (wC (.str "abcdefghijklmnopqrstuvwxyz")))
  (wSeq (wSet 2 (wOp fAdd (wC (.int 1)) (wOp fMod (wOp fDiv (wVar 0) (wC (.int 7))) (wC (.int 6)))))
  (wSeq (wSet 3 (wOp fMod (wOp fDiv (wVar 0) (wC (.int 42))) (wVar 2)))
  (wSeq (wSet 4 (wC (.str "")))
  (wSeq (wFor (wiRng1 (wC (.int 6))) (gN 5)
  (wSet 4 (wOp fAdd (wVar 4) (wOp fIx (wVar 1) (wOp fMod (wOp fDiv (wOp fDiv (wVar 0) (wC (.int 252))) (wOp fAdd (wOp fMul (wVar 5) (wVar 5)) (wC (.int 1)))) (wC (.int 26)))))))
  (wSeq (wSet 6 (wLst (wCons (wC (.str "*")) wNil)))
  (wSeq (wFor (wiRng1 (wOp fMod (wVar 0) (wC (.int 7)))) (gN 5)
  (wSeq (wSet 7 (wOp fIx (wVar 1) (wOp fMod (wOp fAdd (wOp fDiv (wVar 0) (wC (.int 252))) (wOp fMul (wVar 5) (wOp fAdd (wC (.int 1)) (wOp fMod (wOp fDiv (wVar 0) (wC (.int 5))) (wC (.int 5)))))) (wC (.int 26)))))
  (wApp (wpN 6) (wOp fAdd (wOp fAdd (wSl (wVar 4) wNoPart (wPart (wVar 3))) (wVar 7)) (wSl (wVar 4) (wPart (wOp fAdd (wVar 3) (wC (.int 1)))) (wPart (wVar 2)))))))
  (wRetV 6))))))))
def sp__law_names : SpD := fun ds Q => ∃ c : Int, ds = [.int c] ∧ ∀ names : List Str, 1 ≤ names.length → names.length ≤ 7 → (∀ n ∈ names, Deed n) → Q (.ow true) (.list (names.map .str))
theorem len__law_names (ds Q) (h : sp__law_names ds Q) : ds.length = ["_law_cell"].length := by obtain ⟨_, rfl, _⟩ := h; rfl
theorem flat_strs : ∀ (l : List Str), flats (l.map D.str) = true
  | [] => rfl
  | x :: l => by simp [flats, D.flat, flat_strs l]
theorem strs_app (l : List Str) (x : Str) : l.map D.str ++ [D.str x] = (l ++ [x]).map D.str := by simp
theorem ints_at {n i : Nat} {lo : Int} {x : D} (h : (intsD lo n)[i]? = some x) : i < n ∧ x = .int (lo + (i : Nat)) := by
  unfold intsD at h
  rw [List.getElem?_map] at h
  cases e : (List.range n)[i]? with
  | none => rw [e] at h; cases h
  | some j =>
    rw [e] at h
    have hj := List.getElem?_eq_some_iff.mp e
    obtain ⟨hi, e2⟩ := hj
    simp at e2 hi
    subst e2
    cases h
    exact ⟨hi, rfl⟩
theorem ints_len (lo : Int) (n : Nat) : (intsD lo n).length = n := by simp [intsD]
/-- one of the names -/
theorem name_at {names : List Str} {i : Int} (h0 : 0 ≤ i) (h1 : i < names.length) : ∃ n, n ∈ names ∧ atI (names.map D.str) i = some (.str n) := by
  have hn : i.toNat < names.length := by omega
  refine ⟨names[i.toNat], List.getElem_mem hn, ?_⟩
  have := atI_nat (xs := names.map D.str) (j := i.toNat) (v := .str names[i.toNat]) (by simp [hn])
  rwa [Int.toNat_of_nonneg h0] at this
theorem name_mod {names : List Str} (x : Int) (h : 1 ≤ names.length) : ∃ n, n ∈ names ∧ atI (names.map D.str) (x % (names.length : Int)) = some (.str n) :=
  name_at (Int.emod_nonneg _ (by omega)) (Int.emod_lt_of_pos _ (by omega))
theorem name_last {names : List Str} (h : 1 ≤ names.length) : ∃ n, n ∈ names ∧ atI (names.map D.str) (-1) = some (.str n) := by
  have hne : names ≠ [] := by intro z; subst z; simp at h
  obtain ⟨l, x, rfl⟩ : ∃ l x, names = l ++ [x] := ⟨names.dropLast, names.getLast hne, (List.dropLast_concat_getLast hne).symm⟩
  refine ⟨x, by simp, ?_⟩
  rw [List.map_append]
  exact atI_last _ _
theorem flat_ints : ∀ (l : List Int), flats (l.map D.int) = true
  | [] => rfl
  | x :: l => by simp [flats, D.flat, flat_ints l]
theorem cut_ints (l : List Int) (lo hi : Option Int) : cutG (l.map D.int) lo hi = (cutG l lo hi).map D.int := by
  unfold cutG
  rw [List.length_map, List.map_take, List.map_drop]
theorem ints_map_at {l : List Int} {i : Nat} {x : D} (h : (l.map D.int)[i]? = some x) : ∃ c, c ∈ l ∧ x = .int c := by
  obtain ⟨c, hc, e⟩ := List.mem_map.mp (List.mem_of_getElem? h)
  exact ⟨c, hc, e.symm⟩
/-- a beginning, a part -/
theorem sIx_some {n d : Nat} {k : Int} (h0 : 0 ≤ k) (h1 : k ≤ n) : HT.sIx n d (some k) = k.toNat := by
  simp only [HT.sIx]
  rw [if_neg (by omega)]
  omega
theorem pre_len {x : Str} {k : Int} (h0 : 0 ≤ k) (h1 : k ≤ x.length) : (cutS x none (some k)).length = k.toNat := by
  unfold cutS
  rw [sIx_some h0 h1]
  unfold Str.length at *
  simp [HT.sIx]
  omega
theorem mid_len {x : Str} {j k : Int} (h0 : 0 ≤ j) (h1 : j ≤ x.length) (h2 : 0 ≤ k ∧ k ≤ x.length) : (cutS x (some j) (some k)).length = k.toNat - j.toNat := by
  unfold cutS
  rw [sIx_some h0 h1, sIx_some h2.1 h2.2]
  unfold Str.length at *
  simp
  omega
theorem p__law_names : ∀ ds Q, sp__law_names ds Q → w__law_names { nx := fun _ => Q .sh .non, rt := Q } (startD 8 ds) := by
  rintro ds Q ⟨c, rfl, h⟩
  unfold w__law_names
  walk_at "q"
  have h6 := Int.emod_nonneg (c / 7) (show (6 : Int) ≠ 0 by decide)
  have h6' := Int.emod_lt_of_pos (c / 7) (show (0 : Int) < 6 by decide)
  generalize hlong : 1 + c / 7 % 6 = long at *
  have hat0 := Int.emod_nonneg (c / 42) (show long ≠ 0 by omega)
  have hat1 := Int.emod_lt_of_pos (c / 42) (show 0 < long by omega)
  generalize c / 42 % long = at' at *
  refine ⟨by omega, ?_⟩
  refine forL_by _ (fun i ρ => ∃ (base : Str) (o : Option Sl), base.length = i ∧ lets base ∧ ρ = [some (.sh (.int c)), some (.sh (.str abc)), some (.sh (.int long)), some (.sh (.int at')), some (.sh (.str base)), o, none, none]) ⟨"", none, rfl, (fun c hc => absurd hc (by decide +revert)), rfl⟩ ?_ ?_
  · rintro i x ρ hx ⟨base, o, hb, lb, rfl⟩ N hN
    obtain ⟨hi, rfl⟩ := ints_at hx
    have hi : i < 6 := hi
    walk_at "q"
    obtain ⟨ch, e, hl⟩ := abc_atm (c / 252 / ((0 + (i : Int)) * (0 + (i : Int)) + 1))
    refine ⟨.inl ⟨by omega, by omega⟩, ?_, ch, e, ?_, hN _ ⟨base ++ ⟨#[ch]⟩, _, by rw [str_app_len, one_length]; omega, lets_app lb (lets_one hl), rfl⟩⟩
    · have : (0 + (i : Int)) * (0 + (i : Int)) ≤ 5 * 5 := Int.mul_le_mul (by omega) (by omega) (by omega) (by omega)
      have : 0 ≤ (0 + (i : Int)) * (0 + (i : Int)) := Int.mul_nonneg (by omega) (by omega)
      omega
    · rw [one_length]; omega
  rintro ρ ⟨base, o, hb, lb, rfl⟩
  rw [ints_len] at hb
  have hb : base.length = 6 := hb
  walk_at "q"
  have h7 := Int.emod_nonneg c (show (7 : Int) ≠ 0 by decide)
  have h7' := Int.emod_lt_of_pos c (show (0 : Int) < 7 by decide)
  refine ⟨by omega, by omega, ?_⟩
  refine forL_by _ (fun i ρ => ∃ (names : List Str) (o5 o7 : Option Sl), names.length = i + 1 ∧ (∀ n ∈ names, Deed n) ∧ ρ = [some (.sh (.int c)), some (.sh (.str abc)), some (.sh (.int long)), some (.sh (.int at')), some (.sh (.str base)), o5, some (.ow true (.list (names.map .str))), o7]) ⟨["*"], _, _, rfl, fun n hn => .inl (by simpa using hn), rfl⟩ ?_ ?_
  · rintro i x ρ hx ⟨names, o5, o7, hn, hd, rfl⟩ N hN
    obtain ⟨hi, rfl⟩ := ints_at hx
    have hi : i < 7 := by omega
    walk_at "q"
    obtain ⟨ch, e, hl⟩ := abc_atm (c / 252 + (0 + (i : Int)) * (1 + c / 5 % 5))
    refine ⟨.inl ⟨by omega, by omega⟩, ch, e, ?_⟩
    have l1 : (cutS base none (some at')).length = at'.toNat := pre_len hat0 (by omega)
    have l2 : (cutS base (some (at' + 1)) (some long)).length = long.toNat - (at' + 1).toNat := mid_len (by omega) (by omega) (by omega)
    refine ⟨by rw [l1, one_length]; omega, by rw [l1, l2, one_length]; omega, by omega, ?_⟩
    rw [strs_app]
    refine hN _ ⟨names ++ [_], _, _, by simp [hn], fun n hn => ?_, rfl⟩
    rcases List.mem_append.mp hn with hn | hn
    · exact hd n hn
    · obtain rfl : n = _ := by simpa using hn
      refine .inr ⟨?_, ?_, lets_app (lets_app (lets_cut lb _ _) (lets_one hl)) (lets_cut lb _ _)⟩
      · rw [str_app_len, str_app_len, l1, l2, one_length]; omega
      · rw [str_app_len, str_app_len, l1, l2, one_length]; omega
  · rintro ρ ⟨names, o5, o7, hn, hd, rfl⟩
    rw [ints_len] at hn
    walk_at "q"
    exact h names (by omega) (by omega) hd

def w__law_come : WS :=
  (wSeq (wSet 1 (wD1 (wC (.int 0)) (wC (.bl true))))
  (wSeq (wSet 2 (wC (.int 0)))
  (wSeq (wWhile (wB (wOp fLt (wVar 2) (wUn fLen (wVar 1))))
  (wSeq (wSet 2 (wUn fLen (wVar 1)))
  (wFrz 0 (wFor (wiList (wOp fIx (wVar 0) (wC (.int 1)))) (gN 3)
  (wIfS (wB (wOp (fIn false) (wOp fIx (wVar 3) (wC (.int 0))) (wVar 1)))
  (wDPut (wpN 1) (wOp fIx (wVar 3) (wC (.int 2))) (wC (.bl true)))
  wNext)))))
  (wRetV 1))))
def sp__law_come : SpD := fun ds Q => ∃ (many : Int) (steps : List Stp), ds = [mD many steps] ∧ 1 ≤ many ∧ many ≤ 20 ∧ StIn many steps ∧ ∀ ks, (∀ x, x ∈ ks ↔ Reach steps x) → Q (.ow true) (.dK (setK ks))
theorem len__law_come (ds Q) (h : sp__law_come ds Q) : ds.length = ["_law_m"].length := by obtain ⟨_, _, rfl, _⟩ := h; rfl
theorem p__law_come : ∀ ds Q, sp__law_come ds Q → w__law_come { nx := fun _ => Q .sh .non, rt := Q } (startD 4 ds) := by
  rintro ds Q ⟨many, steps, rfl, h0, h1, hin, h⟩
  unfold w__law_come mD
  walk_at "q"
  refine ⟨fun ρ => ∃ (ks : List Int) (m : Int) (o3 : Option Sl), Came many steps ks ∧ 0 ≤ m ∧ (m = ks.length → ∀ s ∈ steps, s.1 ∈ ks → s.2.2 ∈ ks) ∧ m ≤ ks.length ∧
      ρ = [some (.sh (.tup [.int many, .list (steps.map stpD)])), some (.ow true (.dK (setK ks))), some (.sh (.int m)), o3],
    fun ρ => match ρ with
      | [_, _, some (.sh (.int m)), _] => (21 - m).toNat
      | _ => 0, ⟨[0], 0, none, Came.one h0, by omega, fun e => by simp at e, by simp, rfl⟩, ?_⟩
  rintro ρ ⟨ks0, m, o3, hc, hm0, hcl, hml, rfl⟩
  have hkl := hc.len h1
  walk_at "q"
  rw [setK_len]
  by_cases hlt : m < ks0.length
  · rw [if_pos (decide_eq_true hlt)]
    refine forL_by _ (fun i ρ => ∃ (ks : List Int) (o3 : Option Sl), Came many steps ks ∧ ks0.length ≤ ks.length ∧ (ks.length = ks0.length → ∀ s ∈ steps.take i, s.1 ∈ ks → s.2.2 ∈ ks) ∧
      ρ = [some (.sh (.tup [.int many, .list (steps.map stpD)])), some (.ow true (.dK (setK ks))), some (.sh (.int ks0.length)), o3]) ⟨ks0, _, hc, Nat.le_refl _, by simp, rfl⟩ ?_ ?_
    · rintro i x ρ hx ⟨ks, o3, hc, hle, hdn, rfl⟩ N hN
      obtain ⟨p, d, r, rfl, hs, et⟩ := stp_at hx
      have hkl := hc.len h1
      walk_at "q"
      by_cases hp : p ∈ ks
      · refine R.T (by rw [get_set]; simp [hp]) ?_
        walk_at "q"
        rw [put_set, setK_len]
        walk_at "o"
        have hc' : Came many steps (insI ks r) := hc.ins hin hs hp
        refine hN _ ⟨_, _, hc', ?_, fun e s hs' hm => ?_, rfl⟩
        · have : ks.length ≤ (insI ks r).length := by unfold insI; split <;> simp
          omega
        · have hr : r ∈ ks := by
            by_cases hr : r ∈ ks
            · exact hr
            · have : (insI ks r).length = ks.length + 1 := by unfold insI; rw [if_neg hr]; simp
              omega
          have ei : insI ks r = ks := by unfold insI; rw [if_pos hr]
          rw [ei] at e hm ⊢
          rw [et] at hs'
          rcases List.mem_append.mp hs' with hs' | hs'
          · exact hdn e s hs' hm
          · obtain rfl : s = (p, d, r) := by simpa using hs'
            exact hr
      · refine R.F (by rw [get_set]; simp [hp]) ?_
        walk_at "q"
        refine hN _ ⟨ks, _, hc, hle, fun e s hs' hm => ?_, rfl⟩
        rw [et] at hs'
        rcases List.mem_append.mp hs' with hs' | hs'
        · exact hdn e s hs' hm
        · obtain rfl : s = (p, d, r) := by simpa using hs'
          exact absurd hm hp
    · rintro ρ ⟨ks, o3, hc', hle, hdn, rfl⟩
      rw [List.length_map, List.take_length] at hdn
      exact ⟨⟨ks, ks0.length, _, hc', by omega, fun e => hdn (by omega), by omega, rfl⟩, by simp only; omega⟩
  · rw [if_neg (by simpa using hlt)]
    exact h ks0 fun x => ⟨fun hx => (hc.r x hx).1, closed_all hc.z (hcl (by omega))⟩
def w_trimmed : WS :=
  (wSeq (wSet 1 (wCall sp_met (wCons (wVar 0) wNil)))
  (wSeq (wSet 2 wDNewK)
  (wSeq (wFrz 1 (wFor (wiEnum (wVar 1)) (gT 2 (gCons' (gN 3) (gCons' (gN 4) gNil')))
  (wFrz 3 (wDPut (wpN 2) (wVar 4) (wVar 3)))))
  (wSeq (wSet 5 (wComp (wbList (wOp fIx (wVar 0) (wC (.int 1)))) (gN 0) (wB (wOp (fIn false) (wOp fIx (wVar 0) (wC (.int 0))) (wVar 1))) (wTup (wCons (wOp fIx (wVar 1) (wOp fIx (wVar 0) (wC (.int 0)))) (wCons (wOp fIx (wVar 0) (wC (.int 1))) (wCons (wOp fIx (wVar 1) (wOp fIx (wVar 0) (wC (.int 2)))) wNil)))) 1 [2]))
  (wRetT [.inl (wUn fLen (wVar 1)), .inr 5])))))
def sp_trimmed : SpD := fun ds Q => ∃ (many : Int) (steps : List Stp), ds = [mD many steps] ∧ 1 ≤ many ∧ many ≤ 20 ∧ StIn many steps ∧ steps.length ≤ 400 ∧ ∀ ms, Met steps ms → Q (.ow true) (mD ms.length (trimS ms steps))
theorem len_trimmed (ds Q) (h : sp_trimmed ds Q) : ds.length = ["m"].length := by obtain ⟨_, _, rfl, _⟩ := h; rfl
theorem enum_at {ms : List Int} {i : Nat} {x : D} (h : (enumD (ms.map D.int))[i]? = some x) : ∃ st, x = .tup [.int i, .int st] ∧ i < ms.length ∧ ms.take (i + 1) = ms.take i ++ [st] ∧ ms[i]? = some st := by
  rw [enumD, List.getElem?_mapIdx, List.getElem?_map] at h
  cases e : ms[i]? with
  | none => rw [e] at h; cases h
  | some st =>
    rw [e] at h
    cases h
    exact ⟨st, rfl, (List.getElem?_eq_some_iff.mp e).1, by rw [List.take_add_one, e]; rfl, rfl⟩
theorem enum_len (l : List D) : (enumD l).length = l.length := by simp [enumD]
theorem notin_take {ms : List Int} (nd : ms.Nodup) {i : Nat} {st : Int} (e : ms.take (i + 1) = ms.take i ++ [st]) : st ∉ ms.take i := by
  have : (ms.take (i + 1)).Nodup := (List.take_sublist _ _).nodup nd
  rw [e] at this
  intro z
  exact (List.nodup_append.mp this).2.2 st z st (by simp) rfl
theorem take_len {ms : List Int} {i : Nat} (h : i < ms.length) : (ms.take i).length = i := by rw [List.length_take]; omega
theorem p_trimmed : ∀ ds Q, sp_trimmed ds Q → w_trimmed { nx := fun _ => Q .sh .non, rt := Q } (startD 6 ds) := by
  rintro ds Q ⟨many, steps, rfl, h0, h1, hin, hl, h⟩
  unfold w_trimmed mD
  walk_at "q"
  refine ⟨many, steps, rfl, h0, h1, hin, fun ms hms => ?_⟩
  walk_at "q"
  have hml := hms.len hin h0
  have nd := up_nodup hms.up
  refine forL_by _ (fun i ρ => ∃ (o3 o4 : Option Sl), ρ = [some (.sh (.tup [.int many, .list (steps.map stpD)])), some (.sh (.list (ms.map .int))), some (.ow true (.dK (idxD (ms.take i)))), o3, o4, none]) ⟨_, _, rfl⟩ ?_ ?_
  · rintro i x ρ hx ⟨o3, o4, rfl⟩ N hN
    obtain ⟨st, rfl, hi, et, _⟩ := enum_at hx
    walk_at "q"
    rw [idxD_len, take_len hi]
    walk_at "o"
    have := put_idx (notin_take nd et)
    rw [take_len hi, ← et] at this
    rw [this]
    exact hN _ ⟨_, _, rfl⟩
  · rintro ρ ⟨o3, o4, rfl⟩
    rw [enum_len, List.length_map, List.take_length]
    walk_at "q"
    refine compL_by (fun d => match d with
      | .tup [.int p, .str d, .int r] => decide (p ∈ ms)
      | _ => true) (fun d => match d with
      | .tup [.int p, .str d, .int r] => stpD (ixI ms p, d, ixI ms r)
      | d => d) (fun ρ => ∃ o, ρ = [o, some (.sh (.dK (idxD ms)))]) _ _ _ ⟨_, rfl⟩ ?_ ?_
    · rintro x hx ρ ⟨o, rfl⟩ N1 N2 n1 n2
      obtain ⟨⟨p, d, r⟩, hs, rfl⟩ := List.mem_map.mp hx
      unfold stpD
      walk_at "q"
      by_cases hp : p ∈ ms
      · rw [if_pos (by rw [get_ixS]; simp [hp])]
        have hr : r ∈ ms := hms.to hs hp
        refine ⟨_, _, rfl, get_ix hp nd, ?_⟩
        walk_at "q"
        refine ⟨_, _, rfl, get_ix hr nd, ?_⟩
        walk_at "q"
        exact ⟨.inl rfl, n2 _ ⟨_, rfl⟩ (decide_eq_true hp)⟩
      · rw [if_neg (by rw [get_ixS]; simp [hp])]
        exact n1 _ ⟨_, rfl⟩ (decide_eq_false hp)
    · have e : ((trimS ms steps).map stpD) = List.map (fun d => match d with
          | .tup [.int p, .str d, .int r] => stpD (ixI ms p, d, ixI ms r)
          | d => d) (List.filter (fun d => match d with
          | .tup [.int p, .str d, .int r] => decide (p ∈ ms)
          | _ => true) (List.map stpD steps)) := by
        rw [List.filter_map, List.map_map]
        unfold trimS
        rw [List.map_map]
        rfl
      rw [← e]
      exact h ms hms
def w__law_machine : WS :=
  (wSeq (wSet 3 wDNewT)
  (wSeq (wSet 4 (wCall sp__law_cell_at (wCons (wVar 0) (wCons (wC (.int 2)) wNil))))
  (wSeq (wSet 5 (wOp fMod (wOp fDiv (wVar 4) (wC (.int 4))) (wVar 1)))
  (wSeq (wIfS (wB (wOp fEq (wOp fMod (wOp fDiv (wVar 4) (wC (.int 80))) (wC (.int 4))) (wC (.int 3))))
  (wSeq (wFor (wiRng1 (wOp fMul (wVar 1) (wVar 1))) (gN 6)
  (wIfS (wOr (wB (wOp fGe (wOp fMod (wVar 6) (wVar 1)) (wVar 5))) (wB (wOp fLt (wOp fDiv (wVar 6) (wVar 1)) (wVar 5))))
  (wDPut (wpN 3) (wTup (wCons (wOp fMod (wVar 6) (wVar 1)) (wCons (wOp fIx (wVar 2) (wUn fNeg (wC (.int 1)))) (wCons (wOp fDiv (wVar 6) (wVar 1)) wNil)))) (wC (.bl true)))
  wNext))
  (wRetT [.inr 1, .inl (wUn fSortT (wUn fList (wVar 3)))]))
  wNext)
  (wSeq (wFrz 0 (wFor (wiList (wSl (wVar 0) (wPart (wC (.int 3))) (wPart (wC (.int 63))))) (gN 7)
  (wSeq (wSet 8 (wTup (wCons (wOp fMod (wVar 7) (wVar 1)) (wCons (wOp fIx (wVar 2) (wOp fMod (wOp fDiv (wOp fDiv (wVar 7) (wVar 1)) (wVar 1)) (wUn fLen (wVar 2)))) (wCons (wOp fMod (wOp fDiv (wVar 7) (wVar 1)) (wVar 1)) wNil)))))
  (wIfS (wOr (wB (wOp fEq (wOp fMod (wVar 4) (wC (.int 2))) (wC (.int 0)))) (wOr (wB (wOp fGe (wOp fIx (wVar 8) (wC (.int 0))) (wVar 5))) (wB (wOp fLt (wOp fIx (wVar 8) (wC (.int 2))) (wVar 5)))))
  (wDPut (wpN 3) (wVar 8) (wC (.bl true)))
  wNext))))
  (wSeq (wIfS (wB (wOp fEq (wOp fMod (wVar 4) (wC (.int 4))) (wC (.int 2))))
  (wSeq (wSet 9 (wC (.int 0)))
  (wSeq (wSet 10 (wListR2 (wC (.int 1)) (wVar 1)))
  (wWhile (wB (wOp fNe (wVar 10) (wLst wNil)))
  (wSeq (wPopAt 11 (wpN 10) (wOp fMod (wOp fDiv (wOp fDiv (wVar 4) (wC (.int 80))) (wOp fAdd (wUn fLen (wVar 10)) (wC (.int 1)))) (wUn fLen (wVar 10))))
  (wSeq (wDPut (wpN 3) (wTup (wCons (wVar 9) (wCons (wOp fIx (wVar 2) (wOp fMod (wOp fAdd (wOp fDiv (wVar 4) (wC (.int 80))) (wVar 11)) (wUn fLen (wVar 2)))) (wCons (wVar 11) wNil)))) (wC (.bl true)))
  (wFrz 11 (wSet 9 (wVar 11))))))))
  wNext)
  (wRetT [.inr 1, .inl (wUn fSortT (wUn fList (wVar 3)))])))))))
def sp__law_machine : SpD := fun ds Q => ∃ (ns : List Int) (many : Int) (names : List Str), ds = [.list (ns.map .int), .int many, .list (names.map .str)] ∧ ns.length ≤ 63 ∧ 1 ≤ many ∧ many ≤ 20 ∧ 1 ≤ names.length ∧ names.length ≤ 7 ∧ (∀ n ∈ names, Deed n) ∧
  ∀ steps : List Stp, StIn many steps → steps.length ≤ 400 → Q (.ow true) (mD many steps)
theorem len__law_machine (ds Q) (h : sp__law_machine ds Q) : ds.length = ["_law_script", "_law_many", "_law_names_here"].length := by obtain ⟨_, _, _, rfl, _⟩ := h; rfl
theorem ints_ok : ∀ (l : List Int) (n : Nat), okD (n + 1) (.list (l.map D.int)) = true := fun l n => by
  simp only [okD, List.all_map, List.all_eq_true]
  intro x _
  cases n <;> rfl
theorem eq_nil_ints (l : List Int) : eqD (.list (l.map D.int)) (.list []) = decide (l = []) := by
  cases l with
  | nil => rfl
  | cons x l => rfl
theorem erase_map {α β : Type} (f : α → β) : ∀ (l : List α) (k : Nat), (l.map f).eraseIdx k = (l.eraseIdx k).map f
  | [], _ => rfl
  | _ :: _, 0 => rfl
  | x :: l, k + 1 => by simp [List.eraseIdx, erase_map f l k]
theorem p__law_machine : ∀ ds Q, sp__law_machine ds Q → w__law_machine { nx := fun _ => Q .sh .non, rt := Q } (startD 12 ds) := by
  rintro ds Q ⟨ns, many, names, rfl, hl, hm1, hm2, hn1, hn2, hd, h⟩
  unfold w__law_machine
  walk_at "q"
  refine ⟨ns, 2, rfl, by decide, ?_⟩
  generalize ns.getD _ 0 = first
  walk_at "q"
  have hf0 := Int.emod_nonneg (first / 4) (show many ≠ 0 by omega)
  have hf1 := Int.emod_lt_of_pos (first / 4) (show 0 < many by omega)
  generalize hfen : first / 4 % many = fence at *
  walk_at "o"
  have fin : ∀ kvs : Kn, StD (StOk many) kvs → kvs.length ≤ 400 → fSortT (.ow true) (.list (kvs.map fun kv => .tup (kv.1.map keyD))) fun m x => Q (tupMd [(.sh, .int many), (m, x)]) (.tup [.int many, x]) := fun kvs hk hz =>
    hk.sorted fun steps _ hs _ hz' => h steps hs (by omega)
  refine R.D (fun h3 => ?_) fun h3 => ?_
  · walk_at "q"
    have hmm : many * many ≤ 400 := by
      have : many * many ≤ 20 * 20 := Int.mul_le_mul hm2 hm2 (by omega) (by omega)
      omega
    have hmm0 : 0 ≤ many * many := Int.mul_nonneg (by omega) (by omega)
    refine ⟨.inl ⟨by omega, by omega⟩, by omega, by omega, ?_⟩
    refine forL_by _ (fun i ρ => ∃ (kvs : Kn) (o6 : Option Sl), StD (StOk many) kvs ∧ kvs.length ≤ i ∧
      ρ = [some (.sh (.list (ns.map .int))), some (.sh (.int many)), some (.sh (.list (names.map .str))), some (.ow true (.dT kvs)), some (.sh (.int first)), some (.sh (.int fence)), o6, none, none, none, none, none]) ⟨[], _, StD.nil, by simp, rfl⟩ ?_ ?_
    · rintro i x ρ hx ⟨kvs, o6, hk, hz, rfl⟩ N hN
      obtain ⟨hi, rfl⟩ := ints_at hx
      have a1 := Int.emod_nonneg (0 + (i : Int)) (show many ≠ 0 by omega)
      have a2 := Int.emod_lt_of_pos (0 + (i : Int)) (show 0 < many by omega)
      have a3 := Int.ediv_nonneg (show 0 ≤ 0 + (i : Int) by omega) (show 0 ≤ many by omega)
      have a4 : (0 + (i : Int)) / many < many := Int.ediv_lt_of_lt_mul (by omega) (by omega)
      walk_at "q"
      walk_at "o"
      refine R.D (fun _ => ?_) fun _ => ?_
      · walk_at "q"
        obtain ⟨n, hn, e⟩ := name_last hn1
        walk_at "o"
        refine ⟨.str n, e, ?_⟩
        walk_at "q"
        walk_at "o"
        exact hN _ ⟨_, _, hk.put (s := ((0 + (i : Int)) % many, n, (0 + (i : Int)) / many)) ⟨a1, a2, hd n hn, a3, a4⟩, by have := putG_len kvs (stpK ((0 + (i : Int)) % many, n, (0 + (i : Int)) / many)) (D.bl true); omega, rfl⟩
      · walk_at "q"
        walk_at "o"
        refine R.D (fun _ => ?_) fun _ => ?_
        · walk_at "q"
          obtain ⟨n, hn, e⟩ := name_last hn1
          walk_at "o"
          refine ⟨.str n, e, ?_⟩
          walk_at "q"
          walk_at "o"
          exact hN _ ⟨_, _, hk.put (s := ((0 + (i : Int)) % many, n, (0 + (i : Int)) / many)) ⟨a1, a2, hd n hn, a3, a4⟩, by have := putG_len kvs (stpK ((0 + (i : Int)) % many, n, (0 + (i : Int)) / many)) (D.bl true); omega, rfl⟩
        · walk_at "q"
          exact hN _ ⟨kvs, _, hk, by omega, rfl⟩
    · rintro ρ ⟨kvs, o6, hk, hz, rfl⟩
      rw [ints_len] at hz
      walk_at "q"
      exact fin kvs hk (by omega)
  · walk_at "q"
    refine .inl ⟨flat_ints ns, ?_⟩
    rw [cut_ints]
    have hc := cutG_len ns (some 3) (some 63)
    generalize cutG ns (some 3) (some 63) = cells at *
    refine forL_by _ (fun i ρ => ∃ (kvs : Kn) (o7 o8 : Option Sl), StD (StOk many) kvs ∧ kvs.length ≤ i ∧
      ρ = [some (.sh (.list (ns.map .int))), some (.sh (.int many)), some (.sh (.list (names.map .str))), some (.ow true (.dT kvs)), some (.sh (.int first)), some (.sh (.int fence)), none, o7, o8, none, none, none]) ⟨[], _, _, StD.nil, by simp, rfl⟩ ?_ ?_
    · rintro i x ρ hx ⟨kvs, o7, o8, hk, hz, rfl⟩ N hN
      have hi := (List.getElem?_eq_some_iff.mp hx).1
      rw [List.length_map] at hi
      obtain ⟨c, _, rfl⟩ := ints_map_at hx
      have a1 := Int.emod_nonneg c (show many ≠ 0 by omega)
      have a2 := Int.emod_lt_of_pos c (show 0 < many by omega)
      have a3 := Int.emod_nonneg (c / many) (show many ≠ 0 by omega)
      have a4 := Int.emod_lt_of_pos (c / many) (show 0 < many by omega)
      walk_at "q"
      obtain ⟨n, hn, e⟩ := name_mod (c / many / many) hn1
      walk_at "o"
      refine ⟨.str n, e, ?_⟩
      walk_at "q"
      walk_at "o"
      refine R.D (fun _ => ?_) fun _ => ?_
      · walk_at "q"
        walk_at "o"
        exact hN _ ⟨_, _, _, hk.put (s := (c % many, n, c / many % many)) ⟨a1, a2, hd n hn, a3, a4⟩, by have := putG_len kvs (stpK (c % many, n, c / many % many)) (D.bl true); omega, rfl⟩
      · walk_at "q"
        refine R.D (fun _ => ?_) fun _ => ?_
        · walk_at "q"
          walk_at "o"
          exact hN _ ⟨_, _, _, hk.put (s := (c % many, n, c / many % many)) ⟨a1, a2, hd n hn, a3, a4⟩, by have := putG_len kvs (stpK (c % many, n, c / many % many)) (D.bl true); omega, rfl⟩
        · walk_at "q"
          refine R.D (fun _ => ?_) fun _ => ?_
          · walk_at "q"
            walk_at "o"
            exact hN _ ⟨_, _, _, hk.put (s := (c % many, n, c / many % many)) ⟨a1, a2, hd n hn, a3, a4⟩, by have := putG_len kvs (stpK (c % many, n, c / many % many)) (D.bl true); omega, rfl⟩
          · walk_at "q"
            exact hN _ ⟨kvs, _, _, hk, by omega, rfl⟩
    · rintro ρ ⟨kvs, o7, o8, hk, hz, rfl⟩
      rw [List.length_map] at hz
      walk_at "q"
      refine R.D (fun _ => ?_) fun _ => ?_
      · walk_at "q"
        walk_at "o"
        refine ⟨fun ρ => ∃ (kvs : Kn) (left : List Int) (here : Int) (o11 : Option Sl), StD (StOk many) kvs ∧ kvs.length + left.length ≤ 100 ∧ (∀ x ∈ left, 0 ≤ x ∧ x < many) ∧ (0 ≤ here ∧ here < many) ∧
          ρ = [some (.sh (.list (ns.map .int))), some (.sh (.int many)), some (.sh (.list (names.map .str))), some (.ow true (.dT kvs)), some (.sh (.int first)), some (.sh (.int fence)), none, o7, o8, some (.sh (.int here)), some (.ow true (.list (left.map .int))), o11],
          fun ρ => match ρ with
            | [_, _, _, _, _, _, _, _, _, _, some (.ow _ (.list l)), _] => l.length
            | _ => 0, ⟨kvs, (List.range (many - 1).toNat).map fun i => 1 + ((i : Nat) : Int), 0, none, hk, by simp; omega, fun x hx => ?_, by omega, by simp [intsD]⟩, ?_⟩
        · obtain ⟨i, hi, rfl⟩ := List.mem_map.mp hx
          have := List.mem_range.mp hi
          omega
        · rintro ρ ⟨kvs, left, here, o11, hk, hz, hlf, hh, rfl⟩
          walk_at "q"
          refine ⟨ints_ok left 11, rfl, ?_⟩
          rw [eq_nil_ints]
          by_cases hne : left = []
          · rw [if_neg (by simp [hne])]
            exact fin kvs hk (by omega)
          · rw [if_pos (by simp [hne])]
            have hp : 0 < left.length := List.length_pos_iff.mpr hne
            have b1 := Int.emod_nonneg (first / 80 / ((left.length : Int) + 1)) (show (left.length : Int) ≠ 0 by omega)
            have b2 := Int.emod_lt_of_pos (first / 80 / ((left.length : Int) + 1)) (show (0 : Int) < left.length by omega)
            obtain ⟨j, hj0⟩ : ∃ j, first / 80 / ((left.length : Int) + 1) % (left.length : Int) = j := ⟨_, rfl⟩
            rw [hj0] at b1 b2
            rw [hj0]
            have hj : j.toNat < left.length := by omega
            refine ⟨by omega, by omega, .int left[j.toNat], b1, by simp [hj], rfl, ?_⟩
            have hlj := hlf _ (List.getElem_mem hj)
            have mem := fun x (hx : x ∈ left.eraseIdx j.toNat) => hlf x (List.mem_of_mem_eraseIdx hx)
            have len := List.length_eraseIdx_of_lt hj
            generalize left[j.toNat] = there at *
            walk_at "q"
            obtain ⟨n, hn, e⟩ := name_mod (first / 80 + there) hn1
            walk_at "o"
            refine ⟨.str n, e, ?_⟩
            walk_at "q"
            walk_at "o"
            try rw [hj0]
            rw [erase_map, List.length_map]
            refine ⟨⟨_, left.eraseIdx j.toNat, there, _, hk.put (s := (here, n, there)) ⟨hh.1, hh.2, hd n hn, hlj.1, hlj.2⟩, ?_, mem, hlj, rfl⟩, by omega⟩
            have := putG_len kvs (stpK (here, n, there)) (D.bl true)
            omega
      · walk_at "q"
        exact fin kvs hk (by omega)
def w__law_list : WS :=
  (wSeq (wIfS (wOr (wNot (wB (wUn (fIsi "list") (wVar 0)))) (wB (wOp fNe (wComp (wbList (wVar 0)) (gN 0) (wNot (wB (wCall sp__law_whole (wCons (wVar 0) wNil)))) (wVar 0) 1 []) (wLst wNil))))
  (wRet (wC (.bl false)))
  wNext)
  (wSeq (wFrz 0 (wFor (wiZip (wSl (wVar 0) wNoPart (wPart (wUn fNeg (wC (.int 1))))) (wSl (wVar 0) (wPart (wC (.int 1))) wNoPart)) (gT 2 (gCons' (gN 1) (gCons' (gN 2) gNil')))
  (wIfS (wNot (wB (wOp fLt (wVar 1) (wVar 2))))
  (wRet (wC (.bl false)))
  wNext)))
  (wRet (wC (.bl true)))))
def sp__law_list : SpD := fun ds Q => ∃ ms : List Int, ds = [.list (ms.map .int)] ∧ ms.Pairwise (· < ·) ∧ Q .sh (.bl true)
theorem len__law_list (ds Q) (h : sp__law_list ds Q) : ds.length = ["_law_found"].length := by obtain ⟨_, rfl, _⟩ := h; rfl
theorem cut_at {α : Type} {l : List α} {lo hi : Option Int} {i : Nat} {v : α} (h : (cutG l lo hi)[i]? = some v) : l[HT.sIx l.length 0 lo + i]? = some v := by
  unfold cutG at h
  rw [List.getElem?_take] at h
  split at h
  · rwa [List.getElem?_drop] at h
  · cases h
theorem zip_at {ms : List Int} (up : ms.Pairwise (· < ·)) {i : Nat} {x : D} (h : (zipD (cutG (ms.map D.int) none (some (-1))) (cutG (ms.map D.int) (some 1) none))[i]? = some x) : ∃ a b, x = .tup [.int a, .int b] ∧ a < b := by
  unfold zipD at h
  rw [List.getElem?_zipWith] at h
  split at h
  · rename_i x y hx hy
    cases h
    have hx := cut_at hx
    have hy := cut_at hy
    rw [List.length_map] at hx hy
    rw [List.getElem?_map] at hx hy
    have s0 : HT.sIx ms.length 0 none = 0 := rfl
    rw [s0] at hx
    have hi : 0 + i < ms.length := by
      rcases Nat.lt_or_ge (0 + i) ms.length with q | q
      · exact q
      · rw [List.getElem?_eq_none q] at hx; cases hx
    have s1 : HT.sIx ms.length 0 (some 1) = 1 := sIx_some (by omega) (by omega)
    rw [s1] at hy
    have hj : 1 + i < ms.length := by
      rcases Nat.lt_or_ge (1 + i) ms.length with q | q
      · exact q
      · rw [List.getElem?_eq_none q] at hy; cases hy
    rw [List.getElem?_eq_getElem hi] at hx
    rw [List.getElem?_eq_getElem hj] at hy
    cases hx; cases hy
    exact ⟨_, _, rfl, List.pairwise_iff_getElem.mp up _ _ hi hj (by omega)⟩
  · cases h
theorem p__law_list : ∀ ds Q, sp__law_list ds Q → w__law_list { nx := fun _ => Q .sh .non, rt := Q } (startD 3 ds) := by
  rintro ds Q ⟨ms, rfl, up, h⟩
  unfold w__law_list
  walk_at "q"
  refine R.F (by decide) ?_
  walk_at "q"
  refine compL_by (fun _ => false) id (fun ρ => ∃ o, ρ = [o]) _ _ _ ⟨_, rfl⟩ ?_ ?_
  · rintro x hx ρ ⟨o, rfl⟩ N1 N2 n1 n2
    obtain ⟨c, _, rfl⟩ := List.mem_map.mp hx
    walk_at "q"
    refine ⟨c, rfl, ?_⟩
    walk_at "q"
    exact n1 _ ⟨_, rfl⟩ rfl
  · rw [List.filter_eq_nil_iff.mpr (by simp), List.map_nil]
    refine ⟨rfl, rfl, ?_⟩
    refine R.F rfl ?_
    walk_at "q"
    refine .inl ⟨flat_ints ms, .inl ⟨flat_ints ms, ?_⟩⟩
    refine forL_by _ (fun i ρ => ∃ o1 o2 : Option Sl, ρ = [some (.sh (.list (ms.map .int))), o1, o2]) ⟨_, _, rfl⟩ ?_ ?_
    · rintro i x ρ hx ⟨o1, o2, rfl⟩ N hN
      obtain ⟨a, b, rfl, hab⟩ := zip_at up hx
      walk_at "q"
      refine R.F (by simp [hab]) ?_
      walk_at "q"
      exact hN _ ⟨_, _, rfl⟩
    · rintro ρ ⟨o1, o2, rfl⟩
      walk_at "q"
      exact h
def w__law_machine_like : WS :=
  (wSeq (wIfS (wOr (wNot (wB (wUn (fIsi "tuple") (wVar 0)))) (wOr (wB (wOp fNe (wUn fLen (wVar 0)) (wC (.int 2)))) (wOr (wNot (wB (wCall sp__law_whole (wCons (wOp fIx (wVar 0) (wC (.int 0))) wNil)))) (wNot (wB (wUn (fIsi "list") (wOp fIx (wVar 0) (wC (.int 1)))))))))
  (wRet (wC (.bl false)))
  wNext)
  (wSeq (wFrz 0 (wFor (wiList (wOp fIx (wVar 0) (wC (.int 1)))) (gN 2)
  (wIfS (wOr (wNot (wB (wUn (fIsi "tuple") (wVar 2)))) (wOr (wB (wOp fNe (wUn fLen (wVar 2)) (wC (.int 3)))) (wOr (wNot (wB (wCall sp__law_whole (wCons (wOp fIx (wVar 2) (wC (.int 0))) wNil)))) (wNot (wB (wCall sp__law_whole (wCons (wOp fIx (wVar 2) (wC (.int 2))) wNil)))))))
  (wRet (wC (.bl false)))
  wNext)))
  (wRet (wOp fEq (wVar 0) (wVar 1)))))
theorem m_ok' {many k : Int} {l : List Stp} (n : Nat) (h : ∀ s ∈ l, StOk k s) : okD (n + 3) (mD many l) = true := by
  have h2 := stps_ok n h
  show (okD (n + 2) (.int many) && (okD (n + 2) (.list (l.map stpD)) && true)) = true
  rw [h2]
  rfl
def sp__law_machine_like : SpD := fun ds Q => ∃ (many : Int) (steps : List Stp), ds = [mD many steps, mD many steps] ∧ StIn 20 steps ∧ Q .sh (.bl true)
theorem len__law_machine_like (ds Q) (h : sp__law_machine_like ds Q) : ds.length = ["_law_found", "_law_due"].length := by obtain ⟨_, _, rfl, _⟩ := h; rfl
theorem p__law_machine_like : ∀ ds Q, sp__law_machine_like ds Q → w__law_machine_like { nx := fun _ => Q .sh .non, rt := Q } (startD 3 ds) := by
  rintro ds Q ⟨many, steps, rfl, hin, h⟩
  unfold w__law_machine_like mD
  walk_at "q"
  refine R.F (by decide) ?_
  walk_at "q"
  refine R.F (by decide) ?_
  walk_at "q"
  refine ⟨many, rfl, ?_⟩
  walk_at "q"
  refine R.F (by decide) ?_
  walk_at "q"
  refine forL_by _ (fun i ρ => ∃ o2 : Option Sl, ρ = [some (.sh (.tup [.int many, .list (steps.map stpD)])), some (.sh (.tup [.int many, .list (steps.map stpD)])), o2]) ⟨_, rfl⟩ ?_ ?_
  · rintro i x ρ hx ⟨o2, rfl⟩ N hN
    obtain ⟨p, d, r, rfl, hs, _⟩ := stp_at hx
    walk_at "q"
    refine R.F (by decide) ?_
    walk_at "q"
    refine R.F (by decide) ?_
    walk_at "q"
    refine ⟨p, rfl, ?_⟩
    walk_at "q"
    refine ⟨r, rfl, ?_⟩
    walk_at "q"
    exact hN _ ⟨_, rfl⟩
  · rintro ρ ⟨o2, rfl⟩
    walk_at "q"
    refine ⟨m_ok' 9 hin, m_ok' 9 hin, ?_⟩
    rw [show (D.tup [.int many, .list (steps.map stpD)]) = mD many steps from rfl, eq_self (nb_m many steps)]
    exact h
def w_law : WS :=
  (wSeq (wSet 1 (wOp fAdd (wC (.int 1)) (wOp fMod (wCall sp__law_cell_at (wCons (wVar 0) (wCons (wC (.int 0)) wNil))) (wC (.int 20)))))
  (wSeq (wSet 2 (wCall sp__law_machine (wCons (wVar 0) (wCons (wVar 1) (wCons (wCall sp__law_names (wCons (wCall sp__law_cell_at (wCons (wVar 0) (wCons (wC (.int 1)) wNil))) wNil)) wNil)))))
  (wSeq (wFrz 1 (wSet 3 (wTup (wCons (wVar 1) (wCons (wUn fList (wOp fIx (wVar 2) (wC (.int 1)))) wNil)))))
  (wSeq (wSet 4 (wCall sp_met (wCons (wVar 2) wNil)))
  (wSeq (wIfS (wOr (wNot (wB (wCall sp__law_list (wCons (wVar 4) wNil)))) (wB (wOp (fIn true) (wC (.int 0)) (wVar 4))))
  (wRet (wC (.bl false)))
  wNext)
  (wSeq (wSet 5 (wCall sp__law_come (wCons (wVar 2) wNil)))
  (wSeq (wSet 6 wDNewK)
  (wSeq (wForB 4 (wlEnum 4) (gT 2 (gCons' (gN 7) (gCons' (gN 8) gNil')))
  (wSeq (wFrz 7 (wDPut (wpN 6) (wVar 8) (wVar 7)))
  (wIfS (wB (wOp (fIn true) (wVar 8) (wVar 5)))
  (wRet (wC (.bl false)))
  wNext)))
  (wSeq (wSet 9 (wLst wNil))
  (wSeq (wFrz 2 (wFor (wiList (wOp fIx (wVar 2) (wC (.int 1)))) (gN 10)
  (wIfS (wB (wOp (fIn false) (wOp fIx (wVar 10) (wC (.int 0))) (wVar 6)))
  (wSeq (wIfS (wB (wOp (fIn true) (wOp fIx (wVar 10) (wC (.int 2))) (wVar 6)))
  (wRet (wC (.bl false)))
  wNext)
  (wApp (wpN 9) (wTup (wCons (wOp fIx (wVar 6) (wOp fIx (wVar 10) (wC (.int 0)))) (wCons (wOp fIx (wVar 10) (wC (.int 1))) (wCons (wOp fIx (wVar 6) (wOp fIx (wVar 10) (wC (.int 2)))) wNil))))))
  wNext)))
  (wSeq (wSet 11 (wCall sp_trimmed (wCons (wVar 2) wNil)))
  (wSeq (wSet 12 (wTup (wCons (wUn fLen (wVar 4)) (wCons (wUn fList (wVar 9)) wNil))))
  (wSeq (wIfS (wNot (wB (wCall sp__law_machine_like (wCons (wVar 11) (wCons (wVar 12) wNil)))))
  (wRet (wC (.bl false)))
  wNext)
  (wSeq (wSet 13 (wCall sp_trimmed (wCons (wVar 11) wNil)))
  (wSeq (wIfS (wOr (wNot (wB (wCall sp__law_machine_like (wCons (wVar 13) (wCons (wVar 12) wNil))))) (wB (wOp fNe (wCall sp_met (wCons (wVar 11) wNil)) (wListR1 (wUn fLen (wVar 4))))))
  (wRet (wC (.bl false)))
  wNext)
  (wSeq (wSet 14 (wUn fList (wVar 4)))
  (wSeq (wClear (wpN 4))
  (wSeq (wApp (wpIx (wpN 11) (wC (.int 1))) (wTup (wCons (wC (.int 0)) (wCons (wC (.str "a")) (wCons (wC (.int 0)) wNil)))))
  (wSeq (wClear (wpIx (wpN 13) (wC (.int 1))))
  (wRet (wAndV (wOp fEq (wCall sp_met (wCons (wVar 2) wNil)) (wVar 14)) (wAndV (wCall sp__law_machine_like (wCons (wCall sp_trimmed (wCons (wVar 2) wNil)) (wCons (wVar 12) wNil))) (wOp fEq (wVar 2) (wVar 3))))))))))))))))))))))))
abbrev sp_law : SpD := spLaw
theorem len_law (ds Q) (h : sp_law ds Q) : ds.length = ["_law_script"].length := by obtain ⟨_, rfl, _⟩ := h; rfl
theorem nb_ints (l : List Int) : (D.list (l.map D.int)).nb = true := by
  show nbs (l.map D.int) = true
  rw [nbs_iff]
  intro x hx
  obtain ⟨c, _, rfl⟩ := List.mem_map.mp hx
  rfl
theorem in_ints (x : Int) (l : List Int) : inD (.int x) (l.map D.int) = decide (x ∈ l) := by
  unfold inD
  rw [Bool.eq_iff_iff, List.any_eq_true, decide_eq_true_iff]
  constructor
  · rintro ⟨y, hy, e⟩
    obtain ⟨c, hc, rfl⟩ := List.mem_map.mp hy
    have := (eqD_iff (.int c) (.int x) rfl rfl).mp e
    cases this
    exact hc
  · intro hx
    exact ⟨.int x, List.mem_map.mpr ⟨x, hx, rfl⟩, (eqD_iff (.int x) (.int x) rfl rfl).mpr rfl⟩
theorem p_law : ∀ ds Q, sp_law ds Q → w_law { nx := fun _ => Q .sh .non, rt := Q } (startD 15 ds) := by
  rintro ds Q ⟨ns, rfl, hl, h⟩
  unfold w_law
  walk_at "q"
  refine ⟨ns, 0, rfl, by decide, ?_⟩
  generalize ns.getD _ 0 = c0
  walk_at "q"
  have hm0 := Int.emod_nonneg c0 (show (20 : Int) ≠ 0 by decide)
  have hm1 := Int.emod_lt_of_pos c0 (show (0 : Int) < 20 by decide)
  generalize hmany : 1 + c0 % 20 = many at *
  refine ⟨ns, 1, rfl, by decide, ?_⟩
  generalize ns.getD _ 0 = c1
  walk_at "q"
  refine ⟨_, rfl, fun names hn1 hn2 hd => ?_⟩
  walk_at "q"
  refine ⟨ns, many, names, rfl, hl, by omega, by omega, hn1, hn2, hd, fun steps hin hsl => ?_⟩
  unfold mD
  walk_at "q"
  refine .inl ⟨flat_stps steps, many, steps, rfl, by omega, by omega, hin, fun ms hms => ?_⟩
  walk_at "q"
  refine ⟨ms, rfl, hms.up, ?_⟩
  walk_at "q"
  refine ⟨rfl, by simp [scalD], ?_⟩
  refine R.F (by rw [in_ints]; simp [hms.zero]) ?_
  walk_at "q"
  refine ⟨many, steps, rfl, by omega, by omega, hin, fun cs hcs => ?_⟩
  walk_at "q"
  refine ⟨flat_ints ms, fun a => ?_⟩
  have hml := hms.len hin (by omega)
  have nd := up_nodup hms.up
  refine forLB_by _ (fun i ρ => ∃ o7 o8 : Option Sl, ρ = [some (.sh (.list (ns.map .int))), some (.sh (.int many)), some (.ow true (.tup [.int many, .list (steps.map stpD)])), some (.ow true (.tup [.int many, .list (steps.map stpD)])), some (.lk a true (.list (ms.map .int))), some (.ow true (.dK (setK cs))), some (.ow true (.dK (idxD (ms.take i)))), o7, o8, none, none, none, none, none, none])
    ⟨_, _, rfl⟩ (by rintro j ρ ⟨o7, o8, rfl⟩; rfl) ?_ ?_
  · rintro i x ρ hx ⟨o7, o8, rfl⟩ N hN
    obtain ⟨st, rfl, hi, et, est⟩ := enum_at hx
    walk_at "q"
    rw [idxD_len, take_len hi]
    walk_at "o"
    have := put_idx (notin_take nd et)
    rw [take_len hi, ← et] at this
    have hst : st ∈ cs := (hcs st).mpr ((hms.mem st).mp (List.mem_of_getElem? est))
    refine R.F (by rw [get_set]; simp [hst]) ?_
    walk_at "q"
    rw [this]
    exact hN _ ⟨_, _, rfl⟩
  · rintro ρ ⟨o7, o8, rfl⟩
    rw [enum_len, List.length_map, List.take_length]
    walk_at "q"
    refine forL_by _ (fun i ρ => ∃ o10 : Option Sl, ρ = [some (.sh (.list (ns.map .int))), some (.sh (.int many)), some (.sh (.tup [.int many, .list (steps.map stpD)])), some (.ow true (.tup [.int many, .list (steps.map stpD)])), some (.ow true (.list (ms.map .int))), some (.ow true (.dK (setK cs))), some (.ow true (.dK (idxD ms))), o7, o8, some (.ow true (.list ((trimS ms (steps.take i)).map stpD))), o10, none, none, none, none])
      ⟨_, rfl⟩ ?_ ?_
    · rintro i x ρ hx ⟨o10, rfl⟩ N hN
      obtain ⟨p, d, r, rfl, hs, et⟩ := stp_at hx
      have hi := (List.getElem?_eq_some_iff.mp hx).1
      rw [List.length_map] at hi
      have hz := trim_len ms (steps.take i)
      rw [List.length_take] at hz
      walk_at "q"
      by_cases hp : p ∈ ms
      · have hr : r ∈ ms := hms.to hs hp
        refine R.T (by rw [get_ixS]; simp [hp]) ?_
        walk_at "q"
        refine R.F (by rw [get_ixS]; simp [hr]) ?_
        walk_at "q"
        refine ⟨_, _, rfl, get_ix hp nd, ?_⟩
        walk_at "q"
        refine ⟨_, _, rfl, get_ix hr nd, ?_⟩
        walk_at "q"
        walk_at "o"
        have e : trimS ms (steps.take (i + 1)) = trimS ms (steps.take i) ++ [(ixI ms p, d, ixI ms r)] := by
          rw [et]; unfold trimS; simp [hp]
        have := hN _ ⟨some (.sh (.tup [.int p, .str d, .int r])), rfl⟩
        rw [e, List.map_append] at this
        exact this
      · refine R.F (by rw [get_ixS]; simp [hp]) ?_
        walk_at "q"
        have e : trimS ms (steps.take (i + 1)) = trimS ms (steps.take i) := by
          rw [et]; unfold trimS; simp [hp]
        have := hN _ ⟨some (.sh (.tup [.int p, .str d, .int r])), rfl⟩
        rw [e] at this
        exact this
    · rintro ρ ⟨o10, rfl⟩
      rw [List.length_map, List.take_length]
      walk_at "q"
      refine ⟨many, steps, rfl, by omega, by omega, hin, hsl, fun ms2 hms2 => ?_⟩
      obtain rfl := hms2.uniq hms
      have tin := trim_in hms hin
      have tl := trim_len ms2 steps
      have hm2 := met_trim hms hin (by omega)
      have tt := trim_trim hms hin (by omega)
      have tin20 : StIn 20 (trimS ms2 steps) := fun s hs => by
        obtain ⟨a, b, c, d, e⟩ := tin s hs
        exact ⟨a, by omega, c, d, by omega⟩
      generalize htr : trimS ms2 steps = tr at *
      unfold mD
      walk_at "q"
      refine .inl ⟨flat_stps tr, (ms2.length : Int), tr, rfl, tin20, ?_⟩
      walk_at "q"
      refine ⟨(ms2.length : Int), tr, rfl, by omega, by omega, tin, by omega, fun ms3 hms3 => ?_⟩
      obtain rfl := hms3.uniq hm2
      rw [rangeI_len, tt]
      unfold mD
      walk_at "q"
      refine ⟨_, tr, rfl, tin20, ?_⟩
      walk_at "q"
      refine ⟨(ms2.length : Int), tr, rfl, by omega, by omega, tin, fun ms4 hms4 => ?_⟩
      obtain rfl := hms4.uniq hm2
      walk_at "q"
      rw [Int.toNat_natCast, ints_rangeI]
      refine ⟨by omega, by omega, ints_ok _ 11, ints_ok _ 11, ?_⟩
      refine R.F (by rw [eq_self (nb_ints _)]; rfl) ?_
      walk_at "q"
      refine .inl ⟨flat_ints ms2, ?_⟩
      refine ⟨1, .list (tr.map stpD), rfl, rfl, rfl, ?_⟩
      walk_at "q"
      refine ⟨by omega, 1, .list (tr.map stpD), rfl, rfl, rfl, ?_⟩
      walk_at "q"
      refine ⟨many, steps, rfl, by omega, by omega, hin, fun ms5 hms5 => ?_⟩
      obtain rfl := hms5.uniq hms
      walk_at "q"
      refine ⟨ints_ok _ 11, ints_ok _ 11, ?_⟩
      refine R.T (eq_self (nb_ints _)) ?_
      walk_at "q"
      refine ⟨many, steps, rfl, by omega, by omega, hin, hsl, fun ms6 hms6 => ?_⟩
      obtain rfl := hms6.uniq hms
      rw [htr]
      unfold mD
      walk_at "q"
      refine ⟨_, tr, rfl, tin20, ?_⟩
      walk_at "q"
      refine ⟨m_ok' 9 hin, m_ok' 9 hin, ?_⟩
      rw [show (D.tup [.int many, .list (steps.map stpD)]) = mD many steps from rfl, eq_self (nb_m many steps)]
      exact h _

end L2.Q.Law

namespace L2.Q.Law
open PySem PySem.Spec PyProof.Rows
def top (i : Nat) : Stmt := PySem.Challenge.pw_kinlook_k06_states_met.main.body.getD i (.Pass ⟨0, 0, 0, 0⟩)
abbrev s_met : Stmt := top 1
abbrev s_trimmed : Stmt := top 2
abbrev s__law_whole : Stmt := top 4
abbrev s__law_cell_at : Stmt := top 5
abbrev s__law_names : Stmt := top 6
abbrev s__law_machine : Stmt := top 7
abbrev s__law_come : Stmt := top 8
abbrev s__law_list : Stmt := top 9
abbrev s__law_machine_like : Stmt := top 10
abbrev s_law : Stmt := top 11
structure Txt (mg : Str → Option Value) : Prop where
  n_bool : mg "bool" = none
  n_enumerate : mg "enumerate" = none
  n_int : mg "int" = none
  n_isinstance : mg "isinstance" = none
  n_len : mg "len" = none
  n_list : mg "list" = none
  n_range : mg "range" = none
  n_sorted : mg "sorted" = none
  n_tuple : mg "tuple" = none
  n_zip : mg "zip" = none
section
variable {P : Program} {w : World} {K : PySem.W.Frag} {mg : Str → Option Value} {base : Heap}
theorem sc_met : FnScope ["m", "reached", "waiting", "state", "step"] ["m"] (defScope s_met) := ⟨rfl, rfl, rfl, by decide +kernel, rfl, by decide +kernel, by decide +kernel⟩
theorem b_met {f : Addr} (T : Txt mg)  (cdv : Value) (A : Around) (outer : List PySem.Env) (s : Shared) (H : Hp) (E : XK) (hr : Room 0 (A.deeper (envOfC "met" (defScope s_met) s.heap.objs.size f cdv))) :
    QSs (cxOf CX0 P w K mg base ["m", "reached", "waiting", "state", "step"] "met" (defScope s_met) f cdv A outer s H E).nox K (defBody s_met) w_met :=
  have nd := sc_met.nd
  have hu : (A.deeper (envOfC "met" (defScope s_met) s.heap.objs.size f cdv)).units + 64 < cLine := hr.units
  (qss_cons (qs_set (i := 1) nd rfl (Or.inl rfl) (q_dict1 q_int q_bl))
      (qss_cons (qs_set (i := 2) nd rfl (Or.inl rfl) (q_lst (qa_cons q_int qa_nil)))
      (qss_cons (qs_while PassesOwn.never (q_truth (qv 2))
      (qss_cons (qs_pop (i := 3) nd rfl (Or.inl rfl) (qp_name (pv 2)))
      (qss_one (qs_frz 0 (qs_for PassesOwn.never rfl (qi_list (q_ix hu (qv 0) q_int)) (qg_name (i := 4) nd rfl (Or.inl rfl))
      (qss_one (qs_if (qt_w (qw_and (q_tcmp (kEq (K := K) hu) br_eq (q_ix hu (qv 4) q_int) (qv 3) (nomark _)) (qw_and1 (q_tcmp (kNotIn (K := K) hu) br_in (q_ix hu (qv 4) q_int) (qv 1) (by rfl)))))
      (qss_cons (qs_dput hu (qp_name (pv 1)) (q_ix hu (qv 4) q_int) q_bl)
      (qss_one (qs_app (qp_name (pv 2)) (q_ix hu (qv 4) q_int))))
      qss_nil)))))))
      (qss_one (qs_ret (q_callB kSort1 br_sort1 rfl T.n_sorted kb_sorted (qv 1)))))))
theorem ok_met {f : Addr} {fd : FuncData} (F : Fun K "met" "met" s_met f fd) (T : Txt mg)  : FnOk P w K mg base CX0 1 f fd ["m"] (liftSp K sp_met) :=
  FunQ.ok F sc_met len_met (b_met T ) p_met
theorem sc__law_whole : FnScope ["_law_found"] ["_law_found"] (defScope s__law_whole) := ⟨rfl, rfl, rfl, by decide +kernel, rfl, by decide +kernel, by decide +kernel⟩
theorem b__law_whole {f : Addr} (T : Txt mg)  (cdv : Value) (A : Around) (outer : List PySem.Env) (s : Shared) (H : Hp) (E : XK) (hr : Room 0 (A.deeper (envOfC "_law_whole" (defScope s__law_whole) s.heap.objs.size f cdv))) :
    QSs (cxOf CX0 P w K mg base ["_law_found"] "_law_whole" (defScope s__law_whole) f cdv A outer s H E).nox K (defBody s__law_whole) w__law_whole :=
  have nd := sc__law_whole.nd
  have hu : (A.deeper (envOfC "_law_whole" (defScope s__law_whole) s.heap.objs.size f cdv)).units + 64 < cLine := hr.units
  (qss_one (qs_ret (q_and (q_isi T.n_isinstance (qv 0) (pe_ty T.n_int kb_int)) (q_one (q_not (q_isi T.n_isinstance (qv 0) (pe_ty T.n_bool kb_bool)))))))
theorem ok__law_whole {f : Addr} {fd : FuncData} (F : Fun K "_law_whole" "_law_whole" s__law_whole f fd) (T : Txt mg)  : FnOk P w K mg base CX0 1 f fd ["_law_found"] (liftSp K sp__law_whole) :=
  FunQ.ok F sc__law_whole len__law_whole (b__law_whole T ) p__law_whole
theorem sc__law_cell_at : FnScope ["_law_script", "_law_k"] ["_law_script", "_law_k"] (defScope s__law_cell_at) := ⟨rfl, rfl, rfl, by decide +kernel, rfl, by decide +kernel, by decide +kernel⟩
theorem b__law_cell_at {f : Addr} (T : Txt mg)  (cdv : Value) (A : Around) (outer : List PySem.Env) (s : Shared) (H : Hp) (E : XK) (hr : Room 0 (A.deeper (envOfC "_law_cell_at" (defScope s__law_cell_at) s.heap.objs.size f cdv))) :
    QSs (cxOf CX0 P w K mg base ["_law_script", "_law_k"] "_law_cell_at" (defScope s__law_cell_at) f cdv A outer s H E).nox K (defBody s__law_cell_at) w__law_cell_at :=
  have nd := sc__law_cell_at.nd
  have hu : (A.deeper (envOfC "_law_cell_at" (defScope s__law_cell_at) s.heap.objs.size f cdv)).units + 64 < cLine := hr.units
  (qss_cons (qs_if (q_tcmp op_ltU br_lt (qv 1) (q_callB call_lenD2 br_len rfl T.n_len kb_len (qv 0)) (nomark _))
      (qss_one (qs_ret (q_ix hu (qv 0) (qv 1))))
      qss_nil)
      (qss_one (qs_ret q_int)))
theorem ok__law_cell_at {f : Addr} {fd : FuncData} (F : Fun K "_law_cell_at" "_law_cell_at" s__law_cell_at f fd) (T : Txt mg)  : FnOk P w K mg base CX0 1 f fd ["_law_script", "_law_k"] (liftSp K sp__law_cell_at) :=
  FunQ.ok F sc__law_cell_at len__law_cell_at (b__law_cell_at T ) p__law_cell_at
theorem sc__law_names : FnScope ["_law_cell", "_law_letters", "_law_long", "_law_at", "_law_base", "_law_k", "_law_names_here", "_law_sign"] ["_law_cell"] (defScope s__law_names) := ⟨rfl, rfl, rfl, by decide +kernel, rfl, by decide +kernel, by decide +kernel⟩
theorem b__law_names {f : Addr} (T : Txt mg)  (cdv : Value) (A : Around) (outer : List PySem.Env) (s : Shared) (H : Hp) (E : XK) (hr : Room 0 (A.deeper (envOfC "_law_names" (defScope s__law_names) s.heap.objs.size f cdv))) :
    QSs (cxOf CX0 P w K mg base ["_law_cell", "_law_letters", "_law_long", "_law_at", "_law_base", "_law_k", "_law_names_here", "_law_sign"] "_law_names" (defScope s__law_names) f cdv A outer s H E).nox K (defBody s__law_names) w__law_names :=
  have nd := sc__law_names.nd
  have hu : (A.deeper (envOfC "_law_names" (defScope s__law_names) s.heap.objs.size f cdv)).units + 64 < cLine := hr.units
  (qss_cons (qs_set (i := 1) nd rfl (Or.inl rfl) q_str)
      (qss_cons (qs_set (i := 2) nd rfl (Or.inl rfl) (q_add q_int (q_mod (q_div (qv 0) q_int) q_int)))
      (qss_cons (qs_set (i := 3) nd rfl (Or.inl rfl) (q_mod (q_div (qv 0) q_int) (qv 2)))
      (qss_cons (qs_set (i := 4) nd rfl (Or.inl rfl) q_str)
      (qss_cons (qs_for PassesOwn.never rfl (qi_rng1 T.n_range q_int) (qg_name (i := 5) nd rfl (Or.inl rfl))
      (qss_one (qs_set (i := 4) nd rfl (Or.inl rfl) (q_add (qv 4) (q_ix hu (qv 1) (q_mod (q_div (q_div (qv 0) q_int) (q_add (q_mul (qv 5) (qv 5)) q_int)) q_int))))))
      (qss_cons (qs_set (i := 6) nd rfl (Or.inl rfl) (q_lst (qa_cons q_str qa_nil)))
      (qss_cons (qs_for PassesOwn.never rfl (qi_rng1 T.n_range (q_mod (qv 0) q_int)) (qg_name (i := 5) nd rfl (Or.inl rfl))
      (qss_cons (qs_set (i := 7) nd rfl (Or.inl rfl) (q_ix hu (qv 1) (q_mod (q_add (q_div (qv 0) q_int) (q_mul (qv 5) (q_add q_int (q_mod (q_div (qv 0) q_int) q_int)))) q_int)))
      (qss_one (qs_app (qp_name (pv 6)) (q_add (q_add (q_slice (qv 4) qo_none (qo_some (qv 3))) (qv 7)) (q_slice (qv 4) (qo_some (q_add (qv 3) q_int)) (qo_some (qv 2))))))))
      (qss_one (qs_retV (pv 6))))))))))
theorem ok__law_names {f : Addr} {fd : FuncData} (F : Fun K "_law_names" "_law_names" s__law_names f fd) (T : Txt mg)  : FnOk P w K mg base CX0 1 f fd ["_law_cell"] (liftSp K sp__law_names) :=
  FunQ.ok F sc__law_names len__law_names (b__law_names T ) p__law_names
theorem sc__law_come : FnScope ["_law_m", "_law_came", "_law_many", "_law_step"] ["_law_m"] (defScope s__law_come) := ⟨rfl, rfl, rfl, by decide +kernel, rfl, by decide +kernel, by decide +kernel⟩
theorem b__law_come {f : Addr} (T : Txt mg)  (cdv : Value) (A : Around) (outer : List PySem.Env) (s : Shared) (H : Hp) (E : XK) (hr : Room 0 (A.deeper (envOfC "_law_come" (defScope s__law_come) s.heap.objs.size f cdv))) :
    QSs (cxOf CX0 P w K mg base ["_law_m", "_law_came", "_law_many", "_law_step"] "_law_come" (defScope s__law_come) f cdv A outer s H E).nox K (defBody s__law_come) w__law_come :=
  have nd := sc__law_come.nd
  have hu : (A.deeper (envOfC "_law_come" (defScope s__law_come) s.heap.objs.size f cdv)).units + 64 < cLine := hr.units
  (qss_cons (qs_set (i := 1) nd rfl (Or.inl rfl) (q_dict1 q_int q_bl))
      (qss_cons (qs_set (i := 2) nd rfl (Or.inl rfl) q_int)
      (qss_cons (qs_while PassesOwn.never (q_tcmp op_ltU br_lt (qv 2) (q_callB call_lenD2 br_len rfl T.n_len kb_len (qv 1)) (nomark _))
      (qss_cons (qs_set (i := 2) nd rfl (Or.inl rfl) (q_callB call_lenD2 br_len rfl T.n_len kb_len (qv 1)))
      (qss_one (qs_frz 0 (qs_for PassesOwn.never rfl (qi_list (q_ix hu (qv 0) q_int)) (qg_name (i := 3) nd rfl (Or.inl rfl))
      (qss_one (qs_if (q_tcmp (kIn (K := K) hu) br_in (q_ix hu (qv 3) q_int) (qv 1) (by rfl))
      (qss_one (qs_dput hu (qp_name (pv 1)) (q_ix hu (qv 3) q_int) q_bl))
      qss_nil)))))))
      (qss_one (qs_retV (pv 1))))))
theorem ok__law_come {f : Addr} {fd : FuncData} (F : Fun K "_law_come" "_law_come" s__law_come f fd) (T : Txt mg)  : FnOk P w K mg base CX0 1 f fd ["_law_m"] (liftSp K sp__law_come) :=
  FunQ.ok F sc__law_come len__law_come (b__law_come T ) p__law_come
theorem sc_trimmed : FnScope ["m", "states", "number", "k", "state", "steps"] ["m"] (defScope s_trimmed) := ⟨rfl, rfl, rfl, by decide +kernel, rfl, by decide +kernel, by decide +kernel⟩
theorem b_trimmed {f : Addr} (T : Txt mg) (c_met : Cal P w K mg base 1 "met" ["m"] (liftSp K sp_met)) (cdv : Value) (A : Around) (outer : List PySem.Env) (s : Shared) (H : Hp) (E : XK) (hr : Room 1 (A.deeper (envOfC "trimmed" (defScope s_trimmed) s.heap.objs.size f cdv))) :
    QSs (cxOf CX0 P w K mg base ["m", "states", "number", "k", "state", "steps"] "trimmed" (defScope s_trimmed) f cdv A outer s H E).nox K (defBody s_trimmed) w_trimmed :=
  have nd := sc_trimmed.nd
  have hu : (A.deeper (envOfC "trimmed" (defScope s_trimmed) s.heap.objs.size f cdv)).units + 64 < cLine := hr.units
  (qss_cons (qs_set (i := 1) nd rfl (Or.inl rfl) (q_own c_met (hr.mono (by decide)) (qa_cons (qv 0) qa_nil)))
      (qss_cons (qs_set (i := 2) nd rfl (Or.inr rfl) q_dnewK)
      (qss_cons (qs_frz 1 (qs_for PassesOwn.never rfl (qi_enum T.n_enumerate (qv 1)) (qg_tup rfl (qgs_cons (qg_name (i := 3) nd rfl (Or.inl rfl)) (qgs_cons (qg_name (i := 4) nd rfl (Or.inl rfl)) qgs_nil)))
      (qss_one (qs_frz 3 (qs_dput hu (qp_name (pv 2)) (qv 4) (qv 3))))))
      (qss_cons (qs_setComp (i := 5) (tn := ["step"]) (cn := ["number"]) (ix := [2]) nd rfl (Or.inl rfl) rfl (qb_list (q_ix hu (qv 0) q_int)) (CompOk.of (sc := defScope s_trimmed) (N := ["m", "states", "number", "k", "state", "steps"]) rfl rfl (by decide +kernel)) (fun _ _ _ _ => (qg_name (i := 0) (show (["step", "number"] : List Str).Nodup by decide +kernel) rfl (Or.inl rfl) (.inr rfl))) (fun _ _ _ _ => (qts_one (q_tcmp (kIn (K := K) hu) br_in (q_ix hu (qv 0) q_int) (qv 1) (by rfl)))) (fun _ _ _ _ => (q_tup (qa_cons (q_ix hu (qv 1) (q_ix hu (qv 0) q_int)) (qa_cons (q_ix hu (qv 0) q_int) (qa_cons (q_ix hu (qv 1) (q_ix hu (qv 0) q_int)) qa_nil))))))
      (qss_one (qs_retT (qm_e (q_callB call_lenD2 br_len rfl T.n_len kb_len (qv 1)) (qm_v (pv 5) qm_nil))))))))
theorem ok_trimmed {f : Addr} {fd : FuncData} (F : Fun K "trimmed" "trimmed" s_trimmed f fd) (T : Txt mg) (c_met : Cal P w K mg base 1 "met" ["m"] (liftSp K sp_met)) : FnOk P w K mg base CX0 2 f fd ["m"] (liftSp K sp_trimmed) :=
  FunQ.ok F sc_trimmed len_trimmed (b_trimmed T c_met) p_trimmed
theorem sc__law_machine : FnScope ["_law_script", "_law_many", "_law_names_here", "_law_known", "_law_first", "_law_fence", "_law_k", "_law_cell", "_law_step", "_law_here", "_law_left", "_law_there"] ["_law_script", "_law_many", "_law_names_here"] (defScope s__law_machine) := ⟨rfl, rfl, rfl, by decide +kernel, rfl, by decide +kernel, by decide +kernel⟩
theorem b__law_machine {f : Addr} (T : Txt mg) (c__law_cell_at : Cal P w K mg base 1 "_law_cell_at" ["_law_script", "_law_k"] (liftSp K sp__law_cell_at)) (cdv : Value) (A : Around) (outer : List PySem.Env) (s : Shared) (H : Hp) (E : XK) (hr : Room 1 (A.deeper (envOfC "_law_machine" (defScope s__law_machine) s.heap.objs.size f cdv))) :
    QSs (cxOf CX0 P w K mg base ["_law_script", "_law_many", "_law_names_here", "_law_known", "_law_first", "_law_fence", "_law_k", "_law_cell", "_law_step", "_law_here", "_law_left", "_law_there"] "_law_machine" (defScope s__law_machine) f cdv A outer s H E).nox K (defBody s__law_machine) w__law_machine :=
  have nd := sc__law_machine.nd
  have hu : (A.deeper (envOfC "_law_machine" (defScope s__law_machine) s.heap.objs.size f cdv)).units + 64 < cLine := hr.units
  (qss_cons (qs_set (i := 3) nd rfl (Or.inl rfl) q_dnewT)
      (qss_cons (qs_set (i := 4) nd rfl (Or.inl rfl) (q_own c__law_cell_at (hr.mono (by decide)) (qa_cons (qv 0) (qa_cons q_int qa_nil))))
      (qss_cons (qs_set (i := 5) nd rfl (Or.inl rfl) (q_mod (q_div (qv 4) q_int) (qv 1)))
      (qss_cons (qs_if (q_tcmp (kEq (K := K) hu) br_eq (q_mod (q_div (qv 4) q_int) q_int) q_int (nomark _))
      (qss_cons (qs_for PassesOwn.never rfl (qi_rng1 T.n_range (q_mul (qv 1) (qv 1))) (qg_name (i := 6) nd rfl (Or.inl rfl))
      (qss_one (qs_if (qt_w (qw_or (q_tcmp op_geU br_ge (q_mod (qv 6) (qv 1)) (qv 5) (nomark _)) (qw_or1 (q_tcmp op_ltU br_lt (q_div (qv 6) (qv 1)) (qv 5) (nomark _)))))
      (qss_one (qs_dput hu (qp_name (pv 3)) (q_tup (qa_cons (q_mod (qv 6) (qv 1)) (qa_cons (q_ix hu (qv 2) (q_neg q_int)) (qa_cons (q_div (qv 6) (qv 1)) qa_nil)))) q_bl))
      qss_nil)))
      (qss_one (qs_retT (qm_v (pv 1) (qm_e (q_callB kSortT br_sortT rfl T.n_sorted kb_sorted (q_callTy call_list2 br_list rfl T.n_list kb_list (qv 3))) qm_nil)))))
      qss_nil)
      (qss_cons (qs_frz 0 (qs_for PassesOwn.never rfl (qi_list (q_slice (qv 0) (qo_some q_int) (qo_some q_int))) (qg_name (i := 7) nd rfl (Or.inl rfl))
      (qss_cons (qs_set (i := 8) nd rfl (Or.inl rfl) (q_tup (qa_cons (q_mod (qv 7) (qv 1)) (qa_cons (q_ix hu (qv 2) (q_mod (q_div (q_div (qv 7) (qv 1)) (qv 1)) (q_callB call_lenD2 br_len rfl T.n_len kb_len (qv 2)))) (qa_cons (q_mod (q_div (qv 7) (qv 1)) (qv 1)) qa_nil)))))
      (qss_one (qs_if (qt_w (qw_or (q_tcmp (kEq (K := K) hu) br_eq (q_mod (qv 4) q_int) q_int (nomark _)) (qw_or (q_tcmp op_geU br_ge (q_ix hu (qv 8) q_int) (qv 5) (nomark _)) (qw_or1 (q_tcmp op_ltU br_lt (q_ix hu (qv 8) q_int) (qv 5) (nomark _))))))
      (qss_one (qs_dput hu (qp_name (pv 3)) (qv 8) q_bl))
      qss_nil)))))
      (qss_cons (qs_if (q_tcmp (kEq (K := K) hu) br_eq (q_mod (qv 4) q_int) q_int (nomark _))
      (qss_cons (qs_set (i := 9) nd rfl (Or.inl rfl) q_int)
      (qss_cons (qs_set (i := 10) nd rfl (Or.inl rfl) (q_listR2 T.n_list T.n_range rfl q_int (qv 1)))
      (qss_one (qs_while PassesOwn.never (q_tcmp (kNe (K := K) hu) br_ne (qv 10) (q_lst qa_nil) (nomark _))
      (qss_cons (qs_popAt (i := 11) nd rfl (Or.inl rfl) (qp_name (pv 10)) (q_mod (q_div (q_div (qv 4) q_int) (q_add (q_callB call_lenD2 br_len rfl T.n_len kb_len (qv 10)) q_int)) (q_callB call_lenD2 br_len rfl T.n_len kb_len (qv 10))))
      (qss_cons (qs_dput hu (qp_name (pv 3)) (q_tup (qa_cons (qv 9) (qa_cons (q_ix hu (qv 2) (q_mod (q_add (q_div (qv 4) q_int) (qv 11)) (q_callB call_lenD2 br_len rfl T.n_len kb_len (qv 2)))) (qa_cons (qv 11) qa_nil)))) q_bl)
      (qss_one (qs_frz 11 (qs_set (i := 9) nd rfl (Or.inl rfl) (qv 11))))))))))
      qss_nil)
      (qss_one (qs_retT (qm_v (pv 1) (qm_e (q_callB kSortT br_sortT rfl T.n_sorted kb_sorted (q_callTy call_list2 br_list rfl T.n_list kb_list (qv 3))) qm_nil))))))))))
theorem ok__law_machine {f : Addr} {fd : FuncData} (F : Fun K "_law_machine" "_law_machine" s__law_machine f fd) (T : Txt mg) (c__law_cell_at : Cal P w K mg base 1 "_law_cell_at" ["_law_script", "_law_k"] (liftSp K sp__law_cell_at)) : FnOk P w K mg base CX0 2 f fd ["_law_script", "_law_many", "_law_names_here"] (liftSp K sp__law_machine) :=
  FunQ.ok F sc__law_machine len__law_machine (b__law_machine T c__law_cell_at) p__law_machine
theorem sc__law_list : FnScope ["_law_found", "_law_one", "_law_other"] ["_law_found"] (defScope s__law_list) := ⟨rfl, rfl, rfl, by decide +kernel, rfl, by decide +kernel, by decide +kernel⟩
theorem b__law_list {f : Addr} (T : Txt mg) (c__law_whole : Cal P w K mg base 1 "_law_whole" ["_law_found"] (liftSp K sp__law_whole)) (cdv : Value) (A : Around) (outer : List PySem.Env) (s : Shared) (H : Hp) (E : XK) (hr : Room 1 (A.deeper (envOfC "_law_list" (defScope s__law_list) s.heap.objs.size f cdv))) :
    QSs (cxOf CX0 P w K mg base ["_law_found", "_law_one", "_law_other"] "_law_list" (defScope s__law_list) f cdv A outer s H E).nox K (defBody s__law_list) w__law_list :=
  have nd := sc__law_list.nd
  have hu : (A.deeper (envOfC "_law_list" (defScope s__law_list) s.heap.objs.size f cdv)).units + 64 < cLine := hr.units
  (qss_cons (qs_if (qt_w (qw_or (qt_not (q_tval (q_isi T.n_isinstance (qv 0) (pe_ty T.n_list kb_list)))) (qw_or1 (q_tcmp (kNe (K := K) hu) br_ne (q_comp (tn := ["_law_x"]) (cn := []) (ix := []) rfl (qb_list (qv 0)) (CompOk.of (sc := defScope s__law_list) (N := ["_law_found", "_law_one", "_law_other"]) rfl rfl (by decide +kernel)) (fun _ _ _ _ => (qg_name (i := 0) (show (["_law_x"] : List Str).Nodup by decide +kernel) rfl (Or.inl rfl) (.inr rfl))) (fun _ _ _ _ => (qts_one (qt_not (q_tval (q_own c__law_whole (hr.mono (by decide)) (qa_cons (qv 0) qa_nil)))))) (fun _ _ _ _ => (qv 0))) (q_lst qa_nil) (nomark _)))))
      (qss_one (qs_ret q_bl))
      qss_nil)
      (qss_cons (qs_frz 0 (qs_for PassesOwn.never rfl (qi_zip T.n_zip (q_slice (qv 0) qo_none (qo_some (q_neg q_int))) (q_slice (qv 0) (qo_some q_int) qo_none)) (qg_tup rfl (qgs_cons (qg_name (i := 1) nd rfl (Or.inl rfl)) (qgs_cons (qg_name (i := 2) nd rfl (Or.inl rfl)) qgs_nil)))
      (qss_one (qs_if (qt_not (q_tcmp op_ltU br_lt (qv 1) (qv 2) (nomark _)))
      (qss_one (qs_ret q_bl))
      qss_nil))))
      (qss_one (qs_ret q_bl))))
theorem ok__law_list {f : Addr} {fd : FuncData} (F : Fun K "_law_list" "_law_list" s__law_list f fd) (T : Txt mg) (c__law_whole : Cal P w K mg base 1 "_law_whole" ["_law_found"] (liftSp K sp__law_whole)) : FnOk P w K mg base CX0 2 f fd ["_law_found"] (liftSp K sp__law_list) :=
  FunQ.ok F sc__law_list len__law_list (b__law_list T c__law_whole) p__law_list
theorem sc__law_machine_like : FnScope ["_law_found", "_law_due", "_law_step"] ["_law_found", "_law_due"] (defScope s__law_machine_like) := ⟨rfl, rfl, rfl, by decide +kernel, rfl, by decide +kernel, by decide +kernel⟩
theorem b__law_machine_like {f : Addr} (T : Txt mg) (c__law_whole : Cal P w K mg base 1 "_law_whole" ["_law_found"] (liftSp K sp__law_whole)) (cdv : Value) (A : Around) (outer : List PySem.Env) (s : Shared) (H : Hp) (E : XK) (hr : Room 1 (A.deeper (envOfC "_law_machine_like" (defScope s__law_machine_like) s.heap.objs.size f cdv))) :
    QSs (cxOf CX0 P w K mg base ["_law_found", "_law_due", "_law_step"] "_law_machine_like" (defScope s__law_machine_like) f cdv A outer s H E).nox K (defBody s__law_machine_like) w__law_machine_like :=
  have nd := sc__law_machine_like.nd
  have hu : (A.deeper (envOfC "_law_machine_like" (defScope s__law_machine_like) s.heap.objs.size f cdv)).units + 64 < cLine := hr.units
  (qss_cons (qs_if (qt_w (qw_or (qt_not (q_tval (q_isi T.n_isinstance (qv 0) (pe_ty T.n_tuple kb_tuple)))) (qw_or (q_tcmp (kNe (K := K) hu) br_ne (q_callB call_lenD2 br_len rfl T.n_len kb_len (qv 0)) q_int (nomark _)) (qw_or (qt_not (q_tval (q_own c__law_whole (hr.mono (by decide)) (qa_cons (q_ix hu (qv 0) q_int) qa_nil)))) (qw_or1 (qt_not (q_tval (q_isi T.n_isinstance (q_ix hu (qv 0) q_int) (pe_ty T.n_list kb_list)))))))))
      (qss_one (qs_ret q_bl))
      qss_nil)
      (qss_cons (qs_frz 0 (qs_for PassesOwn.never rfl (qi_list (q_ix hu (qv 0) q_int)) (qg_name (i := 2) nd rfl (Or.inl rfl))
      (qss_one (qs_if (qt_w (qw_or (qt_not (q_tval (q_isi T.n_isinstance (qv 2) (pe_ty T.n_tuple kb_tuple)))) (qw_or (q_tcmp (kNe (K := K) hu) br_ne (q_callB call_lenD2 br_len rfl T.n_len kb_len (qv 2)) q_int (nomark _)) (qw_or (qt_not (q_tval (q_own c__law_whole (hr.mono (by decide)) (qa_cons (q_ix hu (qv 2) q_int) qa_nil)))) (qw_or1 (qt_not (q_tval (q_own c__law_whole (hr.mono (by decide)) (qa_cons (q_ix hu (qv 2) q_int) qa_nil)))))))))
      (qss_one (qs_ret q_bl))
      qss_nil))))
      (qss_one (qs_ret (q_cmp (kEq (K := K) hu) br_eq (qv 0) (qv 1) (nomark _))))))
theorem ok__law_machine_like {f : Addr} {fd : FuncData} (F : Fun K "_law_machine_like" "_law_machine_like" s__law_machine_like f fd) (T : Txt mg) (c__law_whole : Cal P w K mg base 1 "_law_whole" ["_law_found"] (liftSp K sp__law_whole)) : FnOk P w K mg base CX0 2 f fd ["_law_found", "_law_due"] (liftSp K sp__law_machine_like) :=
  FunQ.ok F sc__law_machine_like len__law_machine_like (b__law_machine_like T c__law_whole) p__law_machine_like
theorem sc_law : FnScope ["_law_script", "_law_many", "_law_m", "_law_copied", "_law_found", "_law_came", "_law_place", "_law_k", "_law_state", "_law_steps", "_law_step", "_law_told", "_law_due", "_law_again", "_law_kept"] ["_law_script"] (defScope s_law) := ⟨rfl, rfl, rfl, by decide +kernel, rfl, by decide +kernel, by decide +kernel⟩
theorem b_law {f : Addr} (T : Txt mg) (c__law_machine : Cal P w K mg base 2 "_law_machine" ["_law_script", "_law_many", "_law_names_here"] (liftSp K sp__law_machine)) (c_met : Cal P w K mg base 1 "met" ["m"] (liftSp K sp_met)) (c__law_come : Cal P w K mg base 1 "_law_come" ["_law_m"] (liftSp K sp__law_come)) (c_trimmed : Cal P w K mg base 2 "trimmed" ["m"] (liftSp K sp_trimmed)) (c__law_names : Cal P w K mg base 1 "_law_names" ["_law_cell"] (liftSp K sp__law_names)) (c__law_machine_like : Cal P w K mg base 2 "_law_machine_like" ["_law_found", "_law_due"] (liftSp K sp__law_machine_like)) (c__law_cell_at : Cal P w K mg base 1 "_law_cell_at" ["_law_script", "_law_k"] (liftSp K sp__law_cell_at)) (c__law_list : Cal P w K mg base 2 "_law_list" ["_law_found"] (liftSp K sp__law_list)) (cdv : Value) (A : Around) (outer : List PySem.Env) (s : Shared) (H : Hp) (E : XK) (hr : Room 2 (A.deeper (envOfC "law" (defScope s_law) s.heap.objs.size f cdv))) :
    QSs (cxOf CX0 P w K mg base ["_law_script", "_law_many", "_law_m", "_law_copied", "_law_found", "_law_came", "_law_place", "_law_k", "_law_state", "_law_steps", "_law_step", "_law_told", "_law_due", "_law_again", "_law_kept"] "law" (defScope s_law) f cdv A outer s H E).nox K (defBody s_law) w_law :=
  have nd := sc_law.nd
  have hu : (A.deeper (envOfC "law" (defScope s_law) s.heap.objs.size f cdv)).units + 64 < cLine := hr.units
  (qss_cons (qs_set (i := 1) nd rfl (Or.inl rfl) (q_add q_int (q_mod (q_own c__law_cell_at (hr.mono (by decide)) (qa_cons (qv 0) (qa_cons q_int qa_nil))) q_int)))
      (qss_cons (qs_set (i := 2) nd rfl (Or.inl rfl) (q_own c__law_machine (hr.mono (by decide)) (qa_cons (qv 0) (qa_cons (qv 1) (qa_cons (q_own c__law_names (hr.mono (by decide)) (qa_cons (q_own c__law_cell_at (hr.mono (by decide)) (qa_cons (qv 0) (qa_cons q_int qa_nil))) qa_nil)) qa_nil)))))
      (qss_cons (qs_frz 1 (qs_set (i := 3) nd rfl (Or.inl rfl) (q_tup (qa_cons (qv 1) (qa_cons (q_callTy call_list2 br_list rfl T.n_list kb_list (q_ix hu (qv 2) q_int)) qa_nil)))))
      (qss_cons (qs_set (i := 4) nd rfl (Or.inl rfl) (q_own c_met (hr.mono (by decide)) (qa_cons (qv 2) qa_nil)))
      (qss_cons (qs_if (qt_w (qw_or (qt_not (q_tval (q_own c__law_list (hr.mono (by decide)) (qa_cons (qv 4) qa_nil)))) (qw_or1 (q_tcmp (kNotIn (K := K) hu) br_in q_int (qv 4) (by rfl)))))
      (qss_one (qs_ret q_bl))
      qss_nil)
      (qss_cons (qs_set (i := 5) nd rfl (Or.inl rfl) (q_own c__law_come (hr.mono (by decide)) (qa_cons (qv 2) qa_nil)))
      (qss_cons (qs_set (i := 6) nd rfl (Or.inl rfl) q_dnewK)
      (qss_cons (qs_forB (i := 4) PassesOwn.never rfl (ql_enum T.n_enumerate (pv 4)) (qg_tup rfl (qgs_cons (qg_name (i := 7) nd rfl (Or.inl rfl)) (qgs_cons (qg_name (i := 8) nd rfl (Or.inl rfl)) qgs_nil)))
      (qss_cons (qs_frz 7 (qs_dput hu (qp_name (pv 6)) (qv 8) (qv 7)))
      (qss_one (qs_if (q_tcmp (kNotIn (K := K) hu) br_in (qv 8) (qv 5) (by rfl))
      (qss_one (qs_ret q_bl))
      qss_nil))))
      (qss_cons (qs_set (i := 9) nd rfl (Or.inl rfl) (q_lst qa_nil))
      (qss_cons (qs_frz 2 (qs_for PassesOwn.never rfl (qi_list (q_ix hu (qv 2) q_int)) (qg_name (i := 10) nd rfl (Or.inl rfl))
      (qss_one (qs_if (q_tcmp (kIn (K := K) hu) br_in (q_ix hu (qv 10) q_int) (qv 6) (by rfl))
      (qss_cons (qs_if (q_tcmp (kNotIn (K := K) hu) br_in (q_ix hu (qv 10) q_int) (qv 6) (by rfl))
      (qss_one (qs_ret q_bl))
      qss_nil)
      (qss_one (qs_app (qp_name (pv 9)) (q_tup (qa_cons (q_ix hu (qv 6) (q_ix hu (qv 10) q_int)) (qa_cons (q_ix hu (qv 10) q_int) (qa_cons (q_ix hu (qv 6) (q_ix hu (qv 10) q_int)) qa_nil)))))))
      qss_nil))))
      (qss_cons (qs_set (i := 11) nd rfl (Or.inl rfl) (q_own c_trimmed (hr.mono (by decide)) (qa_cons (qv 2) qa_nil)))
      (qss_cons (qs_set (i := 12) nd rfl (Or.inl rfl) (q_tup (qa_cons (q_callB call_lenD2 br_len rfl T.n_len kb_len (qv 4)) (qa_cons (q_callTy call_list2 br_list rfl T.n_list kb_list (qv 9)) qa_nil))))
      (qss_cons (qs_if (qt_not (q_tval (q_own c__law_machine_like (hr.mono (by decide)) (qa_cons (qv 11) (qa_cons (qv 12) qa_nil)))))
      (qss_one (qs_ret q_bl))
      qss_nil)
      (qss_cons (qs_set (i := 13) nd rfl (Or.inl rfl) (q_own c_trimmed (hr.mono (by decide)) (qa_cons (qv 11) qa_nil)))
      (qss_cons (qs_if (qt_w (qw_or (qt_not (q_tval (q_own c__law_machine_like (hr.mono (by decide)) (qa_cons (qv 13) (qa_cons (qv 12) qa_nil))))) (qw_or1 (q_tcmp (kNe (K := K) hu) br_ne (q_own c_met (hr.mono (by decide)) (qa_cons (qv 11) qa_nil)) (q_listR1 T.n_list T.n_range rfl (q_callB call_lenD2 br_len rfl T.n_len kb_len (qv 4))) (nomark _)))))
      (qss_one (qs_ret q_bl))
      qss_nil)
      (qss_cons (qs_set (i := 14) nd rfl (Or.inl rfl) (q_callTy call_list2 br_list rfl T.n_list kb_list (qv 4)))
      (qss_cons (qs_clear (qp_name (pv 4)))
      (qss_cons (qs_app (qp_ix hu (qp_name (pv 11)) q_int) (q_tup (qa_cons q_int (qa_cons q_str (qa_cons q_int qa_nil)))))
      (qss_cons (qs_clear (qp_ix hu (qp_name (pv 13)) q_int))
      (qss_one (qs_ret (q_and (q_cmp (kEq (K := K) hu) br_eq (q_own c_met (hr.mono (by decide)) (qa_cons (qv 2) qa_nil)) (qv 14) (nomark _)) (q_and (q_own c__law_machine_like (hr.mono (by decide)) (qa_cons (q_own c_trimmed (hr.mono (by decide)) (qa_cons (qv 2) qa_nil)) (qa_cons (qv 12) qa_nil))) (q_one (q_cmp (kEq (K := K) hu) br_eq (qv 2) (qv 3) (nomark _))))))))))))))))))))))))))
theorem ok_law {f : Addr} {fd : FuncData} (F : Fun K "law" "law" s_law f fd) (T : Txt mg) (c__law_machine : Cal P w K mg base 2 "_law_machine" ["_law_script", "_law_many", "_law_names_here"] (liftSp K sp__law_machine)) (c_met : Cal P w K mg base 1 "met" ["m"] (liftSp K sp_met)) (c__law_come : Cal P w K mg base 1 "_law_come" ["_law_m"] (liftSp K sp__law_come)) (c_trimmed : Cal P w K mg base 2 "trimmed" ["m"] (liftSp K sp_trimmed)) (c__law_names : Cal P w K mg base 1 "_law_names" ["_law_cell"] (liftSp K sp__law_names)) (c__law_machine_like : Cal P w K mg base 2 "_law_machine_like" ["_law_found", "_law_due"] (liftSp K sp__law_machine_like)) (c__law_cell_at : Cal P w K mg base 1 "_law_cell_at" ["_law_script", "_law_k"] (liftSp K sp__law_cell_at)) (c__law_list : Cal P w K mg base 2 "_law_list" ["_law_found"] (liftSp K sp__law_list)) : FnOk P w K mg base CX0 3 f fd ["_law_script"] (liftSp K sp_law) :=
  FunQ.ok F sc_law len_law (b_law T c__law_machine c_met c__law_come c_trimmed c__law_names c__law_machine_like c__law_cell_at c__law_list) p_law
end
theorem all_mk {l : PySem.W.OpenLaw} {w : World} {K : PySem.W.Frag} {h : Heap} {mg : Str → Option Value} {fa : Addr} (X : K.In h) (G : h.Ns mainGlobals mg) (hfa : mg "law" = some (.ref fa))
    {f_met : Addr} {od_met an_met : Option Addr} {sl_met : Array (Option Value)} {oc_met kV_met dc_met pm_met cd_met ct_met : Value}
    (a_met : PySem.W.nsIn K mainGlobals "met" = some (some (.ref f_met))) (l_met : K.lookup f_met = some ⟨oc_met, od_met, .func (PySem.W.fnOf "met" "met" (defArgs s_met) (defBody s_met) (defScope s_met) .none kV_met dc_met pm_met an_met cd_met ct_met), sl_met⟩) (c_met : PySem.W.codeIn K cd_met "met" = true) (k_met : PySem.W.keepIn K (.ref f_met) = true)
    {f_trimmed : Addr} {od_trimmed an_trimmed : Option Addr} {sl_trimmed : Array (Option Value)} {oc_trimmed kV_trimmed dc_trimmed pm_trimmed cd_trimmed ct_trimmed : Value}
    (a_trimmed : PySem.W.nsIn K mainGlobals "trimmed" = some (some (.ref f_trimmed))) (l_trimmed : K.lookup f_trimmed = some ⟨oc_trimmed, od_trimmed, .func (PySem.W.fnOf "trimmed" "trimmed" (defArgs s_trimmed) (defBody s_trimmed) (defScope s_trimmed) .none kV_trimmed dc_trimmed pm_trimmed an_trimmed cd_trimmed ct_trimmed), sl_trimmed⟩) (c_trimmed : PySem.W.codeIn K cd_trimmed "trimmed" = true) (k_trimmed : PySem.W.keepIn K (.ref f_trimmed) = true)
    {f__law_whole : Addr} {od__law_whole an__law_whole : Option Addr} {sl__law_whole : Array (Option Value)} {oc__law_whole kV__law_whole dc__law_whole pm__law_whole cd__law_whole ct__law_whole : Value}
    (a__law_whole : PySem.W.nsIn K mainGlobals "_law_whole" = some (some (.ref f__law_whole))) (l__law_whole : K.lookup f__law_whole = some ⟨oc__law_whole, od__law_whole, .func (PySem.W.fnOf "_law_whole" "_law_whole" (defArgs s__law_whole) (defBody s__law_whole) (defScope s__law_whole) .none kV__law_whole dc__law_whole pm__law_whole an__law_whole cd__law_whole ct__law_whole), sl__law_whole⟩) (c__law_whole : PySem.W.codeIn K cd__law_whole "_law_whole" = true) (k__law_whole : PySem.W.keepIn K (.ref f__law_whole) = true)
    {f__law_cell_at : Addr} {od__law_cell_at an__law_cell_at : Option Addr} {sl__law_cell_at : Array (Option Value)} {oc__law_cell_at kV__law_cell_at dc__law_cell_at pm__law_cell_at cd__law_cell_at ct__law_cell_at : Value}
    (a__law_cell_at : PySem.W.nsIn K mainGlobals "_law_cell_at" = some (some (.ref f__law_cell_at))) (l__law_cell_at : K.lookup f__law_cell_at = some ⟨oc__law_cell_at, od__law_cell_at, .func (PySem.W.fnOf "_law_cell_at" "_law_cell_at" (defArgs s__law_cell_at) (defBody s__law_cell_at) (defScope s__law_cell_at) .none kV__law_cell_at dc__law_cell_at pm__law_cell_at an__law_cell_at cd__law_cell_at ct__law_cell_at), sl__law_cell_at⟩) (c__law_cell_at : PySem.W.codeIn K cd__law_cell_at "_law_cell_at" = true) (k__law_cell_at : PySem.W.keepIn K (.ref f__law_cell_at) = true)
    {f__law_names : Addr} {od__law_names an__law_names : Option Addr} {sl__law_names : Array (Option Value)} {oc__law_names kV__law_names dc__law_names pm__law_names cd__law_names ct__law_names : Value}
    (a__law_names : PySem.W.nsIn K mainGlobals "_law_names" = some (some (.ref f__law_names))) (l__law_names : K.lookup f__law_names = some ⟨oc__law_names, od__law_names, .func (PySem.W.fnOf "_law_names" "_law_names" (defArgs s__law_names) (defBody s__law_names) (defScope s__law_names) .none kV__law_names dc__law_names pm__law_names an__law_names cd__law_names ct__law_names), sl__law_names⟩) (c__law_names : PySem.W.codeIn K cd__law_names "_law_names" = true) (k__law_names : PySem.W.keepIn K (.ref f__law_names) = true)
    {f__law_machine : Addr} {od__law_machine an__law_machine : Option Addr} {sl__law_machine : Array (Option Value)} {oc__law_machine kV__law_machine dc__law_machine pm__law_machine cd__law_machine ct__law_machine : Value}
    (a__law_machine : PySem.W.nsIn K mainGlobals "_law_machine" = some (some (.ref f__law_machine))) (l__law_machine : K.lookup f__law_machine = some ⟨oc__law_machine, od__law_machine, .func (PySem.W.fnOf "_law_machine" "_law_machine" (defArgs s__law_machine) (defBody s__law_machine) (defScope s__law_machine) .none kV__law_machine dc__law_machine pm__law_machine an__law_machine cd__law_machine ct__law_machine), sl__law_machine⟩) (c__law_machine : PySem.W.codeIn K cd__law_machine "_law_machine" = true) (k__law_machine : PySem.W.keepIn K (.ref f__law_machine) = true)
    {f__law_come : Addr} {od__law_come an__law_come : Option Addr} {sl__law_come : Array (Option Value)} {oc__law_come kV__law_come dc__law_come pm__law_come cd__law_come ct__law_come : Value}
    (a__law_come : PySem.W.nsIn K mainGlobals "_law_come" = some (some (.ref f__law_come))) (l__law_come : K.lookup f__law_come = some ⟨oc__law_come, od__law_come, .func (PySem.W.fnOf "_law_come" "_law_come" (defArgs s__law_come) (defBody s__law_come) (defScope s__law_come) .none kV__law_come dc__law_come pm__law_come an__law_come cd__law_come ct__law_come), sl__law_come⟩) (c__law_come : PySem.W.codeIn K cd__law_come "_law_come" = true) (k__law_come : PySem.W.keepIn K (.ref f__law_come) = true)
    {f__law_list : Addr} {od__law_list an__law_list : Option Addr} {sl__law_list : Array (Option Value)} {oc__law_list kV__law_list dc__law_list pm__law_list cd__law_list ct__law_list : Value}
    (a__law_list : PySem.W.nsIn K mainGlobals "_law_list" = some (some (.ref f__law_list))) (l__law_list : K.lookup f__law_list = some ⟨oc__law_list, od__law_list, .func (PySem.W.fnOf "_law_list" "_law_list" (defArgs s__law_list) (defBody s__law_list) (defScope s__law_list) .none kV__law_list dc__law_list pm__law_list an__law_list cd__law_list ct__law_list), sl__law_list⟩) (c__law_list : PySem.W.codeIn K cd__law_list "_law_list" = true) (k__law_list : PySem.W.keepIn K (.ref f__law_list) = true)
    {f__law_machine_like : Addr} {od__law_machine_like an__law_machine_like : Option Addr} {sl__law_machine_like : Array (Option Value)} {oc__law_machine_like kV__law_machine_like dc__law_machine_like pm__law_machine_like cd__law_machine_like ct__law_machine_like : Value}
    (a__law_machine_like : PySem.W.nsIn K mainGlobals "_law_machine_like" = some (some (.ref f__law_machine_like))) (l__law_machine_like : K.lookup f__law_machine_like = some ⟨oc__law_machine_like, od__law_machine_like, .func (PySem.W.fnOf "_law_machine_like" "_law_machine_like" (defArgs s__law_machine_like) (defBody s__law_machine_like) (defScope s__law_machine_like) .none kV__law_machine_like dc__law_machine_like pm__law_machine_like an__law_machine_like cd__law_machine_like ct__law_machine_like), sl__law_machine_like⟩) (c__law_machine_like : PySem.W.codeIn K cd__law_machine_like "_law_machine_like" = true) (k__law_machine_like : PySem.W.keepIn K (.ref f__law_machine_like) = true)
    {f_law : Addr} {od_law an_law : Option Addr} {sl_law : Array (Option Value)} {oc_law kV_law dc_law pm_law cd_law ct_law : Value}
    (a_law : PySem.W.nsIn K mainGlobals "law" = some (some (.ref f_law))) (l_law : K.lookup f_law = some ⟨oc_law, od_law, .func (PySem.W.fnOf "law" "law" (defArgs s_law) (defBody s_law) (defScope s_law) .none kV_law dc_law pm_law an_law cd_law ct_law), sl_law⟩) (c_law : PySem.W.codeIn K cd_law "law" = true) (k_law : PySem.W.keepIn K (.ref f_law) = true)
    (n_bool : PySem.W.nsIn K mainGlobals "bool" = some none)
    (n_enumerate : PySem.W.nsIn K mainGlobals "enumerate" = some none)
    (n_int : PySem.W.nsIn K mainGlobals "int" = some none)
    (n_isinstance : PySem.W.nsIn K mainGlobals "isinstance" = some none)
    (n_len : PySem.W.nsIn K mainGlobals "len" = some none)
    (n_list : PySem.W.nsIn K mainGlobals "list" = some none)
    (n_range : PySem.W.nsIn K mainGlobals "range" = some none)
    (n_sorted : PySem.W.nsIn K mainGlobals "sorted" = some none)
    (n_tuple : PySem.W.nsIn K mainGlobals "tuple" = some none)
    (n_zip : PySem.W.nsIn K mainGlobals "zip" = some none)
    : ∃ fd : FuncData, (∀ (s : Shared) (v : Value), BindsTo s fd ⟨[v], []⟩ [("_law_script", v)]) ∧ ∀ base : Heap, K.In base → base.Ns mainGlobals mg → FnOk l.prog w K mg base CX0 3 fa fd ["_law_script"] (liftSp K sp_law) := by
  have e := hfa.symm.trans (PySem.W.mg_of X G a_law)
  cases e
  have T : Txt mg := ⟨PySem.W.mg_none_of X G n_bool, PySem.W.mg_none_of X G n_enumerate, PySem.W.mg_none_of X G n_int, PySem.W.mg_none_of X G n_isinstance, PySem.W.mg_none_of X G n_len, PySem.W.mg_none_of X G n_list, PySem.W.mg_none_of X G n_range, PySem.W.mg_none_of X G n_sorted, PySem.W.mg_none_of X G n_tuple, PySem.W.mg_none_of X G n_zip⟩
  have F_met := fun_mk (st := s_met) l_met c_met k_met
  have F_trimmed := fun_mk (st := s_trimmed) l_trimmed c_trimmed k_trimmed
  have F__law_whole := fun_mk (st := s__law_whole) l__law_whole c__law_whole k__law_whole
  have F__law_cell_at := fun_mk (st := s__law_cell_at) l__law_cell_at c__law_cell_at k__law_cell_at
  have F__law_names := fun_mk (st := s__law_names) l__law_names c__law_names k__law_names
  have F__law_machine := fun_mk (st := s__law_machine) l__law_machine c__law_machine k__law_machine
  have F__law_come := fun_mk (st := s__law_come) l__law_come c__law_come k__law_come
  have F__law_list := fun_mk (st := s__law_list) l__law_list c__law_list k__law_list
  have F__law_machine_like := fun_mk (st := s__law_machine_like) l__law_machine_like c__law_machine_like k__law_machine_like
  have F_law := fun_mk (st := s_law) l_law c_law k_law
  refine ⟨PySem.W.fnOf "law" "law" (defArgs s_law) (defBody s_law) (defScope s_law) .none kV_law dc_law pm_law an_law cd_law ct_law, fun s v => .of_eq rfl, fun base _ _ => ?_⟩
  have C_met : Cal l.prog w K mg base 1 "met" ["m"] (liftSp K sp_met) := F_met.cal (PySem.W.mg_of X G a_met) (ok_met F_met T ) fun _ _ _ _ _ _ us hl => match us, hl with | [_], _ => rfl
  have C__law_whole : Cal l.prog w K mg base 1 "_law_whole" ["_law_found"] (liftSp K sp__law_whole) := F__law_whole.cal (PySem.W.mg_of X G a__law_whole) (ok__law_whole F__law_whole T ) fun _ _ _ _ _ _ us hl => match us, hl with | [_], _ => rfl
  have C__law_cell_at : Cal l.prog w K mg base 1 "_law_cell_at" ["_law_script", "_law_k"] (liftSp K sp__law_cell_at) := F__law_cell_at.cal (PySem.W.mg_of X G a__law_cell_at) (ok__law_cell_at F__law_cell_at T ) fun _ _ _ _ _ _ us hl => match us, hl with | [_, _], _ => rfl
  have C__law_names : Cal l.prog w K mg base 1 "_law_names" ["_law_cell"] (liftSp K sp__law_names) := F__law_names.cal (PySem.W.mg_of X G a__law_names) (ok__law_names F__law_names T ) fun _ _ _ _ _ _ us hl => match us, hl with | [_], _ => rfl
  have C__law_come : Cal l.prog w K mg base 1 "_law_come" ["_law_m"] (liftSp K sp__law_come) := F__law_come.cal (PySem.W.mg_of X G a__law_come) (ok__law_come F__law_come T ) fun _ _ _ _ _ _ us hl => match us, hl with | [_], _ => rfl
  have C_trimmed : Cal l.prog w K mg base 2 "trimmed" ["m"] (liftSp K sp_trimmed) := F_trimmed.cal (PySem.W.mg_of X G a_trimmed) (ok_trimmed F_trimmed T C_met) fun _ _ _ _ _ _ us hl => match us, hl with | [_], _ => rfl
  have C__law_machine : Cal l.prog w K mg base 2 "_law_machine" ["_law_script", "_law_many", "_law_names_here"] (liftSp K sp__law_machine) := F__law_machine.cal (PySem.W.mg_of X G a__law_machine) (ok__law_machine F__law_machine T C__law_cell_at) fun _ _ _ _ _ _ us hl => match us, hl with | [_, _, _], _ => rfl
  have C__law_list : Cal l.prog w K mg base 2 "_law_list" ["_law_found"] (liftSp K sp__law_list) := F__law_list.cal (PySem.W.mg_of X G a__law_list) (ok__law_list F__law_list T C__law_whole) fun _ _ _ _ _ _ us hl => match us, hl with | [_], _ => rfl
  have C__law_machine_like : Cal l.prog w K mg base 2 "_law_machine_like" ["_law_found", "_law_due"] (liftSp K sp__law_machine_like) := F__law_machine_like.cal (PySem.W.mg_of X G a__law_machine_like) (ok__law_machine_like F__law_machine_like T C__law_whole) fun _ _ _ _ _ _ us hl => match us, hl with | [_, _], _ => rfl
  exact ok_law F_law T C__law_machine C_met C__law_come C_trimmed C__law_names C__law_machine_like C__law_cell_at C__law_list
theorem walk {l : PySem.W.OpenLaw} {q : Program} {loose : List Str} {XP : (Str → Option Value) → Heap → Prop} {YP : World → Heap → Prop} {d : DefRec} {K : Params → PySem.W.Frag} (hn : l.most = some 63) (hdf : d.params.defaults = [])
    (hY : ∀ (w : World) (h : Heap), YP w h → (K w.params).In h)
    (F : ∀ (w : World) (mg : Str → Option Value) (fa : Addr) (h : Heap), (K w.params).In h → h.Ns mainGlobals mg → mg d.name = some (.ref fa) →
      ∃ fd : FuncData, (∀ (s : Shared) (u : Value), BindsTo s fd ⟨[u], []⟩ [("_law_script", u)]) ∧ ∀ base : Heap, (K w.params).In base → base.Ns mainGlobals mg → FnOk l.prog w (K w.params) mg base CX0 3 fa fd ["_law_script"] (liftSp (K w.params) sp_law)) :
    PySem.W.WalkO q loose XP YP l.row.toRowW d [] (fun f vs => PySem.call f vs) :=
  L2.walk_of (n := 63) (k := 3) (x := "_law_script") (CX := fun _ => CX0) (sp := fun w => liftSp (K w.params) sp_law) hn (by decide) hdf ⟨rfl, by decide, by decide⟩ hY F (fun w H a ns hl hO hS => law_lift hl hS) fun _ _ _ _ _ z => z
end L2.Q.Law
open PySem PySem.W PyProof.Rows
set_option maxRecDepth 100000 in
set_option maxHeartbeats 0 in
theorem PySem.Challenge.cw_kinlook_k06_states_met_holds : PySem.Challenge.rw_kinlook_k06_states_met.Holds := by
  w_on; o_law; k_head; (case hw => w_witness2)
  k_fill
  refine L2.Q.Law.walk (l := PySem.Challenge.rw_kinlook_k06_states_met) rfl rfl (fun w h Y => PySem.W.kIn_of Y) ?F
  case F =>
    intro w mg fa h KX G hmg
    refine' L2.Q.Law.all_mk KX G hmg ?a_met ?l_met ?c_met ?k_met ?a_trimmed ?l_trimmed ?c_trimmed ?k_trimmed ?a__law_whole ?l__law_whole ?c__law_whole ?k__law_whole ?a__law_cell_at ?l__law_cell_at ?c__law_cell_at ?k__law_cell_at ?a__law_names ?l__law_names ?c__law_names ?k__law_names ?a__law_machine ?l__law_machine ?c__law_machine ?k__law_machine ?a__law_come ?l__law_come ?c__law_come ?k__law_come ?a__law_list ?l__law_list ?c__law_list ?k__law_list ?a__law_machine_like ?l__law_machine_like ?c__law_machine_like ?k__law_machine_like ?a_law ?l_law ?c_law ?k_law ?n_bool ?n_enumerate ?n_int ?n_isinstance ?n_len ?n_list ?n_range ?n_sorted ?n_tuple ?n_zip
    (case a_met => k_is)
    (case l_met => k_is)
    (case c_met => k_is)
    (case k_met => k_is)
    (case a_trimmed => k_is)
    (case l_trimmed => k_is)
    (case c_trimmed => k_is)
    (case k_trimmed => k_is)
    (case a__law_whole => k_is)
    (case l__law_whole => k_is)
    (case c__law_whole => k_is)
    (case k__law_whole => k_is)
    (case a__law_cell_at => k_is)
    (case l__law_cell_at => k_is)
    (case c__law_cell_at => k_is)
    (case k__law_cell_at => k_is)
    (case a__law_names => k_is)
    (case l__law_names => k_is)
    (case c__law_names => k_is)
    (case k__law_names => k_is)
    (case a__law_machine => k_is)
    (case l__law_machine => k_is)
    (case c__law_machine => k_is)
    (case k__law_machine => k_is)
    (case a__law_come => k_is)
    (case l__law_come => k_is)
    (case c__law_come => k_is)
    (case k__law_come => k_is)
    (case a__law_list => k_is)
    (case l__law_list => k_is)
    (case c__law_list => k_is)
    (case k__law_list => k_is)
    (case a__law_machine_like => k_is)
    (case l__law_machine_like => k_is)
    (case c__law_machine_like => k_is)
    (case k__law_machine_like => k_is)
    (case a_law => k_is)
    (case l_law => k_is)
    (case c_law => k_is)
    (case k_law => k_is)
    (case n_bool => k_is)
    (case n_enumerate => k_is)
    (case n_int => k_is)
    (case n_isinstance => k_is)
    (case n_len => k_is)
    (case n_list => k_is)
    (case n_range => k_is)
    (case n_sorted => k_is)
    (case n_tuple => k_is)
    (case n_zip => k_is)
