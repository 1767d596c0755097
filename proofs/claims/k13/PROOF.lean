import PyProof.Rows.All
import Wide.All
import OpenK.AllK
import Wide.FinOn
import PyProof.EqAt
import PyProof.EqKinds
import PyProof.TupleCall
import PySem.SetTable
import KE.KRevIter
import KE.KUnpack
import Lean
import PySem.Challenge.RW_fencefield_k13_turned
set_option Elab.async false
section
set_option Elab.async false
set_option linter.all false
set_option maxRecDepth 100000
/-! THE HAND LAYER, for ints, bools, texts, own classes, LISTS and tuples (index, slices, in, append, pop ..), calls, loops. Paste it whole ahead of your own text; what your proof does not reach may be deleted. -/
namespace L2
open PySem PySem.Spec PyProof.Rows

/-- a key: an int or a str -/
abbrev Key := Sum Int Str
def keyIs : Key → Value → Bool
  | .inl k, v => Value.isInt k v
  | .inr x, v => Value.isStrOf x v
def keyH (w : World) : Key → Int
  | .inl k => hashInt k
  | .inr x => hashStr w x
theorem keyIs_shape : ∀ {k : Key} {v : Value}, keyIs k v = true → (∃ i t, k = Sum.inl i ∧ v = Value.int i t) ∨ (∃ x t, k = Sum.inr x ∧ v = Value.str x t)
  | .inl i, v, h => by
    obtain ⟨t, e⟩ := Value.isInt_shape (k := i) (v := v) h
    exact .inl ⟨i, t, rfl, e⟩
  | .inr x, v, h => by
    obtain ⟨t, e⟩ := Value.isStrOf_shape (x := x) (v := v) h
    exact .inr ⟨x, t, rfl, e⟩
theorem key_ll (a b : Int) : decide ((Sum.inl a : Key) = Sum.inl b) = (a == b) := by
  by_cases e : a = b
  · subst e; simp
  · have h : ¬ (Sum.inl a : Key) = Sum.inl b := fun q => e (Sum.inl.inj q)
    rw [decide_eq_false h]
    exact (beq_eq_false_iff_ne.mpr e).symm
theorem key_rr (a b : Str) : decide ((Sum.inr a : Key) = Sum.inr b) = decide (a = b) := by
  by_cases e : a = b
  · subst e; simp
  · have h : ¬ (Sum.inr a : Key) = Sum.inr b := fun q => e (Sum.inr.inj q)
    rw [decide_eq_false h, decide_eq_false e]
theorem key_lr (a : Int) (b : Str) : decide ((Sum.inl a : Key) = Sum.inr b) = false := decide_eq_false (fun q => nomatch q)
theorem key_rl (a : Str) (b : Int) : decide ((Sum.inr a : Key) = Sum.inl b) = false := decide_eq_false (fun q => nomatch q)

def mixKind (prog : Program) (w : World) : PySem.KeyKind prog w Key where
  is := keyIs
  hash := keyH w
  inj := fun v a b ha hb => by
    rcases keyIs_shape ha with ⟨i, t, rfl, rfl⟩ | ⟨x, t, rfl, rfl⟩
    · rcases keyIs_shape hb with ⟨j, u, rfl, e⟩ | ⟨y, u, rfl, e⟩
      · injection e with e1 _; rw [e1]
      · exact nomatch e
    · rcases keyIs_shape hb with ⟨j, u, rfl, e⟩ | ⟨y, u, rfl, e⟩
      · exact nomatch e
      · injection e with e1 _; rw [e1]
  byValue := fun k v h => by
    rcases keyIs_shape h with ⟨i, t, rfl, rfl⟩ | ⟨x, t, rfl, rfl⟩ <;> rfl
  pyHash := fun hv h => by
    rcases keyIs_shape hv with ⟨i, t, rfl, rfl⟩ | ⟨x, t, rfl, rfl⟩
    · exact wpAny_pyHash_int h
    · exact wpAny_pyHash_str h
  eqBool := fun hu hv h => by
    rcases keyIs_shape hu with ⟨i, t, rfl, rfl⟩ | ⟨x, t, rfl, rfl⟩
    · rcases keyIs_shape hv with ⟨j, u, rfl, rfl⟩ | ⟨y, u, rfl, rfl⟩
      · rw [key_ll] at h; exact wpAny_eqBool_int h
      · rw [key_lr] at h; exact SeqAt.EqAt.int_str i t y u _ _ _ _ h
    · rcases keyIs_shape hv with ⟨j, u, rfl, rfl⟩ | ⟨y, u, rfl, rfl⟩
      · rw [key_rl] at h; exact SeqAt.EqAt.str_int x t j u _ _ _ _ h
      · rw [key_rr] at h; exact wpAny_eqBool_str h
  «strs» := fun k x t v h => by
    rcases keyIs_shape h with ⟨i, u, rfl, e⟩ | ⟨y, u, rfl, e⟩
    · exact nomatch e
    · injection e with e1 _
      subst e1
      cases v <;> rfl

end L2

namespace L2
open PySem PySem.Spec PyProof.Rows

/-- a value, without the heap -/
inductive V where
  | non | bl (b : Bool) | int (i : Int) | str (x : Str) | byt (b : Array UInt8) | flt (b : UInt64) | ref (a : Addr) | ty (n : String)
  deriving DecidableEq

def RelV : V → Value → Prop
  | .non, u => u = Value.none
  | .bl b, u => u = Value.bool b
  | .int i, u => ∃ t, u = Value.int i t
  | .str x, u => ∃ t, u = Value.str x t
  | .byt b, u => ∃ t, u = Value.bytes b t
  | .flt b, u => ∃ t, u = Value.float b t
  | .ref a, u => u = Value.ref a
  | .ty n, u => u = Value.type n

abbrev Vals : List V → List Value → Prop := Paired RelV
theorem Vals.length {xs : List V} {us : List Value} (r : Vals xs us) : xs.length = us.length := Paired.length r
theorem Vals.get : ∀ {xs : List V} {us : List Value} {i : Nat} {x : V}, Vals xs us → xs[i]? = some x → ∃ u, us[i]? = some u ∧ RelV x u
  | _, _, _, _, .nil, e => by simp at e
  | _, _, 0, _, .cons r _, e => by simp at e; subst e; exact ⟨_, rfl, r⟩
  | _, _, i + 1, x, .cons _ t, e => by
    obtain ⟨u, h1, h2⟩ := Vals.get (i := i) (x := x) t (by simpa using e)
    exact ⟨u, by simpa using h1, h2⟩
theorem Vals.set {x : V} {u : Value} (r : RelV x u) : ∀ {xs : List V} {us : List Value} (i : Nat), Vals xs us → Vals (xs.set i x) (us.set i u)
  | _, _, _, .nil => .nil
  | _, _, 0, .cons _ t => .cons r t
  | _, _, i + 1, .cons q t => .cons q (Vals.set r i t)
theorem Vals.append : ∀ {xs ys : List V} {us ws : List Value}, Vals xs us → Vals ys ws → Vals (xs ++ ys) (us ++ ws)
  | _, _, _, _, .nil, s => s
  | _, _, _, _, .cons r t, s => .cons r (Vals.append t s)
theorem Vals.take : ∀ {xs : List V} {us : List Value} (n : Nat), Vals xs us → Vals (xs.take n) (us.take n)
  | _, _, 0, _ => .nil
  | _, _, _ + 1, .nil => .nil
  | _, _, n + 1, .cons r t => .cons r (Vals.take n t)
theorem Vals.drop : ∀ {xs : List V} {us : List Value} (n : Nat), Vals xs us → Vals (xs.drop n) (us.drop n)
  | _, _, 0, r => r
  | _, _, _ + 1, .nil => .nil
  | _, _, n + 1, .cons _ t => Vals.drop n t
def RelO : Option V → Option Value → Prop
  | some v, some u => RelV v u
  | none, none => True
  | _, _ => False
def KV {κ : Type} : List (κ × V) → List (κ × Value) → Prop := Paired fun (p : κ × V) (q : κ × Value) => p.1 = q.1 ∧ RelV p.2 q.2

/-- a key of a dict (00_mix): an int or a text -/
def kV : Key → V
  | .inl i => .int i
  | .inr x => .str x

/-- what stands at a tracked address -/
inductive HO where
  /-- a list -/
  | lst (xs : List V)
  /-- a tuple (never changes) -/
  | tup (xs : List V)
  /-- a dict whose keys are ints and texts; one whose keys are tuples of ints and texts (the empty one is both) -/
  | dK (kvs : List (Key × V)) | dT (kvs : List (List Key × V))
  /-- a set of ints: its members, its size -/
  | set (S : Int → Bool) (n : Nat)
  /-- an instance of the class at C, its dict at dx, its attributes -/
  | ins (C dx : Addr) (fs : List (Str × V))
  /-- the dict of the instance at x -/
  | own (x : Addr)
  /-- the dict of an exception -/
  | xd (fs : List (Str × V))
  /-- a bound method, f of x -/
  | met (f x : Addr)
  /-- a range object lo, lo + 1, .. below hi -/
  | rng (lo hi : Int)
  /-- a thing that is known to the object (the script; a dict while a loop walks it): read, never written while it is so -/
  | frz (o : Obj) (u : HO)
  /-- a code object's table -/
  | tbl (ps : Array Value)
  /-- any other thing, by what is true of its one object (a def of one's own: SetO a S n := HO.ext fun h => ..) -/
  | ext (φ : Heap → Prop)

abbrev Hp := Addr → Option HO
def upd (H : Hp) (a : Addr) (o : HO) : Hp := fun b => if b = a then some o else H b
theorem upd_same {H : Hp} {a : Addr} {o : HO} : upd H a o a = some o := by unfold upd; rw [if_pos rfl]
theorem upd_ne {H : Hp} {a b : Addr} {o : HO} (h : b ≠ a) : upd H a o b = H b := by unfold upd; rw [if_neg h]
/-- two objects of different content stand apart -/
theorem ne_of {H : Hp} {a b : Addr} {o u : HO} (h : H a = some o) (h' : H b = some u) (d : o ≠ u) : a ≠ b := by
  intro e; subst e; rw [h] at h'; exact d (Option.some.inj h')
theorem ne_of_none {H : Hp} {a b : Addr} {o : HO} (h : H a = some o) (h' : H b = none) : a ≠ b := by
  intro e; subst e; rw [h] at h'; cases h'

section
variable (P : Program) (w : World)
def ObjOk (H : Hp) (h : Heap) (a : Addr) : HO → Prop
  | .lst xs => xs.length ≤ sizeLine ∧ ∃ (its : List Value) (n : Nat), Vals xs its ∧ h.get? a = some { cls := .type "list", data := .seq its.toArray n }
  | .tup xs => xs.length ≤ sizeLine ∧ ∃ its : List Value, Vals xs its ∧ IsTup h a its.toArray
  | .dK kvs => kvs.length ≤ sizeLine ∧ (a == sysModules) = false ∧ ∃ vs, KV kvs vs ∧ h.DictOf (mixKind P w) a vs
  | .dT kvs => kvs.length ≤ sizeLine ∧ (a == sysModules) = false ∧ ∃ xs : List (List Key × Addr × Value),
      Paired (fun (p : List Key × V) (q : List Key × Addr × Value) => p.1 = q.1 ∧ H q.2.1 = some (.tup (p.1.map kV)) ∧ RelV p.2 q.2.2) kvs xs ∧
      ∃ o es ep, h.get? a = some o ∧ o.ExactDict ∧ o.data = .dict es ep ∧ es.toList = xs.map (entryOfKey (tupleKind (mixKind P w))) ∧ (xs.map (·.1)).Nodup
  | .set S n => h.SetOf (intKind P w) a S n
  | .ins C dx fs => H dx = some (.own a) ∧ fs.length ≤ 1000 ∧ dx ≠ a ∧ h.get? a = some (PySem.W.instObj C dx) ∧
      ∃ mA, h.Ns1 dx mA ∧ (∀ f, RelO (fs.lookup f) (mA f)) ∧ PySem.Within mA (fs.map (·.1))
  | .own _ => ∃ o, h.get? a = some o
  | .xd fs => ∃ mA, h.Ns1 a mA ∧ ∀ f, RelO (fs.lookup f) (mA f)
  | .rng lo hi => ∃ t u v, h.get? a = some { cls := .type "range", data := .fields #[.int lo t, .int hi u, .int 1 v] }
  | .frz o u => h.get? a = some o ∧ ObjOk H h a u
  | .tbl ps => h.get? a = some { cls := .none, data := .fields ps }
  | .met f x => h.get? a = some (PySem.W.methodObj (.ref f) (.ref x))
  | .ext φ => φ h ∧ (∃ o, h.get? a = some o) ∧ ∀ h1 h2 : Heap, φ h1 → (∀ o, h1.get? a = some o → h2.get? a = some o) → φ h2
/-- the abstract heap is held -/
def HOk (H : Hp) (h : Heap) : Prop := ∀ a o, H a = some o → ObjOk P w H h a o
end

section
variable {P : Program} {w : World} {H H' : Hp} {h h' : Heap} {a : Addr} {o : HO}
theorem ObjOk.lt (x : ObjOk P w H h a o) : a < h.objs.size := by
  cases o with
  | lst xs => obtain ⟨_, _, _, _, e⟩ := x; exact Heap.lt_size e
  | tup xs => obtain ⟨_, _, _, p⟩ := x; exact p.lt
  | dK kvs => obtain ⟨_, _, _, _, o, _, _, e, _⟩ := x; exact Heap.lt_size e
  | dT kvs => obtain ⟨_, _, _, _, o, _, _, e, _⟩ := x; exact Heap.lt_size e
  | set S n => obtain ⟨o, _, _, _, e, _⟩ := x; exact Heap.lt_size e
  | ins C dx fs => obtain ⟨_, _, _, e, _⟩ := x; exact Heap.lt_size e
  | own y => obtain ⟨_, e⟩ := x; exact Heap.lt_size e
  | xd fs => obtain ⟨_, ⟨_, _, _, e, _⟩, _⟩ := x; exact Heap.lt_size e
  | rng lo hi => obtain ⟨_, _, _, e⟩ := x; exact Heap.lt_size e
  | frz ob u => obtain ⟨e, _⟩ := x; exact Heap.lt_size e
  | tbl ps => exact Heap.lt_size (show h.get? a = some _ from x)
  | met f y => exact Heap.lt_size (show h.get? a = some _ from x)
  | ext φ => obtain ⟨_, ⟨_, e⟩, _⟩ := x; exact Heap.lt_size e
theorem Paired.mapP {α β : Type} {F G : α → β → Prop} : ∀ {l₁ : List α} {l₂ : List β}, Paired F l₁ l₂ → (∀ a b, F a b → G a b) → Paired G l₁ l₂
  | _, _, .nil, _ => .nil
  | _, _, .cons r t, f => .cons (f _ _ r) (Paired.mapP t f)
/-- what an object's description leans on: its own object, its own dict, the tuples -/
theorem ObjOk.stay (x : ObjOk P w H h a o) (k : ∀ b u, (b = a ∨ H b = some (.own a)) → h.get? b = some u → h'.get? b = some u)
    (ho : ∀ b, H b = some (.own a) → H' b = some (.own a)) (ht : ∀ b xs, H b = some (.tup xs) → H' b = some (.tup xs)) : ObjOk P w H' h' a o := by
  induction o with
  | lst xs => obtain ⟨z, its, n, r, e⟩ := x; exact ⟨z, its, n, r, k _ _ (.inl rfl) e⟩
  | tup xs => obtain ⟨z, its, r, ob, e, c⟩ := x; exact ⟨z, its, r, ob, k _ _ (.inl rfl) e, c⟩
  | dK kvs => obtain ⟨z, y, vs, r, ob, es, ep, e, c⟩ := x; exact ⟨z, y, vs, r, ob, es, ep, k _ _ (.inl rfl) e, c⟩
  | dT kvs =>
    obtain ⟨z, y, xs, r, ob, es, ep, e, c⟩ := x
    exact ⟨z, y, xs, Paired.mapP r fun p q z => ⟨z.1, ht _ _ z.2.1, z.2.2⟩, ob, es, ep, k _ _ (.inl rfl) e, c⟩
  | set S n => obtain ⟨ob, es, ep, t, e, c⟩ := x; exact ⟨ob, es, ep, t, k _ _ (.inl rfl) e, c⟩
  | ins C dx fs =>
    obtain ⟨d, z, ne, e, mA, ⟨od, es, ep, e2, c⟩, r⟩ := x
    exact ⟨ho _ d, z, ne, k _ _ (.inl rfl) e, mA, ⟨od, es, ep, k _ _ (.inr d) e2, c⟩, r⟩
  | own y => obtain ⟨ob, e⟩ := x; exact ⟨ob, k _ _ (.inl rfl) e⟩
  | xd fs => obtain ⟨mA, ⟨od, es, ep, e, c⟩, r⟩ := x; exact ⟨mA, ⟨od, es, ep, k _ _ (.inl rfl) e, c⟩, r⟩
  | rng lo hi => obtain ⟨t, u, v, e⟩ := x; exact ⟨t, u, v, k _ _ (.inl rfl) e⟩
  | frz ob u ih => obtain ⟨e, q⟩ := x; exact ⟨k _ _ (.inl rfl) e, ih q⟩
  | tbl ps =>
    have e : h.get? a = some { cls := .none, data := .fields ps } := x
    show h'.get? a = some { cls := .none, data := .fields ps }
    exact k a _ (.inl rfl) e
  | met f y =>
    have e : h.get? a = some (PySem.W.methodObj (.ref f) (.ref y)) := x
    show h'.get? a = some (PySem.W.methodObj (.ref f) (.ref y))
    exact k a _ (.inl rfl) e
  | ext φ => obtain ⟨p, ⟨o, e⟩, st⟩ := x; exact ⟨st _ _ p fun o q => k _ _ (.inl rfl) q, ⟨o, k _ _ (.inl rfl) e⟩, st⟩
theorem HOk.lt (x : HOk P w H h) (e : H a = some o) : a < h.objs.size := (x a o e).lt
theorem HOk.fresh (x : HOk P w H h) (e : h.objs.size ≤ a) : H a = none := by
  cases q : H a with
  | none => rfl
  | some u => exact absurd (Nat.lt_of_lt_of_le (x.lt q) e) (Nat.lt_irrefl _)
/-- every object of the heap is kept -/
theorem HOk.kept (x : HOk P w H h) (k : ∀ b u, h.get? b = some u → h'.get? b = some u) : HOk P w H h' := fun a o e =>
  (x a o e).stay (fun b u _ q => k b u q) (fun _ q => q) fun _ _ q => q
/-- a new object is laid and tracked -/
theorem HOk.laid (x : HOk P w H h) (k : ∀ b u, h.get? b = some u → h'.get? b = some u) (hp : h.objs.size ≤ a) (new : ObjOk P w (upd H a o) h' a o) : HOk P w (upd H a o) h' := fun b u e => by
  have hn := x.fresh hp
  by_cases hb : b = a
  · subst hb; rw [upd_same] at e; cases e; exact new
  · rw [upd_ne hb] at e
    exact (x b u e).stay (fun c v _ q => k c v q) (fun c q => by rw [upd_ne (ne_of_none q hn)]; exact q) fun c xs q => by rw [upd_ne (ne_of_none q hn)]; exact q
end

/-- what may be read as u: it is u, or a known u -/
def Rd (H : Hp) (a : Addr) (u : HO) : Prop := H a = some u ∨ ∃ o, H a = some (.frz o u)
theorem Rd.ok {P : Program} {w : World} {H : Hp} {h : Heap} {a : Addr} {u : HO} (r : Rd H a u) (x : HOk P w H h) : ObjOk P w H h a u := by
  rcases r with r | ⟨o, r⟩
  · exact x a u r
  · obtain ⟨_, q⟩ := x a _ r
    exact q
/-- what may be written -/
def Mut : Option HO → Prop
  | some (.lst _) => True
  | some (.dK _) => True
  | some (.dT _) => True
  | some (.set _ _) => True
  | some (.ins _ _ _) => True
  | some (.ext _) => True
  | _ => False
section
variable {P : Program} {w : World} {H : Hp} {h h' : Heap} {x e : Addr} {o' : HO}
/-- the object at e is changed: x itself, or the dict of the instance x -/
theorem HOk.write (ok : HOk P w H h) (mu : Mut (H x)) (he : e = x ∨ H e = some (.own x)) (k : ∀ b u, b ≠ e → h.get? b = some u → h'.get? b = some u) (heo : ∃ u, h'.get? e = some u)
    (new : ObjOk P w (upd H x o') h' x o') : HOk P w (upd H x o') h' := fun b u q => by
  have nown : ∀ c y, H c = some (.own y) → c ≠ x := fun c y r z => by subst z; rw [r] at mu; exact mu
  have ntup : ∀ c xs, H c = some (.tup xs) → c ≠ x := fun c xs r z => by subst z; rw [r] at mu; exact mu
  by_cases hb : b = x
  · subst hb; rw [upd_same] at q; cases q; exact new
  · rw [upd_ne hb] at q
    by_cases hbe : b = e
    · have q' : H b = some (.own x) := by
        rcases he with z | z
        · exact absurd (hbe.trans z) hb
        · rw [hbe]; exact z
      rw [q] at q'; cases q'
      obtain ⟨v, hv⟩ := heo
      exact ⟨v, by rw [hbe]; exact hv⟩
    · refine (ok b u q).stay (fun c v hc r => k c v ?_ r) (fun c r => by rw [upd_ne (nown c b r)]; exact r) fun c xs r => by rw [upd_ne (ntup c xs r)]; exact r
      rcases hc with rfl | hc
      · exact hbe
      · rintro rfl
        rcases he with z | z
        · exact nown c b hc z
        · rw [hc] at z; cases z; exact hb rfl
end

/-! ### kept unless tracked; of the frames at fs (the callers') the slots may change (an exception that passes writes there); of the records at ex (iterators) nothing is said -/
structure Un (fs ex : List Addr) (H H' : Hp) (h h' : Heap) : Prop where
  keep : ∀ b o, h.get? b = some o → H b = none → b ∉ fs → b ∉ ex → h'.get? b = some o
  slot : ∀ b o, h.get? b = some o → H b = none → b ∈ fs → b ∉ ex → ∃ sl, h'.get? b = some { o with slots := sl }
  free : ∀ b o, h.get? b = some o → H b = none → b ∉ ex → H' b = none
  there : ∀ b o, h.get? b = some o → b ∉ ex → ∃ o', h'.get? b = some o'
  tups : ∀ b xs, H b = some (.tup xs) → H' b = some (.tup xs)
  frzs : ∀ b o u, H b = some (.frz o u) → H' b = some (.frz o u)
  tbls : ∀ b ps, H b = some (.tbl ps) → ∃ more, H' b = some (.tbl (ps ++ more))
section
variable {fs fs' ex ex' : List Addr} {H H1 H2 : Hp} {h h1 h2 h' : Heap} {a x e : Addr} {o : HO}
theorem Un.any (u : Un fs ex H H1 h h1) {b : Addr} {ob : Obj} (q : h.get? b = some ob) (n : H b = none) (hx : b ∉ ex) : ∃ sl, h1.get? b = some { ob with slots := sl } := by
  by_cases hb : b ∈ fs
  · exact u.slot b ob q n hb hx
  · exact ⟨ob.slots, u.keep b ob q n hb hx⟩
theorem Un.kept (k : ∀ b u, h.get? b = some u → h'.get? b = some u) : Un fs ex H H h h' :=
  ⟨fun b ob q _ _ _ => k b ob q, fun b ob q _ _ _ => ⟨ob.slots, k b ob q⟩, fun _ _ _ n _ => n, fun b ob q _ => ⟨ob, k b ob q⟩, fun _ _ q => q, fun _ _ _ q => q, fun _ ps q => ⟨#[], by rw [q]; simp⟩⟩
theorem Un.refl : Un fs ex H H h h := Un.kept fun _ _ q => q
theorem Un.laid (k : ∀ b u, h.get? b = some u → h'.get? b = some u) (hp : h.objs.size ≤ a) (hn : H a = none) : Un fs ex H (upd H a o) h h' where
  keep := fun b u q _ _ _ => k b u q
  slot := fun b u q _ _ _ => ⟨u.slots, k b u q⟩
  free := fun b u q n _ => by rw [upd_ne (Nat.ne_of_lt (Nat.lt_of_lt_of_le (Heap.lt_size q) hp))]; exact n
  there := fun b u q _ => ⟨u, k b u q⟩
  tups := fun b xs q => by rw [upd_ne (ne_of_none q hn)]; exact q
  frzs := fun b u xs q => by rw [upd_ne (ne_of_none q hn)]; exact q
  tbls := fun b ps q => ⟨#[], by rw [upd_ne (ne_of_none q hn), q]; simp⟩
theorem Un.write (mu : Mut (H x)) (he : e = x ∨ H e = some (.own x)) (k : ∀ b u, b ≠ e → h.get? b = some u → h'.get? b = some u) (heo : ∃ u, h'.get? e = some u) : Un fs ex H (upd H x o) h h' := by
  have hx : ∀ b, H b = none → b ≠ x := fun b n z => by subst z; rw [n] at mu; exact mu
  have hb : ∀ b, H b = none → b ≠ e := fun b n z => by
    subst z
    rcases he with r | r
    · exact hx b n r
    · rw [n] at r; cases r
  have hm : ∀ b u, H b = some u → ¬ Mut (some u) → b ≠ x := fun b u q nm z => by subst z; rw [q] at mu; exact nm mu
  refine ⟨fun b u q n _ _ => k b u (hb b n) q, fun b u q n _ _ => ⟨u.slots, k b u (hb b n) q⟩, fun b u q n _ => by rw [upd_ne (hx b n)]; exact n, fun b u q _ => ?_,
    fun b xs q => by rw [upd_ne (hm b _ q fun z => z)]; exact q, fun b u xs q => by rw [upd_ne (hm b _ q fun z => z)]; exact q, fun b ps q => ⟨#[], by rw [upd_ne (hm b _ q fun z => z), q]; simp⟩⟩
  by_cases hbe : b = e
  · subst hbe; exact heo
  · exact ⟨u, k b u hbe q⟩
end

/-! ### the heap without what is tracked -/
def trk (h : Heap) (H : Hp) : List Addr := (List.range h.objs.size).filter fun a => (H a).isSome
def hidT (h : Heap) (H : Hp) : Heap := PySem.W.hideAll h (trk h H)
theorem hidT_size (h : Heap) (H : Hp) : (hidT h H).objs.size = h.objs.size := PySem.W.hideAll_size _ _
theorem hidT_get {h : Heap} {H : Hp} {b : Addr} {o : Obj} (e : h.get? b = some o) (n : H b = none) : (hidT h H).get? b = some o :=
  PySem.W.hideAll_get _ e fun hm => by
    have q : (H b).isSome = true := (List.mem_filter.mp hm).2
    rw [n] at q; simp at q
theorem of_hidT {h : Heap} {H : Hp} {b : Addr} {o : Obj} (e : (hidT h H).get? b = some o) : h.get? b = some o ∧ H b = none := by
  have e' : h.get? b = some o := PySem.W.of_hideAll (trk h H) e
  refine ⟨e', ?_⟩
  cases q : H b with
  | none => rfl
  | some x =>
    have hm : b ∈ trk h H := List.mem_filter.mpr ⟨List.mem_range.mpr (Heap.lt_size e'), by simp [q]⟩
    have z : (hidT h H).get? b = none := PySem.W.hideAll_none (trk h H) hm
    rw [z] at e; cases e

/-! ### OpenK's ledger, filled with every new object but one -/
end L2

namespace L2
open PySem PySem.Spec PyProof.Rows

/-- the module's facts, over the base: the heap at the law's entry without what is tracked there -/
structure Mod (K : PySem.W.Frag) (mg : Str → Option Value) (base : Heap) : Prop where
  kin : K.In base
  glob : base.Ns mainGlobals mg
  blt : ∃ mb, base.Ns builtinsNs mb ∧ ∀ x : Str, x ≠ "__name__" → mb x = bootBuiltins x
  nolimit : base.NoLimit

/-- the context: a def's body (or a comprehension's block) running. base: fixed through the whole law; s₀, H₀: the entry; outer: the frames whose slots others may change (a def's callers); stack: all frames that run;
   ex: iterators that were made ahead of the entry and are walked here (a comprehension's); fn: the names whose cells were made at the entry (a def: all; a comprehension's block: its own); calm: not within an except suite; pn: pins that every state bears; xe: what is wanted of an exception that leaves the code -/
structure Cx where
  prog : Program
  w : World
  K : PySem.W.Frag
  mg : Str → Option Value
  base : Heap
  A : Around
  N : List Str
  s₀ : Shared
  H₀ : Hp
  env : Env
  outer : List Env
  stack : List Env
  ex : List Addr
  fn : Str → Bool
  calm : Bool
  pn : List (Addr × Obj)
  xe : Value → Shared → Prop
/-- the callers' frames -/
def frs (l : List Env) : List Addr := l.filterMap (·.frame)
abbrev Cx.fs (X : Cx) : List Addr := frs X.outer

def Vis (sc : Scope) (x : Str) : Prop := sc.names.lookup x = some .local ∨ sc.names.lookup x = some .cell ∨ sc.names.lookup x = some .free
def Loc (sc : Scope) (x : Str) : Prop := sc.names.lookup x = some .local ∨ sc.names.lookup x = some .cell
def Look (env : Env) (h : Heap) (m : Str → Option Value) (x : Str) (u : Value) : Prop :=
  (env.kindOf x = some .local ∧ m x = some u) ∨ ((env.kindOf x = some .cell ∨ env.kindOf x = some .free) ∧ ∃ c, env.cells.lookup x = some c ∧ h.IsCell c (some u))

structure Cx.Ok (X : Cx) : Prop where
  mod : Mod X.K X.mg X.base
  kind : X.env.scope.kind = .function
  glob : X.env.globals = mainGlobals
  blt : X.env.builtins = builtinsNs
  above : X.s₀.heap.objs.size ≤ X.env.locals
  inj : ∀ x y c, X.env.cells.lookup x = some c → X.env.cells.lookup y = some c → x = y
  has : ∀ x, (X.env.kindOf x = some .cell ∨ X.env.kindOf x = some .free) → ∃ c, X.env.cells.lookup x = some c
  cab : ∀ x c, X.fn x = true → X.env.cells.lookup x = some c → X.s₀.heap.objs.size ≤ c
  hd : X.calm = true → X.A.handled = none
  frames : X.A.frames = some X.stack
  stk : X.stack = X.outer ∨ (X.stack = X.env :: X.outer ∧ X.env.frame = some X.env.locals)
  exf : ∀ b ∈ X.ex, b ≠ X.env.locals ∧ ∀ x c, X.env.cells.lookup x = some c → c ≠ b
  bs : ∀ b o, X.base.get? b = some o → X.s₀.heap.get? b = some o ∧ X.H₀ b = none
  bsz : X.base.objs.size ≤ X.s₀.heap.objs.size
  noex : ∀ b o, X.base.get? b = some o → b ∉ X.ex
  exfs : ∀ b ∈ X.ex, b ∉ X.fs
  funs : X.s₀.heap.FunFrames X.base X.outer
  frf : ∀ b ∈ X.fs, X.H₀ b = none

structure Inv (X : Cx) (pins : List (Addr × Obj)) (σ : List (Option V)) (H : Hp) (s : Shared) : Prop where
  ok : X.Ok
  os : s.os = X.s₀.os
  bare : AllBare s.gens
  base : Un X.fs X.ex X.H₀ H X.s₀.heap s.heap
  loc : ∃ m, s.heap.Ns X.env.locals m ∧ ∀ (i : Nat) (x : Str) (v : V), X.N[i]? = some x → σ[i]? = some (some v) → Vis X.env.scope x → ∃ u, RelV v u ∧ Look X.env s.heap m x u
  cell : ∀ x c, X.env.cells.lookup x = some c → ∃ v, s.heap.IsCell c v
  free : H X.env.locals = none
  freeC : ∀ x c, X.env.cells.lookup x = some c → H c = none
  pin : ∀ p ∈ X.pn ++ pins, s.heap.get? p.1 = some p.2 ∧ H p.1 = none ∧ p.1 ≠ X.env.locals ∧ p.1 ∉ X.fs ∧ ∀ v, p.2.data ≠ .cell v
  hok : HOk X.prog X.w H s.heap
  len : σ.length = X.N.length

section
variable {X : Cx} {pins : List (Addr × Obj)} {σ : List (Option V)} {H H' : Hp} {s : Shared} {h' : Heap}

theorem Cx.Ok.nofr (ok : X.Ok) {b : Addr} {o : Obj} (e : X.base.get? b = some o) : b ∉ X.fs := fun hb => by
  have := (ok.funs.mem hb).1
  rw [e] at this; cases this
theorem Inv.bs (I : Inv X pins σ H s) : ∀ b o, X.base.get? b = some o → s.heap.get? b = some o ∧ H b = none := fun b o e =>
  ⟨I.base.keep b o (I.ok.bs b o e).1 (I.ok.bs b o e).2 (I.ok.nofr e) (I.ok.noex b o e), I.base.free b o (I.ok.bs b o e).1 (I.ok.bs b o e).2 (I.ok.noex b o e)⟩
theorem Inv.bk (I : Inv X pins σ H s) : ∀ b o, X.base.get? b = some o → s.heap.get? b = some o := fun b o e => (I.bs b o e).1
theorem Inv.mod (I : Inv X pins σ H s) : Mod X.K X.mg X.base := I.ok.mod
theorem Inv.kIn (I : Inv X pins σ H s) : X.K.In s.heap := I.ok.mod.kin.keeps I.bk
theorem Inv.lt (I : Inv X pins σ H s) : X.env.locals < s.heap.objs.size := let ⟨_, hn, _⟩ := I.loc; hn.lt
theorem Inv.sz (I : Inv X pins σ H s) : X.s₀.heap.objs.size ≤ s.heap.objs.size := Nat.le_trans I.ok.above (Nat.le_of_lt I.lt)
theorem Inv.nofs (I : Inv X pins σ H s) {a : Addr} (h : s.heap.objs.size ≤ a) : a ∉ X.fs := fun hb => by
  obtain ⟨_, o, ho, _⟩ := I.ok.funs.mem hb
  exact absurd (Nat.lt_of_lt_of_le (Heap.lt_size ho) (Nat.le_trans I.sz h)) (Nat.lt_irrefl _)
theorem Inv.cne (I : Inv X pins σ H s) : ∀ x c, X.env.cells.lookup x = some c → c ≠ X.env.locals := fun x c e z => by
  obtain ⟨v, o, ho, hd⟩ := I.cell x c e
  obtain ⟨m, ⟨o', es, ep, ho', hd', _⟩, _⟩ := I.loc
  rw [z, ho'] at ho; cases ho; rw [hd'] at hd; cases hd
theorem Inv.funs (I : Inv X pins σ H s) : s.heap.FunFrames X.base X.outer := by
  have all : ∀ (l : List Env), (∀ b ∈ frs l, b ∈ X.fs) → X.s₀.heap.FunFrames X.base l → s.heap.FunFrames X.base l := by
    intro l
    induction l with
    | nil => intro _ _; trivial
    | cons env r ih =>
      intro hs hl
      obtain ⟨hk, ⟨L, o, hf, hn, ho, hd⟩, hr⟩ := hl
      have hL : L ∈ X.fs := hs L (by unfold frs; rw [List.filterMap_cons, hf]; exact List.mem_cons_self)
      obtain ⟨sl, e⟩ := I.base.slot L o ho (I.ok.frf L hL) hL fun z => I.ok.exfs L z hL
      exact ⟨hk, ⟨L, _, hf, hn, e, hd⟩, ih (fun b hb => hs b (by unfold frs; rw [List.filterMap_cons, hf]; exact List.mem_cons_of_mem _ hb)) hr⟩
  exact all X.outer (fun _ hb => hb) I.ok.funs

/-- the frames that run, for a call -/
theorem Inv.stack (I : Inv X pins σ H s) : s.heap.FunFrames X.base X.stack := by
  rcases I.ok.stk with e | ⟨e, hf⟩
  · rw [e]; exact I.funs
  · rw [e]
    obtain ⟨m, hn, _⟩ := I.loc
    refine .cons (by rw [I.ok.kind]; decide) hf hn ?_ I.funs
    exact Heap.get?_none_of_le (Nat.le_trans I.ok.bsz I.ok.above)
theorem Inv.stkSub (I : Inv X pins σ H s) : ∀ b ∈ frs X.stack, b ∈ X.env.locals :: X.fs := fun b hb => by
  rcases I.ok.stk with e | ⟨e, hf⟩
  · rw [e] at hb; exact List.mem_cons_of_mem _ hb
  · rw [e] at hb
    unfold frs at hb
    rw [List.filterMap_cons, hf] at hb
    exact hb
theorem Inv.stkFree (I : Inv X pins σ H s) : ∀ b ∈ frs X.stack, H b = none := fun b hb => by
  rcases List.mem_cons.mp (I.stkSub b hb) with e | hb
  · rw [e]; exact I.free
  · obtain ⟨_, o, ho, _⟩ := I.ok.funs.mem hb
    exact I.base.free b o ho (I.ok.frf b hb) fun z => I.ok.exfs b z hb

/-- THE STEP: the untracked objects but the frame and the records at ch are kept (the callers' frames up to slots), the frame's map is kept, the new abstract heap is held -/
theorem Inv.step {g' : Array GenState} {t' : Nat} {d' : Drawn} {ch : List Addr} (I : Inv X pins σ H s)
    (hch : ∀ b ∈ ch, (b ∈ X.ex ∨ X.s₀.heap.objs.size ≤ b) ∧ b ≠ X.env.locals ∧ (∀ x c, X.env.cells.lookup x = some c → c ≠ b) ∧ ∀ p ∈ X.pn ++ pins, p.1 ≠ b)
    (keep : ∀ b o, b ≠ X.env.locals → b ∉ X.fs → b ∉ ch → s.heap.get? b = some o → H b = none → h'.get? b = some o)
    (slot : ∀ b o, b ≠ X.env.locals → b ∈ X.fs → b ∉ ch → s.heap.get? b = some o → H b = none → ∃ sl, h'.get? b = some { o with slots := sl }) (free : ∀ b o, b ∉ ch → s.heap.get? b = some o → H b = none → H' b = none)
    (there : ∀ b o, b ∉ ch → s.heap.get? b = some o → ∃ o', h'.get? b = some o')
    (tups : ∀ b xs, H b = some (.tup xs) → H' b = some (.tup xs)) (frzs : ∀ b o u, H b = some (.frz o u) → H' b = some (.frz o u)) (tbls : ∀ b ps, H b = some (.tbl ps) → ∃ more, H' b = some (.tbl (ps ++ more)))
    (ns : ∀ m, s.heap.Ns X.env.locals m → h'.Ns X.env.locals m) (hok : HOk X.prog X.w H' h') (hg : AllBare g') :
    Inv X pins σ H' { s with heap := h', gens := g', drawn := d', toks := t' } := by
  have neL : ∀ b o, X.s₀.heap.get? b = some o → b ≠ X.env.locals := fun b o e => Nat.ne_of_lt (Nat.lt_of_lt_of_le (Heap.lt_size e) I.ok.above)
  have neC : ∀ b o, X.s₀.heap.get? b = some o → b ∉ X.ex → b ∉ ch := fun b o e hx hb => by
    rcases (hch b hb).1 with z | z
    · exact hx z
    · exact absurd (Nat.lt_of_lt_of_le (Heap.lt_size e) z) (Nat.lt_irrefl _)
  have cellK : ∀ x c, X.env.cells.lookup x = some c → ∀ v, s.heap.IsCell c v → h'.IsCell c v := fun x c e v ⟨o, ho, hd⟩ => by
    have nch : c ∉ ch := fun z => (hch c z).2.2.1 x c e rfl
    by_cases hc : c ∈ X.fs
    · obtain ⟨sl, q⟩ := slot c o (I.cne x c e) hc nch ho (I.freeC x c e)
      exact ⟨_, q, hd⟩
    · exact ⟨o, keep c o (I.cne x c e) hc nch ho (I.freeC x c e), hd⟩
  refine ⟨I.ok, I.os, hg, ⟨fun b o e n hb hx => ?_, fun b o e n hb hx => ?_, fun b o e n hx => ?_, fun b o e hx => ?_, fun b xs e => tups b xs (I.base.tups b xs e), fun b o xs e => frzs b o xs (I.base.frzs b o xs e), fun b ps e => ?_⟩, ?_, fun x c e => ?_, ?_, fun x c e => ?_, fun p hp => ?_, hok, I.len⟩
  · exact keep b o (neL b o e) hb (neC b o e hx) (I.base.keep b o e n hb hx) (I.base.free b o e n hx)
  · obtain ⟨sl, e1⟩ := I.base.slot b o e n hb hx
    obtain ⟨sl', e2⟩ := slot b _ (neL b o e) hb (neC b o e hx) e1 (I.base.free b o e n hx)
    exact ⟨sl', e2⟩
  · obtain ⟨o', e1⟩ := I.base.there b o e hx
    exact free b o' (neC b o e hx) e1 (I.base.free b o e n hx)
  · obtain ⟨o', e1⟩ := I.base.there b o e hx
    exact there b o' (neC b o e hx) e1
  · obtain ⟨m1, e1⟩ := I.base.tbls b ps e
    obtain ⟨m2, e2⟩ := tbls b _ e1
    exact ⟨m1 ++ m2, by rw [e2, Array.append_assoc]⟩
  · obtain ⟨m, hn, hl⟩ := I.loc
    refine ⟨m, ns m hn, fun i x v e1 e2 e3 => ?_⟩
    obtain ⟨u, r, l⟩ := hl i x v e1 e2 e3
    refine ⟨u, r, ?_⟩
    rcases l with l | ⟨k, c, e, z⟩
    · exact .inl l
    · exact .inr ⟨k, c, e, cellK x c e _ z⟩
  · obtain ⟨v, z⟩ := I.cell x c e
    exact ⟨v, cellK x c e v z⟩
  · obtain ⟨m, ⟨o, _, _, ho, _⟩, _⟩ := I.loc
    exact free _ o (fun z => (hch _ z).2.1 rfl) ho I.free
  · obtain ⟨v, o, ho, hd⟩ := I.cell x c e
    exact free c o (fun z => (hch c z).2.2.1 x c e rfl) ho (I.freeC x c e)
  · obtain ⟨e, n, ne, nf, d⟩ := I.pin p hp
    have nch : p.1 ∉ ch := fun z => (hch p.1 z).2.2.2 p hp rfl
    exact ⟨keep p.1 p.2 ne nf nch e n, free p.1 p.2 nch e n, ne, nf, d⟩
/-- .. where the frame's own object is kept too -/
theorem Inv.un {t' : Nat} (I : Inv X pins σ H s) (u : Un X.fs [] H H' s.heap h') (hok : HOk X.prog X.w H' h') : Inv X pins σ H' { s with heap := h', toks := t' } := by
  obtain ⟨m, ⟨o, es, ep, ho, r⟩, _⟩ := id I.loc
  obtain ⟨sl, hL⟩ := u.any ho I.free (by simp)
  exact I.step (g' := s.gens) (d' := s.drawn) (ch := []) (fun _ z => nomatch z) (fun b o _ hb _ e n => u.keep b o e n hb (by simp)) (fun b o _ hb _ e n => u.slot b o e n hb (by simp)) (fun b o _ e n => u.free b o e n (by simp)) (fun b o _ e => u.there b o e (by simp)) u.tups u.frzs u.tbls (fun m' hm => by
    obtain ⟨o', es', ep', ho', r'⟩ := hm
    rw [ho] at ho'; cases ho'
    exact ⟨_, es', ep', hL, r'⟩) hok I.bare
/-- behind a call (or a comprehension's block): the slots of this frame may have changed too, the records at ch may have turned -/
theorem Inv.call {g' : Array GenState} {t' : Nat} {d' : Drawn} {ch : List Addr} (I : Inv X pins σ H s) (u : Un (frs X.stack) ch H H' s.heap h') (hok : HOk X.prog X.w H' h') (hg : AllBare g')
    (hch : ∀ b ∈ ch, (b ∈ X.ex ∨ X.s₀.heap.objs.size ≤ b) ∧ b ≠ X.env.locals ∧ (∀ x c, X.env.cells.lookup x = some c → c ≠ b) ∧ ∀ p ∈ X.pn ++ pins, p.1 ≠ b) :
    Inv X pins σ H' { s with heap := h', gens := g', drawn := d', toks := t' } := by
  obtain ⟨m, ⟨o, es, ep, ho, r⟩, _⟩ := id I.loc
  obtain ⟨sl, hL⟩ := u.any ho I.free fun z => (hch _ z).2.1 rfl
  exact I.step (ch := ch) hch (fun b o hL hb hc e n => u.keep b o e n (fun z => (List.mem_cons.mp (I.stkSub b z)).elim hL hb) hc) (fun b o _ _ hc e n => u.any e n hc) (fun b o hc e n => u.free b o e n hc) (fun b o hc e => u.there b o e hc) u.tups u.frzs u.tbls (fun m' hm => by
    obtain ⟨o', es', ep', ho', r'⟩ := hm
    rw [ho] at ho'; cases ho'
    exact ⟨_, es', ep', hL, r'⟩) hok hg
/-- an untracked record of ours (an iterator) has turned -/
theorem Inv.turned {t' : Nat} {it : Addr} (I : Inv X pins σ H s) (k : ∀ b o, b ≠ it → s.heap.get? b = some o → h'.get? b = some o) (hn : H it = none) (hL : it ≠ X.env.locals)
    (h1 : it ∈ X.ex ∨ X.s₀.heap.objs.size ≤ it) (h2 : ∀ x c, X.env.cells.lookup x = some c → c ≠ it) (h3 : ∀ p ∈ X.pn ++ pins, p.1 ≠ it) : Inv X pins σ H { s with heap := h', toks := t' } := by
  have nit : ∀ b u, H b = some u → b ≠ it := fun b u e z => by rw [z, hn] at e; cases e
  refine I.step (g' := s.gens) (d' := s.drawn) (ch := [it]) (fun b hb => ?_) (fun b o _ _ hc e _ => k b o (fun z => hc (by simp [z])) e) (fun b o _ _ hc e _ => ⟨o.slots, k b o (fun z => hc (by simp [z])) e⟩) (fun _ _ _ _ n => n)
    (fun b o hc e => ⟨o, k b o (fun z => hc (by simp [z])) e⟩) (fun _ _ e => e) (fun _ _ _ e => e) (fun b ps e => ⟨#[], by rw [e]; simp⟩) (fun m hm => ?_) (fun b u e => ?_) I.bare
  · have e : b = it := by simpa using hb
    subst e
    exact ⟨h1, hL, h2, h3⟩
  · obtain ⟨o, es, ep, ho, r⟩ := hm
    exact ⟨o, es, ep, k _ o (Ne.symm hL) ho, r⟩
  · refine (I.hok b u e).stay (fun c v hc q => k c v ?_ q) (fun _ q => q) fun _ _ q => q
    rcases hc with z | z
    · rw [z]; exact nit b u e
    · exact nit c _ z
theorem Inv.tok (I : Inv X pins σ H s) (t : Nat) : Inv X pins σ H { s with toks := t } := I.un (h' := s.heap) (t' := t) Un.refl I.hok
/-- all objects kept -/
theorem Inv.kept {t' : Nat} (I : Inv X pins σ H s) (k : ∀ b u, s.heap.get? b = some u → h'.get? b = some u) : Inv X pins σ H { s with heap := h', toks := t' } := I.un (Un.kept k) (I.hok.kept k)
/-- a new object laid and tracked -/
theorem Inv.laid {a : Addr} {o : HO} {t' : Nat} (I : Inv X pins σ H s) (k : ∀ b u, s.heap.get? b = some u → h'.get? b = some u) (hp : s.heap.objs.size ≤ a) (new : ObjOk X.prog X.w (upd H a o) h' a o) :
    Inv X pins σ (upd H a o) { s with heap := h', toks := t' } := I.un (Un.laid k hp (I.hok.fresh hp)) (I.hok.laid k hp new)
/-- an object written -/
theorem Inv.write {x e : Addr} {o : HO} {t' : Nat} (I : Inv X pins σ H s) (mu : Mut (H x)) (he : e = x ∨ H e = some (.own x)) (k : ∀ b u, b ≠ e → s.heap.get? b = some u → h'.get? b = some u) (heo : ∃ u, h'.get? e = some u)
    (new : ObjOk X.prog X.w (upd H x o) h' x o) : Inv X pins σ (upd H x o) { s with heap := h', toks := t' } := I.un (Un.write mu he k heo) (I.hok.write mu he k heo new)
/-- forgetting slots, pins -/
theorem Inv.weak {σ' : List (Option V)} (I : Inv X pins σ H s) (hl : σ'.length = σ.length) (w : ∀ (i : Nat) v, σ'[i]? = some (some v) → σ[i]? = some (some v)) : Inv X pins σ' H s :=
  ⟨I.ok, I.os, I.bare, I.base, let ⟨m, hn, hl'⟩ := I.loc; ⟨m, hn, fun i x v e1 e2 e3 => hl' i x v e1 (w i v e2) e3⟩, I.cell, I.free, I.freeC, I.pin, I.hok, hl.trans I.len⟩
theorem Inv.pins_of {pins' : List (Addr × Obj)} (I : Inv X pins σ H s) (h : ∀ p ∈ pins', s.heap.get? p.1 = some p.2 ∧ H p.1 = none ∧ p.1 ≠ X.env.locals ∧ p.1 ∉ X.fs ∧ ∀ v, p.2.data ≠ .cell v) : Inv X pins' σ H s :=
  ⟨I.ok, I.os, I.bare, I.base, I.loc, I.cell, I.free, I.freeC, fun p hp => (List.mem_append.mp hp).elim (fun z => I.pin p (List.mem_append_left _ z)) (h p), I.hok, I.len⟩

theorem nodup_ix {N : List Str} (hN : N.Nodup) {i j : Nat} {x : Str} (a : N[i]? = some x) (b : N[j]? = some x) : i = j := by
  obtain ⟨h1, e1⟩ := List.getElem?_eq_some_iff.mp a
  obtain ⟨h2, e2⟩ := List.getElem?_eq_some_iff.mp b
  exact (List.getElem_inj hN).mp (e1.trans e2.symm)

/-- a name is stored; what changed -/
theorem store_ok2 {M : Model} {A : Around} {E : Value → Shared → Prop} {i : Nat} {x : Str} {v : V} {u : Value} {Q : Unit → Shared → Prop} (I : Inv X pins σ H s) (hN : X.N.Nodup) (hi : X.N[i]? = some x) (hx : Loc X.env.scope x) (r : RelV v u)
    (h : ∀ s', Inv X pins (σ.set i (some v)) H s' → (∃ a, Heap.SameBut a s.heap s'.heap ∧ (a = X.env.locals ∨ X.env.cells.lookup x = some a)) → Q () s') (hf : X.fn x = true ∨ X.env.scope.names.lookup x = some .local := by first | exact .inl rfl | exact .inr rfl | assumption) : wpAny M A (storeName X.env x u) Q E s := by
  obtain ⟨m, hn, hl⟩ := id I.loc
  have hcls : (X.env.scope.kind == .class || (X.env.scope.kind == .module && X.env.locals != X.env.globals)) = false := by rw [I.ok.kind]; rfl
  have hiσ : i < σ.length := by rw [I.len]; exact (List.getElem?_eq_some_iff.mp hi).1
  have cne := I.cne
  have tracked : ∀ {a : Addr} {h' : Heap}, (∃ o, s.heap.get? a = some o ∧ H a = none) → Heap.SameBut a s.heap h' → HOk X.prog X.w H h' := fun {a h'} ha hs b ob e => by
    obtain ⟨_, _, hfree⟩ := ha
    refine (I.hok b ob e).stay (fun c w' hc q => (hs.2 c ?_).trans q) (fun _ q => q) fun _ _ q => q
    rintro rfl
    rcases hc with rfl | hc
    · rw [hfree] at e; cases e
    · rw [hfree] at hc; cases hc
  rcases hx with hk | hk
  · refine wpAny_storeName_local hk hn (fun h' hn' hs => ?_) hcls
    obtain ⟨oL, _, _, hoL, _⟩ := id hn
    refine h _ ⟨I.ok, I.os, I.bare, ⟨fun b o e n hb hx => ?_, fun b o e n hb hx => ?_, I.base.free, fun b o e hx => ?_, I.base.tups, I.base.frzs, I.base.tbls⟩, ⟨_, hn', fun j y v' e1 e2 e3 => ?_⟩, fun y c e => ?_, I.free, I.freeC, fun p hp => ?_, tracked ⟨oL, hoL, I.free⟩ hs, by simpa using I.len⟩ ⟨_, hs, .inl rfl⟩
    · exact (hs.2 b (Nat.ne_of_lt (Nat.lt_of_lt_of_le (Heap.lt_size e) I.ok.above))).trans (I.base.keep b o e n hb hx)
    · obtain ⟨sl, e1⟩ := I.base.slot b o e n hb hx
      exact ⟨sl, (hs.2 b (Nat.ne_of_lt (Nat.lt_of_lt_of_le (Heap.lt_size e) I.ok.above))).trans e1⟩
    · obtain ⟨o', e1⟩ := I.base.there b o e hx
      exact ⟨o', (hs.2 b (Nat.ne_of_lt (Nat.lt_of_lt_of_le (Heap.lt_size e) I.ok.above))).trans e1⟩
    · by_cases hj : j = i
      · subst hj
        rw [hi] at e1; cases e1
        rw [List.getElem?_set_self hiσ] at e2
        cases e2
        exact ⟨u, r, .inl ⟨hk, by simp⟩⟩
      · rw [List.getElem?_set_ne (Ne.symm hj)] at e2
        obtain ⟨u', r', q⟩ := hl j y v' e1 e2 e3
        refine ⟨u', r', ?_⟩
        rcases q with ⟨k, e⟩ | ⟨k, c, e, z⟩
        · refine .inl ⟨k, ?_⟩
          have : y ≠ x := fun e => hj (nodup_ix hN e1 (e ▸ hi))
          simp [this, e]
        · exact .inr ⟨k, c, e, z.sameBut hs (cne y c e)⟩
    · obtain ⟨w', z⟩ := I.cell y c e
      exact ⟨w', z.sameBut hs (cne y c e)⟩
    · obtain ⟨e, n, ne, nf, d⟩ := I.pin p hp
      exact ⟨(hs.2 p.1 ne).trans e, n, ne, nf, d⟩
  · have hfn : X.fn x = true := by
      rcases hf with z | z
      · exact z
      · rw [z] at hk; cases hk
    obtain ⟨c, hc⟩ := I.ok.has x (.inl hk)
    obtain ⟨w', z⟩ := I.cell x c hc
    refine wpAny_storeName_cell I.ok.kind hk hc z (fun h' hc' hs => ?_)
    obtain ⟨oc, hoc, hocd⟩ := id z
    refine h { s with heap := h' } ⟨I.ok, I.os, I.bare, ⟨fun b o e n hb hx => ?_, fun b o e n hb hx => ?_, I.base.free, fun b o e hx => ?_, I.base.tups, I.base.frzs, I.base.tbls⟩, ⟨m, hn.sameBut hs (Ne.symm (cne x c hc)), fun j y v' e1 e2 e3 => ?_⟩, fun y c' e => ?_, I.free, I.freeC, fun p hp => ?_, tracked ⟨oc, hoc, I.freeC x c hc⟩ hs, by simpa using I.len⟩ ⟨c, hs, .inr hc⟩
    · exact (hs.2 b (Nat.ne_of_lt (Nat.lt_of_lt_of_le (Heap.lt_size e) (I.ok.cab x c hfn hc)))).trans (I.base.keep b o e n hb hx)
    · obtain ⟨sl, e1⟩ := I.base.slot b o e n hb hx
      exact ⟨sl, (hs.2 b (Nat.ne_of_lt (Nat.lt_of_lt_of_le (Heap.lt_size e) (I.ok.cab x c hfn hc)))).trans e1⟩
    · obtain ⟨o', e1⟩ := I.base.there b o e hx
      exact ⟨o', (hs.2 b (Nat.ne_of_lt (Nat.lt_of_lt_of_le (Heap.lt_size e) (I.ok.cab x c hfn hc)))).trans e1⟩
    · by_cases hj : j = i
      · subst hj
        rw [hi] at e1; cases e1
        rw [List.getElem?_set_self hiσ] at e2
        cases e2
        exact ⟨u, r, .inr ⟨.inl hk, c, hc, hc'⟩⟩
      · rw [List.getElem?_set_ne (Ne.symm hj)] at e2
        obtain ⟨u', r', q⟩ := hl j y v' e1 e2 e3
        refine ⟨u', r', ?_⟩
        rcases q with q | ⟨k, c', e, z'⟩
        · exact .inl q
        · refine .inr ⟨k, c', e, z'.sameBut hs ?_⟩
          rintro rfl
          exact hj (nodup_ix hN e1 (I.ok.inj _ _ _ e hc ▸ hi))
    · by_cases hcc : c' = c
      · subst hcc; exact ⟨_, hc'⟩
      · obtain ⟨w2, z2⟩ := I.cell y c' e
        exact ⟨w2, z2.sameBut hs hcc⟩
    · obtain ⟨e, n, ne, nf, d⟩ := I.pin p hp
      refine ⟨(hs.2 p.1 ?_).trans e, n, ne, nf, d⟩
      intro q
      rw [q, hoc] at e
      have q' : oc = p.2 := Option.some.inj e
      exact d w' (by rw [← q']; exact hocd)
theorem store_ok {M : Model} {A : Around} {E : Value → Shared → Prop} {i : Nat} {x : Str} {v : V} {u : Value} {Q : Unit → Shared → Prop} (I : Inv X pins σ H s) (hN : X.N.Nodup) (hi : X.N[i]? = some x) (hx : Loc X.env.scope x) (r : RelV v u)
    (h : ∀ s', Inv X pins (σ.set i (some v)) H s' → Q () s') (hf : X.fn x = true ∨ X.env.scope.names.lookup x = some .local := by first | exact .inl rfl | exact .inr rfl | assumption) : wpAny M A (storeName X.env x u) Q E s :=
  store_ok2 I hN hi hx r (fun s' I' _ => h s' I') hf
/-- behind a call or a block, the state as it is -/
theorem Inv.call' {s' : Shared} {ch : List Addr} (I : Inv X pins σ H s) (ho : s'.os = s.os) (u : Un (frs X.stack) ch H H' s.heap s'.heap) (hok : HOk X.prog X.w H' s'.heap) (hg : AllBare s'.gens)
    (hch : ∀ b ∈ ch, (b ∈ X.ex ∨ X.s₀.heap.objs.size ≤ b) ∧ b ≠ X.env.locals ∧ (∀ x c, X.env.cells.lookup x = some c → c ≠ b) ∧ ∀ p ∈ X.pn ++ pins, p.1 ≠ b) : Inv X pins σ H' s' := by
  obtain ⟨h', g', d', t', o'⟩ := s'
  have e : o' = s.os := ho
  subst e
  exact I.call (g' := g') (t' := t') (d' := d') u hok hg hch
end

/-! ### the judgements -/
/-- an exception: its class, its own dict's address (where it has one), the abstract heap behind it -/
abbrev XK := Value → Option Addr → Hp → Prop
abbrev St := List (Option V)
abbrev VK := V → Hp → Prop
/-- an expression's reading; a test's; an argument list's -/
abbrev TE := St → Hp → VK → Prop
abbrev TT := St → Hp → (Bool → Hp → Prop) → Prop
abbrev TA := St → Hp → (List V → Hp → Prop) → Prop
/-- what is wanted behind a statement -/
structure Ends where
  nx : St → Hp → Prop
  rt : VK
  bk : St → Hp → Prop := fun _ _ => False
  ct : St → Hp → Prop := fun _ _ => False
abbrev TS := Ends → St → Hp → Prop

def EP (X : Cx) (pins : List (Addr × Obj)) (σ : St) (Q : VK) (u : Value) (s' : Shared) : Prop := ∃ v H', Inv X pins σ H' s' ∧ RelV v u ∧ Q v H'
def TP (X : Cx) (pins : List (Addr × Obj)) (σ : St) (Q : Bool → Hp → Prop) (b : Bool) (s' : Shared) : Prop := ∃ H', Inv X pins σ H' s' ∧ Q b H'
def AP (X : Cx) (pins : List (Addr × Obj)) (σ : St) (Q : List V → Hp → Prop) (us : List Value) (s' : Shared) : Prop := ∃ vs H', Inv X pins σ H' s' ∧ Vals vs us ∧ Q vs H'
def SP (X : Cx) (pins : List (Addr × Obj)) (D : Ends) (f : Flow) (s' : Shared) : Prop :=
  match f with
  | .next => ∃ σ' H', Inv X pins σ' H' s' ∧ D.nx σ' H'
  | .brk => ∃ σ' H', Inv X pins σ' H' s' ∧ D.bk σ' H'
  | .cont => ∃ σ' H', Inv X pins σ' H' s' ∧ D.ct σ' H'
  | .ret u => ∃ v σ' H', Inv X pins σ' H' s' ∧ RelV v u ∧ D.rt v H'

def PE (X : Cx) (e : Expr) (t : TE) : Prop :=
  ∀ (pins : List (Addr × Obj)) (s : Shared) (σ : St) (H : Hp) (Q : VK), Inv X pins σ H s → t σ H Q → wpAny (model X.prog X.w) X.A (eval e X.env) (EP X pins σ Q) X.xe s
def PT (X : Cx) (e : Expr) (t : TT) : Prop :=
  ∀ (pins : List (Addr × Obj)) (s : Shared) (σ : St) (H : Hp) (Q : Bool → Hp → Prop), Inv X pins σ H s → t σ H Q → wpAny (model X.prog X.w) X.A (isTrue e X.env (eval e X.env)) (TP X pins σ Q) X.xe s
/-- a test whatever its 'whole' is (and, or) -/
def PW (X : Cx) (e : Expr) (t : TT) : Prop :=
  ∀ (whole : Sem Value) (pins : List (Addr × Obj)) (s : Shared) (σ : St) (H : Hp) (Q : Bool → Hp → Prop), Inv X pins σ H s → t σ H Q → wpAny (model X.prog X.w) X.A (isTrue e X.env whole) (TP X pins σ Q) X.xe s
theorem PW.pt {X : Cx} {e : Expr} {t : TT} (h : PW X e t) : PT X e t := h _
/-- an argument list (no star), from the left -/
def PA (X : Cx) (es : List Expr) (t : TA) : Prop :=
  ∀ (pos : Pos) (pins : List (Addr × Obj)) (s : Shared) (σ : St) (H : Hp) (Q : List V → Hp → Prop), Inv X pins σ H s → t σ H Q → wpAny (model X.prog X.w) X.A (spliced (backTo pos (starEach es X.env))) (AP X pins σ Q) X.xe s
def PS (X : Cx) (st : Stmt) (t : TS) : Prop :=
  ∀ (pins : List (Addr × Obj)) (s : Shared) (σ : St) (H : Hp) (D : Ends), Inv X pins σ H s → t D σ H → wpAny (model X.prog X.w) X.A (exec st X.env) (SP X pins D) X.xe s
def PSs (X : Cx) (st : List Stmt) (t : TS) : Prop :=
  ∀ (pins : List (Addr × Obj)) (s : Shared) (σ : St) (H : Hp) (D : Ends), Inv X pins σ H s → t D σ H → wpAny (model X.prog X.w) X.A (execs st X.env) (SP X pins D) X.xe s
/-- weaken the end -/
theorem thn {α : Type} {t : Sem α} {Q Q' : α → Shared → Prop} {M : Model} {A : Around} {E : Value → Shared → Prop} {s : Shared} (h : wpAny M A t Q E s) (hQ : ∀ a s, Q a s → Q' a s) : wpAny M A t Q' E s := wpAny_mono h hQ fun _ _ x => x
end L2

namespace L2
open PySem PySem.Spec PyProof.Rows
section
variable {X : Cx}

/-! ### names and constants -/
def tVar (i : Nat) : TE := fun σ H Q => ∃ v, σ[i]? = some (some v) ∧ Q v H
def tC (v : V) : TE := fun _ H Q => Q v H
theorem pe_var {i : Nat} {x : Str} {pos : Pos} (hN : X.N[i]? = some x) (hv : Vis X.env.scope x) (hd : (x == ("__debug__" : Str)) = false := by decide) (hcd : (x == ("__classdict__" : Str)) = false := by decide) : PE X (.Name x pos) (tVar i) := by
  intro pins s σ H Q I h
  obtain ⟨v, e, h⟩ := h
  obtain ⟨m, hn, hl⟩ := I.loc
  obtain ⟨u, r, l⟩ := hl i x v hN e hv
  have fin : EP X pins σ Q u s := ⟨v, H, I, r, h⟩
  rcases l with ⟨hk, hm⟩ | ⟨hk, c, hc, hcell⟩
  · exact wpAny_Name (wpAny_loadName_local I.ok.kind hk hn hm fin) hd
  · rcases hk with hk | hk
    · exact wpAny_Name (wpAny_loadName_cell I.ok.kind hk hc hcell fin) hd
    · exact wpAny_Name (wpAny_loadName_free I.ok.kind hk hc hcell fin hcd) hd
theorem pe_int {i j pos} : PE X (.Constant (.int i) j pos) (tC (.int i)) := fun _ _ _ H _ I h => wpAny_Constant_int ⟨.int i, H, I.tok _, ⟨_, rfl⟩, h⟩
theorem pe_bl {b j pos} : PE X (.Constant (.bool b) j pos) (tC (.bl b)) := fun _ _ _ H _ I h => Constant_bool ⟨.bl b, H, I, rfl, h⟩
theorem pe_str {x j pos} : PE X (.Constant (.str x) j pos) (tC (.str x)) := fun _ _ _ H _ I h => Calls.Constant_str ⟨.str x, H, I.tok _, ⟨_, rfl⟩, h⟩

/-- a global name of the def -/
def Gl (X : Cx) (x : Str) : Prop := X.env.kindOf x = some .globalImplicit
theorem ld_glob {E : Value → Shared → Prop} {pins : List (Addr × Obj)} {s : Shared} {σ : St} {H : Hp} {x : Str} {u : Value} {pos : Pos} {Q : Value → Shared → Prop} (I : Inv X pins σ H s) (hg : Gl X x) (hm : X.mg x = some u) (h : Q u s)
    (hd : (x == ("__debug__" : Str)) = false := by decide) : wpAny (model X.prog X.w) X.A (eval (.Name x pos) X.env) Q E s :=
  Calls.Name_function_global I.ok.kind hg (Calls.loadGlobal_global (by rw [I.ok.glob]; exact I.mod.glob.keeps I.bk) hm h) hd
theorem ld_blt {E : Value → Shared → Prop} {pins : List (Addr × Obj)} {s : Shared} {σ : St} {H : Hp} {x : Str} {u : Value} {pos : Pos} {Q : Value → Shared → Prop} (I : Inv X pins σ H s) (hg : Gl X x) (hm : X.mg x = none) (hv : bootBuiltins x = some u) (h : Q u s)
    (hn : x ≠ "__name__" := by decide) (hd : (x == ("__debug__" : Str)) = false := by decide) : wpAny (model X.prog X.w) X.A (eval (.Name x pos) X.env) Q E s := by
  obtain ⟨mb, h1, h2⟩ := I.mod.blt
  exact Calls.Name_function_global I.ok.kind hg (Calls.loadGlobal_builtin (by rw [I.ok.glob]; exact I.mod.glob.keeps I.bk) hm (by rw [I.ok.blt]; exact h1.keeps I.bk) ((h2 x hn).trans hv) h) hd
/-- a module's constant, a class, a function, as a value -/
theorem pe_glob {x : Str} {v : V} {u : Value} {pos : Pos} (hg : Gl X x) (hm : X.mg x = some u) (r : RelV v u) (hd : (x == ("__debug__" : Str)) = false := by decide) : PE X (.Name x pos) (tC v) :=
  fun _ _ _ H _ I h => ld_glob I hg hm ⟨v, H, I, r, h⟩ hd
theorem pe_bltn {x : Str} {v : V} {u : Value} {pos : Pos} (hg : Gl X x) (hm : X.mg x = none) (hv : bootBuiltins x = some u) (r : RelV v u) (hn : x ≠ "__name__" := by decide) (hd : (x == ("__debug__" : Str)) = false := by decide) : PE X (.Name x pos) (tC v) :=
  fun _ _ _ H _ I h => ld_blt I hg hm hv ⟨v, H, I, r, h⟩ hn hd

/-! ### arithmetic -/
variable {a b : Expr} {ta tb : TE} {pos : Pos}
/-! ### comparisons -/
/-- a comparison as a value, as a test -/
def tB (t : TE) : TT := fun σ H Q => t σ H fun x H1 => ∃ c, x = .bl c ∧ Q c H1
/-- an expression whose value is a bool, as a test -/
theorem pt_val {e : Expr} {t : TE} (h : PE X e t) (he : ∀ whole, isTrue e X.env whole = (do let v ← whole; standAt e.pos; holding [v] (truthy v)) := by intro _; rfl) : PT X e (tB t) := by
  intro pins s σ H Q I hw
  refine isTrue_plain (thn (h pins s σ H _ I hw) fun v s1 zz => ?_) (he _)
  obtain ⟨x, H1, I1, r1, q1⟩ := zz
  obtain ⟨d, rfl, q⟩ := q1
  cases r1
  exact wpAny_truthy_bool ⟨H1, I1, q⟩

/-! ### and, or, not -/
variable {tA tB' : TT} {rest : List Expr}
def tAnd (t u : TT) : TT := fun σ H Q => t σ H fun c H1 => if c = true then u σ H1 Q else Q false H1
def tOr (t u : TT) : TT := fun σ H Q => t σ H fun c H1 => if c = true then Q true H1 else u σ H1 Q
def tNot (t : TT) : TT := fun σ H Q => t σ H fun c H1 => Q (!c) H1
theorem pw_and1 (ha : PT X a tA) : PW X (.BoolOp .And [a] pos) tA := by
  intro wh pins s σ H Q I h
  refine isTrue_and (thn (ha pins s σ H Q I h) fun c s1 e => ?_)
  cases c with
  | true => exact isTrue_and_nil e
  | false => exact e
theorem pw_or1 (ha : PT X a tA) : PW X (.BoolOp .Or [a] pos) tA := by
  intro wh pins s σ H Q I h
  refine isTrue_or (thn (ha pins s σ H Q I h) fun c s1 e => ?_)
  cases c with
  | false => exact isTrue_or_nil e
  | true => exact e
theorem pw_and (ha : PT X a tA) (hb : PW X (.BoolOp .And (b :: rest) pos) tB') : PW X (.BoolOp .And (a :: b :: rest) pos) (tAnd tA tB') := by
  intro wh pins s σ H Q I h
  refine isTrue_and (thn (ha pins s σ H _ I h) fun c s1 zz => ?_)
  obtain ⟨H1, I1, q1⟩ := zz
  cases c with
  | true => exact hb wh pins s1 σ H1 Q I1 q1
  | false => exact ⟨H1, I1, q1⟩
theorem pw_or (ha : PT X a tA) (hb : PW X (.BoolOp .Or (b :: rest) pos) tB') : PW X (.BoolOp .Or (a :: b :: rest) pos) (tOr tA tB') := by
  intro wh pins s σ H Q I h
  refine isTrue_or (thn (ha pins s σ H _ I h) fun c s1 zz => ?_)
  obtain ⟨H1, I1, q1⟩ := zz
  cases c with
  | true => exact ⟨H1, I1, q1⟩
  | false => exact hb wh pins s1 σ H1 Q I1 q1
theorem pt_not (ha : PT X a tA) : PT X (.UnaryOp .Not a pos) (tNot tA) := by
  intro pins s σ H Q I h
  exact isTrue_not (ha pins s σ H (fun c H1 => Q (!c) H1) I h)
/-- .. as values (bools) -/
def tAndV (ta tb : TE) : TE := fun σ H Q => ta σ H fun x H1 => ∃ c, x = .bl c ∧ if c = true then tb σ H1 Q else Q (.bl false) H1
def tNotV (ta : TE) : TE := fun σ H Q => ta σ H fun x H1 => ∃ c, x = .bl c ∧ Q (.bl (!c)) H1
theorem pe_one {op} {t : TE} (h : PE X a t) : PE X (.BoolOp op [a] pos) t := fun pins s σ H Q I hw => BoolOp_one (h pins s σ H Q I hw)
theorem pe_and (ha : PE X a ta) (hb : PE X (.BoolOp .And (b :: rest) pos) tb) : PE X (.BoolOp .And (a :: b :: rest) pos) (tAndV ta tb) := by
  intro pins s σ H Q I h
  refine BoolOp_and (thn (ha pins s σ H _ I h) fun v s1 zz => ?_)
  obtain ⟨x, H1, I1, r1, q1⟩ := zz
  obtain ⟨c, rfl, q1⟩ := q1
  cases r1
  refine wpAny_truthy_bool ?_
  cases c with
  | true => exact hb pins s1 σ H1 Q I1 q1
  | false => exact ⟨.bl false, H1, I1, rfl, q1⟩
theorem pe_not (ha : PE X a ta) : PE X (.UnaryOp .Not a pos) (tNotV ta) := by
  intro pins s σ H Q I h
  refine UnaryOp_ (thn (ha pins s σ H _ I h) fun v s1 zz => ?_)
  obtain ⟨x, H1, I1, r1, q1⟩ := zz
  obtain ⟨c, rfl, q1⟩ := q1
  cases r1
  exact not_of (wpAny_truthy_bool ⟨.bl (!c), H1, I1, rfl, q1⟩)
/-- a if t else b -/
def tIf (t : TT) (ta tb : TE) : TE := fun σ H Q => t σ H fun c H1 => if c = true then ta σ H1 Q else tb σ H1 Q
theorem pe_ifExp {c : Expr} (hc : PT X c tA) (ha : PE X a ta) (hb : PE X b tb) : PE X (.IfExp c a b pos) (tIf tA ta tb) := by
  intro pins s σ H Q I h
  refine wpAny_IfExp (thn (hc pins s σ H _ I h) fun d s1 zz => ?_)
  obtain ⟨H1, I1, q1⟩ := zz
  cases d with
  | true => exact ha pins s1 σ H1 Q I1 q1
  | false => exact hb pins s1 σ H1 Q I1 q1
end
end L2

namespace L2
open PySem PySem.Spec PyProof.Rows

/-! ### a list, a tuple that is read: tracked, frozen, or an object of the module -/
def SqL (K : PySem.W.Frag) (H : Hp) (a : Addr) (xs : List V) : Prop :=
  Rd H a (.lst xs) ∨
    ∃ (o : Obj) (its : Array Value) (n : Nat), K.lookup a = some o ∧ o.cls = .type "list" ∧ o.dict = none ∧ o.data = .seq its n ∧ its.size ≤ sizeLine ∧ Vals xs its.toList
def SqT (K : PySem.W.Frag) (H : Hp) (a : Addr) (xs : List V) : Prop :=
  Rd H a (.tup xs) ∨
    ∃ (o : Obj) (its : Array Value) (n : Nat), K.lookup a = some o ∧ o.cls = .type "tuple" ∧ o.data = .seq its n ∧ its.size ≤ sizeLine ∧ Vals xs its.toList
def absV : Value → Option V
  | .none => some .non
  | .bool b => some (.bl b)
  | .int i _ => some (.int i)
  | .str x _ => some (.str x)
  | .bytes b _ => some (.byt b)
  | .float b _ => some (.flt b)
  | .ref a => some (.ref a)
  | .type n => some (.ty n)
  | _ => none
theorem RelV.abs {x : V} {u : Value} (r : RelV x u) : absV u = some x := by
  cases x with
  | non => cases r; rfl
  | bl _ => cases r; rfl
  | int _ => obtain ⟨t, rfl⟩ := r; rfl
  | str _ => obtain ⟨t, rfl⟩ := r; rfl
  | byt _ => obtain ⟨t, rfl⟩ := r; rfl
  | flt _ => obtain ⟨t, rfl⟩ := r; rfl
  | ref _ => cases r; rfl
  | ty _ => cases r; rfl
theorem RelV.inj {x y : V} {u : Value} (r : RelV x u) (q : RelV y u) : x = y := Option.some.inj (r.abs.symm.trans q.abs)
theorem Vals.inj : ∀ {xs ys : List V} {us : List Value}, Vals xs us → Vals ys us → xs = ys
  | _, _, _, .nil, .nil => rfl
  | _, _, _, .cons r t, .cons r' t' => by rw [r.inj r', Vals.inj t t']
section
variable {X : Cx} {pins : List (Addr × Obj)} {σ : St} {H : Hp} {s : Shared} {a : Addr} {xs ys : List V}
theorem SqL.of {K : PySem.W.Frag} (h : H a = some (.lst xs)) : SqL K H a xs := .inl (.inl h)
theorem SqT.of {K : PySem.W.Frag} (h : H a = some (.tup xs)) : SqT K H a xs := .inl (.inl h)
theorem Inv.list (I : Inv X pins σ H s) (h : SqL X.K H a xs) : ∃ its : List Value, Vals xs its ∧ PlainL s.heap a its.toArray ∧ xs.length ≤ sizeLine := by
  rcases h with h | ⟨o, its, n, hk, hc, hd, hs, hz, r⟩
  · obtain ⟨z, its, n, r, e⟩ := h.ok I.hok
    exact ⟨its, r, ⟨_, n, e, rfl, rfl, rfl⟩, z⟩
  · refine ⟨its.toList, r, ⟨o, n, I.kIn a o hk, hc, hd, by simpa using hs⟩, ?_⟩
    have e := r.length
    simp only [Array.length_toList] at e
    lia
theorem Inv.tuple (I : Inv X pins σ H s) (h : SqT X.K H a xs) : ∃ its : List Value, Vals xs its ∧ IsTup s.heap a its.toArray ∧ xs.length ≤ sizeLine := by
  rcases h with h | ⟨o, its, n, hk, hc, hs, hz, r⟩
  · obtain ⟨z, its, r, p⟩ := h.ok I.hok
    exact ⟨its, r, p, z⟩
  · refine ⟨its.toList, r, ⟨o, I.kIn a o hk, hc, n, by simpa using hs⟩, ?_⟩
    have e := r.length
    simp only [Array.length_toList] at e
    lia
theorem Inv.list_inj (I : Inv X pins σ H s) (h : SqL X.K H a xs) (h' : SqL X.K H a ys) : xs = ys := by
  obtain ⟨its, r, ⟨o, n, e, _, _, d⟩, _⟩ := I.list h
  obtain ⟨its', r', ⟨o', n', e', _, _, d'⟩, _⟩ := I.list h'
  rw [e] at e'; cases e'
  rw [d] at d'
  injection d' with d1 _
  have : its = its' := by simpa using congrArg Array.toList d1
  subst this
  exact r.inj r'
theorem Inv.tuple_inj (I : Inv X pins σ H s) (h : SqT X.K H a xs) (h' : SqT X.K H a ys) : xs = ys := by
  obtain ⟨its, r, ⟨o, e, _, n, d⟩, _⟩ := I.tuple h
  obtain ⟨its', r', ⟨o', e', _, n', d'⟩, _⟩ := I.tuple h'
  rw [e] at e'; cases e'
  rw [d] at d'
  injection d' with d1 _
  have : its = its' := by simpa using congrArg Array.toList d1
  subst this
  exact r.inj r'
end

/-! ### another wish about exceptions -/
abbrev Cx.wish (X : Cx) (E : Value → Shared → Prop) : Cx := { X with xe := E }
/-- no exception leaves -/
abbrev Cx.nox (X : Cx) : Cx := X.wish fun _ _ => False
theorem Cx.Ok.wish {X : Cx} (ok : X.Ok) (E : Value → Shared → Prop) : (X.wish E).Ok :=
  ⟨ok.mod, ok.kind, ok.glob, ok.blt, ok.above, ok.inj, ok.has, ok.cab, ok.hd, ok.frames, ok.stk, ok.exf, ok.bs, ok.bsz, ok.noex, ok.exfs, ok.funs, ok.frf⟩
theorem Cx.Ok.unwish {X : Cx} {E : Value → Shared → Prop} (ok : (X.wish E).Ok) : X.Ok :=
  ⟨ok.mod, ok.kind, ok.glob, ok.blt, ok.above, ok.inj, ok.has, ok.cab, ok.hd, ok.frames, ok.stk, ok.exf, ok.bs, ok.bsz, ok.noex, ok.exfs, ok.funs, ok.frf⟩
section
variable {X : Cx} {pins : List (Addr × Obj)} {σ : St} {H : Hp} {s : Shared} {E : Value → Shared → Prop}
theorem Inv.wish (I : Inv X pins σ H s) (E : Value → Shared → Prop) : Inv (X.wish E) pins σ H s := ⟨I.ok.wish E, I.os, I.bare, I.base, I.loc, I.cell, I.free, I.freeC, I.pin, I.hok, I.len⟩
theorem Inv.unwish (I : Inv (X.wish E) pins σ H s) : Inv X pins σ H s := ⟨I.ok.unwish, I.os, I.bare, I.base, I.loc, I.cell, I.free, I.freeC, I.pin, I.hok, I.len⟩
theorem SP.unwish {D : Ends} {f : Flow} {s' : Shared} (h : SP (X.wish E) pins D f s') : SP X pins D f s' := by
  cases f with
  | next => obtain ⟨σ', H', I, q⟩ := h; exact ⟨σ', H', I.unwish, q⟩
  | brk => obtain ⟨σ', H', I, q⟩ := h; exact ⟨σ', H', I.unwish, q⟩
  | cont => obtain ⟨σ', H', I, q⟩ := h; exact ⟨σ', H', I.unwish, q⟩
  | ret u => obtain ⟨v, σ', H', I, r, q⟩ := h; exact ⟨v, σ', H', I.unwish, r, q⟩
theorem PSs.nox {st : List Stmt} {t : TS} (h : PSs X.nox st t) : PSs X st t := fun pins s σ H D I hw =>
  wpAny_mono (h pins s σ H D (I.wish _) hw) (fun _ _ q => q.unwish) fun _ _ z => False.elim z
end

/-! ### blocks and small statements -/
section
variable {X : Cx} {st : Stmt} {rest : List Stmt} {t u : TS} {e : Expr} {te : TE} {pos : Pos}
def tNext : TS := fun D σ H => D.nx σ H
def tSeq (t u : TS) : TS := fun D σ H => t { D with nx := u D } σ H
theorem pss_nil : PSs X [] tNext := fun _ _ σ H _ I h => wpAny_execs_nil ⟨σ, H, I, h⟩
theorem pss_cons (h1 : PS X st t) (h2 : PSs X rest u) : PSs X (st :: rest) (tSeq t u) := by
  intro pins s σ H D I h
  refine wpAny_execs_cons (thn (h1 pins s σ H { D with nx := u D } I h) fun f s1 q => ?_)
  cases f with
  | next =>
    obtain ⟨σ', H', I', q⟩ := q
    exact h2 pins s1 σ' H' D I' q
  | ret v => exact q
  | brk => exact q
  | cont => exact q
theorem pss_one (h1 : PS X st t) : PSs X [st] t := by
  intro pins s σ H D I h
  refine wpAny_execs_cons (thn (h1 pins s σ H D I h) fun f s1 q => ?_)
  cases f with
  | next => exact wpAny_execs_nil q
  | ret v => exact q
  | brk => exact q
  | cont => exact q
/-- in a def's body nothing is shown -/
theorem Inv.quiet {pins : List (Addr × Obj)} {σ : St} {H : Hp} {s : Shared} (I : Inv X pins σ H s) : interactive X.env = false := by simp [interactive, I.ok.kind]
/-- an expression whose value is dropped -/
def tDrop (te : TE) : TS := fun D σ H => te σ H fun _ H1 => D.nx σ H1
theorem ps_expr (he : PE X e te) (hs : swapsWith e none pos.line X.env = pure false := by rfl) : PS X (.Expr e pos) (tDrop te) := by
  intro pins s σ H D I h
  exact wpAny_Expr_any (thn (he pins s σ H _ I h) fun v s1 ⟨x, H1, I1, r1, q1⟩ => ⟨σ, H1, I1, q1⟩) I.quiet hs
def tRet (te : TE) : TS := fun D σ H => te σ H D.rt
theorem ps_ret (he : PE X e te) : PS X (.Return (some e) pos) (tRet te) := by
  intro pins s σ H D I h
  exact wpAny_Return_some (thn (he pins s σ H _ I h) fun v s1 ⟨x, H1, I1, r1, q1⟩ => ⟨x, σ, H1, I1, r1, q1⟩)
def tIfS (c : TT) (t u : TS) : TS := fun D σ H => c σ H fun b H1 => if b = true then t D σ H1 else u D σ H1
theorem ps_if {c : Expr} {a b : List Stmt} {tc : TT} (hc : PT X c tc) (ha : PSs X a t) (hb : PSs X b u) : PS X (.If c a b pos) (tIfS tc t u) := by
  intro pins s σ H D I h
  refine wpAny_If (thn (hc pins s σ H _ I h) fun d s1 zz => ?_)
  obtain ⟨H1, I1, q1⟩ := zz
  cases d with
  | true => exact ha pins s1 σ H1 D I1 q1
  | false => exact hb pins s1 σ H1 D I1 q1
/-- code that the proof never comes to -/
def tNever : TS := fun _ _ _ => False
theorem pss_never {sts : List Stmt} : PSs X sts tNever := fun _ _ _ _ _ _ h => h.elim
end

/-! ### targets -/
abbrev TG := V → St → Hp → (St → Hp → Prop) → Prop
abbrev TGs := List V → St → Hp → (St → Hp → Prop) → Prop
def PG (X : Cx) (target : Expr) (t : TG) : Prop :=
  ∀ (pins : List (Addr × Obj)) (s : Shared) (σ : St) (H : Hp) (v : V) (u : Value) (Q : St → Hp → Prop), Inv X pins σ H s → RelV v u → t v σ H Q →
    wpAny (model X.prog X.w) X.A (assign target X.env u) (fun _ s' => ∃ σ' H', Inv X pins σ' H' s' ∧ Q σ' H') X.xe s
/-- several targets, one after another -/
def PGs (X : Cx) (ts : List Expr) (t : TGs) : Prop :=
  ∀ (pins : List (Addr × Obj)) (s : Shared) (σ : St) (H : Hp) (vs : List V) (us : List Value) (Q : St → Hp → Prop), Inv X pins σ H s → Vals vs us → t vs σ H Q →
    wpAny (model X.prog X.w) X.A (assignInOrder ((assignEach ts X.env).map (·.2)) us) (fun _ s' => ∃ σ' H', Inv X pins σ' H' s' ∧ Q σ' H') X.xe s
/-- o[i] = v, by values -/
abbrev TSet := V → V → V → Hp → (Hp → Prop) → Prop
def PSet (X : Cx) (t : TSet) : Prop :=
  ∀ (pins : List (Addr × Obj)) (s : Shared) (σ : St) (H : Hp) (o i v : V) (ov iv u : Value) (Q : Hp → Prop), Inv X pins σ H s → RelV o ov → RelV i iv → RelV v u → t o i v H Q →
    wpAny (model X.prog X.w) X.A (setItem ov iv u) (fun _ s' => ∃ H', Inv X pins σ H' s' ∧ Q H') X.xe s
section
variable {X : Cx} {pos : Pos}
def gName (i : Nat) : TG := fun v σ H Q => Q (σ.set i (some v)) H
theorem pg_name {i : Nat} {x : Str} (hN : X.N.Nodup) (hi : X.N[i]? = some x) (hx : Loc X.env.scope x) (hf : X.fn x = true ∨ X.env.scope.names.lookup x = some .local := by first | exact .inl rfl | exact .inr rfl | assumption) : PG X (.Name x pos) (gName i) := by
  intro pins s σ H v u Q I r h
  exact wpAny_assign_Name (store_ok I hN hi hx r (fun s' I' => ⟨_, H, I', h⟩) hf)
def gNil : TGs := fun vs σ H Q => vs = [] ∧ Q σ H
def gCons (t : TG) (u : TGs) : TGs := fun vs σ H Q => ∃ v r, vs = v :: r ∧ t v σ H fun σ' H' => u r σ' H' Q
theorem pgs_nil : PGs X [] gNil := by
  intro pins s σ H vs us Q I r h
  obtain ⟨e, h⟩ := h
  subst e
  cases r
  exact assignInOrder_nil ⟨σ, H, I, h⟩
theorem pgs_cons {e : Expr} {es : List Expr} {t : TG} {u : TGs} (h1 : PG X e t) (h2 : PGs X es u)
    (hs : (assignEach (e :: es) X.env).map (·.2) = assign e X.env :: (assignEach es X.env).map (·.2) := by rfl) : PGs X (e :: es) (gCons t u) := by
  intro pins s σ H vs us Q I r h
  obtain ⟨v, vr, e1, h⟩ := h
  subst e1
  cases r with
  | cons r rr =>
    rw [hs]
    refine assignInOrder_cons (thn (h1 pins s σ H _ _ _ I r h) fun _ s1 zz => ?_)
    obtain ⟨σ1, H1, I1, q1⟩ := zz
    exact h2 pins s1 σ1 H1 _ _ Q I1 rr q1
/-- (a, b, ..) = a tuple of that length -/
def gTup (K : PySem.W.Frag) (n : Nat) (t : TGs) : TG := fun v σ H Q => ∃ a xs, v = .ref a ∧ SqT K H a xs ∧ xs.length = n ∧ t xs σ H Q
theorem pg_tup {es : List Expr} {k : Nat} {t : TGs} {n : Nat} (hc : X.calm = true) (h : PGs X es t)
    (hn : (assignEach es X.env).length = n := by rfl) (hst : (assignEach es X.env).findIdx? (·.1) = none := by rfl) : PG X (.Tuple es k pos) (gTup X.K n t) := by
  intro pins s σ H v u Q I r hw
  obtain ⟨a, xs, e1, hq, hl, hw⟩ := hw
  subst e1
  cases r
  obtain ⟨its, rv, ht, hz⟩ := I.tuple hq
  refine assign_Tuple_tuple (I.ok.hd hc) ht (by simp [hn, ← hl, rv.length]) hst fun h' hx => ?_
  have I1 : Inv X pins σ H { s with heap := h' } := I.kept (t' := s.toks) fun b o e => hx b o (Nat.ne_of_lt (Heap.lt_size e)) e
  exact h pins _ σ H xs _ Q I1 (by simpa using rv) hw
/-- o[i] = .. -/
def gSub (to ti : TE) (t : TSet) : TG := fun v σ H Q => to σ H fun o H1 => ti σ H1 fun i H2 => t o i v H2 fun H3 => Q σ H3
theorem pg_sub {o i : Expr} {to ti : TE} {t : TSet} (ho : PE X o to) (hi : PE X i ti) (hs : PSet X t)
    (ha : ∀ v, assign (.Subscript o i pos) X.env v = (do
      let ov ← holding [v] (eval o X.env)
      let iv ← holding [v, ov] (eval i X.env)
      standAt pos
      holding [v, ov, iv] (setItem ov iv v)
      release [v, ov, iv] []) := by intro _; rfl) : PG X (.Subscript o i pos) (gSub to ti t) := by
  intro pins s σ H v u Q I r h
  rw [ha]
  refine wpAny_bind (wpAny_holding (thn (ho pins s σ H _ I h) fun ov s1 zz => ?_))
  obtain ⟨x, H1, I1, r1, q1⟩ := zz
  refine wpAny_bind (wpAny_holding (thn (hi pins s1 σ H1 _ I1 q1) fun iv s2 zz => ?_))
  obtain ⟨y, H2, I2, r2, q2⟩ := zz
  refine wpAny_bind (wpAny_standAt (wpAny_bind (wpAny_holding (thn (hs pins s2 σ H2 x y v ov iv u _ I2 r1 r2 r q2) fun _ s3 zz => ?_))))
  obtain ⟨H3, I3, q3⟩ := zz
  exact wpAny_release ⟨σ, H3, I3, q3⟩
/-- target = value -/
def tAsg (te : TE) (g : TG) : TS := fun D σ H => te σ H fun x H1 => g x σ H1 D.nx
theorem ps_asg {tg e : Expr} {te : TE} {g : TG} (he : PE X e te) (hg : PG X tg g) (hs : swapsWithSole [tg] e pos.line X.env = pure false := by rfl) (hw : swappedStores [tg] e X.env = pure none := by rfl)
    (h1 : (assignEach [tg] X.env).map (·.2) = [assign tg X.env] := by rfl) : PS X (.Assign [tg] e pos) (tAsg te g) := by
  intro pins s σ H D I h
  refine wpAny_Assign_stores (thn (he pins s σ H _ I h) fun v s1 zz => ?_) hs hw
  obtain ⟨x, H1, I1, r1, q1⟩ := zz
  rw [h1]
  exact thn (hg pins s1 σ H1 x v _ I1 r1 q1) fun _ s2 q => q
/-- name = value -/
theorem ps_set {i : Nat} {x : Str} {e : Expr} {te : TE} {pos' : Pos} (hN : X.N.Nodup) (hi : X.N[i]? = some x) (hx : Loc X.env.scope x) (he : PE X e te) (hs : swapsWith e (some (.Name x pos')) pos.line X.env = pure false := by rfl) (hf : X.fn x = true ∨ X.env.scope.names.lookup x = some .local := by first | exact .inl rfl | exact .inr rfl | assumption) :
    PS X (.Assign [.Name x pos'] e pos) (tAsg te (gName i)) := by
  intro pins s σ H D I h
  refine wpAny_Assign_Name (thn (he pins s σ H _ I h) fun v s1 zz => ?_) hs
  obtain ⟨y, H1, I1, r1, q1⟩ := zz
  exact store_ok I1 hN hi hx r1 (fun s2 I2 => ⟨_, H1, I2, q1⟩) hf
end

/-! ### while -/
section
variable {X : Cx} {pos : Pos}
/-- the invariant W with its measure -/
def tWhile (c : TT) (tb : TS) : TS := fun D σ H => ∃ W : Nat → St → Hp → Prop, (∃ m, W m σ H) ∧ ∀ m σ H, W m σ H →
  c σ H fun b H1 => if b = true then ∃ N : St → Hp → Prop, (∀ σ' H', N σ' H' → ∃ m', m' < m ∧ W m' σ' H') ∧ tb { D with nx := N, ct := N, bk := D.nx } σ H1 else D.nx σ H1
theorem ps_while {c : Expr} {body : List Stmt} {tc : TT} {tb : TS} (hp : PassesOwn (model X.prog X.w) X.A X.env X.xe) (hc : PT X c tc) (hb : PSs X body tb) : PS X (.While c body [] pos) (tWhile tc tb) := by
  intro pins s σ H D I h
  obtain ⟨W, ⟨m0, w0⟩, turn⟩ := h
  refine wpAny_While (codeAny_whileLoop (fun n s' => ∃ σ' H', Inv X pins σ' H' s' ∧ W n σ' H') ?_ m0 ⟨σ, H, I, w0⟩)
  rintro n s1 ⟨σ1, H1, I1, w1⟩
  refine wpAny_passesOwn hp (thn (hc pins s1 σ1 H1 _ I1 (turn n σ1 H1 w1)) fun b s2 zz => ?_)
  obtain ⟨H2, I2, q2⟩ := zz
  cases b with
  | true =>
    obtain ⟨N, hN, q2⟩ := q2
    rw [if_pos rfl]
    refine wpAny_passesOwn hp (thn (hb pins s2 σ1 H2 _ I2 q2) fun f s3 q3 => ?_)
    cases f with
    | next =>
      obtain ⟨σ3, H3, I3, n3⟩ := q3
      obtain ⟨m', hm, w3⟩ := hN σ3 H3 n3
      exact ⟨m', hm, σ3, H3, I3, w3⟩
    | cont =>
      obtain ⟨σ3, H3, I3, n3⟩ := q3
      obtain ⟨m', hm, w3⟩ := hN σ3 H3 n3
      exact ⟨m', hm, σ3, H3, I3, w3⟩
    | brk => exact q3
    | ret v => exact q3
  | false =>
    rw [if_neg Bool.false_ne_true]
    exact wpAny_execs_nil ⟨σ1, H2, I2, q2⟩
end

/-! ### what a loop or a comprehension walks -/
/-- at turn i: it yields x (the heap may grow), or it stops -/
structure It where
  go : Nat → Hp → Prop
  yld : Nat → Hp → V → Hp → Prop
  stop : Nat → Hp → Prop
/-- the iterator's own objects may turn: they are not the frame's, not pinned, younger than the entry (or a comprehension's own) -/
def FpOk (X : Cx) (pins : List (Addr × Obj)) (H : Hp) (b : Addr) : Prop :=
  H b = none ∧ b ≠ X.env.locals ∧ b ∉ X.fs ∧ (b ∈ X.ex ∨ X.s₀.heap.objs.size ≤ b) ∧ (∀ x c, X.env.cells.lookup x = some c → c ≠ b) ∧ ∀ p ∈ X.pn ++ pins, p.1 ≠ b
theorem Inv.fpOk {X : Cx} {pins : List (Addr × Obj)} {σ : St} {H H' : Hp} {s : Shared} {b : Addr} (I : Inv X pins σ H s) (hb : s.heap.objs.size ≤ b) (hn : H' b = none) : FpOk X pins H' b := by
  refine ⟨hn, Nat.ne_of_gt (Nat.lt_of_lt_of_le I.lt hb), I.nofs hb, .inr (Nat.le_trans I.sz hb), fun x c e z => ?_, fun p hp z => ?_⟩
  · obtain ⟨v, q⟩ := I.cell x c e
    exact absurd (Nat.lt_of_lt_of_le q.lt (by rw [z]; exact hb)) (Nat.lt_irrefl _)
  · exact absurd (Nat.lt_of_lt_of_le (Heap.lt_size (I.pin p hp).1) (by rw [z]; exact hb)) (Nat.lt_irrefl _)
structure Turn (P : Program) (w : World) (K : PySem.W.Frag) (tg : Expr) (J : It) (fp : List Addr) (it : Addr) (tn : Nat → Heap → Prop) : Prop where
  mem : it ∈ fp
  obj : ∀ i h, tn i h → ∀ b ∈ fp, ∃ o, h.get? b = some o ∧ ∀ v, o.data ≠ .cell v
  keep : ∀ i h h', tn i h → (∀ b ∈ fp, ∀ o, h.get? b = some o → h'.get? b = some o) → tn i h'
  item : ∀ (X : Cx), X.prog = P → X.w = w → X.K = K → X.calm = true → ∀ (i : Nat) (pins : List (Addr × Obj)) (s : Shared) (σ : St) (H : Hp) (E : Value → Shared → Prop), Inv X pins σ H s → (∀ b ∈ fp, FpOk X pins H b) → tn i s.heap → J.go i H →
    wpAny (model P w) X.A (pyNext (.ref it)) (fun r s1 => ∃ u, r = some u ∧
      wpAny (model P w) X.A (letOwnedTupleGo tg (.ref it) u) (fun _ s2 => ∃ x H', Inv X pins σ H' s2 ∧ RelV x u ∧ J.yld i H x H' ∧ tn (i + 1) s2.heap ∧ ∀ b ∈ fp, H' b = none) E s1) E s
  done : ∀ (X : Cx), X.prog = P → X.w = w → X.K = K → X.calm = true → ∀ (i : Nat) (pins : List (Addr × Obj)) (s : Shared) (σ : St) (H : Hp) (E : Value → Shared → Prop), Inv X pins σ H s → (∀ b ∈ fp, FpOk X pins H b) → tn i s.heap → J.stop i H →
    wpAny (model P w) X.A (pyNext (.ref it)) (fun r s1 => r = none ∧ Inv X pins σ H s1) E s
  self : ∀ (A : Around) (i : Nat) (s : Shared) (Q : Value → Shared → Prop) (E : Value → Shared → Prop), tn i s.heap → Q (.ref it) s → wpAny (model P w) A (pyIter (.ref it)) Q E s
abbrev TI := St → Hp → (It → Hp → Prop) → Prop
/-- an iterator has come -/
def PIE (X : Cx) (pins : List (Addr × Obj)) (σ : St) (tg : Expr) (R : It → Hp → Prop) (itv : Value) (s2 : Shared) : Prop :=
  ∃ (it : Addr) (fp : List Addr) (tn : Nat → Heap → Prop) (J : It) (H' : Hp), itv = .ref it ∧ Inv X pins σ H' s2 ∧ Turn X.prog X.w X.K tg J fp it tn ∧ tn 0 s2.heap ∧ (∀ b ∈ fp, FpOk X pins H' b) ∧ R J H'
def PI (X : Cx) (tg iter : Expr) (wi : TI) : Prop :=
  ∀ (pins : List (Addr × Obj)) (s : Shared) (σ : St) (H : Hp) (R : It → Hp → Prop), Inv X pins σ H s → wi σ H R →
    wpAny (model X.prog X.w) X.A (eval iter X.env) (fun v s1 => wpAny (model X.prog X.w) X.A (pyIter v) (PIE X pins σ tg R) X.xe s1) X.xe s

/-- the step ahead of the store is nothing for an iterator that keeps no tuple -/
theorem go_of {M : Model} {A : Around} {E : Value → Shared → Prop} {s : Shared} {tg : Expr} {it : Addr} {u : Value} {o : Obj} {n : String} {vs : Array Value} {Q : Unit → Shared → Prop} (ho : s.heap.get? it = some o) (hc : o.cls = .type n) (hd : o.data = .fields vs)
    (hn : ["enumerate", "zip", "dict_itemiterator", "dict_reverseitemiterator", "odict_iterator", "itertools.zip_longest", "itertools.pairwise"].contains n = false) (hQ : Q () s) : wpAny M A (letOwnedTupleGo tg (.ref it) u) Q E s := by
  unfold letOwnedTupleGo
  cases tg <;> first
    | exact wpAny_pure hQ
    | (cases u <;> first
        | exact wpAny_pure hQ
        | (refine wpAny_bind (wpAny_load ho ?_)
           rw [hc, hd]
           show wpAny M A (if (["enumerate", "zip", "dict_itemiterator", "dict_reverseitemiterator", "odict_iterator", "itertools.zip_longest", "itertools.pairwise"].contains n && vs[0]? == some (rawInt _)) = true then _ else _) Q E s
           rw [if_neg (by intro h; rw [hn, Bool.false_and] at h; cases h)]
           exact wpAny_pure hQ))

/-- the list at a, as it stands at each turn (a loop may append to it) -/
def Itl (K : PySem.W.Frag) (a : Addr) : It :=
  ⟨fun i H => ∃ xs x, SqL K H a xs ∧ xs[i]? = some x, fun i H x H' => H' = H ∧ ∀ xs, SqL K H a xs → xs[i]? = some x, fun i H => ∃ xs, SqL K H a xs ∧ xs.length ≤ i⟩
/-- lo, lo + 1, .. (n of them) -/
def Itr (lo : Int) (n : Nat) : It := ⟨fun i _ => i < n, fun i H x H' => H' = H ∧ x = .int (lo + i), fun i _ => n ≤ i⟩
theorem turn_list {P : Program} {w : World} {K : PySem.W.Frag} {tg : Expr} (a it : Addr) : Turn P w K tg (Itl K a) [it] it (fun i h => h.IsListIter it a i) where
  mem := by simp
  obj := fun i h st b hb => by
    have e : b = it := by simpa using hb
    subst e
    obtain ⟨o, e, c, d⟩ := st
    exact ⟨o, e, fun v z => by rw [d] at z; cases z⟩
  keep := fun i h h' st k => st.at fun o e => k it (by simp) o e
  item := by
    intro X hP hw hK hc i pins s σ H E I hf st hg
    subst hP hw hK
    obtain ⟨xs, x, hq, hx⟩ := hg
    obtain ⟨its, rv, p, hz⟩ := I.list hq
    obtain ⟨u, hu, ru⟩ := rv.get hx
    obtain ⟨f0, f1, f2, f3, f4, f5⟩ := hf it (by simp)
    refine wpAny_pyNext_list_item st p.isList (x := u) (by simpa using hu) fun h' st' sb => ?_
    have I1 : Inv X pins σ H { s with heap := h' } := I.turned (t' := s.toks) (fun b o hb e => (sb.2 b hb).trans e) f0 f1 f3 f4 f5
    obtain ⟨o, e, c, d⟩ := id st'
    exact ⟨u, rfl, go_of (s := { s with heap := h' }) e c d (by decide) ⟨x, H, I1, ru, ⟨rfl, fun ys hy => by rw [I.list_inj hy hq]; exact hx⟩, st', fun b hb => (hf b hb).1⟩⟩
  done := by
    intro X hP hw hK hc i pins s σ H E I hf st hg
    subst hP hw hK
    obtain ⟨xs, hq, hx⟩ := hg
    obtain ⟨its, rv, p, hz⟩ := I.list hq
    obtain ⟨f0, f1, f2, f3, f4, f5⟩ := hf it (by simp)
    have hl := rv.length
    exact wpAny_pyNext_list_end (I.ok.hd hc) st p.isList (by simp; lia) fun h' eb => ⟨rfl, I.turned (t' := s.toks) (fun b o hb e => eb b o hb e) f0 f1 f3 f4 f5⟩
  self := fun _ _ _ _ _ st h => wpAny_pyIter_listiter st h
theorem turn_range {P : Program} {w : World} {K : PySem.W.Frag} {tg : Expr} (it : Addr) (lo : Int) (n : Nat) : Turn P w K tg (Itr lo n) [it] it (fun i h => IsRangeIter h it (lo + (i : Nat) * 1) ((n : Int) - (i : Nat)) 1) where
  mem := by simp
  obj := fun i h st b hb => by
    have e : b = it := by simpa using hb
    subst e
    exact ⟨_, st, fun v z => by
      have z' : Data.fields _ = Data.cell v := z
      cases z'⟩
  keep := fun i h h' st k => k it (by simp) _ st
  item := by
    intro X hP hw hK hc i pins s σ H E I hf st hg
    subst hP hw hK
    obtain ⟨f0, f1, f2, f3, f4, f5⟩ := hf it (by simp)
    have W := Walks.range (prog := X.prog) (w := X.w) (I.ok.hd hc) it lo 1 n
    refine W.item i s _ _ hg st fun v h' tk hv st' kk => ?_
    obtain ⟨t, rfl⟩ := hv
    have I1 : Inv X pins σ H { s with heap := h', toks := tk } := I.turned (fun b o hb e => kk b o (by simpa using hb) e) f0 f1 f3 f4 f5
    refine ⟨_, rfl, go_of (s := { s with heap := h', toks := tk }) (n := "range_iterator") st' rfl rfl (by decide) ⟨.int (lo + i), H, I1, ⟨t, ?_⟩, ⟨rfl, rfl⟩, st', fun b hb => (hf b hb).1⟩⟩
    rw [Int.mul_one]
  done := by
    intro X hP hw hK hc i pins s σ H E I hf st hg
    subst hP hw hK
    obtain ⟨f0, f1, f2, f3, f4, f5⟩ := hf it (by simp)
    exact wpAny_pyNext_range_end (I.ok.hd hc) st (by have : n ≤ i := hg; lia) fun h' eb => ⟨rfl, I.turned (t' := s.toks) (fun b o hb e => eb b o hb e) f0 f1 f3 f4 f5⟩
  self := fun _ _ _ _ _ st h => wpAny_pyIter_rangeiter st h
end L2

namespace L2
open PySem PySem.Spec PyProof.Rows
section
variable {X : Cx} {tg : Expr}
def iList (K : PySem.W.Frag) (tl : TE) : TI := fun σ H R => tl σ H fun x H1 => ∃ a, x = .ref a ∧ (∃ xs, SqL K H1 a xs) ∧ R (Itl K a) H1
theorem pi_list {l : Expr} {tl : TE} (hl : PE X l tl) : PI X tg l (iList X.K tl) := by
  intro pins s σ H R I h
  refine thn (hl pins s σ H _ I h) fun v s1 zz => ?_
  obtain ⟨x, H1, I1, r1, q1⟩ := zz
  obtain ⟨a, e, ⟨xs, hq⟩, q⟩ := q1
  subst e
  cases r1
  obtain ⟨its, rv, p, hz⟩ := I1.list hq
  refine wpAny_pyIter_list p.isList ?_
  refine ⟨s1.heap.objs.size, [s1.heap.objs.size], _, _, H1, rfl, I1.kept (t' := s1.toks) fun b o e => Heap.get?_push_of_some _ e, turn_list a _, ⟨_, Heap.get?_push_size _ rfl, rfl, rfl⟩, fun b hb => ?_, q⟩
  have e : b = s1.heap.objs.size := by simpa using hb
  subst e
  exact I1.fpOk (Nat.le_refl _) (I1.hok.fresh (Nat.le_refl _))
/-- a range object just made, walked -/
theorem range_it {pins : List (Addr × Obj)} {σ : St} {H : Hp} {s : Shared} {R : It → Hp → Prop} {E : Value → Shared → Prop} {lo hi : Int} {t u v : Tok} {tk : Nat} (I : Inv X pins σ H s) (h1 : -(2 ^ 62) ≤ lo) (h2 : lo < 2 ^ 62) (h3 : -(2 ^ 62) ≤ hi) (h4 : hi < 2 ^ 62)
    (q : R (Itr lo (hi - lo).toNat) H) : wpAny (model X.prog X.w) X.A (pyIter (.ref s.heap.objs.size)) (PIE X pins σ tg R) E { s with heap := s.heap.push { cls := .type "range", data := .fields #[.int lo t, .int hi u, .int 1 v] }, toks := tk } := by
  refine wpAny_pyIter_range (IsRange.new ..) (small_one h1 h2 h3 h4) ?_
  have I1 : Inv X pins σ H { s with heap := s.heap.push { cls := .type "range", data := .fields #[.int lo t, .int hi u, .int 1 v] }, toks := tk } := I.kept fun b o e => Heap.get?_push_of_some _ e
  refine ⟨(s.heap.push { cls := .type "range", data := .fields #[.int lo t, .int hi u, .int 1 v] }).objs.size, [(s.heap.push { cls := .type "range", data := .fields #[.int lo t, .int hi u, .int 1 v] }).objs.size], _, _, H, rfl,
    I1.kept (t' := tk) fun b o e => Heap.get?_push_of_some _ e, turn_range _ lo (hi - lo).toNat, ?_, fun b hb => ?_, q⟩
  · have e1 : lo + ((0 : Nat) : Int) * 1 = lo := by simp
    have e2 : (((hi - lo).toNat : Nat) : Int) - ((0 : Nat) : Int) = Builtin.Range.rangeSize lo hi 1 := by rw [rangeSize_one]; split <;> lia
    show IsRangeIter _ _ (lo + ((0 : Nat) : Int) * 1) ((((hi - lo).toNat : Nat) : Int) - ((0 : Nat) : Int)) 1
    rw [e1, e2]
    exact Heap.get?_push_size _ rfl
  · have e : b = (s.heap.push { cls := .type "range", data := .fields #[.int lo t, .int hi u, .int 1 v] }).objs.size := by simpa using hb
    subst e
    exact I1.fpOk (Nat.le_refl _) (I1.hok.fresh (Nat.le_refl _))
def iRng1 (ta : TA) : TI := fun σ H R => ta σ H fun vs H1 => ∃ j : Int, vs = [.int j] ∧ -(2 ^ 62) ≤ j ∧ j < 2 ^ 62 ∧ R (Itr 0 j.toNat) H1
def iRng2 (ta : TA) : TI := fun σ H R => ta σ H fun vs H1 => ∃ i j : Int, vs = [.int i, .int j] ∧ (-(2 ^ 62) ≤ i ∧ i < 2 ^ 62 ∧ -(2 ^ 62) ≤ j ∧ j < 2 ^ 62) ∧ R (Itr i (j - i).toNat) H1
theorem pi_range1 {a : Expr} {ta : TA} {p pos : Pos} (hg : Gl X "range") (hm : X.mg "range" = none) (ha : PA X [a] ta) (hs : starEach [a] X.env = [(false, eval a X.env)] := by rfl) : PI X tg (.Call (.Name "range" p) [a] [] pos) (iRng1 ta) := by
  intro pins s σ H R I h
  refine Call_ (ld_blt I hg hm boot_range (PyProof.Rows.callWith_type1 (thn (ha pos pins s σ H _ I h) fun us s1 zz => ?_) hs rfl))
  obtain ⟨vs, H1, I1, r1, q1⟩ := zz
  obtain ⟨j, e, q1, q2, q⟩ := q1
  subst e
  cases r1 with
  | cons r rr =>
    cases rr
    obtain ⟨t, rfl⟩ := r
    exact call_range_1 (range_it I1 (by lia) (by lia) q1 q2 (by simpa using q))
theorem pi_range2 {a b : Expr} {ta : TA} {p pos : Pos} (hg : Gl X "range") (hm : X.mg "range" = none) (ha : PA X [a, b] ta) (hs : starEach [a, b] X.env = [(false, eval a X.env), (false, eval b X.env)] := by rfl) (hs2 : starEach [b] X.env = [(false, eval b X.env)] := by rfl) :
    PI X tg (.Call (.Name "range" p) [a, b] [] pos) (iRng2 ta) := by
  intro pins s σ H R I h
  refine Call_ (ld_blt I hg hm boot_range (PyProof.Rows.callWith_type1 (thn (ha pos pins s σ H _ I h) fun us s1 zz => ?_) (by rw [hs, hs2]) (by rw [hs2]; rfl)))
  obtain ⟨vs, H1, I1, r1, q1⟩ := zz
  obtain ⟨i, j, e, ⟨q1, q2, q3, q4⟩, q⟩ := q1
  subst e
  cases r1 with
  | cons r rr =>
    cases rr with
    | cons r' rr =>
      cases rr
      obtain ⟨t, rfl⟩ := r
      obtain ⟨t', rfl⟩ := r'
      exact call_range_2 (range_it I1 q1 q2 q3 q4 q)

/-! ### for -/
/-- W: the invariant by the turn and a measure; N: what the body is to reach -/
def tFor (wi : TI) (g : TG) (tb : TS) : TS := fun D σ H => wi σ H fun J H1 => ∃ W : Nat → Nat → St → Hp → Prop, (∃ m, W 0 m σ H1) ∧ ∀ i m σ H, W i m σ H →
  (J.stop i H ∧ D.nx σ H) ∨ (J.go i H ∧ ∃ N : St → Hp → Prop, (∀ σ' H', N σ' H' → ∃ m', m' < m ∧ W (i + 1) m' σ' H') ∧ ∀ x H', J.yld i H x H' → g x σ H' fun σ2 H2 => tb { D with nx := N, ct := N, bk := D.nx } σ2 H2)
/-- the records at fp as they stand -/
def pinsAt (fp : List Addr) (h : Heap) : List (Addr × Obj) := fp.filterMap fun b => (h.get? b).map fun o => (b, o)
theorem mem_pinsAt {fp : List Addr} {h : Heap} {b : Addr} {o : Obj} (hb : b ∈ fp) (e : h.get? b = some o) : (b, o) ∈ pinsAt fp h := List.mem_filterMap.mpr ⟨b, hb, by rw [e]; rfl⟩
theorem of_pinsAt {fp : List Addr} {h : Heap} {p : Addr × Obj} (hp : p ∈ pinsAt fp h) : p.1 ∈ fp ∧ h.get? p.1 = some p.2 := by
  obtain ⟨b, hb, e⟩ := List.mem_filterMap.mp hp
  cases q : h.get? b with
  | none => rw [q] at e; cases e
  | some o =>
    rw [q] at e
    have e' : (b, o) = p := Option.some.inj e
    subst e'
    exact ⟨hb, q⟩
theorem Inv.pinned {pins : List (Addr × Obj)} {σ : St} {H : Hp} {s : Shared} {fp : List Addr} (I : Inv X pins σ H s) (hf : ∀ b ∈ fp, FpOk X pins H b) (ho : ∀ b ∈ fp, ∃ o, s.heap.get? b = some o ∧ ∀ v, o.data ≠ .cell v) : Inv X (pins ++ pinsAt fp s.heap) σ H s :=
  I.pins_of fun p hp => (List.mem_append.mp hp).elim (fun z => I.pin p (List.mem_append_right _ z)) fun z => by
    obtain ⟨hb, e⟩ := of_pinsAt z
    obtain ⟨f0, f1, f2, _⟩ := hf p.1 hb
    obtain ⟨o, e', d⟩ := ho p.1 hb
    rw [e] at e'; cases e'
    exact ⟨e, f0, f1, f2, d⟩
theorem Inv.unpinned {pins pl : List (Addr × Obj)} {σ : St} {H : Hp} {s : Shared} (I : Inv X (pins ++ pl) σ H s) : Inv X pins σ H s := I.pins_of fun p hp => I.pin p (List.mem_append_right _ (List.mem_append_left _ hp))
theorem ps_for {iter : Expr} {body : List Stmt} {wi : TI} {g : TG} {tb : TS} {pos : Pos} (hp : PassesOwn (model X.prog X.w) X.A X.env X.xe) (hc : X.calm = true) (hi : PI X tg iter wi) (hg : PG X tg g) (hb : PSs X body tb)
    (hs : ∀ x, foldedSetIterable iter X.env x = pure x := by intro _; rfl) : PS X (.For tg iter body [] pos) (tFor wi g tb) := by
  intro pins s σ H D I h
  refine wpAny_For (thn (hi pins s σ H _ I h) fun v s1 h1 => thn h1 fun itv s2 h2 => ?_) hs
  obtain ⟨it, fp, tn, J, H2, e, I2, T, st2, f2, W, ⟨m0, w0⟩, turn⟩ := h2
  subst e
  -- what stays true of the iterator's objects through the loop
  have stat : ∀ {H' : Hp}, (∀ b ∈ fp, H' b = none) → ∀ b ∈ fp, FpOk X pins H' b := fun hn b hb => ⟨hn b hb, (f2 b hb).2⟩
  refine codeAny_forLoop_any (fun n s' => ∃ i σ' H', Inv X pins σ' H' s' ∧ tn i s'.heap ∧ (∀ b ∈ fp, H' b = none) ∧ W i n σ' H') ?_ m0 ⟨0, σ, H2, I2, st2, fun b hb => (f2 b hb).1, w0⟩
  rintro n s3 ⟨i, σ3, H3, I3, st3, fr3, w3⟩
  rcases turn i n σ3 H3 w3 with ⟨stop, qn⟩ | ⟨go, N, hN, step⟩
  · refine wpAny_passesOwn hp (thn (T.done X rfl rfl rfl hc i pins s3 σ3 H3 X.xe I3 (stat fr3) st3 stop) fun r s4 zz => ?_)
    obtain ⟨hr, I4⟩ := zz
    subst hr
    exact wpAny_execs_nil ⟨σ3, H3, I4, qn⟩
  · refine wpAny_passesOwn hp (thn (T.item X rfl rfl rfl hc i pins s3 σ3 H3 X.xe I3 (stat fr3) st3 go) fun r s4 zz => ?_)
    obtain ⟨u, hr, h4⟩ := zz
    subst hr
    refine wpAny_passesOwn hp (thn h4 fun _ s5 zz => ?_)
    obtain ⟨x, H5, I5, r5, y5, st5, fr5⟩ := zz
    have I5' := I5.pinned (stat fr5) (T.obj _ _ st5)
    refine wpAny_passesOwn hp (thn (hg _ s5 σ3 H5 x u _ I5' r5 (step x H5 y5)) fun _ s6 zz => ?_)
    obtain ⟨σ6, H6, I6, q6⟩ := zz
    refine wpAny_passesOwn hp (thn (hb _ s6 σ6 H6 _ I6 q6) fun f s7 q7 => ?_)
    have again : ∀ {σ7 : St} {H7 : Hp}, Inv X (pins ++ pinsAt fp s5.heap) σ7 H7 s7 → N σ7 H7 → ∃ m, m < n ∧ ∃ i σ' H', Inv X pins σ' H' s7 ∧ tn i s7.heap ∧ (∀ b ∈ fp, H' b = none) ∧ W i m σ' H' := fun {σ7 H7} I7 n7 => by
      obtain ⟨m', hm, w7⟩ := hN σ7 H7 n7
      refine ⟨m', hm, i + 1, σ7, H7, I7.unpinned, T.keep _ _ _ st5 fun b hb o e => (I7.pin (b, o) (List.mem_append_right _ (List.mem_append_right _ (mem_pinsAt hb e)))).1, fun b hb => ?_, w7⟩
      obtain ⟨o, e, d⟩ := T.obj _ _ st5 b hb
      exact (I7.pin (b, o) (List.mem_append_right _ (List.mem_append_right _ (mem_pinsAt hb e)))).2.1
    cases f with
    | next => obtain ⟨σ7, H7, I7, n7⟩ := q7; exact again I7 n7
    | cont => obtain ⟨σ7, H7, I7, n7⟩ := q7; exact again I7 n7
    | brk => obtain ⟨σ7, H7, I7, q7⟩ := q7; exact ⟨σ7, H7, I7.unpinned, q7⟩
    | ret v => obtain ⟨x7, σ7, H7, I7, r7, q7⟩ := q7; exact ⟨x7, σ7, H7, I7.unpinned, r7, q7⟩
end

/-! ### the forms one uses -/
/-- over a list that the body leaves as it is -/
theorem for_list {K : PySem.W.Frag} {a : Addr} {xs : List V} {g : TG} {tb : TS} {D : Ends} {σ : St} {H : Hp} (Pv : Nat → St → Hp → Prop) (h0 : Pv 0 σ H) (hl : ∀ i σ H, i ≤ xs.length → Pv i σ H → SqL K H a xs)
    (hs : ∀ i x σ H, xs[i]? = some x → Pv i σ H → g x σ H fun σ2 H2 => tb { D with nx := Pv (i + 1), ct := Pv (i + 1), bk := D.nx } σ2 H2) (hd : ∀ σ H, Pv xs.length σ H → D.nx σ H) :
    ∃ W : Nat → Nat → St → Hp → Prop, (∃ m, W 0 m σ H) ∧ ∀ i m σ H, W i m σ H →
      ((Itl K a).stop i H ∧ D.nx σ H) ∨ ((Itl K a).go i H ∧ ∃ N : St → Hp → Prop, (∀ σ' H', N σ' H' → ∃ m', m' < m ∧ W (i + 1) m' σ' H') ∧ ∀ x H', (Itl K a).yld i H x H' → g x σ H' fun σ2 H2 => tb { D with nx := N, ct := N, bk := D.nx } σ2 H2) := by
  refine ⟨fun i m σ H => m = xs.length - i ∧ i ≤ xs.length ∧ Pv i σ H, ⟨xs.length, by simp, Nat.zero_le _, h0⟩, ?_⟩
  rintro i m σ H ⟨rfl, hi, p⟩
  have q := hl i σ H hi p
  by_cases hlt : i < xs.length
  · refine .inr ⟨⟨xs, xs[i], q, by simp [hlt]⟩, Pv (i + 1), fun σ' H' p' => ⟨xs.length - (i + 1), by lia, rfl, hlt, p'⟩, fun x H' y => ?_⟩
    obtain ⟨e, y⟩ := y
    subst e
    exact hs i x σ _ (y xs q) p
  · have e : i = xs.length := by lia
    subst e
    exact .inl ⟨⟨xs, q, Nat.le_refl _⟩, hd σ H p⟩
theorem for_range {lo : Int} {n : Nat} {g : TG} {tb : TS} {D : Ends} {σ : St} {H : Hp} (Pv : Nat → St → Hp → Prop) (h0 : Pv 0 σ H)
    (hs : ∀ i σ H, i < n → Pv i σ H → g (.int (lo + i)) σ H fun σ2 H2 => tb { D with nx := Pv (i + 1), ct := Pv (i + 1), bk := D.nx } σ2 H2) (hd : ∀ σ H, Pv n σ H → D.nx σ H) :
    ∃ W : Nat → Nat → St → Hp → Prop, (∃ m, W 0 m σ H) ∧ ∀ i m σ H, W i m σ H →
      ((Itr lo n).stop i H ∧ D.nx σ H) ∨ ((Itr lo n).go i H ∧ ∃ N : St → Hp → Prop, (∀ σ' H', N σ' H' → ∃ m', m' < m ∧ W (i + 1) m' σ' H') ∧ ∀ x H', (Itr lo n).yld i H x H' → g x σ H' fun σ2 H2 => tb { D with nx := N, ct := N, bk := D.nx } σ2 H2) := by
  refine ⟨fun i m σ H => m = n - i ∧ i ≤ n ∧ Pv i σ H, ⟨n, by simp, Nat.zero_le _, h0⟩, ?_⟩
  rintro i m σ H ⟨rfl, hi, p⟩
  by_cases hlt : i < n
  · refine .inr ⟨hlt, Pv (i + 1), fun σ' H' p' => ⟨n - (i + 1), by lia, rfl, hlt, p'⟩, fun x H' y => ?_⟩
    obtain ⟨e, y⟩ := y
    subst e y
    exact hs i σ _ hlt p
  · have e : i = n := by lia
    subst e
    exact .inl ⟨Nat.le_refl _, hd σ H p⟩
/-- while, by a word and a measure of the state -/
theorem while_by {c : TT} {tb : TS} {D : Ends} {σ : St} {H : Hp} (Pv : St → Hp → Prop) (μ : St → Hp → Nat) (h0 : Pv σ H)
    (hs : ∀ σ H, Pv σ H → c σ H fun b H1 => if b = true then tb { D with nx := fun σ' H' => Pv σ' H' ∧ μ σ' H' < μ σ H, ct := fun σ' H' => Pv σ' H' ∧ μ σ' H' < μ σ H, bk := D.nx } σ H1 else D.nx σ H1)
    (mono : ∀ σ H Q Q', (∀ b H1, Q b H1 → Q' b H1) → c σ H Q → c σ H Q') : tWhile c tb D σ H := by
  refine ⟨fun m σ H => m = μ σ H ∧ Pv σ H, ⟨_, rfl, h0⟩, ?_⟩
  rintro m σ H ⟨rfl, p⟩
  refine mono σ H _ _ (fun b H1 q => ?_) (hs σ H p)
  cases b with
  | true => exact ⟨_, fun σ' H' ⟨p', l⟩ => ⟨_, l, rfl, p'⟩, q⟩
  | false => exact q
end L2

namespace L2
open PySem PySem.Spec PyProof.Rows

abbrev R2 := V → V → Hp → VK → Prop
/-- a two-place operation on values: f is binaryOp op, inplaceOp op or compareOp op -/
def OpR (X : Cx) (f : Value → Value → Sem Value) (r : R2) : Prop :=
  ∀ (pins : List (Addr × Obj)) (s : Shared) (σ : St) (H : Hp) (x y : V) (v u : Value) (Q : VK), Inv X pins σ H s → RelV x v → RelV y u → r x y H Q →
    wpAny (model X.prog X.w) X.A (f v u) (EP X pins σ Q) X.xe s
/-- a one-place operation -/
def UnR (X : Cx) (f : Value → Sem Value) (r : V → Hp → VK → Prop) : Prop :=
  ∀ (pins : List (Addr × Obj)) (s : Shared) (σ : St) (H : Hp) (x : V) (v : Value) (Q : VK), Inv X pins σ H s → RelV x v → r x H Q →
    wpAny (model X.prog X.w) X.A (f v) (EP X pins σ Q) X.xe s
/-- a call of a value that is known (a builtin, a type) with values -/
def CallR (X : Cx) (f : Value) (r : List V → Hp → VK → Prop) : Prop :=
  ∀ (pins : List (Addr × Obj)) (s : Shared) (σ : St) (H : Hp) (xs : List V) (us : List Value) (Q : VK), Inv X pins σ H s → Vals xs us → r xs H Q →
    wpAny (model X.prog X.w) X.A (call f us) (EP X pins σ Q) X.xe s
def tOp (r : R2) (ta tb : TE) : TE := fun σ H Q => ta σ H fun x H1 => tb σ H1 fun y H2 => r x y H2 Q
def tUn (r : V → Hp → VK → Prop) (ta : TE) : TE := fun σ H Q => ta σ H fun x H1 => r x H1 Q
/-- ints in, under C, and a value out -/
def rI (C : Int → Int → Prop) (g : Int → Int → V) : R2 := fun x y H Q => ∃ i j, x = .int i ∧ y = .int j ∧ C i j ∧ Q (g i j) H
def rI0 (g : Int → Int → V) : R2 := fun x y H Q => ∃ i j, x = .int i ∧ y = .int j ∧ Q (g i j) H
def rU (g : Int → V) : V → Hp → VK → Prop := fun x H Q => ∃ i, x = .int i ∧ Q (g i) H

section
variable {X : Cx} {a b c : Expr} {ta tb tc : TE} {pos : Pos}

theorem binT (ha : PE X a ta) (hb : PE X b tb) {pins : List (Addr × Obj)} {s : Shared} {σ : St} {H : Hp} {R : V → V → Hp → Prop} (I : Inv X pins σ H s)
    (h : ta σ H fun x H1 => tb σ H1 fun y H2 => R x y H2) {Q : Value → Shared → Prop} {f : Value → Value → Sem Value}
    (hf : ∀ v u s2 x y H2, Inv X pins σ H2 s2 → RelV x v → RelV y u → R x y H2 → wpAny (model X.prog X.w) X.A (f v u) Q X.xe s2) :
    wpAny (model X.prog X.w) X.A (eval a X.env) (fun v s₁ => wpAny (model X.prog X.w) X.A (eval b X.env) (fun u s₂ => wpAny (model X.prog X.w) X.A (f v u) Q X.xe s₂) X.xe s₁) X.xe s := by
  refine thn (ha pins s σ H _ I h) fun v s1 zz => ?_
  obtain ⟨x, H1, I1, r1, q1⟩ := zz
  refine thn (hb pins s1 σ H1 _ I1 q1) fun u s2 zz => ?_
  obtain ⟨y, H2, I2, r2, q2⟩ := zz
  exact hf v u s2 x y H2 I2 r1 r2 q2

theorem pe_op {op : Operator} {r : R2} (ho : OpR X (binaryOp op) r) (ha : PE X a ta) (hb : PE X b tb) : PE X (.BinOp a op b pos) (tOp r ta tb) := by
  intro pins s σ H Q I h
  exact wpAny_BinOp (binT ha hb I h fun v u s2 x y H2 I2 rx ry q => ho pins s2 σ H2 x y v u Q I2 rx ry q)
theorem pe_un {op : UnaryOp} {r : V → Hp → VK → Prop} (ho : UnR X (unaryOp op) r) (ha : PE X a ta) : PE X (.UnaryOp op a pos) (tUn r ta) := by
  intro pins s σ H Q I h
  exact UnaryOp_ (thn (ha pins s σ H _ I h) fun v s1 ⟨x, H1, I1, r1, q1⟩ => ho pins s1 σ H1 x v Q I1 r1 q1)
/-! ### ints -/
theorem opI {f : Value → Value → Sem Value} {C : Int → Int → Prop} {g : Int → Int → Int}
    (rule : ∀ (i j : Int) (t u : Tok) (s : Shared) (Q : Value → Shared → Prop) (E : Value → Shared → Prop), C i j → Q (.int (g i j) s.toks) { s with toks := s.toks + 1 } → wpAny (model X.prog X.w) X.A (f (.int i t) (.int j u)) Q E s) :
    OpR X f (rI C fun i j => .int (g i j)) := by
  intro pins s σ H x y v u Q I rx ry h
  obtain ⟨i, j, rfl, rfl, hc, q⟩ := h
  obtain ⟨t, rfl⟩ := rx
  obtain ⟨t', rfl⟩ := ry
  exact rule i j t t' s _ _ hc ⟨.int (g i j), H, I.tok _, ⟨_, rfl⟩, q⟩
theorem opI0 {f : Value → Value → Sem Value} {g : Int → Int → Int}
    (rule : ∀ (i j : Int) (t u : Tok) (s : Shared) (Q : Value → Shared → Prop) (E : Value → Shared → Prop), Q (.int (g i j) s.toks) { s with toks := s.toks + 1 } → wpAny (model X.prog X.w) X.A (f (.int i t) (.int j u)) Q E s) :
    OpR X f (rI0 fun i j => .int (g i j)) := by
  intro pins s σ H x y v u Q I rx ry h
  obtain ⟨i, j, rfl, rfl, q⟩ := h
  obtain ⟨t, rfl⟩ := rx
  obtain ⟨t', rfl⟩ := ry
  exact rule i j t t' s _ _ ⟨.int (g i j), H, I.tok _, ⟨_, rfl⟩, q⟩
theorem opB0 {f : Value → Value → Sem Value} {g : Int → Int → Bool}
    (rule : ∀ (i j : Int) (t u : Tok) (s : Shared) (Q : Value → Shared → Prop) (E : Value → Shared → Prop), Q (.bool (g i j)) s → wpAny (model X.prog X.w) X.A (f (.int i t) (.int j u)) Q E s) :
    OpR X f (rI0 fun i j => .bl (g i j)) := by
  intro pins s σ H x y v u Q I rx ry h
  obtain ⟨i, j, rfl, rfl, q⟩ := h
  obtain ⟨t, rfl⟩ := rx
  obtain ⟨t', rfl⟩ := ry
  exact rule i j t t' s _ _ ⟨.bl (g i j), H, I, rfl, q⟩

def CDiv (i j : Int) : Prop := 0 < j ∧ j < 1073741824
def CPow (i j : Int) : Prop := 0 ≤ j ∧ j ≤ 1000000 ∧ i.natAbs < 2 ^ 64
def CMul (i j : Int) : Prop := (-(2 ^ 64) < i ∧ i < 2 ^ 64) ∨ (-(2 ^ 64) < j ∧ j < 2 ^ 64)
theorem CMul.ok {i j : Int} (h : CMul i j) : IntMulOk i j := by
  rcases h with ⟨h1, h2⟩ | ⟨h1, h2⟩
  · exact .of_left (intBits_le_64 h1 h2)
  · exact .of_right (intBits_le_64 h1 h2)
theorem op_add : OpR X (binaryOp .Add) (rI0 fun i j => .int (i + j)) := opI0 fun _ _ _ _ _ _ _ q => add_int q
theorem op_sub : OpR X (binaryOp .Sub) (rI0 fun i j => .int (i - j)) := opI0 fun _ _ _ _ _ _ _ q => sub_int q
theorem op_mul : OpR X (binaryOp .Mult) (rI CMul fun i j => .int (i * j)) := opI fun _ _ _ _ _ _ _ hc q => mul_int q hc.ok
/-- // by a positive divisor -/
theorem op_fdiv : OpR X (binaryOp .FloorDiv) (rI CDiv fun i j => .int (i / j)) := opI fun i j _ _ _ _ _ hc q => by
  have h1 : (0 : Int) < j := hc.1
  have h2 : j < 1073741824 := hc.2
  exact floordiv_int (by lia) (by rw [Int.fdiv_eq_ediv_of_nonneg i (by lia)]; exact q) (.inl (PyProof.noPylong_small (by lia)))
/-- % by a positive divisor of any size -/
theorem op_mod : OpR X (binaryOp .Mod) (rI (fun _ j => 0 < j) fun i j => .int (i % j)) := opI fun i j _ _ _ _ _ hc q => by
  have h1 : (0 : Int) < j := hc
  exact mod_int' (by lia) (by rw [Int.fmod_eq_emod_of_nonneg i (by lia)]; exact q)
theorem op_pow : OpR X (binaryOp .Pow) (rI CPow fun i j => .int (i ^ j.toNat)) := opI fun _ _ _ _ _ _ _ hc q => pow_int_small hc.1 hc.2.1 hc.2.2 q
theorem unI {f : Value → Sem Value} {g : Int → Int}
    (rule : ∀ (i : Int) (t : Tok) (s : Shared) (Q : Value → Shared → Prop) (E : Value → Shared → Prop), Q (.int (g i) s.toks) { s with toks := s.toks + 1 } → wpAny (model X.prog X.w) X.A (f (.int i t)) Q E s) :
    UnR X f (rU fun i => .int (g i)) := by
  intro pins s σ H x v Q I rx h
  obtain ⟨i, rfl, q⟩ := h
  obtain ⟨t, rfl⟩ := rx
  exact rule i t s _ _ ⟨.int (g i), H, I.tok _, ⟨_, rfl⟩, q⟩
theorem un_neg : UnR X (unaryOp .USub) (rU fun i => .int (-i)) := unI fun _ _ _ _ _ q => neg_int q
/-! ### bools among ints: n += (a < b) -/
end

/-! ### comparisons -/
/-- the scalars that == tells apart as data does -/
def scal : V → V → Bool
  | .non, .non => true | .non, .int _ => true | .int _, .non => true | .non, .bl _ => true | .bl _, .non => true | .non, .str _ => true | .str _, .non => true
  | .int _, .int _ => true | .bl _, .bl _ => true | .str _, .str _ => true | .byt _, .byt _ => true
  | .int _, .str _ => true | .str _, .int _ => true | .bl _, .str _ => true | .str _, .bl _ => true
  | _, _ => false
def rEq : R2 := fun x y H Q => scal x y = true ∧ Q (.bl (decide (x = y))) H
def rNe : R2 := fun x y H Q => scal x y = true ∧ Q (.bl (!decide (x = y))) H

theorem dec_int {i j : Int} : decide (V.int i = V.int j) = (i == j) := by
  rw [Bool.eq_iff_iff]
  simp
theorem dec_bl {i j : Bool} : decide (V.bl i = V.bl j) = (i == j) := by
  rw [Bool.eq_iff_iff]
  simp
theorem dec_str {i j : Str} : decide (V.str i = V.str j) = (i == j) := by
  rw [Bool.eq_iff_iff]
  simp
theorem dec_byt {i j : Array UInt8} : decide (V.byt i = V.byt j) = (i.toList == j.toList) := by
  rw [Bool.eq_iff_iff]
  cases i
  cases j
  simp

section
variable {X : Cx} {a b c : Expr} {ta tb tc : TE} {pos : Pos}
theorem fin_bl {pins : List (Addr × Obj)} {σ : St} {H : Hp} {s : Shared} {Q : VK} {k k' : Bool} (I : Inv X pins σ H s) (q : Q (.bl k) H) (e : k = k') : EP X pins σ Q (.bool k') s := by
  subst e
  exact ⟨.bl k, H, I, rfl, q⟩
theorem op_eq : OpR X (compareOp .Eq) rEq := by
  intro pins s σ H x y v u Q I rx ry h
  obtain ⟨hs, q⟩ := h
  cases x with
  | non =>
    cases rx
    cases y with
    | non => cases ry; exact PySem.EqNone.eq_none_none (fin_bl I q (by simp))
    | bl j => cases ry; exact PySem.EqNone.eq_none_bool (fin_bl I q (by simp))
    | int j => obtain ⟨t', rfl⟩ := ry; exact PySem.EqNone.eq_none_int (fin_bl I q (by simp))
    | str j => obtain ⟨t', rfl⟩ := ry; exact PySem.EqNone.eq_none_str (fin_bl I q (by simp))
    | _ => exact absurd (show false = true from hs) Bool.false_ne_true
  | bl i =>
    cases rx
    cases y with
    | non => cases ry; exact PySem.EqNone.eq_bool_none (fin_bl I q (by simp))
    | bl j => cases ry; exact eq_bool (fin_bl I q dec_bl)
    | str j => obtain ⟨t', rfl⟩ := ry; exact PySem.EqMixed.eq_bool_str (fin_bl I q (by simp))
    | _ => exact absurd (show false = true from hs) Bool.false_ne_true
  | int i =>
    obtain ⟨t, rfl⟩ := rx
    cases y with
    | non => cases ry; exact PySem.EqNone.eq_int_none (fin_bl I q (by simp))
    | int j => obtain ⟨t', rfl⟩ := ry; exact eq_int (fin_bl I q dec_int)
    | str j => obtain ⟨t', rfl⟩ := ry; exact PySem.EqMixed.eq_int_str (fin_bl I q (by simp))
    | _ => exact absurd (show false = true from hs) Bool.false_ne_true
  | str i =>
    obtain ⟨t, rfl⟩ := rx
    cases y with
    | non => cases ry; exact PySem.EqNone.eq_str_none (fin_bl I q (by simp))
    | bl j => cases ry; exact PySem.EqMixed.eq_str_bool (fin_bl I q (by simp))
    | int j => obtain ⟨t', rfl⟩ := ry; exact PySem.EqMixed.eq_str_int (fin_bl I q (by simp))
    | str j => obtain ⟨t', rfl⟩ := ry; exact eq_str (fin_bl I q dec_str)
    | _ => exact absurd (show false = true from hs) Bool.false_ne_true
  | byt i =>
    obtain ⟨t, rfl⟩ := rx
    cases y with
    | byt j => obtain ⟨t', rfl⟩ := ry; exact PySem.W.eq_bytes (fin_bl I q dec_byt)
    | _ => exact absurd (show false = true from hs) Bool.false_ne_true
  | _ => cases y <;> exact absurd (show false = true from hs) Bool.false_ne_true
theorem op_ne : OpR X (compareOp .NotEq) rNe := by
  intro pins s σ H x y v u Q I rx ry h
  obtain ⟨hs, q⟩ := h
  cases x with
  | non =>
    cases rx
    cases y with
    | non => cases ry; exact PySem.EqNone.ne_none_none (fin_bl I q (by simp))
    | bl j => cases ry; exact PySem.EqNone.ne_none_bool (fin_bl I q (by simp))
    | int j => obtain ⟨t', rfl⟩ := ry; exact PySem.EqNone.ne_none_int (fin_bl I q (by simp))
    | str j => obtain ⟨t', rfl⟩ := ry; exact PySem.EqNone.ne_none_str (fin_bl I q (by simp))
    | _ => exact absurd (show false = true from hs) Bool.false_ne_true
  | bl i =>
    cases rx
    cases y with
    | non => cases ry; exact PySem.EqNone.ne_bool_none (fin_bl I q (by simp))
    | bl j => cases ry; exact ne_bool (fin_bl I q (congrArg not dec_bl))
    | str j => obtain ⟨t', rfl⟩ := ry; exact PySem.EqMixed.ne_bool_str (fin_bl I q (by simp))
    | _ => exact absurd (show false = true from hs) Bool.false_ne_true
  | int i =>
    obtain ⟨t, rfl⟩ := rx
    cases y with
    | non => cases ry; exact PySem.EqNone.ne_int_none (fin_bl I q (by simp))
    | int j => obtain ⟨t', rfl⟩ := ry; exact ne_int (fin_bl I q (congrArg not dec_int))
    | str j => obtain ⟨t', rfl⟩ := ry; exact PySem.EqMixed.ne_int_str (fin_bl I q (by simp))
    | _ => exact absurd (show false = true from hs) Bool.false_ne_true
  | str i =>
    obtain ⟨t, rfl⟩ := rx
    cases y with
    | non => cases ry; exact PySem.EqNone.ne_str_none (fin_bl I q (by simp))
    | bl j => cases ry; exact PySem.EqMixed.ne_str_bool (fin_bl I q (by simp))
    | int j => obtain ⟨t', rfl⟩ := ry; exact PySem.EqMixed.ne_str_int (fin_bl I q (by simp))
    | str j => obtain ⟨t', rfl⟩ := ry; exact ne_str (fin_bl I q (congrArg not dec_str))
    | _ => exact absurd (show false = true from hs) Bool.false_ne_true
  | byt i =>
    obtain ⟨t, rfl⟩ := rx
    cases y with
    | byt j => obtain ⟨t', rfl⟩ := ry; exact PySem.W.ne_bytes (fin_bl I q (congrArg not dec_byt))
    | _ => exact absurd (show false = true from hs) Bool.false_ne_true
  | _ => cases y <;> exact absurd (show false = true from hs) Bool.false_ne_true

theorem op_lt : OpR X (compareOp .Lt) (rI0 fun i j => .bl (decide (i < j))) := opB0 fun _ _ _ _ _ _ _ q => lt_int q
theorem op_le : OpR X (compareOp .LtE) (rI0 fun i j => .bl (decide (i ≤ j))) := opB0 fun _ _ _ _ _ _ _ q => le_int q
theorem op_gt : OpR X (compareOp .Gt) (rI0 fun i j => .bl (decide (j < i))) := opB0 fun _ _ _ _ _ _ _ q => gt_int q
theorem nomark (b : Expr) {op : CmpOp} (h : op ≠ .In := by decide) (h2 : op ≠ .NotIn := by decide) : behindInMarks op b = false := by
  have e1 : (op == CmpOp.In) = false := by cases op <;> first | rfl | exact absurd rfl h
  have e2 : (op == CmpOp.NotIn) = false := by cases op <;> first | rfl | exact absurd rfl h2
  cases b <;> simp [behindInMarks, e1, e2]
/-- a comparison as a value; hm: nomark b, or (for in, not in) by with_unfolding_all rfl -/
theorem pe_cmpR {op : CmpOp} {r : R2} (ho : OpR X (compareOp op) r) (ha : PE X a ta) (hb : PE X b tb) (hm : behindInMarks op b = false) : PE X (.Compare a [op] [b] pos) (tOp r ta tb) := by
  intro pins s σ H Q I h
  exact wpAny_Compare1 (binT ha hb I h fun v u s2 x y H2 I2 rx ry q => ho pins s2 σ H2 x y v u Q I2 rx ry q) hm
/-- a reading of a value as a test -/
def tTest (t : TE) : TT := fun σ H Q => t σ H fun x H' => ∃ k, x = .bl k ∧ Q k H'
theorem pt_cmpR {op : CmpOp} {r : R2} (ho : OpR X (compareOp op) r) (ha : PE X a ta) (hb : PE X b tb) (hm : behindInMarks op b = false) : PT X (.Compare a [op] [b] pos) (tTest (tOp r ta tb)) := by
  intro pins s σ H Q I h
  refine wpAny_isTrue_Compare1 (thn (ha pins s σ H _ I h) fun v s1 ⟨x, H1, I1, r1, q1⟩ => thn (hb pins s1 σ H1 _ I1 q1) fun u s2 ⟨y, H2, I2, r2, q2⟩ =>
    thn (ho pins s2 σ H2 x y v u _ I2 r1 r2 q2) fun c s3 ⟨z, H3, I3, r3, k, e, q3⟩ => ?_) hm
  subst e
  cases r3
  exact wpAny_truthy_bool ⟨H3, I3, q3⟩
/-- a op1 b op2 c -/
def tChain (r r' : R2) (ta tb tc : TE) : TE := fun σ H Q => ta σ H fun x H1 => tb σ H1 fun y H2 => r x y H2 fun z H3 => ∃ k, z = .bl k ∧
  (if k = true then tc σ H3 fun w' H4 => r' y w' H4 Q else Q (.bl false) H3)
theorem pe_chain {op op' : CmpOp} {r r' : R2} (ho : OpR X (compareOp op) r) (ho' : OpR X (compareOp op') r') (ha : PE X a ta) (hb : PE X b tb) (hc : PE X c tc)
    (hm : lastMarks [op, op'] [b, c] = false := by with_unfolding_all rfl) : PE X (.Compare a [op, op'] [b, c] pos) (tChain r r' ta tb tc) := by
  intro pins s σ H Q I h
  refine Compare_chain (thn (ha pins s σ H _ I h) fun v s1 ⟨x, H1, I1, r1, q1⟩ => chain_link (thn (hb pins s1 σ H1 _ I1 q1) fun u s2 ⟨y, H2, I2, r2, q2⟩ =>
    thn (ho pins s2 σ H2 x y v u _ I2 r1 r2 q2) fun d s3 ⟨z, H3, I3, r3, k, e, q3⟩ => ?_)) hm
  subst e
  cases r3
  refine wpAny_truthy_bool ?_
  cases k with
  | false => exact ite_ff ⟨.bl false, H3, I3, rfl, q3⟩
  | true => exact ite_tt (chain_last (thn (hc pins s3 σ H3 _ I3 q3) fun w' s4 ⟨z', H4, I4, r4, q4⟩ => ho' pins s4 σ H4 y z' u w' Q I4 r2 r4 q4))
/-! ### truth -/
theorem line63 : (sizeLine : Nat) < 2 ^ 63 := by rw [sizeLine_eq]; decide
/-! ### strs and bytes -/
/-! ### scalar builtins, by CallR -/
theorem vals1 {x : V} {us : List Value} (r : Vals [x] us) : ∃ u, us = [u] ∧ RelV x u := by
  cases r with
  | cons r1 r2 => cases r2; exact ⟨_, rfl, r1⟩
theorem vals2 {x y : V} {us : List Value} (r : Vals [x, y] us) : ∃ u w', us = [u, w'] ∧ RelV x u ∧ RelV y w' := by
  cases r with
  | cons r1 r2 =>
    cases r2 with
    | cons r3 r4 => cases r4; exact ⟨_, _, rfl, r1, r3⟩
theorem call_abs : CallR X (.builtin "abs") (fun xs H Q => ∃ i, xs = [.int i] ∧ Q (.int (if i < 0 then -i else i)) H) := by
  intro pins s σ H xs us Q I r h
  obtain ⟨i, rfl, q⟩ := h
  obtain ⟨u, rfl, t, rfl⟩ := vals1 r
  exact call_abs_int fun u tk => ⟨.int (if i < 0 then -i else i), H, I.tok _, ⟨_, rfl⟩, q⟩
theorem call_max2 (hc : X.calm = true) : CallR X (.builtin "max") (fun xs H Q => ∃ i j, xs = [.int i, .int j] ∧ Q (.int (if j > i then j else i)) H) := by
  intro pins s σ H xs us Q I r h
  obtain ⟨i, j, rfl, q⟩ := h
  obtain ⟨u, w', rfl, ⟨t, rfl⟩, ⟨t', rfl⟩⟩ := vals2 r
  refine max_two_ints (I.ok.hd hc) fun h' tk k => ⟨_, H, I.kept k, ?_, q⟩
  by_cases hj : j > i
  · rw [if_pos hj, if_pos hj]; exact ⟨_, rfl⟩
  · rw [if_neg hj, if_neg hj]; exact ⟨_, rfl⟩
theorem call_min2 (hc : X.calm = true) : CallR X (.builtin "min") (fun xs H Q => ∃ i j, xs = [.int i, .int j] ∧ Q (.int (if j < i then j else i)) H) := by
  intro pins s σ H xs us Q I r h
  obtain ⟨i, j, rfl, q⟩ := h
  obtain ⟨u, w', rfl, ⟨t, rfl⟩, ⟨t', rfl⟩⟩ := vals2 r
  refine min_two_ints (I.ok.hd hc) fun h' tk k => ⟨_, H, I.kept k, ?_, q⟩
  by_cases hj : j < i
  · rw [if_pos hj, if_pos hj]; exact ⟨_, rfl⟩
  · rw [if_neg hj, if_neg hj]; exact ⟨_, rfl⟩
end
end L2

namespace L2
open PySem PySem.Spec PyProof.Rows

/-! ### an instance, its attributes a map -/
structure ObjM (h : Heap) (x dx C : Addr) (mA : Str → Option Value) : Prop where
  obj : h.get? x = some (PySem.W.instObj C dx)
  ns : h.Ns1 dx mA
  ne : dx ≠ x

theorem lookIn_ns {h : Heap} {dx : Addr} {mA : Str → Option Value} (n : h.Ns1 dx mA) : ∃ od, h.get? dx = some od ∧ ∀ name, PySem.W.lookIn name od = some (mA name) := by
  obtain ⟨o, es, ep, ho, hd, hk, _, hm⟩ := n
  refine ⟨o, ho, fun name => ?_⟩
  have e := hm name
  unfold nsFind findBy at e
  rw [← Array.find?_toList] at e
  unfold PySem.W.lookIn
  rw [hd]
  dsimp only
  split
  · rename_i y q
    rw [q] at e
    exact congrArg some e
  · rename_i q
    rw [q] at e
    have a : es.toList.any (·.refKey) = false := by
      rw [List.any_eq_false]
      intro y hy
      obtain ⟨z, t, hkey⟩ := hk y (Array.mem_toList_iff.mp hy)
      simp [DictEntry.refKey, hkey]
    have a' : ¬ es.toList.any (·.refKey) = true := by rw [a]; exact Bool.false_ne_true
    rw [if_neg a']
    exact congrArg some e

theorem ObjM.look {h : Heap} {x dx C : Addr} {mA : Str → Option Value} (I : ObjM h x dx C mA) : ∃ od, PySem.W.InstAt h x (PySem.W.instObj C dx) C (some od) ∧ ∀ name, PySem.W.lookIn name od = some (mA name) :=
  let ⟨od, ho, hl⟩ := lookIn_ns I.ns
  ⟨od, ⟨I.obj, rfl, rfl, ho⟩, hl⟩

section
variable {prog : Program} {w : World} {A : Around} {E : Value → Shared → Prop} {s : Shared} {K : PySem.W.Frag} {x dx C f : Addr} {mA : Str → Option Value} {name : Str} {v : Value}

end

/-! ### the attributes as a list of pairs -/
section
variable {P : Program} {w : World} {H H' : Hp} {h h' : Heap} {a C dx : Addr} {fs fs' : List (Str × V)}
theorem ins_get (hok : HOk P w H h) (e : H a = some (.ins C dx fs)) : ∃ mA, ObjM h a dx C mA ∧ (∀ f, RelO (fs.lookup f) (mA f)) ∧ PySem.Within mA (fs.map (·.1)) ∧ fs.length ≤ 1000 ∧ H dx = some (.own a) := by
  obtain ⟨d, z, ne, ob, mA, n, r, q⟩ := (show ObjOk P w H h a (.ins C dx fs) from hok a _ e)
  exact ⟨mA, ⟨ob, n, ne⟩, r, q, z, d⟩
end

/-! ### what of the text a class must have -/
structure Cls (K : PySem.W.Frag) (C : Addr) : Prop where
  pg : PySem.W.plainGet K C Str.empty = true
  hd : PySem.W.hasDictIn K C = true
  po : PySem.W.plainOver K C = true
  sa : PySem.W.findIn K (.ref C) "__setattr__" = some (some (.builtin "object.__setattr__"))
theorem Cls.get {K : PySem.W.Frag} {C : Addr} (c : Cls K C) (f : Str) : PySem.W.plainGet K C f = true := c.pg
section
variable {X : Cx} {pins : List (Addr × Obj)} {σ : St} {H : Hp} {s : Shared} {a C dx : Addr} {fs : List (Str × V)} {f : Str} {v : V} {A : Around} {E : Value → Shared → Prop}

end

/-! ### readings and rules -/
section
variable {X : Cx} {o e value : Expr} {f : Str} {pos pos' tpos : Pos} {ta tv : TE}
end

/-! ### isinstance -/
section
variable {X : Cx} {pins : List (Addr × Obj)} {σ : St} {H : Hp} {s : Shared} {A : Around} {E : Value → Shared → Prop} {Q : Value → Shared → Prop} {c : Value} {b : Bool}
/-- the type of a value, as the fragment's deciders take it; for an instance its class -/
inductive TyOf (K : PySem.W.Frag) (H : Hp) : V → Value → Prop where
  | non : TyOf K H .non (.type "NoneType")
  | bl (x : Bool) : TyOf K H (.bl x) (.type "bool")
  | int (i : Int) : TyOf K H (.int i) (.type "int")
  | str (x : Str) : TyOf K H (.str x) (.type "str")
  | flt (x : UInt64) : TyOf K H (.flt x) (.type "float")
  | lst {a : Addr} {xs : List V} (e : H a = some (.lst xs)) : TyOf K H (.ref a) (.type "list")
  | frz {a : Addr} {o : Obj} {xs : List V} (e : H a = some (.frz o (.lst xs))) : TyOf K H (.ref a) (.type "list")
  | tup {a : Addr} {xs : List V} (e : H a = some (.tup xs)) : TyOf K H (.ref a) (.type "tuple")
  | dK {a : Addr} {kvs : List (Key × V)} (e : H a = some (.dK kvs)) : TyOf K H (.ref a) (.type "dict")
  | dT {a : Addr} {kvs : List (List Key × V)} (e : H a = some (.dT kvs)) : TyOf K H (.ref a) (.type "dict")
  | ins {a C dx : Addr} {fs : List (Str × V)} (e : H a = some (.ins C dx fs)) (cl : Cls K C) (ha : PySem.W.findIn K (.ref C) "__class__" = some (some (.builtin "object.__class__")))
      (hn : PySem.W.specialIn K (.builtin "object.__class__") "__get__" = some (some (.builtin "getset_descriptor.__get__"))) (htk : PySem.W.takesIn K (.builtin "object.__class__") = some true)
      (hm : PySem.W.mroIn K C (.type "object") = some true) : TyOf K H (.ref a) (.ref C)
/-- isinstance(x, c) for one class c, a built-in or an own one: kitOne's answer -/
theorem isinst_ok {x : V} {u t : Value} (I : Inv X pins σ H s) (rx : RelV x u) (ty : TyOf X.K H x t) (e : PySem.W.kitOne X.K t c = some b) (h : ∀ tk, Q (.bool b) { s with toks := tk }) :
    wpAny (model X.prog X.w) A (call (.builtin "isinstance") [u, c]) Q E s := by
  cases ty with
  | non => cases (show u = Value.none from rx); exact PySem.W.kia_one PySem.W.kitx_none I.kIn True.intro e (fun z => nomatch z) h
  | bl y => cases (show u = Value.bool y from rx); exact PySem.W.kia_one PySem.W.kitx_bool I.kIn True.intro e (fun z => nomatch z) h
  | int i => obtain ⟨t, q⟩ := (show ∃ t, u = Value.int i t from rx); cases q; exact PySem.W.kia_one PySem.W.kitx_int I.kIn True.intro e (fun z => nomatch z) h
  | str y => obtain ⟨t, q⟩ := (show ∃ t, u = Value.str y t from rx); cases q; exact PySem.W.kia_one PySem.W.kitx_str I.kIn True.intro e (fun z => nomatch z) h
  | flt y => obtain ⟨t, q⟩ := (show ∃ t, u = Value.float y t from rx); cases q; exact PySem.W.kia_one PySem.W.kitx_float I.kIn True.intro e (fun z => nomatch z) h
  | @lst a xs ea =>
    cases (show u = Value.ref a from rx)
    obtain ⟨_, _, n, _, h1⟩ := (show ObjOk X.prog X.w H s.heap a (.lst xs) from I.hok a _ ea)
    exact PySem.W.kia_one PySem.W.kitx_list I.kIn ⟨_, h1, rfl⟩ e (fun z => nomatch z) h
  | @frz a ob xs ea =>
    cases (show u = Value.ref a from rx)
    obtain ⟨_, _, _, n, _, h1⟩ := (show ObjOk X.prog X.w H s.heap a (.frz ob (.lst xs)) from I.hok a _ ea)
    exact PySem.W.kia_one PySem.W.kitx_list I.kIn ⟨_, h1, rfl⟩ e (fun z => nomatch z) h
  | @tup a xs ea =>
    cases (show u = Value.ref a from rx)
    obtain ⟨_, _, _, p⟩ := (show ObjOk X.prog X.w H s.heap a (.tup xs) from I.hok a _ ea)
    obtain ⟨o, h1, h2, _⟩ := p
    exact PySem.W.kia_one PySem.W.kitx_tuple I.kIn ⟨o, h1, h2⟩ e (fun z => nomatch z) h
  | @dK a kvs ea =>
    cases (show u = Value.ref a from rx)
    obtain ⟨_, _, vs, _, p⟩ := (show ObjOk X.prog X.w H s.heap a (.dK kvs) from I.hok a _ ea)
    obtain ⟨o, es, ep, h1, h2, _⟩ := p
    exact PySem.W.kia_one PySem.W.kitx_dict I.kIn ⟨o, h1, h2.1⟩ e (fun z => nomatch z) h
  | @dT a kvs ea =>
    cases (show u = Value.ref a from rx)
    obtain ⟨_, _, xs, _, o, es, ep, h1, h2, _⟩ := (show ObjOk X.prog X.w H s.heap a (.dT kvs) from I.hok a _ ea)
    exact PySem.W.kia_one PySem.W.kitx_dict I.kIn ⟨o, h1, h2.1⟩ e (fun z => nomatch z) h
  | @ins a C dx fs ea cl ha hn htk hm =>
    cases (show u = Value.ref a from rx)
    obtain ⟨mA, O, _⟩ := ins_get I.hok ea
    obtain ⟨od, J, _⟩ := O.look
    exact PySem.W.kia_one (PySem.W.kitx_own (cl.get _) cl.hd ha hn htk hm) I.kIn J e (fun z => nomatch z) h
end
end L2

namespace L2
open PySem PySem.Spec PyProof.Rows

/-! ### room -/
structure Room (k : Nat) (A : Around) : Prop where
  hd : A.handled = none
  dp : A.depth + 3 * k + 5 < recursionLimit
  un : A.units + 16 * k + 200 < cLine
theorem Room.mono {j k : Nat} {A : Around} (r : Room k A) (h : j ≤ k) : Room j A := ⟨r.hd, by have := r.dp; lia, by have := r.un; lia⟩
theorem Room.deeper {k : Nat} {A : Around} (r : Room (k + 1) A) (env : Env) : Room k (A.deeper env) :=
  ⟨r.hd, by have := r.dp; show A.depth + 1 + 3 * k + 5 < _; lia, by have := r.un; show A.units + 3 + 16 * k + 200 < _; lia⟩
theorem Room.depth {k : Nat} {A : Around} (r : Room k A) : A.depth < recursionLimit := by have := r.dp; lia
/-! ### argument lists and displays -/
def tNil : TA := fun _ H Q => Q [] H
def tCons (ta : TE) (tr : TA) : TA := fun σ H Q => ta σ H fun x H1 => tr σ H1 fun xs H2 => Q (x :: xs) H2
section
variable {X : Cx} {e : Expr} {es : List Expr} {te : TE} {t : TA} {pos : Pos}
theorem pa_nil : PA X [] tNil := fun _ _ _ _ H Q I h => Calls.spliced_nil ⟨[], H, I, .nil, h⟩
theorem pa_cons (ha : PE X e te) (hr : PA X es t) (hs : starEach (e :: es) X.env = (false, eval e X.env) :: starEach es X.env := by rfl) : PA X (e :: es) (tCons te t) := by
  intro pos pins s σ H Q I h
  rw [hs]
  show wpAny _ _ (spliced ((false, eval e X.env) :: backTo pos (starEach es X.env))) _ _ s
  refine Calls.spliced_cons (thn (ha pins s σ H _ I h) fun u s1 zz => ?_)
  obtain ⟨x, H1, I1, r1, q1⟩ := zz
  exact thn (hr pos pins s1 σ H1 _ I1 q1) fun us s2 ⟨xs, H2, I2, r2, q2⟩ => ⟨x :: xs, H2, I2, .cons r1 r2, q2⟩

/-- a tuple, a list of written items -/
def tTup (t : TA) : TE := fun σ H Q => t σ H fun xs H1 => xs.length ≤ sizeLine ∧ ∀ p, H1 p = none → Q (.ref p) (upd H1 p (.tup xs))
def tLst (t : TA) : TE := fun σ H Q => t σ H fun xs H1 => xs.length ≤ sizeLine ∧ ∀ p, H1 p = none → Q (.ref p) (upd H1 p (.lst xs))
theorem pe_tup {x1} (h : PA X es t) : PE X (.Tuple es x1 pos) (tTup t) := by
  intro pins s σ H Q I hq
  refine wpAny_Tuple_spliced (thn (h pos pins s σ H _ I hq) fun us s1 ⟨xs, H1, I1, r, z, q⟩ => ⟨by rw [← r.length]; exact z, ?_⟩)
  have hf : H1 s1.heap.objs.size = none := I1.hok.fresh (Nat.le_refl _)
  refine ⟨.ref s1.heap.objs.size, upd H1 s1.heap.objs.size (.tup xs), I1.laid (t' := s1.toks) (fun b u e => Heap.get?_push_of_some _ e) (Nat.le_refl _) ?_, rfl, q _ hf⟩
  exact ⟨z, us, r, ⟨_, Heap.get?_push_size _ rfl, rfl, _, rfl⟩⟩
theorem pe_lst (h : PA X es t) : PE X (.List es pos) (tLst t) := by
  intro pins s σ H Q I hq
  refine wpAny_List_spliced (thn (h pos pins s σ H _ I hq) fun us s1 ⟨xs, H1, I1, r, z, q⟩ => ⟨by rw [← r.length]; exact z, ?_⟩)
  have hf : H1 s1.heap.objs.size = none := I1.hok.fresh (Nat.le_refl _)
  refine ⟨.ref s1.heap.objs.size, upd H1 s1.heap.objs.size (.lst xs), I1.laid (t' := s1.toks) (fun b u e => Heap.get?_push_of_some _ e) (Nat.le_refl _) ?_, rfl, q _ hf⟩
  exact ⟨z, us, 0, r, Heap.get?_push_size _ rfl⟩
end

/-! ### what a def promises -/
/-- a def's promise: the bound arguments in the parameters' order, the heap, the wanted end, the wanted exception -/
abbrev Sp := List V → Hp → VK → XK → Prop
/-- how an exception lies behind a call (file 08 gives it): the callers' frames, abstract heap and state ahead of the call, the wish, the exception, the state -/
abbrev CXT := List Env → Hp → Shared → XK → Value → Shared → Prop

/-- the state at a call -/
structure Env0 (P : Program) (w : World) (K : PySem.W.Frag) (mg : Str → Option Value) (base : Heap) (A : Around) (outer : List Env) (s : Shared) (H : Hp) : Prop where
  frames : A.frames = some outer
  mod : Mod K mg base
  bs : ∀ b o, base.get? b = some o → s.heap.get? b = some o ∧ H b = none
  bsz : base.objs.size ≤ s.heap.objs.size
  funs : s.heap.FunFrames base outer
  frf : ∀ b ∈ frs outer, H b = none
  hok : HOk P w H s.heap
  bare : AllBare s.gens
/-- a call's end -/
def CE (outer : List Env) (P : Program) (w : World) (H : Hp) (s : Shared) (Q : VK) (u : Value) (s' : Shared) : Prop :=
  ∃ v H', s'.os = s.os ∧ AllBare s'.gens ∧ Un (frs outer) [] H H' s.heap s'.heap ∧ HOk P w H' s'.heap ∧ RelV v u ∧ Q v H'
def CR (CX : CXT) (outer : List Env) (P : Program) (w : World) (H : Hp) (s : Shared) (Q : VK) (E : XK) (r : Result) (s' : Shared) : Prop :=
  match r with
  | .ok (.ret u) => CE outer P w H s Q u s'
  | .ok _ => False
  | .error e => CX outer H s E e s'
structure FnOk (P : Program) (w : World) (K : PySem.W.Frag) (mg : Str → Option Value) (base : Heap) (CX : CXT) (k : Nat) (f : Addr) (fd : FuncData) (ps : List Str) (sp : Sp) : Prop where
  len : ∀ vs H Q E, sp vs H Q E → vs.length = ps.length
  run : ∀ (A : Around) (outer : List Env) (s : Shared) (H : Hp) (args : Args) (us : List Value) (vs : List V) (Q : VK) (E : XK), Room k A → Env0 P w K mg base A outer s H → BindsTo s fd args (ps.zip us) → Vals vs us → sp vs H Q E →
    codeAny (model P w) A (.call (.ref f) args) (CR CX outer P w H s Q E) s
section
variable {X : Cx} {pins : List (Addr × Obj)} {σ : St} {H : Hp} {s s' : Shared}
/-- from a body: what a callee wants -/
theorem Inv.env0 (I : Inv X pins σ H s) : Env0 X.prog X.w X.K X.mg X.base X.A X.stack s H :=
  ⟨I.ok.frames, I.ok.mod, I.bs, Nat.le_trans I.ok.bsz I.sz, I.stack, I.stkFree, I.hok, I.bare⟩
/-- behind a call -/
theorem Inv.after {Q : VK} {u : Value} (I : Inv X pins σ H s) (h : CE X.stack X.prog X.w H s Q u s') : EP X pins σ Q u s' := by
  obtain ⟨v, H', os, bare, un, hok, r, q⟩ := h
  obtain ⟨hh, g, d, t, os'⟩ := s'
  obtain rfl : os' = s.os := os
  exact ⟨v, H', I.call (h' := hh) (g' := g) (d' := d) (t' := t) (ch := []) un hok bare (fun b z => absurd z (by simp)), r, q⟩
end

/-! ### calls -/
/-- f(..): the written arguments, then the defaults dvs; E: what is wanted of an exception -/
def tCall (sp : Sp) (dvs : List V) (E : XK) (t : TA) : TE := fun σ H Q => t σ H fun vs H1 => sp (vs ++ dvs) H1 Q E
/-- how the parameters are bound: us the positional arguments, kw the keywords' values by name, ds the defaults that fill up -/
def Binds (K : PySem.W.Frag) (fd : FuncData) (ps : List Str) (ds : List Value) : Prop :=
  ∀ (s : Shared) (us : List Value), K.In s.heap → (us ++ ds).length = ps.length → BindsTo s fd ⟨us, []⟩ (ps.zip (us ++ ds))
/-- every parameter is given -/
theorem Binds.all {K : PySem.W.Frag} {fd : FuncData} {ps : List Str} (h : ∀ us : List Value, us.length = ps.length → bindArgs fd ⟨us, []⟩ = pure (ps.zip us)) : Binds K fd ps [] := fun s us _ hl => by
  rw [List.append_nil] at hl ⊢
  exact .of_eq (h us hl)

/-- an exception of a callee reaches what this body wants of exceptions -/
def Passes (CX : CXT) (X : Cx) (E : XK) : Prop := ∀ (pins : List (Addr × Obj)) (σ : St) (H : Hp) (s : Shared) (e : Value) (s' : Shared), Inv X pins σ H s → CX X.stack H s E e s' → X.xe e s'

section
variable {X : Cx} {CX : CXT} {k : Nat} {f C : Addr} {fd : FuncData} {ps : List Str} {sp : Sp} {dvs : List V} {ds : List Value} {E : XK} {x m : Str} {p pos apos : Pos} {e o : Expr} {es : List Expr} {ta : TE} {t : TA}

/-- the callee runs -/
theorem run_fn {pins : List (Addr × Obj)} {σ : St} {H : Hp} {s : Shared} {Q : VK} {us : List Value} {vs : List V} (F : FnOk X.prog X.w X.K X.mg X.base CX k f fd ps sp) (hr : Room k X.A) (hb : Binds X.K fd ps ds) (hd : Vals dvs ds) (hx : Passes CX X E)
    (I : Inv X pins σ H s) (r : Vals vs us) (h : sp (vs ++ dvs) H Q E) : wpAny (model X.prog X.w) X.A (call (.ref f) us) (EP X pins σ Q) X.xe s := by
  have r2 : Vals (vs ++ dvs) (us ++ ds) := r.append hd
  have hl : (us ++ ds).length = ps.length := by rw [← r2.length]; exact F.len _ _ _ _ h
  refine wpAny_call (codeAny_mono (F.run X.A X.stack s H ⟨us, []⟩ (us ++ ds) (vs ++ dvs) Q E hr I.env0 (hb s us I.kIn hl) r2 h) fun r s' hq => ?_)
  cases r with
  | error e => exact hx pins σ H s e s' I hq
  | ok fl =>
    cases fl with
    | ret u => exact I.after hq
    | next => exact False.elim hq
    | brk => exact False.elim hq
    | cont => exact False.elim hq

theorem pe_call (F : FnOk X.prog X.w X.K X.mg X.base CX k f fd ps sp) (hr : Room k X.A) (hg : Gl X x) (hm : X.mg x = some (.ref f)) (hk : PySem.W.keepIn X.K (.ref f) = true) (hb : Binds X.K fd ps ds) (hd : Vals dvs ds) (hx : Passes CX X E)
    (ha : PA X (e :: es) t) (hdb : (x == ("__debug__" : Str)) = false := by decide) (he : starEach (e :: es) X.env = (false, eval e X.env) :: starEach es X.env := by rfl) (hpl : (backTo pos (starEach es X.env)).any (·.1) = false := by rfl) :
    PE X (.Call (.Name x p) (e :: es) [] pos) (tCall sp dvs E t) := by
  intro pins s σ H Q I h
  refine wpAny_Call_Name_kw (ld_glob I hg hm ?_ hdb)
  refine PySem.W.callWith_K (h₀ := X.base) I.ok.mod.kin hk (thn (ha pos pins s σ H _ I h) fun us s1 ⟨vs, H1, I1, r, q⟩ => ⟨I1.kIn, ?_⟩) he hpl
  exact run_fn F hr hb hd hx I1 r q
end

/-! ### keywords -/
section
variable {X : Cx} {CX : CXT} {k : Nat} {f C : Addr} {fd : FuncData} {ps ks : List Str} {sp : Sp} {E : XK} {x m : Str} {p pos apos kpos : Pos} {e o : Expr} {es : List Expr} {kws : List Keyword} {te ta : TE} {t tk : TA} {nm : Option Str}
variable {g : List Value → List Value → List Value} {gV : List V → List V → List V}
end

/-! ### a def's body keeps its promise -/
/-- names: the parameters first -/
structure FnScope (N P : List Str) (sc : Scope) : Prop where
  kind : sc.kind = .function
  co : sc.isCoroutine = false
  gen : sc.isGenerator = false
  nd : N.Nodup
  pre : N.take P.length = P
  par : ∀ x ∈ P, sc.names.lookup x = some .local ∨ sc.names.lookup x = some .cell
  nofree : ∀ y ∈ sc.names, y.2 ≠ .free

theorem bindL_out {kindOf : Str → Option NameKind} {x : Str} : ∀ {binds : List (Str × Value)} {m : Str → Option Value}, (∀ v, (x, v) ∉ binds) → bindL kindOf binds m x = m x
  | [], _, _ => rfl
  | (n, v) :: r, m, h => by
    unfold bindL
    rw [bindL_out fun w hw => h w (List.mem_cons_of_mem _ hw)]
    split
    · have : x ≠ n := by rintro rfl; exact h v List.mem_cons_self
      simp [this]
    · rfl
theorem bindC_out {kindOf : Str → Option NameKind} {x : Str} : ∀ {binds : List (Str × Value)} {m : Str → Option Value}, (∀ v, (x, v) ∉ binds) → bindC kindOf binds m x = m x
  | [], _, _ => rfl
  | (n, v) :: r, m, h => by
    unfold bindC
    rw [bindC_out fun w hw => h w (List.mem_cons_of_mem _ hw)]
    split
    · rfl
    · have : x ≠ n := by rintro rfl; exact h v List.mem_cons_self
      simp [this]
theorem bindL_get {kindOf : Str → Option NameKind} {x : Str} {v : Value} : ∀ {P : List Str} {vs : List Value} {i : Nat} {m : Str → Option Value}, P.Nodup → P[i]? = some x → vs[i]? = some v → kindOf x = some .local →
    bindL kindOf (P.zip vs) m x = some v
  | [], _, _, _, _, h, _, _ => by simp at h
  | _ :: _, [], _, _, _, _, h, _ => by simp at h
  | p :: P, w :: vs, 0, m, nd, h1, h2, hk => by
    simp at h1 h2; subst h1; subst h2
    show bindL kindOf ((p, w) :: P.zip vs) m p = _
    unfold bindL
    rw [bindL_out fun v hv => (List.nodup_cons.mp nd).1 (List.of_mem_zip hv).1, if_pos hk]
    simp
  | p :: P, w :: vs, i + 1, m, nd, h1, h2, hk => by
    show bindL kindOf ((p, w) :: P.zip vs) m x = _
    unfold bindL
    exact bindL_get (i := i) (List.nodup_cons.mp nd).2 (by simpa using h1) (by simpa using h2) hk
theorem bindC_get {kindOf : Str → Option NameKind} {x : Str} {v : Value} : ∀ {P : List Str} {vs : List Value} {i : Nat} {m : Str → Option Value}, P.Nodup → P[i]? = some x → vs[i]? = some v → kindOf x ≠ some .local →
    bindC kindOf (P.zip vs) m x = some v
  | [], _, _, _, _, h, _, _ => by simp at h
  | _ :: _, [], _, _, _, _, h, _ => by simp at h
  | p :: P, w :: vs, 0, m, nd, h1, h2, hk => by
    simp at h1 h2; subst h1; subst h2
    show bindC kindOf ((p, w) :: P.zip vs) m p = _
    unfold bindC
    rw [bindC_out fun v hv => (List.nodup_cons.mp nd).1 (List.of_mem_zip hv).1, if_neg hk]
    simp
  | p :: P, w :: vs, i + 1, m, nd, h1, h2, hk => by
    show bindC kindOf ((p, w) :: P.zip vs) m x = _
    unfold bindC
    exact bindC_get (i := i) (List.nodup_cons.mp nd).2 (by simpa using h1) (by simpa using h2) hk

/-- the names' values at the entry -/
def start (N : List Str) (vs : List V) : St := vs.map some ++ List.replicate (N.length - vs.length) none

/-- the context of a def's body, at its entry; an exception leaves the frame, then lies as CX says -/
def cxOf (CX : CXT) (P : Program) (w : World) (K : PySem.W.Frag) (mg : Str → Option Value) (base : Heap) (N : List Str) (qual : Str) (scope : Scope) (f : Addr) (cd : Value) (A : Around) (outer : List Env) (s : Shared) (H : Hp) (E : XK) : Cx where
  prog := P
  w := w
  K := K
  mg := mg
  base := base
  A := A.deeper (envOfC qual scope s.heap.objs.size f cd)
  N := N
  s₀ := s
  H₀ := H
  env := envOfC qual scope s.heap.objs.size f cd
  outer := outer
  stack := envOfC qual scope s.heap.objs.size f cd :: outer
  ex := []
  calm := true
  fn := fun _ => true
  pn := []
  xe := fun e s' => wpAny (model P w) (A.deeper (envOfC qual scope s.heap.objs.size f cd)) (leaving (envOfC qual scope s.heap.objs.size f cd) e) (fun _ s'' => CX outer H s E e s'') (fun e' s'' => CX outer H s E e' s'') s'

theorem cell_has {sc : Scope} {n : Nat} {x : Str} (h : sc.names.lookup x = some .cell) : ∃ c, (cellsFrom n sc.names []).lookup x = some c := by
  have q := PySem.W.cellsFrom_some sc.names n [] (.inl h)
  exact Option.isSome_iff_exists.mp q

theorem inv_start {CX : CXT} {P : Program} {w : World} {K : PySem.W.Frag} {mg : Str → Option Value} {base : Heap} {N ps : List Str} {qual : Str} {scope : Scope} {f : Addr} {cd : Value} {A : Around} {outer : List Env} {s s1 : Shared} {H : Hp} {E : XK} {us : List Value} {vs : List V}
    (S : FnScope N ps scope) (hd : A.handled = none) (e0 : Env0 P w K mg base A outer s H) (hl : vs.length = ps.length) (r : Vals vs us)
    (x : InCallC s s.heap.objs.size (bindL (envOfC qual scope s.heap.objs.size f cd).kindOf (ps.zip us) fun _ => none) (cellsFrom (s.heap.objs.size + 1) scope.names []) (bindC (envOfC qual scope s.heap.objs.size f cd).kindOf (ps.zip us) fun _ => none) s1) :
    Inv (cxOf CX P w K mg base N qual scope f cd A outer s H E) [] (start N vs) H s1 := by
  have hpl : ps.length ≤ N.length := by have := congrArg List.length S.pre; rw [List.length_take] at this; lia
  obtain ⟨h1, tk, rfl, hk⟩ := x.done
  have noA : ∀ b : Addr, b ∉ (cxOf CX P w K mg base N qual scope f cd A outer s H E).ex := fun b z => absurd (show b ∈ ([] : List Addr) from z) (by simp)
  refine ⟨⟨e0.mod, S.kind, rfl, rfl, Nat.le_refl _, fun y z c h1 h2 => ?_, fun y hy => ?_, fun y c _ h => ?_, fun _ => hd, Around.frames_deeper e0.frames, .inr ⟨rfl, rfl⟩, fun b z => absurd z (noA b), e0.bs, e0.bsz, fun b _ _ => noA b, fun b z => absurd z (noA b), e0.funs, e0.frf⟩,
    rfl, e0.bare, Un.kept hk, ⟨_, x.toInCall.ns, fun i y v h1 h2 h3 => ?_⟩, fun y c h => ⟨_, x.cell y c h⟩, e0.hok.fresh (Nat.le_refl _), fun y c h => ?_, fun p hp => absurd (show p ∈ ([] : List (Addr × Obj)) from hp) (by simp), e0.hok.kept hk, ?_⟩
  · exact name_of_addr x.apart (PySem.mem_of_lookup h1) (PySem.mem_of_lookup h2)
  · have hy : scope.names.lookup y = some .cell ∨ scope.names.lookup y = some .free := hy
    rcases hy with hy | hy
    · exact cell_has hy
    · exact absurd rfl (S.nofree _ (PySem.mem_of_lookup hy))
  · exact Nat.le_of_lt (x.above y c (PySem.mem_of_lookup h))
  · have hi : i < vs.length := by
      unfold start at h2
      by_cases hi : i < vs.length
      · exact hi
      · rw [List.getElem?_append_right (by simpa using hi)] at h2
        rw [List.getElem?_replicate] at h2
        split at h2 <;> cases h2
    have ha : vs[i]? = some v := by
      unfold start at h2
      rw [List.getElem?_append_left (by simpa using hi), List.getElem?_map] at h2
      cases e : vs[i]? with
      | none => rw [e] at h2; cases h2
      | some a => rw [e] at h2; cases h2; rfl
    obtain ⟨u, hu, rv⟩ := r.get ha
    have hp : ps[i]? = some y := by
      rw [← S.pre, List.getElem?_take_of_lt (by lia)]; exact h1
    have ndP : ps.Nodup := by rw [← S.pre]; exact S.nd.sublist (List.take_sublist _ _)
    refine ⟨u, rv, ?_⟩
    rcases S.par y (List.mem_of_getElem? hp) with k | k
    · exact .inl ⟨k, bindL_get ndP hp hu k⟩
    · obtain ⟨c, e⟩ := cell_has (n := s.heap.objs.size + 1) k
      refine .inr ⟨.inl k, c, e, ?_⟩
      have q := x.cell y c e
      rw [bindC_get ndP hp hu (by show scope.names.lookup y ≠ _; rw [k]; decide)] at q
      exact q
  · exact e0.hok.fresh (Nat.le_of_lt (x.above y c (PySem.mem_of_lookup h)))
  · unfold start
    show _ = N.length
    rw [List.length_append, List.length_map, List.length_replicate]
    lia

/-- THE RULE: a def (or a method) of the text, by its body. The body's reading t is chosen for each entry; it is run at the parameters' values -/
theorem fn_of {CX : CXT} {P : Program} {w : World} {K : PySem.W.Frag} {mg : Str → Option Value} {base : Heap} {k : Nat} {f : Addr} {name qual : Str} {params : Arguments} {body : List Stmt} {scope : Scope} {dV kV doc pm cdv ct oc : Value} {an od : Option Addr}
    {osl : Array (Option Value)} {N ps : List Str} {sp : Sp} (lk : K.lookup f = some ⟨oc, od, .func (PySem.W.fnOf name qual params body scope dV kV doc pm an cdv ct), osl⟩) (hcd : PySem.W.codeIn K cdv qual = true) (S : FnScope N ps scope)
    (len : ∀ vs H Q E, sp vs H Q E → vs.length = ps.length)
    (hbody : ∀ (A : Around) (outer : List Env) (s : Shared) (H : Hp) (vs : List V) (Q : VK) (E : XK), Room k (A.deeper (envOfC qual scope s.heap.objs.size f cdv)) → sp vs H Q E →
      ∃ t, PSs (cxOf CX P w K mg base N qual scope f cdv A outer s H E) body t ∧ t { nx := fun _ H' => Q .non H', rt := Q } (start N vs) H) :
    FnOk P w K mg base CX (k + 1) f (PySem.W.fnOf name qual params body scope dV kV doc pm an cdv ct) ps sp := by
  refine ⟨len, fun A outer s H args us vs Q E hr e0 hb r hsp => ?_⟩
  have hl := len _ _ _ _ hsp
  have KX : K.In s.heap := e0.mod.kin.keeps fun b o e => (e0.bs b o e).1
  have lim : s.heap.NoLimit := e0.mod.nolimit.keeps fun b o e => (e0.bs b o e).1
  have hkind : ∀ y ∈ ps.zip us, scope.names.lookup y.1 = some .local ∨ (scope.names.lookup y.1 = some .cell ∧ ((cellsFrom (s.heap.objs.size + 1) scope.names []).lookup y.1).isSome = true) := fun ⟨n, v⟩ hy => by
    rcases S.par n (List.of_mem_zip hy).1 with q | q
    · exact .inl q
    · exact .inr ⟨q, PySem.W.cellsFrom_some _ _ _ (.inl q)⟩
  refine codeAny_call_function hr.depth (KX _ _ lk) rfl S.co S.gen rfl (PySem.W.codeRec_of KX hcd) (hb _ _ _ _ ?_)
  refine wpAny_newFunctionEnv_cells S.kind hkind fun env he s1 x => ?_
  subst he
  refine ⟨lim.keeps x.toInCall.keep, codeAny_func ?_⟩
  obtain ⟨t, ht, hq⟩ := hbody A outer s H vs Q E (hr.deeper _) hsp
  have I : Inv (cxOf CX P w K mg base N qual scope f cdv A outer s H E) [] (start N vs) H s1 := inv_start S hr.hd e0 hl r x
  refine wpAny_mono (ht [] s1 (start N vs) H _ I hq) (fun fl s' hs => ?_) fun e s' hs => hs
  have fin : ∀ {σ' : St} {H' : Hp} {v : V} {u : Value}, Inv (cxOf CX P w K mg base N qual scope f cdv A outer s H E) [] σ' H' s' → RelV v u → Q v H' → CE outer P w H s Q u s' :=
    fun {σ' H' v u} J rv q => ⟨v, H', J.os, J.bare, J.base, J.hok, rv, q⟩
  cases fl with
  | ret u =>
    obtain ⟨v, σ', H', J, rv, q⟩ := hs
    exact fin J rv q
  | next =>
    obtain ⟨σ', H', J, q⟩ := hs
    exact fin (v := V.non) (u := Value.none) J rfl q
  | brk =>
    obtain ⟨_, _, _, q⟩ := hs
    exact False.elim q
  | cont =>
    obtain ⟨_, _, _, q⟩ := hs
    exact False.elim q
end L2

namespace L2
open PySem PySem.Spec PyProof.Rows
section
variable {X : Cx} {x : Str} {p pos : Pos} {e : Expr} {es : List Expr} {t : TA} {id T : String} {r : List V → Hp → VK → Prop}

def tCB (r : List V → Hp → VK → Prop) (t : TA) : TE := fun σ H Q => t σ H fun vs H1 => r vs H1 Q
/-- f(e, ..), f a built-in function -/
theorem pe_callB (hc : CallR X (.builtin id) r) (hg : Gl X x) (hm : X.mg x = none) (hv : bootBuiltins x = some (.builtin id)) (ha : PA X (e :: es) t) (hn : x ≠ "__name__" := by decide) (hdb : (x == ("__debug__" : Str)) = false := by decide)
    (he : starEach (e :: es) X.env = (false, eval e X.env) :: starEach es X.env := by rfl) (hpl : (backTo pos (starEach es X.env)).any (·.1) = false := by rfl) : PE X (.Call (.Name x p) (e :: es) [] pos) (tCB r t) := by
  intro pins s σ H Q I h
  refine wpAny_Call_Name_kw (ld_blt I hg hm hv ?_ hn hdb)
  exact PyProof.Rows.callWith_builtin1 (thn (ha pos pins s σ H _ I h) fun us s1 ⟨vs, H1, I1, r1, q1⟩ => hc pins s1 σ H1 vs us Q I1 r1 q1) he hpl
/-- T(e, ..), T a built-in type -/
theorem pe_callTy (hc : CallR X (.type T) r) (hg : Gl X x) (hm : X.mg x = none) (hv : bootBuiltins x = some (.type T)) (ha : PA X (e :: es) t) (hn : x ≠ "__name__" := by decide) (hdb : (x == ("__debug__" : Str)) = false := by decide)
    (he : starEach (e :: es) X.env = (false, eval e X.env) :: starEach es X.env := by rfl) (hpl : (backTo pos (starEach es X.env)).any (·.1) = false := by rfl) : PE X (.Call (.Name x p) (e :: es) [] pos) (tCB r t) := by
  intro pins s σ H Q I h
  refine wpAny_Call_Name_kw (ld_blt I hg hm hv ?_ hn hdb)
  exact PyProof.Rows.callWith_type1 (thn (ha pos pins s σ H _ I h) fun us s1 ⟨vs, H1, I1, r1, q1⟩ => hc pins s1 σ H1 vs us Q I1 r1 q1) he hpl
end
end L2

namespace HT
open PySem PyProof.Rows

section
open PySem.SeqAt
open PySem.AutoSeq1 (wpAny_loadPart')
open PySem.MeetsSeq PySem.MeetsSeq2 PySem.MeetsSeq3

end

section
variable {prog : Program} {w : World} {A : Around} {E : Value → Shared → Prop} {s : Shared}

/-! ### t[a:b], not the whole -/
/-- a slice's bound as a place among n (d where it is left out) -/
def sIx (n d : Nat) : Option Int → Nat
  | none => d
  | some v => if v < 0 then (v + (n : Int)).toNat else min v.toNat n
theorem sIx_none (n d : Nat) : sIx n d none = d := rfl
theorem sIx_nat (n d k : Nat) : sIx n d (some (k : Int)) = min k n := by
  show (if (k : Int) < 0 then ((k : Int) + (n : Int)).toNat else min (k : Int).toNat n) = min k n
  rw [if_neg (by lia), Int.toNat_natCast]
end
end HT

namespace L2
open PySem PySem.Spec PyProof.Rows

/-! ### the parts of a slice -/
abbrev TO := St → Hp → (Option Int → Hp → Prop) → Prop
/-- a slice's part (left out, or an int) -/
def PO (X : Cx) (e : Option Expr) (t : TO) : Prop :=
  ∀ (pins : List (Addr × Obj)) (s : Shared) (σ : St) (H : Hp) (Q : Option Int → Hp → Prop), Inv X pins σ H s → t σ H Q →
    wpAny (model X.prog X.w) X.A (evalPart e X.env) (fun u s' => ∃ o H', Inv X pins σ H' s' ∧ IsPart u o ∧ Q o H') X.xe s
def tNoPart : TO := fun _ H Q => Q none H
def tPart (t : TE) : TO := fun σ H Q => t σ H fun x H1 => ∃ i, x = .int i ∧ Q (some i) H1

section
variable {X : Cx} {e : Expr} {te : TE} {lo hi : Option Expr} {tl th : TO} {pos p2 : Pos}

theorem po_none : PO X none tNoPart := by
  intro pins s σ H Q I h
  rw [evalPart_none]
  exact wpAny_pure ⟨none, H, I, .none, h⟩
theorem po_some (h : PE X e te) : PO X (some e) (tPart te) := by
  intro pins s σ H Q I hw
  rw [evalPart_some]
  refine thn (h pins s σ H _ I hw) fun u s1 zz => ?_
  obtain ⟨x, H1, I1, r1, q1⟩ := zz
  obtain ⟨i, rfl, q⟩ := q1
  obtain ⟨t, rfl⟩ := r1
  exact ⟨some i, H1, I1, .int i t, q⟩

/-- what a slice of a value is, by values: the slice object stands at sl -/
def SlR (X : Cx) (r : V → Option Int → Option Int → Hp → VK → Prop) : Prop :=
  ∀ (pins : List (Addr × Obj)) (s : Shared) (σ : St) (H : Hp) (x : V) (v vl vu : Value) (lo hi : Option Int) (sl : Addr) (Q : VK), Inv X pins σ H s → RelV x v → s.heap.IsSliceOf sl vl vu .none → IsPart vl lo → IsPart vu hi → r x lo hi H Q →
    ∃ T id, typeLookup (.type T) "__getitem__" = pure (some (.builtin id)) ∧ s.TypeIs v T ∧ wpAny (model X.prog X.w) X.A (getItem v (.ref sl)) (EP X pins σ Q) X.xe s
def tSl (r : V → Option Int → Option Int → Hp → VK → Prop) (te : TE) (tl th : TO) : TE := fun σ H Q => te σ H fun x H1 => tl σ H1 fun l H2 => th σ H2 fun u H3 => r x l u H3 Q
/-- a[lo:hi], any a -/
theorem pe_slice {r : V → Option Int → Option Int → Hp → VK → Prop} (hr : SlR X r) (he : PE X e te) (hl : PO X lo tl) (hu : PO X hi th) : PE X (.Subscript e (.Slice lo hi none p2) pos) (tSl r te tl th) := by
  intro pins s σ H Q I h
  refine Subscript_ (thn (he pins s σ H _ I h) fun v s1 zz => ?_)
  obtain ⟨x, H1, I1, r1, q1⟩ := zz
  refine wpAny_Slice (thn (hl pins s1 σ H1 _ I1 q1) fun vl s2 ⟨l, H2, I2, pl, q2⟩ => thn (hu pins s2 σ H2 _ I2 q2) fun vu s3 zz => ?_)
  obtain ⟨u, H3, I3, pu, q3⟩ := zz
  rw [evalPart_none]
  refine wpAny_pure ?_
  have I4 : Inv X pins σ H3 { s3 with heap := s3.heap.push { cls := .type "slice", data := .fields #[vl, vu, .none] } } := I3.kept (t' := s3.toks) fun b ob q => Heap.get?_push_of_some _ q
  obtain ⟨T, id, hT, ht, hg⟩ := hr pins { s3 with heap := s3.heap.push { cls := .type "slice", data := .fields #[vl, vu, .none] } } σ H3 x v vl vu l u s3.heap.objs.size Q I4 r1 (Heap.IsSliceOf.new ..) pl pu q3
  show wpAny (model X.prog X.w) X.A (subscriptTail e (.Slice lo hi none p2) v (.ref s3.heap.objs.size)) (EP X pins σ Q) X.xe { s3 with heap := s3.heap.push { cls := .type "slice", data := .fields #[vl, vu, .none] } }
  exact tail_any (ops := [.ref s3.heap.objs.size, v]) ht hT hg (by with_unfolding_all rfl)

/-- the items of xs[lo:hi] -/
def cutV (xs : List V) (lo hi : Option Int) : List V := (xs.drop (HT.sIx xs.length 0 lo)).take (HT.sIx xs.length xs.length hi - HT.sIx xs.length 0 lo)
theorem cutV_length (xs : List V) (lo hi : Option Int) : (cutV xs lo hi).length ≤ xs.length := by
  unfold cutV
  rw [List.length_take, List.length_drop]
  lia
/-! ### t < u, t + u -/
end
end L2

namespace L2
open PySem PySem.Spec PyProof.Rows

/-! ### places -/
/-- the place that an index of any sign means -/
def ixN (n : Nat) (i : Int) : Option Nat := if 0 ≤ i then (if i < n then some i.toNat else none) else if -(n : Int) ≤ i then some (i + n).toNat else none
def atI {α : Type} (xs : List α) (i : Int) : Option α := (ixN xs.length i).bind fun j => xs[j]?
theorem ixN_seq {n : Nat} {i : Int} {j : Nat} (h : ixN n i = some j) : seqIndex? i n = some j ∧ j < n ∧ -(n : Int) ≤ i ∧ i < n := by
  unfold ixN at h
  by_cases h0 : 0 ≤ i
  · rw [if_pos h0] at h
    by_cases h1 : i < n
    · rw [if_pos h1] at h
      have e : i.toNat = j := Option.some.inj h
      exact ⟨by rw [seqIndex_of h0 h1, e], by lia, by lia, h1⟩
    · rw [if_neg h1] at h; cases h
  · rw [if_neg h0] at h
    by_cases h1 : -(n : Int) ≤ i
    · rw [if_pos h1] at h
      have e : (i + n).toNat = j := Option.some.inj h
      exact ⟨by rw [seqIndex_neg (by lia) h1, e], by lia, h1, by lia⟩
    · rw [if_neg h1] at h; cases h
theorem atI_get {α : Type} {xs : List α} {i : Int} {v : α} (h : atI xs i = some v) : ∃ j, seqIndex? i xs.length = some j ∧ xs[j]? = some v ∧ j < xs.length ∧ -(xs.length : Int) ≤ i ∧ i < xs.length := by
  unfold atI at h
  cases e : ixN xs.length i with
  | none => rw [e] at h; cases h
  | some j =>
    rw [e] at h
    obtain ⟨h1, h2, h3, h4⟩ := ixN_seq e
    exact ⟨j, h1, h, h2, h3, h4⟩
theorem atI_nat {α : Type} {xs : List α} {j : Nat} {v : α} (h : xs[j]? = some v) : atI xs (j : Int) = some v := by
  have hj : j < xs.length := (List.getElem?_eq_some_iff.mp h).1
  have e : ixN xs.length (j : Int) = some j := by
    unfold ixN
    rw [if_pos (by lia), if_pos (by lia)]; simp
  unfold atI; rw [e]; exact h
/-! ### what may be subscripted -/
/-- what stands as an index of a plain subscript -/
def PlainIx (b : Expr) : Prop := ∀ o i, subscripted b false o i = operate [o, i] (getItem o i)
/-- a subscript by values -/
def IxR (X : Cx) (r : R2) : Prop :=
  ∀ (value slice : Expr) (pins : List (Addr × Obj)) (s : Shared) (σ : St) (H : Hp) (x y : V) (v u : Value) (Q : VK), Inv X pins σ H s → RelV x v → RelV y u → r x y H Q →
    subscripted slice false v u = operate [v, u] (getItem v u) → wpAny (model X.prog X.w) X.A (subscriptTail value slice v u) (EP X pins σ Q) X.xe s
/-- a call of a builtin's method by values: the receiver, the arguments -/
def MtR (X : Cx) (id : String) (r : V → List V → Hp → VK → Prop) : Prop :=
  ∀ (pins : List (Addr × Obj)) (s : Shared) (σ : St) (H : Hp) (x : V) (xs : List V) (v : Value) (us : List Value) (Q : VK), Inv X pins σ H s → RelV x v → Vals xs us → r x xs H Q →
    wpAny (model X.prog X.w) X.A (call (.builtin id) (v :: us)) (EP X pins σ Q) X.xe s
section
variable {X : Cx} {a b : Expr} {ta tb : TE} {pos : Pos}
/-- a[b] -/
theorem pe_ix {r : R2} (hr : IxR X r) (ha : PE X a ta) (hb : PE X b tb) (hs : PlainIx b) : PE X (.Subscript a b pos) (tOp r ta tb) := by
  intro pins s σ H Q I h
  exact Subscript_ (binT ha hb I h fun v u s2 x y H2 I2 rx ry q => hr a b pins s2 σ H2 x y v u Q I2 rx ry q (hs _ _))

def rIxL (K : PySem.W.Frag) : R2 := fun x y H Q => ∃ p xs i v, x = .ref p ∧ y = .int i ∧ SqL K H p xs ∧ atI xs i = some v ∧ Q v H
def rIxT (K : PySem.W.Frag) : R2 := fun x y H Q => ∃ p xs i v, x = .ref p ∧ y = .int i ∧ SqT K H p xs ∧ atI xs i = some v ∧ Q v H
theorem ix_list : IxR X (rIxL X.K) := by
  intro value slice pins s σ H x y v u Q I rx ry h hs
  obtain ⟨p, xs, i, z, rfl, rfl, hq, he, q⟩ := h
  cases rx
  obtain ⟨t, rfl⟩ := ry
  obtain ⟨its, r, pl, hz⟩ := I.list hq
  obtain ⟨j, h1, h2, h3, h4, h5⟩ := atI_get he
  obtain ⟨w, ew, rw'⟩ := r.get h2
  have hl := r.length
  have hn := line63
  have fin : EP X pins σ Q w s := ⟨z, H, I, rw', q⟩
  by_cases h0 : 0 ≤ i
  · have hj : i.toNat = j := by
      rw [seqIndex_of h0 h5] at h1
      exact Option.some.inj h1
    exact item_listR pl.isList h0 (by lia) (by rw [hj]; simpa using ew) fin hs
  · have hj : (i + (its.toArray.size : Int)).toNat = j := by
      rw [seqIndex_neg (by lia) h4] at h1
      rw [List.size_toArray, ← hl]
      exact Option.some.inj h1
    exact subscriptTail_builtinR (x := w) pl.isList.typeIs slot_list_getitem.lookup
      (wpAny_getItem_list_neg (Q := fun r s' => r = w ∧ EP X pins σ Q r s') pl.isList (by lia) (by rw [List.size_toArray] <;> lia) (by lia) (by rw [hj]; simpa using ew) ⟨rfl, fin⟩) hs
theorem ix_tup : IxR X (rIxT X.K) := by
  intro value slice pins s σ H x y v u Q I rx ry h hs
  obtain ⟨p, xs, i, z, rfl, rfl, hq, he, q⟩ := h
  cases rx
  obtain ⟨t, rfl⟩ := ry
  obtain ⟨its, r, pl, hz⟩ := I.tuple hq
  obtain ⟨j, h1, h2, h3, h4, h5⟩ := atI_get he
  obtain ⟨w, ew, rw'⟩ := r.get h2
  have hl := r.length
  have hn := line63
  have fin : EP X pins σ Q w s := ⟨z, H, I, rw', q⟩
  exact subscriptTail_builtinR (x := w) pl.typeIs slot_tuple_getitem.lookup
    (getItem_tuple (j := j) (Q := fun r s' => r = w ∧ EP X pins σ Q r s') pl (by lia) (by lia) (by rw [List.size_toArray, ← hl]; exact h1) (by simpa using ew) ⟨rfl, fin⟩) hs
/-! ### xs[i] = v, any sign -/
/-- the list's object behind a store -/
theorem mapSeq_set (its : List Value) (n j : Nat) (u : Value) : Obj.mapSeq (·.setIfInBounds j u) { cls := .type "list", data := .seq its.toArray n } = { cls := .type "list", data := .seq (its.set j u).toArray n } := by
  simp [Obj.mapSeq]
theorem Inv.lst {pins : List (Addr × Obj)} {σ : St} {H : Hp} {s : Shared} {p : Addr} {xs : List V} (I : Inv X pins σ H s) (h : H p = some (.lst xs)) :
    ∃ (its : List Value) (n : Nat), Vals xs its ∧ s.heap.get? p = some { cls := .type "list", data := .seq its.toArray n } ∧ xs.length ≤ sizeLine := by
  obtain ⟨z, its, n, r, e⟩ := I.hok p _ h
  exact ⟨its, n, r, e, z⟩
/-- the list at p is written by an update of its object -/
theorem Inv.lstUpd {pins : List (Addr × Obj)} {σ : St} {H : Hp} {s : Shared} {p : Addr} {xs ys : List V} {its its' : List Value} {n n' : Nat} {f : Obj → Obj} (I : Inv X pins σ H s) (h : H p = some (.lst xs))
    (ho : s.heap.get? p = some { cls := .type "list", data := .seq its.toArray n }) (hf : f { cls := .type "list", data := .seq its.toArray n } = { cls := .type "list", data := .seq its'.toArray n' }) (r : Vals ys its') (hz : ys.length ≤ sizeLine) (t : Nat) :
    Inv X pins σ (upd H p (.lst ys)) { s with heap := s.heap.update p f, toks := t } := by
  have e : (s.heap.update p f).get? p = some { cls := .type "list", data := .seq its'.toArray n' } := by
    rw [Heap.get?_update_self f ho (by rw [hf] <;> rfl), hf]
  refine I.write (x := p) (e := p) (by rw [h]; trivial) (.inl rfl) (fun b u hb q => (Heap.get?_update_other _ _ (Ne.symm hb)).trans q) ⟨_, e⟩ ?_
  exact ⟨hz, its', n', r, e⟩
def rSetL : V → V → V → Hp → (Hp → Prop) → Prop := fun o i v H Q => ∃ p xs k j, o = .ref p ∧ i = .int k ∧ H p = some (.lst xs) ∧ ixN xs.length k = some j ∧ Q (upd H p (.lst (xs.set j v)))
theorem set_list : PSet X rSetL := by
  intro pins s σ H o i v ov iv u Q I ro ri rv h
  obtain ⟨p, xs, k, j, rfl, rfl, hp, hj, q⟩ := h
  cases ro
  obtain ⟨t, rfl⟩ := ri
  obtain ⟨its, n, r, ho, hz⟩ := I.lst hp
  obtain ⟨h1, h2, h3, h4⟩ := ixN_seq hj
  have hl := r.length
  have hn := line63
  have I' : Inv X pins σ (upd H p (.lst (xs.set j v))) { s with heap := s.heap.update p (Obj.mapSeq (·.setIfInBounds j u)) } :=
    I.lstUpd hp ho (mapSeq_set its n j u) (r.set rv j) (by rw [List.length_set]; exact hz) s.toks
  by_cases h0 : 0 ≤ k
  · have hk : k.toNat = j := by
      rw [seqIndex_of h0 h4] at h1
      exact Option.some.inj h1
    exact PySem.W.ki_setAt ho h0 (by lia) (by rw [List.size_toArray, ← hl]; exact h4) (by rw [hk]; exact ⟨_, I', q⟩)
  · have hk : (k + (its.toArray.size : Int)).toNat = j := by
      rw [seqIndex_neg (by lia) h3] at h1
      rw [List.size_toArray, ← hl]
      exact Option.some.inj h1
    exact PySem.W.ki_setBack ho (by lia) (by rw [List.size_toArray, ← hl]; exact h3) (by lia) (by rw [hk]; exact ⟨_, I', q⟩)

/-! ### slices -/
theorem slice_bounds (lo hi : Option Int) (n : Nat) : (sliceBounds lo hi none n).1 = ((HT.sIx n 0 lo : Nat) : Int) ∧ (sliceBounds lo hi none n).2.1 = ((HT.sIx n n hi : Nat) : Int) ∧ (sliceBounds lo hi none n).2.2 = 1 := by
  refine ⟨?_, ?_, rfl⟩
  · cases lo with
    | none => simp [sliceBounds, HT.sIx]
    | some i =>
      simp only [sliceBounds, HT.sIx, Option.getD_none, show (1 : Int) > 0 by decide, if_true]
      by_cases h : i < 0
      · simp only [h, if_true] <;> lia
      · simp only [h, if_false] <;> lia
  · cases hi with
    | none => simp [sliceBounds, HT.sIx]
    | some i =>
      simp only [sliceBounds, HT.sIx, Option.getD_none, show (1 : Int) > 0 by decide, if_true]
      by_cases h : i < 0
      · simp only [h, if_true] <;> lia
      · simp only [h, if_false] <;> lia
theorem slicePick_cut (its : List Value) (lo hi : Option Int) : slicePick its.toArray lo hi none = ((its.drop (HT.sIx its.length 0 lo)).take (HT.sIx its.length its.length hi - HT.sIx its.length 0 lo)).toArray := by
  obtain ⟨h1, h2, h3⟩ := slice_bounds lo hi its.toArray.size
  unfold slicePick
  rw [h1, h2, h3]
  simp only [sliceRange_one, pick_run, List.size_toArray] <;> rfl
/-- xs[lo:hi] of a list: a new list -/
def rSlL (K : PySem.W.Frag) : V → Option Int → Option Int → Hp → VK → Prop := fun x lo hi H Q => ∃ a xs, x = .ref a ∧ SqL K H a xs ∧ ∀ p, H p = none → Q (.ref p) (upd H p (.lst (cutV xs lo hi)))
theorem sl_list : SlR X (rSlL X.K) := by
  intro pins s σ H x v vl vu lo hi sl Q I rx hs pl pu h
  obtain ⟨a, xs, rfl, hx, q⟩ := h
  cases rx
  obtain ⟨its, r, ht, hz⟩ := I.list hx
  have hlen := r.length
  refine ⟨"list", _, slot_list_getitem.lookup, ht.isList.typeIs, ?_⟩
  refine wpAny_getItem_list_slice ht.isList hs pl pu .none (by simp) ?_ (by rw [List.size_toArray] <;> lia)
  rw [slicePick_cut, ← hlen]
  refine ⟨.ref s.heap.objs.size, _, I.laid (t' := s.toks) (o := .lst (cutV xs lo hi)) (fun b ob q => Heap.get?_push_of_some _ q) (Nat.le_refl _) ?_, rfl, q _ (I.hok.fresh (Nat.le_refl _))⟩
  exact ⟨Nat.le_trans (cutV_length xs lo hi) hz, _, 0, (r.drop (HT.sIx xs.length 0 lo)).take (HT.sIx xs.length xs.length hi - HT.sIx xs.length 0 lo), Heap.get?_push_size _ rfl⟩

/-! ### in, not in: flat items -/
def flatV : V → Bool
  | .non => true
  | .bl _ => true
  | .int _ => true
  | .str _ => true
  | _ => false
/-- == of flat values -/
def eqV : V → V → Bool
  | .non, .non => true
  | .bl a, .bl b => a == b
  | .bl a, .int b => (if a then 1 else 0) == b
  | .int a, .bl b => a == (if b then 1 else 0)
  | .int a, .int b => a == b
  | .str a, .str b => a == b
  | _, _ => false
theorem eqAt_V {A : Around} {s : Shared} {y x : V} {u v : Value} (ry : RelV y u) (rx : RelV x v) (fy : flatV y = true) (fx : flatV x = true) : SeqAt.EqAt A s u v (eqV y x) := by
  cases y with
  | non =>
    cases ry
    cases x with
    | non => cases rx; exact SeqAt.EqAt.same _
    | bl b => cases rx; exact SeqAt.EqAt.none_bool b
    | int b => obtain ⟨t, rfl⟩ := rx; exact SeqAt.EqAt.none_int b t
    | str b => obtain ⟨t, rfl⟩ := rx; exact SeqAt.EqAt.none_str b t
    | _ => exact absurd (show false = true from fx) Bool.false_ne_true
  | bl a =>
    cases ry
    cases x with
    | non => cases rx; exact SeqAt.EqAt.bool_none a
    | bl b => cases rx; exact SeqAt.EqAt.bool_bool a b
    | int b => obtain ⟨t, rfl⟩ := rx; exact SeqAt.EqAt.bool_int a b t
    | str b => obtain ⟨t, rfl⟩ := rx; exact SeqAt.EqAt.bool_str a b t
    | _ => exact absurd (show false = true from fx) Bool.false_ne_true
  | int a =>
    obtain ⟨t', rfl⟩ := ry
    cases x with
    | non => cases rx; exact SeqAt.EqAt.int_none a t'
    | bl b => cases rx; exact SeqAt.EqAt.int_bool a t' b
    | int b => obtain ⟨t, rfl⟩ := rx; exact SeqAt.EqAt.int_int a t' b t
    | str b => obtain ⟨t, rfl⟩ := rx; exact SeqAt.EqAt.int_str a t' b t
    | _ => exact absurd (show false = true from fx) Bool.false_ne_true
  | str a =>
    obtain ⟨t', rfl⟩ := ry
    cases x with
    | non => cases rx; exact SeqAt.EqAt.str_none a t'
    | bl b => cases rx; exact SeqAt.EqAt.str_bool a t' b
    | int b => obtain ⟨t, rfl⟩ := rx; exact SeqAt.EqAt.str_int a t' b t
    | str b => obtain ⟨t, rfl⟩ := rx; exact SeqAt.EqAt.str_str a t' b t
    | _ => exact absurd (show false = true from fx) Bool.false_ne_true
  | _ => exact absurd (show false = true from fy) Bool.false_ne_true
/-! ### len, list(x), tuple(x) of any list or tuple that is read -/
theorem call_len_seq : CallR X (.builtin "len") (fun xs H Q => ∃ p ys, xs = [.ref p] ∧ (SqL X.K H p ys ∨ SqT X.K H p ys) ∧ Q (.int ys.length) H) := by
  intro pins s σ H xs us Q I r h
  obtain ⟨p, ys, rfl, hq, q⟩ := h
  obtain ⟨u, rfl, rx⟩ := vals1 r
  cases rx
  have hn := line63
  rcases hq with hq | hq
  · obtain ⟨its, r', pl, hz⟩ := I.list hq
    have hlen := r'.length
    exact Calls.call_len_list pl.isList (by simp only [List.size_toArray] <;> lia) ⟨.int ys.length, H, I.tok _, ⟨s.toks + 1, by rw [List.size_toArray, hlen]⟩, q⟩
  · obtain ⟨its, r', pl, hz⟩ := I.tuple hq
    have hlen := r'.length
    exact len_tuple pl (by simp only [List.size_toArray] <;> lia) ⟨.int ys.length, H, I.tok _, ⟨s.toks + 1, by rw [List.size_toArray, hlen]⟩, q⟩
theorem call_list_of : CallR X (.type "list") (fun xs H Q => ∃ p ys, xs = [.ref p] ∧ (SqL X.K H p ys ∨ SqT X.K H p ys) ∧ ∀ l, H l = none → Q (.ref l) (upd H l (.lst ys))) := by
  intro pins s σ H xs us Q I r h
  obtain ⟨p, ys, rfl, hq, q⟩ := h
  obtain ⟨u, rfl, rx⟩ := vals1 r
  cases rx
  have fin : ∀ (its : List Value), Vals ys its → ys.length ≤ sizeLine → ∀ (h' : Heap) (c' : Nat), (∀ b o', s.heap.get? b = some o' → h'.get? b = some o') →
      h'.get? s.heap.objs.size = some { cls := .type "list", dict := none, data := .seq its.toArray c', slots := #[] } → EP X pins σ Q (.ref s.heap.objs.size) { s with heap := h' } := fun its r' hz h' c' kp e =>
    ⟨.ref s.heap.objs.size, _, I.laid (t' := s.toks) kp (Nat.le_refl _) (show ObjOk X.prog X.w _ h' _ (.lst ys) from ⟨hz, its, c', r', e⟩), rfl, q _ (I.hok.fresh (Nat.le_refl _))⟩
  rcases hq with hq | hq
  · obtain ⟨its, r', pl, hz⟩ := I.list hq
    have hlen := r'.length
    obtain ⟨o, ho, hc, n, hd⟩ := pl.isList
    exact call_list_seq p (.inl rfl) ho hc hd (fun h' c' kp e => fin its r' hz h' c' kp e) (by simp only [List.size_toArray] <;> lia)
  · obtain ⟨its, r', pl, hz⟩ := I.tuple hq
    have hlen := r'.length
    obtain ⟨o, ho, hc, n, hd⟩ := pl
    exact call_list_seq p (.inr rfl) ho hc hd (fun h' c' kp e => fin its r' hz h' c' kp e) (by simp only [List.size_toArray] <;> lia)
/-! ### the call of a builtin's method: o.m(..) -/
/-- the value is of that builtin type -/
def tyV (K : PySem.W.Frag) (T : String) (x : V) (H : Hp) : Prop := match x with
  | .str _ => T = "str"
  | .int _ => T = "int"
  | .ref p => (T = "list" ∧ ∃ xs, SqL K H p xs) ∨ (T = "tuple" ∧ ∃ o, K.lookup p = some o ∧ o.cls = .type "tuple" ∧ o.dict = none) ∨
      (T = "dict" ∧ ((∃ kvs, H p = some (.dK kvs)) ∨ ∃ kvs, H p = some (.dT kvs))) ∨ (T = "set" ∧ ∃ S n, H p = some (.set S n))
  | _ => False
theorem tyV_is {pins : List (Addr × Obj)} {σ : St} {H : Hp} {s : Shared} {T : String} {x : V} {v : Value} (I : Inv X pins σ H s) (r : RelV x v) (ty : tyV X.K T x H) :
    s.TypeIs v T ∧ ∀ a, v = .ref a → ∃ ob, s.heap.get? a = some ob ∧ ob.dict = none := by
  cases x with
  | str z =>
    obtain ⟨t, rfl⟩ := r
    cases (show T = "str" from ty)
    exact ⟨typeIs_str s z t, fun _ e => nomatch e⟩
  | int i =>
    obtain ⟨t, rfl⟩ := r
    cases (show T = "int" from ty)
    exact ⟨typeIs_int s i t, fun _ e => nomatch e⟩
  | ref p =>
    cases r
    rcases ty with ⟨rfl, xs, hq⟩ | ⟨rfl, o, hk, hc, hd⟩ | ⟨rfl, hk⟩ | ⟨rfl, S, n, hk⟩
    · obtain ⟨its, _, pl, _⟩ := I.list hq
      refine ⟨pl.isList.typeIs, fun a e => ?_⟩
      cases e
      obtain ⟨o, n, e, c, hd, _⟩ := pl
      exact ⟨o, e, hd⟩
    · refine ⟨⟨o, I.kIn p o hk, hc⟩, fun a e => ?_⟩
      cases e
      exact ⟨o, I.kIn _ o hk, hd⟩
    · have z : ∃ o, s.heap.get? p = some o ∧ o.ExactDict := by
        rcases hk with ⟨kvs, hk⟩ | ⟨kvs, hk⟩
        · obtain ⟨_, _, _, _, o, _, _, e, ex, _⟩ := I.hok p _ hk
          exact ⟨o, e, ex⟩
        · obtain ⟨_, _, _, _, o, _, _, e, ex, _⟩ := I.hok p _ hk
          exact ⟨o, e, ex⟩
      obtain ⟨o, e, ex⟩ := z
      refine ⟨⟨o, e, ex.1⟩, fun a e2 => ?_⟩
      cases e2
      exact ⟨o, e, ex.2.1⟩
    · obtain ⟨o, _, _, _, e, ex, _⟩ := I.hok p _ hk
      refine ⟨⟨o, e, ex.1⟩, fun a e2 => ?_⟩
      cases e2
      exact ⟨o, e, ex.2.1⟩
  | _ => exact False.elim ty
def tBM0 (K : PySem.W.Frag) (T : String) (r : V → List V → Hp → VK → Prop) (to : TE) : TE := fun σ H Q => to σ H fun x H1 => tyV K T x H1 ∧ r x [] H1 Q
def tBM (K : PySem.W.Frag) (T : String) (r : V → List V → Hp → VK → Prop) (to : TE) (t : TA) : TE := fun σ H Q => to σ H fun x H1 => tyV K T x H1 ∧ t σ H1 fun xs H2 => r x xs H2 Q
variable {o e : Expr} {es : List Expr} {to : TE} {t : TA} {name : Str} {apos cpos : Pos} {T id : String} {r : V → List V → Hp → VK → Prop}
theorem pe_bm0 (pa : PlainAttrs T) (slot : Slot T name id) (hty : typeOf (.builtin id) = pure (.type "method_descriptor")) (hm : MtR X id r) (ho : PE X o to)
    (hbase : attributeBase o name X.env (eval o X.env) = eval o X.env := by rfl) (hline : (apos.endLine == cpos.line) = true := by rfl) : PE X (.Call (.Attribute o name apos) [] [] cpos) (tBM0 X.K T r to) := by
  intro pins s σ H Q I h
  refine wpAny_Call_method0_late hbase hline (thn (ho pins s σ H _ I h) fun v s1 zz => ?_)
  obtain ⟨x, H1, I1, r1, ty, q1⟩ := zz
  obtain ⟨h1, h2⟩ := tyV_is I1 r1 ty
  exact ⟨T, id, pa, slot, hty, h1, h2, Calls.callWith_builtin rfl (PySem.evalArgs_none (hm pins s1 σ H1 x [] v [] Q I1 r1 .nil q1))⟩
theorem pe_bm (pa : PlainAttrs T) (slot : Slot T name id) (hty : typeOf (.builtin id) = pure (.type "method_descriptor")) (hm : MtR X id r) (ho : PE X o to) (ha : PA X (e :: es) t)
    (hbase : attributeBase o name X.env (eval o X.env) = eval o X.env := by rfl)
    (hfew : ((backTo cpos (starEach (e :: es) X.env)).all (fun x => !x.1) && (backToKw cpos (keywordEach [] X.env)).all (fun x => x.1.isSome)
      && decide ((e :: es).length + ([] : List Keyword).length + (if ([] : List Keyword).isEmpty then 0 else 1) < 30)) = true := by rfl)
    (hline : (apos.endLine == cpos.line) = true := by rfl) (hs : starEach (e :: es) X.env = (false, eval e X.env) :: starEach es X.env := by rfl) (hplain : (backTo cpos (starEach es X.env)).any (·.1) = false := by rfl) :
    PE X (.Call (.Attribute o name apos) (e :: es) [] cpos) (tBM X.K T r to t) := by
  intro pins s σ H Q I h
  refine wpAny_Call_method_late hbase hfew hline rfl (thn (ho pins s σ H _ I h) fun v s1 zz => ?_)
  obtain ⟨x, H1, I1, r1, ty, q1⟩ := zz
  obtain ⟨h1, h2⟩ := tyV_is I1 r1 ty
  refine ⟨T, id, pa, slot, hty, h1, h2, ?_⟩
  have hA := ha cpos pins s1 σ H1 _ I1 q1
  rw [hs] at hA ⊢
  refine Calls.callWith_builtin (by show (false || (backTo cpos (starEach es X.env)).any (·.1)) = false; rw [hplain] <;> rfl) (Calls.evalArgs_plain ?_)
  exact thn hA fun us s2 ⟨vs, H2, I2, r2, q2⟩ => hm pins s2 σ H2 x vs v us Q I2 r1 r2 q2
/- xs.append(e), list.index on a module's tuple .. are MtR facts of 06m -/
end
end L2

namespace L2
open PySem PySem.Spec PyProof.Rows

def MtM (X : Cx) (id : String) (r : V → List V → Hp → VK → Prop) : Prop :=
  ∀ (pins : List (Addr × Obj)) (s : Shared) (σ : St) (H : Hp) (x : V) (xs : List V) (v : Value) (us : List Value) (Q : VK), Inv X pins σ H s → RelV x v → Vals xs us → r x xs H Q →
    wpAny (model X.prog X.w) X.A (call (.builtin id) (v :: us)) (EP X pins σ Q) X.xe s

/-! ### lists of values -/
theorem Vals.one : ∀ {x : V} {us : List Value}, Vals [x] us → ∃ u, us = [u] ∧ RelV x u
  | _, _, .cons r .nil => ⟨_, rfl, r⟩
theorem Vals.zero : ∀ {us : List Value}, Vals [] us → us = []
  | _, .nil => rfl
theorem Vals.dropLast {xs : List V} {us : List Value} (h : Vals xs us) : Vals xs.dropLast us.dropLast := by
  induction h with
  | nil => exact .nil
  | cons r t ih =>
    cases t with
    | nil => exact .nil
    | cons q t' => exact .cons r ih
theorem Vals.eraseIdx : ∀ {xs : List V} {us : List Value} (i : Nat), Vals xs us → Vals (xs.eraseIdx i) (us.eraseIdx i)
  | _, _, _, .nil => .nil
  | _, _, 0, .cons _ t => t
  | _, _, i + 1, .cons r t => .cons r (Vals.eraseIdx i t)
theorem Vals.reverse {xs : List V} {us : List Value} (h : Vals xs us) : Vals xs.reverse us.reverse := by
  induction h with
  | nil => exact .nil
  | cons r t ih => rw [List.reverse_cons, List.reverse_cons]; exact Vals.append ih (.cons r .nil)
theorem erase_last {α : Type} (l : List α) : l.eraseIdx (l.length - 1) = l.dropLast := by
  induction l with
  | nil => rfl
  | cons a r ih =>
    cases r with
    | nil => rfl
    | cons b r =>
      have e : (a :: b :: r).length - 1 = ((b :: r).length - 1) + 1 := by
        have h1 : (a :: b :: r).length = r.length + 2 := rfl
        have h2 : (b :: r).length = r.length + 1 := rfl
        lia
      rw [e, List.eraseIdx_cons_succ, ih]
      all_goals rfl
theorem len_erase {α : Type} : ∀ (l : List α) (i : Nat), (l.eraseIdx i).length ≤ l.length
  | [], _ => Nat.le_refl _
  | _ :: _, 0 => Nat.le_succ _
  | _ :: r, i + 1 => Nat.succ_le_succ (len_erase r i)
section
variable {X : Cx} {pins : List (Addr × Obj)} {σ : St} {H : Hp} {s : Shared} {l b : Addr} {xs ys zs : List V}

/-! ### the two steps: a tracked list is rewritten, a new list is laid -/
theorem Inv.lset {its its' : List Value} {n : Nat} {f : Array Value → Array Value} {t' : Nat} (I : Inv X pins σ H s) (hH : H l = some (.lst xs))
    (e : s.heap.get? l = some { cls := .type "list", data := .seq its.toArray n }) (hf : f its.toArray = its'.toArray) (hv : Vals ys its') (hz : ys.length ≤ sizeLine) :
    Inv X pins σ (upd H l (.lst ys)) { s with heap := s.heap.update l (Obj.mapSeq f), toks := t' } := by
  have q := PySem.IsL.update e f
  rw [hf] at q
  refine I.write (x := l) (e := l) (by rw [hH]; exact trivial) (.inl rfl) (fun b' u hb hu => (Heap.get?_update_other s.heap (Obj.mapSeq f) (Ne.symm hb)).trans hu) ⟨_, q⟩ ?_
  exact ⟨hz, its', _, hv, q⟩
theorem Inv.lnew {its : List Value} {t' : Nat} (I : Inv X pins σ H s) (hv : Vals ys its) (hz : ys.length ≤ sizeLine) :
    Inv X pins σ (upd H s.heap.objs.size (.lst ys)) { s with heap := s.heap.push { cls := .type "list", data := .seq its.toArray }, toks := t' } :=
  I.laid (fun _ _ q => Heap.get?_push_of_some _ q) (Nat.le_refl _) ⟨hz, its, 0, hv, Heap.get?_push_size _ rfl⟩
theorem Inv.fresh (I : Inv X pins σ H s) : H s.heap.objs.size = none := I.hok.fresh (Nat.le_refl _)
theorem Inv.lstM (I : Inv X pins σ H s) (hH : H l = some (.lst xs)) : xs.length ≤ sizeLine ∧ ∃ (its : List Value) (n : Nat), Vals xs its ∧ xs.length = its.length ∧ s.heap.get? l = some { cls := .type "list", data := .seq its.toArray n } := by
  obtain ⟨z, its, n, r, e⟩ := I.hok l _ hH
  exact ⟨z, its, n, r, r.length, e⟩

end

section
variable {X : Cx}

/-! ### methods -/
def rAppend : V → List V → Hp → VK → Prop := fun x vs H Q => ∃ l xs y, x = .ref l ∧ vs = [y] ∧ H l = some (.lst xs) ∧ xs.length < sizeLine ∧ Q .non (upd H l (.lst (xs ++ [y])))
theorem mt_append : MtM X "list.append" rAppend := by
  intro pins s σ H x vs v us Q I rx rv h
  obtain ⟨l, xs, y, rfl, rfl, hH, hz, q⟩ := h
  cases rx
  obtain ⟨u, rfl, ru⟩ := rv.one
  obtain ⟨z, its, n, r, hl, e⟩ := I.lstM hH
  refine call_meets F.slot_list_append ⟨_, e, rfl⟩ F.entry_list_append (F.args_list_append_2 _ _) (PySem.list_append l its.toArray n u (by rw [List.size_toArray]; lia)) ⟨e, ?_⟩
  refine ⟨.non, _, I.lset (its' := its ++ [u]) hH e (by simp) (r.append (.cons ru .nil)) ?_, rfl, q⟩
  rw [List.length_append, List.length_singleton]
  lia

def rPop : V → List V → Hp → VK → Prop := fun x vs H Q => ∃ l xs y, x = .ref l ∧ vs = [] ∧ H l = some (.lst xs) ∧ xs[xs.length - 1]? = some y ∧ Q y (upd H l (.lst xs.dropLast))
theorem mt_pop : MtM X "list.pop" rPop := by
  intro pins s σ H x vs v us Q I rx rv h
  obtain ⟨l, xs, y, rfl, rfl, hH, hy, q⟩ := h
  cases rx
  have hus := rv.zero
  subst hus
  obtain ⟨z, its, n, r, hl, e⟩ := I.lstM hH
  obtain ⟨u, hu, ru⟩ := r.get hy
  have hy' : its.toArray[its.toArray.size - 1]? = some u := by
    show its.toArray[its.length - 1]? = some u
    rw [← Array.getElem?_toList, ← hl]
    exact hu
  refine call_meets F.slot_list_pop ⟨_, e, rfl⟩ F.entry_list_pop (F.args_list_pop_1 _) (MeetsSeq.list_pop_last l its.toArray n u hy' (by rw [List.size_toArray]; lia)) ⟨e, ?_⟩
  refine ⟨y, _, I.lset (its' := its.dropLast) hH e ?_ r.dropLast ?_, ru, q⟩
  · show its.toArray.eraseIdxIfInBounds (its.toArray.size - 1) = its.dropLast.toArray
    rw [List.size_toArray, List.eraseIdxIfInBounds_toArray, erase_last]
  · rw [List.length_dropLast]
    lia

def rPopAt : V → List V → Hp → VK → Prop := fun x vs H Q => ∃ l xs i k y, x = .ref l ∧ vs = [.int i] ∧ H l = some (.lst xs) ∧ -(2 ^ 63) ≤ i ∧ i < 2 ^ 63 ∧ seqIndex? i xs.length = some k ∧ xs[k]? = some y ∧ Q y (upd H l (.lst (xs.eraseIdx k)))
theorem mt_popAt : MtM X "list.pop" rPopAt := by
  intro pins s σ H x vs v us Q I rx rv h
  obtain ⟨l, xs, i, k, y, rfl, rfl, hH, h1, h2, hk, hy, q⟩ := h
  cases rx
  obtain ⟨u, rfl, ru⟩ := rv.one
  obtain ⟨t, rfl⟩ := ru
  obtain ⟨z, its, n, r, hl, e⟩ := I.lstM hH
  obtain ⟨w, hw, rw'⟩ := r.get hy
  refine call_meets F.slot_list_pop ⟨_, e, rfl⟩ F.entry_list_pop (F.args_list_pop_2 _ _)
    (MeetsSeq.list_pop_at l its.toArray n i t k w (fitsIndex_both h1 h2) (by rw [List.size_toArray, ← hl]; exact hk) (by rw [← Array.getElem?_toList]; exact hw) (by rw [List.size_toArray]; lia)) ⟨e, ?_⟩
  refine ⟨y, _, I.lset (its' := its.eraseIdx k) hH e ?_ (r.eraseIdx k) ?_, rw', q⟩
  · show its.toArray.eraseIdxIfInBounds k = (its.eraseIdx k).toArray
    rw [List.eraseIdxIfInBounds_toArray]
  · have := len_erase xs k
    lia

/-! ### list + list, list += list, list * int -/
def rCat : R2 := fun x y H Q => ∃ l b xs zs, x = .ref l ∧ y = .ref b ∧ H l = some (.lst xs) ∧ H b = some (.lst zs) ∧ xs.length + zs.length ≤ sizeLine ∧ ∀ p, H p = none → Q (.ref p) (upd H p (.lst (xs ++ zs)))
theorem op_cat : OpR X (binaryOp .Add) rCat := by
  intro pins s σ H x y v u Q I rx ry h
  obtain ⟨l, b, xs, zs, rfl, rfl, hH, hB, hz, q⟩ := h
  cases rx
  cases ry
  obtain ⟨z, its, n, r, hl, e⟩ := I.lstM hH
  obtain ⟨z2, its2, n2, r2, hl2, e2⟩ := I.lstM hB
  refine PySem.P.add_list e e2 ?_ (by rw [List.size_toArray, List.size_toArray]; lia)
  have ea : its.toArray ++ its2.toArray = (its ++ its2).toArray := by simp
  rw [ea]
  exact ⟨.ref _, _, I.lnew (t' := s.toks) (r.append r2) (by rw [List.length_append]; lia), rfl, q _ I.fresh⟩
/-! ### del xs[i] -/
end

/-! ### xs[a:b] = ys -/
section
variable {prog : Program} {w : World} {A : Around} {E : Value → Shared → Prop} {s : Shared}
end

section
variable {X : Cx}
end
end L2

namespace Att
open PySem PySem.W PySem.Calls PyProof.Rows

/-! ### the script -/
theorem ints_of_wellAll {P : Params} {h : Heap} : ∀ (ns : List Int) (vs : List Value), WellAll P h vs (ns.map WData.int) → IntsAre vs ns := by
  intro ns
  induction ns with
  | nil =>
    intro vs w
    rw [List.map_nil] at w
    cases w
    exact .nil
  | cons n ns ih =>
    intro vs w
    rw [List.map_cons] at w
    cases w with
    | cons a b =>
      cases a
      exact .cons _ _ (ih _ b)

theorem script_of {l : OpenLaw} {n : Nat} (hn : l.most = some n) {P : Params} {h : Heap} {args : List WData} {vals : List Value}
    (hpre : l.row.toRowW.claim.pre args = true) (hwl : WellAll P h vals args) :
    ∃ a vs ns, vals = [Value.ref a] ∧ args = [WData.list (ns.map WData.int)] ∧ h.get? a = some { cls := .type "list", data := .seq vs.toArray } ∧ IntsAre vs ns ∧ ns.length ≤ n := by
  have hsh : WShape.hasAll [] args [.list .int] = true := (pre_splitW hpre).1
  have hc : l.pre.holds [] { args := args } = true := (pre_splitW hpre).2
  obtain ⟨d, r, rfl, h1, h2⟩ := hasAllW_cons hsh
  obtain rfl := hasAllW_nil h2
  obtain ⟨xs, rfl, h3⟩ := hasW_list h1
  obtain ⟨ns, rfl⟩ := items_int h3
  have hlen : ns.length ≤ n := by
    unfold OpenLaw.pre at hc
    have h4 : (WTm.not (.lt (.lit (.int (n : Int))) (.len (.arg 0)))).holds [] { args := [.list (ns.map .int)] } = true := by
      have h4 := (holds_andW hc).1
      rw [hn] at h4
      exact h4
    have h5 := condW_of h4 (w_not (w_lt w_lit (w_len_list (w_arg rfl))))
    rw [List.length_map] at h5
    refine Nat.le_of_not_lt fun q => ?_
    have q' : (n : Int) < ((ns.length : Nat) : Int) := by lia
    first
      | (rw [decide_eq_true q'] at h5; exact absurd h5 (by decide))
      | (simp at h5; lia)
  cases hwl with
  | cons w1 w2 =>
    cases w2
    cases w1 with
    | list ho hall => exact ⟨_, _, ns, rfl, rfl, ho, ints_of_wellAll ns _ hall, hlen⟩

theorem post_true (l : OpenLaw) (args : List WData) : l.row.toRowW.claim.post args (.bool true) args = true :=
  postW_of (r := l.row.toRowW) (X := (true == true))
    (show WShape.has [] (.bool true) .bool = true by first | rfl | decide | simp [WShape.has, WShape.arms, WShape.armsAll])
    (show (WTm.eq .res (.lit (.bool true))).value [] { args := args, res := some (.bool true), after := args } = some (.bool (true == true)) from w_eq_bool (w_res rfl) w_lit) rfl

/-! ### the attachment: holds_open's last premise (the goal 'hc' behind k_head) from a wpAny of the law's body -/
/-- the same from a codeAny of the CALL (for a layer whose function contracts speak of calls) -/
theorem attach_call {l : OpenLaw} {n : Nat} {q : Program} {loose : List Str} {XP : (Str → Option Value) → Heap → Prop} {YP : World → Heap → Prop} {d : DefRec}
    (hn : l.most = some n) (hdf : d.params.defaults = [])
    (call : ∀ (w : World) (s₀ s₁ : Shared) (mg mb : Str → Option Value) (fa : Addr) (o : Obj) (pm cd doc : Value) (a : Addr) (vs : List Value) (ns : List Int),
      Ground q loose [] XP w s₀ mg mb s₁.heap → YP w s₁.heap →
      s₁.heap.get? fa = some o → o.data = .func (docDef d.name d.params d.body d.scope pm cd doc) → s₁.heap.CodeRec cd d.name → mg d.name = some (.ref fa) →
      s₁.heap.get? a = some { cls := .type "list", data := .seq vs.toArray } → IntsAre vs ns → ns.length ≤ n → s₁.gens = #[] →
      codeAny (model l.prog w) callerA (.call (.ref fa) ⟨[.ref a], []⟩) (fun r s' => r = .ok (.ret (.bool true)) ∧ OldK s₁.heap s'.heap ∧ s'.os = s₁.os ∧ AllBare s'.gens) s₁) :
    WalkO q loose XP YP l.row.toRowW d [] (fun f vs => PySem.call f vs) := by
  intro w s₀ s₁ mg mb G Y fa o pm cd doc dV kV ho hd hcd hD hmg hg args vals as hpre hlay hrd hwl hlo
  obtain rfl : dV = .none := Dflts.none hD hdf
  obtain rfl : kV = .none := Dflts.noKw hD
  obtain ⟨a, vs, ns, rfl, rfl, hobj, hints, hlen⟩ := script_of hn hpre hwl
  refine enter_call (codeAny_mono (call w s₀ s₁ mg mb fa o pm cd doc a vs ns G Y ho (fd_plain hd) hcd hmg hobj hints hlen hg) fun r s' hq => ?_)
  obtain ⟨rfl, h2, h3, h4⟩ := hq
  exact ⟨.inl ⟨.bool true, .bool true, [], rfl, fun _ => rfl, .bool true, post_true l _, fun _ => ⟨List.Pairwise.nil, fun _ hm => (nomatch hm)⟩⟩, h2, h3, h4⟩

/-! ### rules over ANY heap (no ledger) from facts about the written part K: the library's own take a ledger (News) for what they write -/
section
variable {prog : Program} {w : World} {A : Around} {E : Value → Shared → Prop} {s : Shared} {K : Frag}

/-! the whole heap as the ledger: makes every rule that writes through a ledger a rule over any heap -/
end
end Att

namespace L2
open PySem PySem.Spec PyProof.Rows

theorem vals_ints : ∀ {vs : List Value} {ns : List Int}, IntsAre vs ns → Vals (ns.map V.int) vs
  | _, _, .nil => .nil
  | _, _, .cons n t h => .cons ⟨t, rfl⟩ (vals_ints h)

/-- nothing is tracked but the script, known to the object (or it is an object of the module) -/
def Only (H : Hp) : Prop := ∀ b, H b = none ∨ ∃ o xs, H b = some (.frz o (.lst xs))

/-- THE HEAD: the law's promise, at the heap behind the top. F, the promise of the law's def, may use that base is part of the heap (so K.In base, base.Ns mainGlobals mg stand in Mod) -/
theorem law_call {P : Program} {w : World} {K : PySem.W.Frag} {mg mb : Str → Option Value} {CX : CXT} {k : Nat} {fa a : Addr} {fd : FuncData} {x : Str} {sp : Sp} {s₁ : Shared} {vs : List Value} {ns : List Int}
    (KX : K.In s₁.heap) (hns : s₁.heap.Ns mainGlobals mg) (hb : s₁.heap.Ns builtinsNs mb) (hbb : ∀ x : Str, x ≠ "__name__" → mb x = bootBuiltins x) (hlim : s₁.heap.NoLimit) (hg : s₁.gens = #[])
    (ha : s₁.heap.get? a = some { cls := .type "list", data := .seq vs.toArray }) (hi : IntsAre vs ns) (hl : ns.length ≤ sizeLine) (hr : Room k callerA)
    (F : ∀ base : Heap, K.In base → base.Ns mainGlobals mg → FnOk P w K mg base CX k fa fd [x] sp) (hbind : ∀ (s : Shared) (u : Value), BindsTo s fd ⟨[u], []⟩ [(x, u)])
    (hsp : ∀ H : Hp, Only H → SqL K H a (ns.map V.int) → sp [.ref a] H (fun v _ => v = .bl true) fun _ _ _ => False)
    (hCX : ∀ H e s', CX [] H s₁ (fun _ _ _ => False) e s' → False) :
    codeAny (model P w) callerA (.call (.ref fa) ⟨[.ref a], []⟩) (fun r s' => r = .ok (.ret (.bool true)) ∧ OldK s₁.heap s'.heap ∧ s'.os = s₁.os ∧ AllBare s'.gens) s₁ := by
  have rv := vals_ints hi
  have lenV := hi.length
  -- from an abstract heap in which nothing but the script may be tracked
  have core : ∀ H : Hp, Only H → SqL K H a (ns.map V.int) → HOk P w H s₁.heap → (∀ b, H b ≠ none → b = a) → (H a ≠ none → K.lookup a = none) →
      codeAny (model P w) callerA (.call (.ref fa) ⟨[.ref a], []⟩) (fun r s' => r = .ok (.ret (.bool true)) ∧ OldK s₁.heap s'.heap ∧ s'.os = s₁.os ∧ AllBare s'.gens) s₁ := by
    intro H hO hS hok hA hK
    have base_of : ∀ {b : Addr} {o : Obj}, s₁.heap.get? b = some o → H b = none → (hidT s₁.heap H).get? b = some o := fun e n => hidT_get e n
    have noA : ∀ {b : Addr} {o : Obj} {es : Array DictEntry} {ep : Nat}, s₁.heap.get? b = some o → o.data = .dict es ep → H b = none := fun {b o es ep} e d => by
      cases q : H b with
      | none => rfl
      | some u =>
        have e' : b = a := hA b (by rw [q]; simp)
        subst e'
        rw [ha] at e; cases e
        have d' : Data.seq vs.toArray _ = Data.dict es ep := d
        cases d'
    have nsK : ∀ {b : Addr} {m : Str → Option Value}, s₁.heap.Ns b m → (hidT s₁.heap H).Ns b m := fun {b m} ⟨o, es, ep, e, d, r⟩ => ⟨o, es, ep, base_of e (noA e d), d, r⟩
    have hKb : K.In (hidT s₁.heap H) := fun b o e => base_of (KX b o e) (by
      cases q : H b with
      | none => rfl
      | some u =>
        have e' : b = a := hA b (by rw [q]; simp)
        subst e'
        rw [hK (by rw [q]; simp)] at e; cases e)
    have hM : Mod K mg (hidT s₁.heap H) := ⟨hKb, nsK hns, ⟨mb, nsK hb, hbb⟩, let ⟨mc, h1, h2⟩ := hlim; ⟨mc, nsK h1, h2⟩⟩
    have e0 : Env0 P w K mg (hidT s₁.heap H) callerA [] s₁ H := ⟨rfl, hM, fun b o e => of_hidT e, Nat.le_of_eq (hidT_size _ _), trivial, fun b hb => absurd (show b ∈ ([] : List Addr) from hb) (by simp), hok, .of_eq hg⟩
    refine codeAny_mono ((F _ hKb (nsK hns)).run callerA [] s₁ H ⟨[.ref a], []⟩ [.ref a] [.ref a] _ _ hr e0 (hbind s₁ (.ref a)) (.cons rfl .nil) (hsp H hO hS)) fun r s' h => ?_
    cases r with
    | error e => exact (hCX H e s' h).elim
    | ok fl =>
      cases fl with
      | next => exact False.elim h
      | brk => exact False.elim h
      | cont => exact False.elim h
      | ret u =>
        obtain ⟨v, H', os, bare, un, hok', r', q⟩ := h
        have q' : v = .bl true := q
        subst q'
        obtain rfl : u = Value.bool true := r'
        refine ⟨rfl, OldK.of_keep fun b o e => ?_, os, bare⟩
        cases q : H b with
        | none => exact un.keep b o e q (by intro z; exact absurd (show b ∈ ([] : List Addr) from z) (by simp)) (by simp)
        | some u =>
          rcases hO b with z | ⟨ob, xs, z⟩
          · rw [q] at z; cases z
          · have z2 := un.frzs b ob _ z
            obtain ⟨e1, _⟩ := hok b _ z
            obtain ⟨e2, _⟩ := hok' b _ z2
            rw [e] at e1; cases e1
            exact e2
  cases hk : K.lookup a with
  | some o =>
    -- the script is one of the module's own objects
    have e := KX a o hk
    rw [ha] at e
    cases e
    refine core (fun _ => none) (fun _ => .inl rfl) (.inr ⟨_, vs.toArray, _, hk, rfl, rfl, rfl, by rw [List.size_toArray, lenV]; exact hl, by simpa using rv⟩) (fun b u z => by have z' : (none : Option HO) = some u := z; cases z') (fun b z => absurd rfl z) fun z => absurd rfl z
  | none =>
    refine core (fun b => if b = a then some (.frz { cls := .type "list", data := .seq vs.toArray } (.lst (ns.map V.int))) else none) (fun b => ?_) (.inl (.inr ⟨{ cls := .type "list", data := .seq vs.toArray }, if_pos rfl⟩)) (fun b u z => ?_) (fun b z => ?_) fun _ => hk
    · by_cases hb : b = a
      · exact .inr ⟨_, _, if_pos hb⟩
      · exact .inl (if_neg hb)
    · by_cases hb : b = a
      · have z' := (if_pos hb).symm.trans z
        cases z'
        subst hb
        exact ⟨ha, by rw [List.length_map]; exact hl, vs, _, rv, ha⟩
      · have z' := (if_neg hb).symm.trans z
        cases z'
    · by_cases hb : b = a
      · exact hb
      · exact absurd (if_neg hb) z
end L2

namespace L2
open PySem PySem.Spec PyProof.Rows

/-- the goal that k_head leaves (case hc), from the law's promise. F gives the function object fd (K's own) once, then the promise over every base -/
theorem walk_of {l : PySem.W.OpenLaw} {n k : Nat} {q : Program} {loose : List Str} {XP : (Str → Option Value) → Heap → Prop} {YP : World → Heap → Prop} {d : DefRec} {K : Params → PySem.W.Frag} {CX : World → CXT} {sp : World → Sp} {x : Str}
    (hn : l.most = some n) (hn2 : n ≤ sizeLine) (hdf : d.params.defaults = []) (hr : Room k callerA)
    (hY : ∀ (w : World) (h : Heap), YP w h → (K w.params).In h)
    (F : ∀ (w : World) (mg : Str → Option Value) (fa : Addr) (h : Heap), (K w.params).In h → h.Ns mainGlobals mg → mg d.name = some (.ref fa) →
      ∃ fd : FuncData, (∀ (s : Shared) (u : Value), BindsTo s fd ⟨[u], []⟩ [(x, u)]) ∧
        ∀ base : Heap, (K w.params).In base → base.Ns mainGlobals mg → FnOk l.prog w (K w.params) mg base (CX w) k fa fd [x] (sp w))
    (hsp : ∀ (w : World) (H : Hp) (a : Addr) (ns : List Int), ns.length ≤ n → Only H → SqL (K w.params) H a (ns.map V.int) → sp w [.ref a] H (fun v _ => v = .bl true) fun _ _ _ => False)
    (hCX : ∀ (w : World) (H : Hp) (s : Shared) (e : Value) (s' : Shared), CX w [] H s (fun _ _ _ => False) e s' → False) :
    PySem.W.WalkO q loose XP YP l.row.toRowW d [] (fun f vs => PySem.call f vs) := by
  refine Att.attach_call hn hdf fun w s₀ s₁ mg mb fa o pm cd doc a vs ns G Y ho hd hcd hmg hobj hints hlen hg => ?_
  have KX := hY w _ Y
  obtain ⟨fd, hb, hF⟩ := F w mg fa _ KX G.T.g hmg
  exact law_call KX G.T.g G.T.b G.T.builtins G.T.nolimit hg hobj hints (Nat.le_trans hlen hn2) hr hF hb (fun H hO hS => hsp w H a ns hlen hO hS) fun H e s' => hCX w H s₁ e s'
end L2

/- THE LAST THEOREM (shape; LID, My.* are yours):
   My.Adr: a structure of the addresses that your layer names (classes, functions); My.Txt K t: a structure (Prop) of the equations over K;
   My.txt_mk : {K} {implicit addresses ..} (e1 : nsIn K mainGlobals "law" = some (some (.ref f))) (e2 : K.lookup f = some ⟨oc, od, .func (fnOf "law" "law" params body scope dV kV doc pm an cdv ct), sl⟩) (e3 : codeIn K cdv "law" = true) .. : ∃ t, My.Txt K t

(the tactic k_is has no namespace: write k_is) -/

/-! SHORT WORDS over the layer: a def of the text, its body, what a loop and a test want. -/
namespace L2
open PySem PySem.Spec PyProof.Rows

/-! ### the text by places -/
def defArgs (s : Stmt) : Arguments := match s with
  | .FunctionDef _ a _ _ _ _ _ _ _ _ => a
  | _ => { posonlyargs := [], args := [], vararg := none, kwonlyargs := [], kw_defaults := [], kwarg := none, defaults := [] }
def defBody (s : Stmt) : List Stmt := match s with
  | .FunctionDef _ _ b _ _ _ _ _ _ _ => b
  | _ => []
def defScope (s : Stmt) : Scope := match s with
  | .FunctionDef _ _ _ _ _ _ sc _ _ _ => sc
  | _ => { kind := .function, names := [], isGenerator := false, isCoroutine := false }

/-! ### no exception leaves a def -/
abbrev CX0 : CXT := fun _ _ _ _ _ _ => False
abbrev E0 : XK := fun _ _ _ => False
theorem pass0 {X : Cx} : Passes CX0 X E0 := fun _ _ _ _ _ _ _ h => h.elim

/-! ### a def (or method) of the text as it stands behind the top -/
structure Fun (K : PySem.W.Frag) (x qual : Str) (st : Stmt) (f : Addr) (fd : FuncData) : Prop where
  ex : ∃ (oc : Value) (od : Option Addr) (kV doc pm : Value) (an : Option Addr) (cdv ct : Value) (osl : Array (Option Value)),
    fd = PySem.W.fnOf x qual (defArgs st) (defBody st) (defScope st) .none kV doc pm an cdv ct ∧ K.lookup f = some ⟨oc, od, .func fd, osl⟩ ∧ PySem.W.codeIn K cdv qual = true
  kp : PySem.W.keepIn K (.ref f) = true
section
variable {P : Program} {w : World} {K : PySem.W.Frag} {mg : Str → Option Value} {base : Heap}
/-- THE RULE for a def: its body as a term of rules, and the reading of that term -/
theorem Fun.ok {x qual : Str} {st : Stmt} {f : Addr} {fd : FuncData} {N ps : List Str} {k : Nat} {sp : Sp} (F : Fun K x qual st f fd) (S : FnScope N ps (defScope st)) (len : ∀ vs H Q E, sp vs H Q E → vs.length = ps.length)
    (hbody : ∀ (cdv : Value) (A : Around) (outer : List Env) (s : Shared) (H : Hp) (vs : List V) (Q : VK) (E : XK), Room k (A.deeper (envOfC qual (defScope st) s.heap.objs.size f cdv)) → sp vs H Q E →
      ∃ t, PSs (cxOf CX0 P w K mg base N qual (defScope st) f cdv A outer s H E).nox (defBody st) t ∧ t { nx := fun _ H' => Q .non H', rt := Q } (start N vs) H) : FnOk P w K mg base CX0 (k + 1) f fd ps sp := by
  obtain ⟨oc, od, kV, doc, pm, an, cdv, ct, osl, rfl, lk, hcd⟩ := F.ex
  refine fn_of lk hcd S len fun A outer s H vs Q E hr hsp => ?_
  obtain ⟨t, h, q⟩ := hbody cdv A outer s H vs Q E hr hsp
  exact ⟨t, h.nox, q⟩
/-- how its arguments bind (no defaults): h is «fun _ _ _ _ _ _ us hl => match us, hl with | [_, _], _ => rfl», one _ a parameter -/
theorem Fun.binds {x qual : Str} {st : Stmt} {f : Addr} {fd : FuncData} {ps : List Str} (F : Fun K x qual st f fd)
    (h : ∀ (kV doc pm : Value) (an : Option Addr) (cdv ct : Value) (us : List Value), us.length = ps.length → bindArgs (PySem.W.fnOf x qual (defArgs st) (defBody st) (defScope st) .none kV doc pm an cdv ct) ⟨us, []⟩ = pure (ps.zip us)) : Binds K fd ps [] := by
  obtain ⟨oc, od, kV, doc, pm, an, cdv, ct, osl, rfl, lk, hcd⟩ := F.ex
  exact .all (h kV doc pm an cdv ct)
theorem fun_mk {x qual : Str} {st : Stmt} {f : Addr} {oc : Value} {od an : Option Addr} {osl : Array (Option Value)} {kV doc pm cdv ct : Value} (l : K.lookup f = some ⟨oc, od, .func (PySem.W.fnOf x qual (defArgs st) (defBody st) (defScope st) .none kV doc pm an cdv ct), osl⟩)
    (c : PySem.W.codeIn K cdv qual = true) (k : PySem.W.keepIn K (.ref f) = true) : Fun K x qual st f (PySem.W.fnOf x qual (defArgs st) (defBody st) (defScope st) .none kV doc pm an cdv ct) := ⟨⟨oc, od, kV, doc, pm, an, cdv, ct, osl, rfl, l, c⟩, k⟩
end
theorem small1000 {n : Nat} (h : n ≤ 1000) : n < sizeLine := Nat.lt_of_le_of_lt h (by decide)

/-! ### expressions in short: the name that stands in the i-th slot -/
section
variable {X : Cx}
theorem pv (i : Nat) {x : Str} {pos : Pos} (hN : X.N[i]? = some x := by rfl) (hv : Vis X.env.scope x := by first | exact Or.inl rfl | exact Or.inr (Or.inl rfl) | exact Or.inr (Or.inr rfl)) (hd : (x == ("__debug__" : Str)) = false := by decide)
    (hcd : (x == ("__classdict__" : Str)) = false := by decide) : PE X (.Name x pos) (tVar i) := pe_var hN hv hd hcd
end

/-! ### tests -/
theorem iteF {A B : Prop} (h : B) : if false = true then A else B := by
  rw [if_neg Bool.false_ne_true]
  exact h
theorem iteT {A B : Prop} (h : A) : if true = true then A else B := by
  rw [if_pos rfl]
  exact h
theorem ite2 {c A B : Prop} [Decidable c] (h1 : c → A) (h2 : ¬ c → B) : if c then A else B := by
  by_cases h : c
  · rw [if_pos h]
    exact h1 h
  · rw [if_neg h]
    exact h2 h
/-! ### heaps -/
/-- all that was tracked is as it was -/
def Same (H H' : Hp) : Prop := ∀ b o, H b = some o → H' b = some o
theorem Same.refl (H : Hp) : Same H H := fun _ _ h => h
theorem Same.trans {H H1 H2 : Hp} (a : Same H H1) (b : Same H1 H2) : Same H H2 := fun c o h => b c o (a c o h)
theorem Same.seq {K : PySem.W.Frag} {H H' : Hp} {a : Addr} {xs : List V} (e : Same H H') (h : SqL K H a xs) : SqL K H' a xs := by
  rcases h with (h | ⟨o, h⟩) | h
  · exact .inl (.inl (e _ _ h))
  · exact .inl (.inr ⟨o, e _ _ h⟩)
  · exact .inr h

end L2
end
section
namespace FS
open PySem PySem.SetTable

def advM (mask : Nat) (p : Probe) : Probe :=
  if p.more > 0 then { p with j := p.j + 1, more := p.more - 1 } else
  let (i, perturb) := leap mask p.i p.perturb
  { p with j := i, more := runEnd mask i - i, i, perturb }
def st0 (mask : Nat) (h : Int) : Probe :=
  let i := bits h % (mask + 1)
  { j := i, more := runEnd mask i - i, i, perturb := bits h, dummy := none }
def pt (mask : Nat) (h : Int) : Nat → Probe
  | 0 => st0 mask h
  | k + 1 => advM mask (pt mask h k)
theorem runEnd_le (mask i : Nat) : runEnd mask i - i ≤ 9 := by unfold runEnd; split <;> lia
theorem advM_dummy (mask : Nat) (p : Probe) : (advM mask p).dummy = p.dummy := by unfold advM; split <;> rfl
theorem pt_dummy (mask : Nat) (h : Int) (k : Nat) : (pt mask h k).dummy = none := by
  induction k with
  | zero => rfl
  | succ k ih => show (advM mask (pt mask h k)).dummy = none; rw [advM_dummy, ih]
/-- the base of each leap -/
def base (mask : Nat) (h : Int) : Nat → Nat × Nat
  | 0 => (bits h % (mask + 1), bits h)
  | r + 1 => leap mask (base mask h r).1 (base mask h r).2
/-- the state within a run -/
structure InRun (mask : Nat) (b : Nat × Nat) (p : Probe) : Prop where
  i : p.i = b.1
  pe : p.perturb = b.2
  m9 : p.more ≤ 9
theorem run_ends (mask : Nat) (h : Int) (b : Nat × Nat) : ∀ (m k : Nat), InRun mask b (pt mask h k) → (pt mask h k).more = m →
    ∃ d, d ≤ m + 1 ∧ InRun mask (leap mask b.1 b.2) (pt mask h (k + d)) ∧ (pt mask h (k + d)).j = (leap mask b.1 b.2).1 := by
  intro m
  induction m with
  | zero =>
    intro k R hm
    refine ⟨1, Nat.le_refl _, ?_, ?_⟩
    · show InRun mask _ (advM mask (pt mask h k))
      unfold advM
      rw [if_neg (by lia), R.i, R.pe]
      exact ⟨rfl, rfl, runEnd_le _ _⟩
    · show (advM mask (pt mask h k)).j = _
      unfold advM
      rw [if_neg (by lia), R.i, R.pe]
  | succ m ih =>
    intro k R hm
    have R' : InRun mask b (pt mask h (k + 1)) ∧ (pt mask h (k + 1)).more = m := by
      have e : pt mask h (k + 1) = { pt mask h k with j := (pt mask h k).j + 1, more := (pt mask h k).more - 1 } := by
        show advM mask (pt mask h k) = _
        unfold advM
        rw [if_pos (by lia)]
      rw [e]
      have := R.m9
      exact ⟨⟨R.i, R.pe, by simp only; lia⟩, by simp only; lia⟩
    obtain ⟨d, hd, R2, e2⟩ := ih (k + 1) R'.1 R'.2
    refine ⟨d + 1, by lia, ?_, ?_⟩
    · rw [show k + (d + 1) = k + 1 + d by lia]; exact R2
    · rw [show k + (d + 1) = k + 1 + d by lia]; exact e2
theorem base_at (mask : Nat) (h : Int) : ∀ r : Nat, ∃ k, k ≤ 10 * r ∧ InRun mask (base mask h r) (pt mask h k) ∧ (pt mask h k).j = (base mask h r).1
  | 0 => ⟨0, Nat.le_refl _, ⟨rfl, rfl, runEnd_le _ _⟩, rfl⟩
  | r + 1 => by
    obtain ⟨k, hk, R, _⟩ := base_at mask h r
    obtain ⟨d, hd, R2, e2⟩ := run_ends mask h _ _ k R rfl
    have := R.m9
    exact ⟨k + d, by lia, R2, e2⟩
theorem base_pert (mask : Nat) (h : Int) : ∀ r : Nat, (base mask h r).2 = bits h / 32 ^ r
  | 0 => by show bits h = bits h / 32 ^ 0; rw [Nat.pow_zero, Nat.div_one]
  | r + 1 => by
    show (base mask h r).2 / 32 = _
    rw [base_pert mask h r, Nat.div_div_eq_div_mul, Nat.pow_succ]
theorem bits_lt (h : Int) : bits h < 2 ^ 64 := by
  unfold bits
  have h1 := Int.emod_nonneg h (show (2 ^ 64 : Int) ≠ 0 by decide)
  have h2 := Int.emod_lt_of_pos h (show (0 : Int) < 2 ^ 64 by decide)
  have : ((2 : Int) ^ 64) = ((2 ^ 64 : Nat) : Int) := by decide
  lia
theorem pert_zero (mask : Nat) (h : Int) {r : Nat} (hr : 13 ≤ r) : (base mask h r).2 = 0 := by
  rw [base_pert]
  have h1 := bits_lt h
  have h2 : (32 : Nat) ^ 13 ≤ 32 ^ r := Nat.pow_le_pow_right (by decide) hr
  exact Nat.div_eq_of_lt (by have : (2 : Nat) ^ 64 < 32 ^ 13 := by decide
                             lia)
def lcg (mask : Nat) : Nat → Nat → Nat
  | 0, i => i
  | q + 1, i => lcg mask q ((i * 5 + 1) % (mask + 1))
theorem base_lcg (mask : Nat) (h : Int) : ∀ (q r : Nat), 13 ≤ r → (base mask h (r + q)).1 = lcg mask q (base mask h r).1
  | 0, r, _ => rfl
  | q + 1, r, hr => by
    rw [show r + (q + 1) = (r + 1) + q by lia, base_lcg mask h q (r + 1) (by lia)]
    show lcg mask q (leap mask (base mask h r).1 (base mask h r).2).1 = lcg mask q (((base mask h r).1 * 5 + 1) % (mask + 1))
    unfold leap
    have : (base mask h (r + 1)).2 = 0 := pert_zero mask h (by lia)
    have e : (base mask h r).2 / 32 = 0 := this
    rw [e]
theorem cover7 : ∀ i, i < 8 → ∀ j, j < 8 → ∃ q, q < 8 ∧ lcg 7 q i = j := by decide +kernel
theorem cover31 : ((List.range 32).all fun i => (List.range 32).all fun j => (List.range 32).any fun q => lcg 31 q i == j) = true := by decide +kernel
theorem base_le (mask : Nat) (h : Int) (r : Nat) : (base mask h r).1 < mask + 1 := by
  cases r with
  | zero => exact Nat.mod_lt _ (by lia)
  | succ r => exact Nat.mod_lt _ (by lia)
theorem visits {mask : Nat} (hm : mask = 7 ∨ mask = 31) (h : Int) {j : Nat} (hj : j ≤ mask) : ∃ k, k ≤ 10 * (mask + 13) ∧ (pt mask h k).j = j := by
  have hq : ∃ q, q ≤ mask ∧ lcg mask q (base mask h 13).1 = j := by
    rcases hm with e | e
    · subst e
      obtain ⟨q, hq, e⟩ := cover7 _ (base_le 7 h 13) j (by lia)
      exact ⟨q, by lia, e⟩
    · subst e
      have c := cover31
      simp only [List.all_eq_true, List.any_eq_true, List.mem_range, beq_iff_eq] at c
      obtain ⟨q, hq, e⟩ := c _ (base_le 31 h 13) j (by lia)
      exact ⟨q, by lia, e⟩
  obtain ⟨q, hq, e⟩ := hq
  obtain ⟨k, hk, _, e2⟩ := base_at mask h (13 + q)
  refine ⟨k, by lia, ?_⟩
  rw [e2, base_lcg mask h q 13 (Nat.le_refl _), e]

/-! sorted places -/
def Rising (xs : Array Nat) : Prop := ∀ i k, i < k → k < xs.size → xs.getD i 0 < xs.getD k 0
theorem below_go {xs : Array Nat} (R : Rising xs) (j : Nat) : ∀ (fuel lo hi : Nat), lo ≤ hi → hi ≤ xs.size → hi - lo ≤ fuel → (∀ i, i < lo → xs.getD i 0 < j) → (∀ i, hi ≤ i → i < xs.size → j ≤ xs.getD i 0) →
    below.go xs j fuel lo hi ≤ xs.size ∧ (∀ i, i < below.go xs j fuel lo hi → xs.getD i 0 < j) ∧ (∀ i, below.go xs j fuel lo hi ≤ i → i < xs.size → j ≤ xs.getD i 0) := by
  intro fuel
  induction fuel with
  | zero =>
    intro lo hi h1 h2 h3 h4 h5
    have : lo = hi := by lia
    subst this
    exact ⟨h2, h4, h5⟩
  | succ f ih =>
    intro lo hi h1 h2 h3 h4 h5
    unfold below.go
    by_cases c : lo < hi
    · rw [if_pos c]
      have hm : (lo + hi) / 2 < xs.size := by lia
      have eD : ∀ d, xs.getD ((lo + hi) / 2) d = xs.getD ((lo + hi) / 2) 0 := by
        intro d
        simp only [Array.getD, dif_pos hm]
      simp only [eD]
      by_cases c2 : xs.getD ((lo + hi) / 2) 0 < j
      · rw [if_pos c2]
        refine ih _ _ (by lia) h2 (by lia) (fun i hi' => ?_) h5
        by_cases e : i = (lo + hi) / 2
        · subst e; exact c2
        · exact Nat.lt_trans (R i _ (by lia) hm) c2
      · rw [if_neg c2]
        refine ih _ _ (by lia) (by lia) (by lia) h4 (fun i hi' hs => ?_)
        by_cases e : i = (lo + hi) / 2
        · subst e; lia
        · have := R _ i (show (lo + hi) / 2 < i by lia) hs
          lia
    · rw [if_neg c]
      have : lo = hi := by lia
      subst this
      exact ⟨h2, h4, h5⟩
theorem below_spec {xs : Array Nat} (R : Rising xs) (j : Nat) : below xs j ≤ xs.size ∧ (∀ i, i < below xs j → xs.getD i 0 < j) ∧ (∀ i, below xs j ≤ i → i < xs.size → j ≤ xs.getD i 0) :=
  below_go R j xs.size 0 xs.size (Nat.zero_le _) (Nat.le_refl _) (by lia) (fun _ h => absurd h (by lia)) (fun i h1 h2 => by lia)
theorem getD_of {xs : Array Nat} {i : Nat} (h : i < xs.size) : xs[i]? = some (xs.getD i 0) := by
  rw [Array.getElem?_eq_getElem h]; simp only [Array.getD, dif_pos h]; rfl
theorem slot_live {t : SetTable} (R : Rising t.place) {i j : Nat} (hi : i < t.place.size) (e : t.place.getD i 0 = j) : t.slot j = .live i := by
  have b := below_spec R j
  have hb : below t.place j = i := by
    rcases Nat.lt_trichotomy (below t.place j) i with c | c | c
    · have := b.2.2 (below t.place j) (Nat.le_refl _) (by lia)
      have := R _ i c hi
      lia
    · exact c
    · have := b.2.1 i c
      lia
  unfold SetTable.slot
  simp only [hb, getD_of hi, e]
  simp
theorem slot_empty {t : SetTable} (R : Rising t.place) (D : t.dummies = #[]) {j : Nat} (h : ∀ i, i < t.place.size → t.place.getD i 0 ≠ j) : t.slot j = .empty := by
  have b := below_spec R j
  unfold SetTable.slot
  have h1 : (t.place[below t.place j]? == some j) = false := by
    by_cases c : below t.place j < t.place.size
    · rw [getD_of c]
      exact beq_eq_false_iff_ne.mpr (fun e => h _ c (Option.some.inj e))
    · rw [Array.getElem?_eq_none (by lia)]; rfl
  have h2 : has t.dummies j = false := by rw [D]; rfl
  simp only [h1, h2, Bool.false_eq_true, if_false]

def Occ (t : SetTable) (j : Nat) : Prop := ∃ i, i < t.place.size ∧ t.place.getD i 0 = j
structure TOk (t : SetTable) (hs : Nat → Int) : Prop where
  dm : t.dummies = #[]
  ri : Rising t.place
  le : ∀ i, i < t.place.size → t.place.getD i 0 ≤ t.mask
  mm : t.mask = 7 ∨ t.mask = 31
  sz : t.place.size ≤ t.mask
  rc : ∀ i, i < t.place.size → ∃ k, (pt t.mask (hs i) k).j = t.place.getD i 0 ∧ ∀ k', k' < k → Occ t (pt t.mask (hs i) k').j
/-- one slot is empty -/
theorem pigeon : ∀ (m : Nat) (xs : Array Nat), Rising xs → xs.size ≤ m → ∃ j, j ≤ m ∧ ∀ i, i < xs.size → xs.getD i 0 ≠ j := by
  intro m xs R hm
  -- the first place i with xs[i] > i, or the size
  have key : ∀ n, n ≤ xs.size → (∀ i, i < n → xs.getD i 0 = i) ∨ ∃ j, j < n ∧ ∀ i, i < xs.size → xs.getD i 0 ≠ j := by
    intro n
    induction n with
    | zero => intro _; exact .inl (fun i h => absurd h (by lia))
    | succ n ih =>
      intro hn
      rcases ih (by lia) with h | ⟨j, h1, h2⟩
      · by_cases c : xs.getD n 0 = n
        · left; intro i hi
          by_cases e : i = n
          · subst e; exact c
          · exact h i (by lia)
        · right
          refine ⟨n, by lia, fun i hi e => ?_⟩
          rcases Nat.lt_trichotomy i n with d | d | d
          · have := h i d; lia
          · subst d; exact c e
          · have hlt := R n i d hi
            have hge : n ≤ xs.getD n 0 := by
              by_cases z : n = 0
              · lia
              · have := R (n - 1) n (by lia) (by lia)
                have := h (n - 1) (by lia)
                lia
            lia
      · exact .inr ⟨j, by lia, h2⟩
  rcases key xs.size (Nat.le_refl _) with h | ⟨j, h1, h2⟩
  · exact ⟨xs.size, hm, fun i hi e => by have := h i hi; lia⟩
  · exact ⟨j, by lia, h2⟩
theorem TOk.free {t : SetTable} {hs : Nat → Int} (ok : TOk t hs) (h : Int) : ∃ k, k ≤ 10 * (t.mask + 13) ∧ ¬ Occ t (pt t.mask h k).j := by
  obtain ⟨j, hj, hn⟩ := pigeon t.mask t.place ok.ri ok.sz
  obtain ⟨k, hk, e⟩ := visits ok.mm h hj
  exact ⟨k, hk, fun ⟨i, hi, q⟩ => hn i hi (q.trans e)⟩
/-- what a probe meets, from the k-th state on -/
inductive Meets (t : SetTable) (hs : Nat → Int) (h : Int) (k : Nat) : Met → Prop
  | free (k2 : Nat) : k ≤ k2 → ¬ Occ t (pt t.mask h k2).j → (∀ k', k ≤ k' → k' < k2 → ∃ i, i < t.place.size ∧ t.place.getD i 0 = (pt t.mask h k').j ∧ hs i ≠ h) → Meets t hs h k (.empty (pt t.mask h k2).j none)
  | cand (k2 i : Nat) : k ≤ k2 → i < t.place.size → t.place.getD i 0 = (pt t.mask h k2).j → hs i = h → (∀ k', k ≤ k' → k' < k2 → ∃ i, i < t.place.size ∧ t.place.getD i 0 = (pt t.mask h k').j ∧ hs i ≠ h) →
      Meets t hs h k (.candidate (pt t.mask h k2).j i (pt t.mask h (k2 + 1)))
theorem go_meets {t : SetTable} {hs hs0 : Nat → Int} (ok : TOk t hs0) (h : Int) (K : Nat) (hK : ¬ Occ t (pt t.mask h K).j) : ∀ (fuel k : Nat), k ≤ K → K - k < fuel → ∃ m, probe.go t hs h fuel (pt t.mask h k) = some m ∧ Meets t hs h k m := by
  intro fuel
  induction fuel with
  | zero => intro k _ h2; lia
  | succ f ih =>
    intro k hk hf
    by_cases c : Occ t (pt t.mask h k).j
    · obtain ⟨i, hi, e⟩ := id c
      have hs' := slot_live ok.ri hi e
      by_cases c2 : hs i = h
      · refine ⟨.candidate (pt t.mask h k).j i (pt t.mask h (k + 1)), ?_, .cand k i (Nat.le_refl _) hi e c2 (fun k' h1 h2 => absurd h2 (by lia))⟩
        unfold probe.go
        simp only [hs', c2, beq_self_eq_true, if_true]
        rfl
      · have hkK : k ≠ K := fun e => hK (e ▸ c)
        obtain ⟨m, hm, M⟩ := ih (k + 1) (by lia) (by lia)
        refine ⟨m, ?_, ?_⟩
        · unfold probe.go
          have : (hs i == h) = false := by simpa using c2
          simp only [hs', this, Bool.false_eq_true, if_false]
          exact hm
        · have one : ∀ k2, k + 1 ≤ k2 → (∀ k', k + 1 ≤ k' → k' < k2 → ∃ i, i < t.place.size ∧ t.place.getD i 0 = (pt t.mask h k').j ∧ hs i ≠ h) →
              ∀ k', k ≤ k' → k' < k2 → ∃ i, i < t.place.size ∧ t.place.getD i 0 = (pt t.mask h k').j ∧ hs i ≠ h := by
            intro k2 _ q k' h1 h2
            by_cases e' : k' = k
            · subst e'; exact ⟨i, hi, e, c2⟩
            · exact q k' (by lia) h2
          cases M with
          | free k2 h1 h2 h3 => exact .free k2 (by lia) h2 (one k2 h1 h3)
          | cand k2 i' h1 h2 h3 h4 h5 => exact .cand k2 i' (by lia) h2 h3 h4 (one k2 h1 h5)
    · refine ⟨.empty (pt t.mask h k).j none, ?_, .free k (Nat.le_refl _) c (fun k' h1 h2 => absurd h2 (by lia))⟩
      have hs' := slot_empty ok.ri ok.dm (j := (pt t.mask h k).j) (fun i hi e => c ⟨i, hi, e⟩)
      unfold probe.go
      simp only [hs', pt_dummy]
theorem probe_meets {t : SetTable} {hs hs0 : Nat → Int} (ok : TOk t hs0) (h : Int) (K : Nat) (hK : ¬ Occ t (pt t.mask h K).j) (hb : K ≤ 10 * (t.mask + 13)) {k : Nat} (hk : k ≤ K) : ∃ m, t.probe hs h (pt t.mask h k) = some m ∧ Meets t hs h k m :=
  go_meets ok h K hK _ k hk (by unfold turns; lia)

/-! putting -/
theorem insertAt_size {α : Type} (xs : Array α) (p : Nat) (x : α) (hp : p ≤ xs.size) : (insertAt xs p x).size = xs.size + 1 := by
  unfold insertAt; simp; lia
theorem insertAt_get {α : Type} (xs : Array α) (p : Nat) (x : α) (hp : p ≤ xs.size) (i : Nat) : (insertAt xs p x)[i]? = if i < p then xs[i]? else if i = p then some x else xs[i - 1]? := by
  unfold insertAt
  rw [Array.getElem?_append]
  have hs : ((xs.extract 0 p).push x).size = p + 1 := by simp; lia
  rw [hs]
  by_cases c : i < p + 1
  · rw [if_pos c, Array.getElem?_push]
    have hs2 : (xs.extract 0 p).size = p := by simp; lia
    rw [hs2]
    by_cases c2 : i = p
    · subst c2; simp
    · rw [if_neg c2, if_pos (by lia), Array.getElem?_extract]
      rw [if_pos (by lia)]; simp
  · rw [if_neg c, if_neg (by lia), if_neg (by lia), Array.getElem?_extract]
    by_cases c3 : i - 1 < xs.size
    · rw [if_pos (by lia)]; congr 1; lia
    · rw [if_neg (by lia), Array.getElem?_eq_none (by lia)]
theorem insertAt_getD (xs : Array Nat) (p x : Nat) (hp : p ≤ xs.size) (i : Nat) : (insertAt xs p x).getD i 0 = if i < p then xs.getD i 0 else if i = p then x else xs.getD (i - 1) 0 := by
  have := insertAt_get xs p x hp i
  rw [Array.getD_eq_getD_getElem?, this]
  (repeat' split) <;> simp [Array.getD_eq_getD_getElem?]
def insH (hs : Nat → Int) (p : Nat) (h : Int) (i : Nat) : Int := if i < p then hs i else if i = p then h else hs (i - 1)
theorem put_place {t : SetTable} {hs : Nat → Int} (ok : TOk t hs) (j : Nat) : (t.put j).1 = { t with place := insertAt t.place (below t.place j) j } := by
  unfold SetTable.put
  have : has t.dummies j = false := by rw [ok.dm]; rfl
  simp only [this, Bool.false_eq_true, if_false]
theorem TOk.put {t : SetTable} {hs : Nat → Int} (ok : TOk t hs) {h : Int} {k : Nat} (hf : ¬ Occ t (pt t.mask h k).j) (hp : ∀ k', k' < k → Occ t (pt t.mask h k').j) (hj : (pt t.mask h k).j ≤ t.mask) (hsz : t.place.size + 1 ≤ t.mask) :
    TOk (t.put (pt t.mask h k).j).1 (insH hs (below t.place (pt t.mask h k).j) h) := by
  have e := put_place ok (pt t.mask h k).j
  have b := below_spec ok.ri (pt t.mask h k).j
  have mask' : (t.put (pt t.mask h k).j).1.mask = t.mask := by rw [e]
  have place' : (t.put (pt t.mask h k).j).1.place = insertAt t.place (below t.place (pt t.mask h k).j) (pt t.mask h k).j := by rw [e]
  generalize hj' : (pt t.mask h k).j = j at *
  have sz' := insertAt_size t.place (below t.place j) j b.1
  have gd := insertAt_getD t.place (below t.place j) j b.1
  have occ' : ∀ x, Occ t x → Occ (t.put j).1 x := by
    rintro x ⟨i, hi, q⟩
    unfold Occ
    rw [place']
    by_cases c : i < below t.place j
    · exact ⟨i, by lia, by rw [gd, if_pos c]; exact q⟩
    · exact ⟨i + 1, by lia, by rw [gd, if_neg (by lia), if_neg (by lia)]; exact q⟩
  refine ⟨by rw [e]; exact ok.dm, ?_, ?_, by rw [mask']; exact ok.mm, by rw [mask', place', sz']; exact hsz, ?_⟩
  · rw [place']
    intro i k2 h1 h2
    rw [sz'] at h2
    rw [gd, gd]
    by_cases c1 : k2 < below t.place j
    · rw [if_pos (by lia), if_pos c1]; exact ok.ri i k2 h1 (by lia)
    · by_cases c2 : k2 = below t.place j
      · rw [if_pos (by lia), if_neg (by lia), if_pos c2]; exact b.2.1 i (by lia)
      · rw [if_neg c1, if_neg c2]
        have hge := b.2.2 (k2 - 1) (by lia) (by lia)
        by_cases c3 : i < below t.place j
        · rw [if_pos c3]
          have := b.2.1 i c3
          lia
        · by_cases c4 : i = below t.place j
          · rw [if_neg c3, if_pos c4]
            have : t.place.getD (k2 - 1) 0 ≠ j := fun q => hf ⟨k2 - 1, by lia, q⟩
            lia
          · rw [if_neg c3, if_neg c4]; exact ok.ri (i - 1) (k2 - 1) (by lia) (by lia)
  · intro i hi
    rw [place', sz'] at hi
    rw [place', gd, mask']
    (repeat' split)
    · exact ok.le i (by lia)
    · exact hj
    · exact ok.le (i - 1) (by lia)
  · intro i hi
    rw [place', sz'] at hi
    rw [place', gd, mask']
    unfold insH
    by_cases c1 : i < below t.place j
    · simp only [if_pos c1]
      obtain ⟨k1, q1, q2⟩ := ok.rc i (by lia)
      exact ⟨k1, q1, fun k' hk' => occ' _ (q2 k' hk')⟩
    · by_cases c2 : i = below t.place j
      · simp only [if_neg c1, if_pos c2]
        exact ⟨k, hj', fun k' hk' => occ' _ (hp k' hk')⟩
      · simp only [if_neg c1, if_neg c2]
        obtain ⟨k1, q1, q2⟩ := ok.rc (i - 1) (by lia)
        exact ⟨k1, q1, fun k' hk' => occ' _ (q2 k' hk')⟩
theorem pt_le {mask : Nat} (h : Int) (k : Nat) : (pt mask h k).j + (pt mask h k).more ≤ mask := by
  have run : ∀ i, i < mask + 1 → i + (runEnd mask i - i) ≤ mask := by intro i hi; unfold runEnd; split <;> lia
  induction k with
  | zero => exact run _ (Nat.mod_lt _ (by lia))
  | succ k ih =>
    show (advM mask (pt mask h k)).j + (advM mask (pt mask h k)).more ≤ mask
    unfold advM
    split
    · simp only; lia
    · exact run _ (Nat.mod_lt _ (by lia))
theorem tok_fresh (f m : Nat) (led : Bool) (hs : Nat → Int) : TOk (.fresh f m led) hs :=
  ⟨rfl, fun _ _ _ h => absurd h (by show ¬ _ < 0; lia), fun _ h => absurd h (by show ¬ _ < 0; lia), .inl rfl, Nat.zero_le _, fun _ h => absurd h (by show ¬ _ < 0; lia)⟩
/-! laying anew -/
theorem run_pos (mask : Nat) (h : Int) (b : Nat × Nat) {k : Nat} (R : InRun mask b (pt mask h k)) (hj : (pt mask h k).j = b.1) (hm : (pt mask h k).more = runEnd mask b.1 - b.1) : ∀ d, d ≤ runEnd mask b.1 - b.1 →
    InRun mask b (pt mask h (k + d)) ∧ (pt mask h (k + d)).j = b.1 + d ∧ (pt mask h (k + d)).more = runEnd mask b.1 - b.1 - d := by
  intro d
  induction d with
  | zero => intro _; exact ⟨R, hj, by lia⟩
  | succ d ih =>
    intro hd
    obtain ⟨R', j', m'⟩ := ih (by lia)
    have e : pt mask h (k + (d + 1)) = { pt mask h (k + d) with j := (pt mask h (k + d)).j + 1, more := (pt mask h (k + d)).more - 1 } := by
      show advM mask (pt mask h (k + d)) = _
      unfold advM
      rw [if_pos (by lia)]
    rw [e]
    have := R'.m9
    exact ⟨⟨R'.i, R'.pe, by simp only; lia⟩, by simp only; lia, by simp only; lia⟩
theorem run_next (mask : Nat) (h : Int) (b : Nat × Nat) {k : Nat} (R : InRun mask b (pt mask h k)) (hj : (pt mask h k).j = b.1) (hm : (pt mask h k).more = runEnd mask b.1 - b.1) :
    InRun mask (leap mask b.1 b.2) (pt mask h (k + (runEnd mask b.1 - b.1) + 1)) ∧ (pt mask h (k + (runEnd mask b.1 - b.1) + 1)).j = (leap mask b.1 b.2).1 ∧
      (pt mask h (k + (runEnd mask b.1 - b.1) + 1)).more = runEnd mask (leap mask b.1 b.2).1 - (leap mask b.1 b.2).1 := by
  obtain ⟨R', j', m'⟩ := run_pos mask h b R hj hm _ (Nat.le_refl _)
  have e : pt mask h (k + (runEnd mask b.1 - b.1) + 1) = { pt mask h (k + (runEnd mask b.1 - b.1)) with j := (leap mask b.1 b.2).1, more := runEnd mask (leap mask b.1 b.2).1 - (leap mask b.1 b.2).1, i := (leap mask b.1 b.2).1, perturb := (leap mask b.1 b.2).2 } := by
    show advM mask (pt mask h (k + (runEnd mask b.1 - b.1))) = _
    unfold advM
    rw [if_neg (by lia), R'.i, R'.pe]
  rw [e]
  exact ⟨⟨rfl, rfl, runEnd_le _ _⟩, rfl, rfl⟩
theorem visitsR {mask : Nat} (hm : mask = 7 ∨ mask = 31) (h : Int) {j : Nat} (hj : j ≤ mask) : ∃ r, r ≤ mask + 13 ∧ (base mask h r).1 = j := by
  have hq : ∃ q, q ≤ mask ∧ lcg mask q (base mask h 13).1 = j := by
    rcases hm with e | e
    · subst e
      obtain ⟨q, hq, e⟩ := cover7 _ (base_le 7 h 13) j (by lia)
      exact ⟨q, by lia, e⟩
    · subst e
      have c := cover31
      simp only [List.all_eq_true, List.any_eq_true, List.mem_range, beq_iff_eq] at c
      obtain ⟨q, hq, e⟩ := c _ (base_le 31 h 13) j (by lia)
      exact ⟨q, by lia, e⟩
  obtain ⟨q, hq, e⟩ := hq
  exact ⟨13 + q, by lia, by rw [base_lcg mask h q 13 (Nat.le_refl _), e]⟩
def Free (owner : Array (Option Nat)) (j : Nat) : Prop := (owner.getD j (some 0)).isNone = true
theorem free_spec {mask : Nat} (h : Int) (owner : Array (Option Nat)) (R : Nat) (hR : Free owner (base mask h R).1) : ∀ (fuel r k : Nat), r ≤ R → R - r < fuel → InRun mask (base mask h r) (pt mask h k) → (pt mask h k).j = (base mask h r).1 →
    (pt mask h k).more = runEnd mask (base mask h r).1 - (base mask h r).1 → (∀ k', k' < k → ¬ Free owner (pt mask h k').j) →
    ∃ k2, layClean.free mask owner fuel (base mask h r).1 (base mask h r).2 = some (pt mask h k2).j ∧ Free owner (pt mask h k2).j ∧ ∀ k', k' < k2 → ¬ Free owner (pt mask h k').j := by
  intro fuel
  induction fuel with
  | zero => intro r k _ h2; lia
  | succ f ih =>
    intro r k hr hf IR hj hm before
    have pos := run_pos mask h _ IR hj hm
    unfold layClean.free
    have hrange : ∀ d, d < runEnd mask (base mask h r).1 + 1 - (base mask h r).1 → d ≤ runEnd mask (base mask h r).1 - (base mask h r).1 := by intro d hd; lia
    cases hfd : (List.range (runEnd mask (base mask h r).1 + 1 - (base mask h r).1)).find? fun k => (owner.getD ((base mask h r).1 + k) (some 0)).isNone with
    | some d =>
      simp only
      have hd := List.mem_range.mp (List.mem_of_find?_eq_some hfd)
      have hp := List.find?_some hfd
      have pd := pos d (hrange d hd)
      refine ⟨k + d, by rw [pd.2.1], ?_, ?_⟩
      · unfold Free; rw [pd.2.1]; exact hp
      · intro k' hk'
        by_cases c : k' < k
        · exact before k' c
        · obtain ⟨d', rfl⟩ : ∃ d', k' = k + d' := ⟨k' - k, by lia⟩
          have hd' : d' < d := by lia
          have pd' := pos d' (by have := hrange d hd; lia)
          unfold Free
          rw [pd'.2.1]
          intro q
          have z := (List.find?_range_eq_some.mp hfd).2.2 d' hd'
          revert z
          show (!(owner.getD ((base mask h r).1 + d') (some 0)).isNone) = true → False
          rw [q]
          intro z
          exact Bool.noConfusion z
    | none =>
      simp only
      have hall := List.find?_eq_none.mp hfd
      have nr := run_next mask h _ IR hj hm
      have hrR : r ≠ R := by
        rintro rfl
        have hge : (base mask h r).1 ≤ runEnd mask (base mask h r).1 := by unfold runEnd; split <;> lia
        have := hall 0 (List.mem_range.mpr (by lia))
        unfold Free at hR
        rw [Nat.add_zero] at this
        exact this hR
      refine ih (r + 1) _ (by lia) (by lia) nr.1 nr.2.1 nr.2.2 ?_
      intro k' hk'
      by_cases c : k' < k
      · exact before k' c
      · obtain ⟨d', rfl⟩ : ∃ d', k' = k + d' := ⟨k' - k, by lia⟩
        have pd' := pos d' (by lia)
        have := hall d' (List.mem_range.mpr (by unfold runEnd at hk' ⊢; split <;> (rename_i z; (try rw [if_pos z] at hk'); (try rw [if_neg z] at hk'); lia)))
        unfold Free
        rw [pd'.2.1]
        exact this

def occB (owner : Array (Option Nat)) (j : Nat) : Bool := (owner.getD j none).isSome
structure Lay (mask : Nat) (hsL : Nat → Int) (owner : Array (Option Nat)) (k : Nat) : Prop where
  size : owner.size = mask + 1
  own : ∀ j a, owner.getD j none = some a → a < k ∧ j ≤ mask
  all : ∀ a, a < k → ∃ j, owner.getD j none = some a
  inj : ∀ j j' a, owner.getD j none = some a → owner.getD j' none = some a → j = j'
  cnt : (List.range (mask + 1)).countP (occB owner) = k
  rc : ∀ j a, owner.getD j none = some a → ∃ kk, (pt mask (hsL a) kk).j = j ∧ ∀ k', k' < kk → ¬ Free owner (pt mask (hsL a) k').j
theorem getD_any {owner : Array (Option Nat)} {j : Nat} (h : j < owner.size) (d d' : Option Nat) : owner.getD j d = owner.getD j d' := by
  simp only [Array.getD, dif_pos h]
theorem free_iff {owner : Array (Option Nat)} {j : Nat} (h : j < owner.size) : Free owner j ↔ occB owner j = false := by
  unfold Free occB
  rw [getD_any h (some 0) none]
  cases owner.getD j none <;> simp
theorem countP_set (p q : Nat → Bool) (j : Nat) (hp : p j = false) (hq : q j = true) (ho : ∀ i, i ≠ j → p i = q i) : ∀ n, (List.range n).countP q = (List.range n).countP p + if j < n then 1 else 0 := by
  intro n
  induction n with
  | zero => simp
  | succ n ih =>
    rw [List.range_succ, List.countP_append, List.countP_append, ih, List.countP_singleton, List.countP_singleton]
    by_cases e : n = j
    · subst e
      simp [hp, hq]
    · rw [ho n e]
      have : (if j < n then 1 else 0) = if j < n + 1 then 1 else 0 := by
        by_cases c : j < n
        · rw [if_pos c, if_pos (show j < n + 1 by lia)]
        · rw [if_neg c, if_neg (show ¬ j < n + 1 by lia)]
      rw [this]; lia
theorem setD {owner : Array (Option Nat)} {j : Nat} (h : j < owner.size) (v : Option Nat) (i : Nat) : (owner.setIfInBounds j v).getD i none = if i = j then v else owner.getD i none := by
  rw [Array.getD_eq_getD_getElem?, Array.getElem?_setIfInBounds]
  by_cases e : i = j
  · subst e; simp [h]
  · rw [if_neg e, if_neg (fun z => e z.symm), Array.getD_eq_getD_getElem?]
theorem Lay.step {mask : Nat} {hsL : Nat → Int} {owner : Array (Option Nat)} {k : Nat} (hm : mask = 7 ∨ mask = 31) (L : Lay mask hsL owner k) (hk : k ≤ mask) :
    ∃ j, layClean.free mask owner (turns mask) (bits (hsL k) % (mask + 1)) (bits (hsL k)) = some j ∧ Lay mask hsL (owner.setIfInBounds j (some k)) (k + 1) := by
  have exF : ∃ j, j ≤ mask ∧ Free owner j := by
    apply Classical.byContradiction
    intro no
    have all : ∀ j ∈ List.range (mask + 1), occB owner j = true := by
      intro j hj
      have hj' := List.mem_range.mp hj
      cases e : occB owner j with
      | true => rfl
      | false => exact absurd ⟨j, by lia, (free_iff (by rw [L.size]; lia)).mpr e⟩ no
    have := List.countP_eq_length.mpr all
    rw [L.cnt, List.length_range] at this
    lia
  obtain ⟨j0, hj0, f0⟩ := exF
  obtain ⟨R, hR, eR⟩ := visitsR hm (hsL k) hj0
  obtain ⟨k2, e2, f2, b2⟩ := free_spec (mask := mask) (hsL k) owner R (by rw [eR]; exact f0) (turns mask) 0 0 (Nat.zero_le _) (by unfold turns; lia) ⟨rfl, rfl, runEnd_le _ _⟩ rfl rfl (fun _ h => absurd h (by lia))
  have hj : (pt mask (hsL k) k2).j < owner.size := by have := pt_le (mask := mask) (hsL k) k2; rw [L.size]; lia
  refine ⟨(pt mask (hsL k) k2).j, e2, ?_⟩
  have fr := (free_iff hj).mp f2
  have none2 : owner.getD (pt mask (hsL k) k2).j none = none := by
    unfold occB at fr
    cases e : owner.getD (pt mask (hsL k) k2).j none with
    | none => rfl
    | some a => rw [e] at fr; exact Bool.noConfusion fr
  generalize hj' : (pt mask (hsL k) k2).j = j at *
  have sD := setD hj (some k)
  have nf : ∀ i, i ≤ mask → ¬ Free owner i → ¬ Free (owner.setIfInBounds j (some k)) i := by
    intro i hi h1 h2
    have s1 : i < owner.size := by rw [L.size]; lia
    have s2 : i < (owner.setIfInBounds j (some k)).size := by rw [Array.size_setIfInBounds]; exact s1
    have o1 : occB owner i = true := by
      cases e : occB owner i with
      | true => rfl
      | false => exact absurd ((free_iff s1).mpr e) h1
    have o2 := (free_iff s2).mp h2
    unfold occB at o1 o2
    rw [sD] at o2
    by_cases e : i = j
    · rw [if_pos e] at o2; exact Bool.noConfusion o2
    · rw [if_neg e, o1] at o2; exact Bool.noConfusion o2
  have ple : ∀ h k', (pt mask h k').j ≤ mask := fun h k' => by have := pt_le (mask := mask) h k'; lia
  refine ⟨by rw [Array.size_setIfInBounds]; exact L.size, ?_, ?_, ?_, ?_, ?_⟩
  · intro i a e
    rw [sD] at e
    by_cases c : i = j
    · rw [if_pos c] at e; cases e; exact ⟨by lia, by rw [c, ← hj']; exact ple _ _⟩
    · rw [if_neg c] at e; have := L.own i a e; exact ⟨by lia, this.2⟩
  · intro a ha
    by_cases c : a = k
    · exact ⟨j, by rw [sD, if_pos rfl, c]⟩
    · obtain ⟨i, e⟩ := L.all a (by lia)
      have ne : i ≠ j := fun z => by rw [z, none2] at e; cases e
      exact ⟨i, by rw [sD, if_neg ne]; exact e⟩
  · intro i i' a e e'
    rw [sD] at e e'
    by_cases c : i = j <;> by_cases c' : i' = j
    · lia
    · rw [if_pos c] at e; rw [if_neg c'] at e'; cases e; have := (L.own i' k e').1; lia
    · rw [if_neg c] at e; rw [if_pos c'] at e'; cases e'; have := (L.own i k e).1; lia
    · rw [if_neg c] at e; rw [if_neg c'] at e'; exact L.inj i i' a e e'
  · rw [countP_set (occB owner) (occB (owner.setIfInBounds j (some k))) j fr (by unfold occB; rw [sD, if_pos rfl]; rfl) (fun i hi => by unfold occB; rw [sD, if_neg hi]) (mask + 1), L.cnt]
    have : j < mask + 1 := by have := L.size; lia
    rw [if_pos this]
  · intro i a e
    rw [sD] at e
    by_cases c : i = j
    · rw [if_pos c] at e
      cases e
      exact ⟨k2, by rw [hj', c], fun k' h' => nf _ (ple _ _) (b2 k' h')⟩
    · rw [if_neg c] at e
      obtain ⟨kk, q1, q2⟩ := L.rc i a e
      exact ⟨kk, q1, fun k' h' => nf _ (ple _ _) (q2 k' h')⟩
def layStep (mask : Nat) (acc : Option (Array (Option Nat) × Nat)) (h : Int) : Option (Array (Option Nat) × Nat) := do
  let (owner, k) ← acc
  let j ← layClean.free mask owner (turns mask) (bits h % (mask + 1)) (bits h)
  pure (owner.setIfInBounds j (some k), k + 1)
theorem layFold {mask : Nat} {hsL : Nat → Int} (hm : mask = 7 ∨ mask = 31) : ∀ (l : List Int) (k : Nat) (owner : Array (Option Nat)), (∀ (i : Nat) h, l[i]? = some h → hsL (k + i) = h) → Lay mask hsL owner k → k + l.length ≤ mask →
    ∃ owner', l.foldl (layStep mask) (some (owner, k)) = some (owner', k + l.length) ∧ Lay mask hsL owner' (k + l.length)
  | [], k, owner, _, L, _ => ⟨owner, rfl, L⟩
  | h :: l, k, owner, e, L, hk => by
    rw [List.length_cons] at hk
    obtain ⟨j, e1, L1⟩ := L.step hm (by lia)
    have eh : hsL k = h := e 0 h rfl
    obtain ⟨o2, e2, L2⟩ := layFold hm l (k + 1) _ (fun i h' q => by rw [← e (i + 1) h' q]; congr 1; lia) L1 (by lia)
    refine ⟨o2, ?_, by rw [List.length_cons, show k + (l.length + 1) = k + 1 + l.length by lia]; exact L2⟩
    rw [List.foldl_cons, List.length_cons, show k + (l.length + 1) = k + 1 + l.length by lia, ← e2]
    congr 1
    show (layClean.free mask owner (turns mask) (bits h % (mask + 1)) (bits h)).bind _ = _
    rw [← eh, e1]
    rfl
theorem lay_zero (mask : Nat) (hsL : Nat → Int) : Lay mask hsL (Array.replicate (mask + 1) none) 0 := by
  have g : ∀ j, (Array.replicate (mask + 1) (none : Option Nat)).getD j none = none := by
    intro j
    rw [Array.getD_eq_getD_getElem?, Array.getElem?_replicate]
    split <;> rfl
  refine ⟨Array.size_replicate, fun j a e => ?_, fun a h => absurd h (by lia), fun j j' a e => ?_, ?_, fun j a e => ?_⟩
  · rw [g] at e; cases e
  · rw [g] at e; cases e
  · rw [List.countP_eq_zero.mpr]; intro j _; unfold occB; rw [g]; simp
  · rw [g] at e; cases e
theorem layClean_ok {mask : Nat} (hm : mask = 7 ∨ mask = 31) (hashes : Array Int) (hn : hashes.size ≤ mask) : ∃ owner, layClean mask hashes = some owner ∧ Lay mask (fun a => hashes.getD a 0) owner hashes.size := by
  obtain ⟨o, e, L⟩ := layFold (hsL := fun a => hashes.getD a 0) hm hashes.toList 0 _ (fun i h q => by
    rw [Nat.zero_add, Array.getD_eq_getD_getElem?]
    rw [Array.getElem?_toList] at q
    rw [q]; rfl) (lay_zero mask _) (by rw [Array.length_toList]; lia)
  rw [Array.length_toList, Nat.zero_add] at e L
  refine ⟨o, ?_, L⟩
  unfold layClean
  rw [← Array.foldl_toList]
  show Option.map _ (hashes.toList.foldl (layStep mask) (some (Array.replicate (mask + 1) none, 0))) = _
  rw [e]
  rfl
def liveOf (mask : Nat) (owner : Array (Option Nat)) : List (Nat × Nat) := (List.range (mask + 1)).filterMap fun j => (owner.getD j none).map (j, ·)
theorem live_mem {mask : Nat} {owner : Array (Option Nat)} {j a : Nat} : (j, a) ∈ liveOf mask owner ↔ j < mask + 1 ∧ owner.getD j none = some a := by
  unfold liveOf
  rw [List.mem_filterMap]
  constructor
  · rintro ⟨j', hj', e⟩
    cases q : owner.getD j' none with
    | none => rw [q] at e; cases e
    | some a' =>
      rw [q] at e
      have e' : (j', a') = (j, a) := Option.some.inj e
      cases e'
      exact ⟨List.mem_range.mp hj', q⟩
  · rintro ⟨h1, h2⟩
    exact ⟨j, List.mem_range.mpr h1, by rw [h2]; rfl⟩
theorem live_sorted (mask : Nat) (owner : Array (Option Nat)) : (liveOf mask owner).Pairwise fun x y => x.1 < y.1 := by
  unfold liveOf
  rw [List.pairwise_filterMap]
  refine List.Pairwise.imp ?_ (List.pairwise_lt_range (n := mask + 1))
  intro a b hab x hx y hy
  cases q : owner.getD a none with
  | none => rw [q] at hx; cases hx
  | some _ =>
    cases q' : owner.getD b none with
    | none => rw [q'] at hy; cases hy
    | some _ =>
      rw [q] at hx; rw [q'] at hy
      have h1 := Option.some.inj hx
      have h2 := Option.some.inj hy
      rw [← h1, ← h2]; exact hab
theorem live_length (mask : Nat) (owner : Array (Option Nat)) : (liveOf mask owner).length = (List.range (mask + 1)).countP (occB owner) := by
  unfold liveOf
  generalize List.range (mask + 1) = l
  induction l with
  | nil => rfl
  | cons j l ih =>
    rw [List.filterMap_cons, List.countP_cons]
    unfold occB at *
    cases q : owner.getD j none with
    | none => simp only [Option.map_none, Option.isSome_none, Bool.false_eq_true, if_false]; exact ih
    | some a => simp only [Option.map_some, Option.isSome_some, if_true, List.length_cons]; rw [ih]
theorem relaid_ok {t : SetTable} {hashes : Array Int} {wanted : Nat} (hw : sizeAbove wanted - 1 = 31) (hn : hashes.size ≤ 31) :
    ∃ t' order, t.relaid hashes wanted = some (t', order) ∧ t'.place.size = hashes.size ∧ order.size = hashes.size ∧ t'.mask = 31 ∧ t'.led = t.led ∧ t'.plain = t.plain ∧
      (∀ i, i < hashes.size → order.getD i 0 < hashes.size) ∧ (∀ a, a < hashes.size → ∃ i, i < hashes.size ∧ order.getD i 0 = a) ∧ (∀ i k, i < hashes.size → k < hashes.size → order.getD i 0 = order.getD k 0 → i = k) ∧ TOk t' (fun i => hashes.getD (order.getD i 0) 0) := by
  obtain ⟨owner, e, L⟩ := layClean_ok (mask := 31) (.inr rfl) hashes hn
  have hlen : (liveOf 31 owner).length = hashes.size := by rw [live_length, L.cnt]
  have hso := List.pairwise_iff_getElem.mp (live_sorted 31 owner)
  have el : ∀ i (hi : i < hashes.size), ((liveOf 31 owner)[i]'(by lia)).1 < 32 ∧ owner.getD ((liveOf 31 owner)[i]'(by lia)).1 none = some ((liveOf 31 owner)[i]'(by lia)).2 := by
    intro i hi
    exact live_mem.mp (List.getElem_mem (by lia))
  have gp : ∀ i (hi : i < hashes.size), (((liveOf 31 owner).map (·.1)).toArray).getD i 0 = ((liveOf 31 owner)[i]'(by lia)).1 := by
    intro i hi
    rw [Array.getD_eq_getD_getElem?, List.getElem?_toArray, List.getElem?_map, List.getElem?_eq_getElem (by lia)]; rfl
  have go : ∀ i (hi : i < hashes.size), (((liveOf 31 owner).map (·.2)).toArray).getD i 0 = ((liveOf 31 owner)[i]'(by lia)).2 := by
    intro i hi
    rw [Array.getD_eq_getD_getElem?, List.getElem?_toArray, List.getElem?_map, List.getElem?_eq_getElem (by lia)]; rfl
  have inj : ∀ i k (hi : i < hashes.size) (hk : k < hashes.size), ((liveOf 31 owner)[i]'(by lia)).2 = ((liveOf 31 owner)[k]'(by lia)).2 → i = k := by
    intro i k hi hk q
    have e1 := (el i hi).2
    have e2 := (el k hk).2
    rw [q] at e1
    have same := L.inj _ _ _ e1 e2
    rcases Nat.lt_trichotomy i k with c | c | c
    · have := hso i k (by lia) (by lia) c; lia
    · exact c
    · have := hso k i (by lia) (by lia) c; lia
  refine ⟨{ mask := 31, place := ((liveOf 31 owner).map (·.1)).toArray, dummies := #[], finger := t.finger, led := t.led, moves := t.movedTo 31, plain := t.plain }, ((liveOf 31 owner).map (·.2)).toArray, ?_, ?_, ?_, rfl, rfl, rfl, ?_, ?_, ?_, ?_⟩
  · unfold SetTable.relaid laid
    rw [hw, e]
    rfl
  · simp [hlen]
  · simp [hlen]
  · intro i hi
    rw [go i hi]
    exact (L.own _ _ (el i hi).2).1
  · intro a ha
    obtain ⟨j, hj⟩ := L.all a ha
    have hm : (j, a) ∈ liveOf 31 owner := live_mem.mpr ⟨by have := (L.own j a hj).2; lia, hj⟩
    obtain ⟨i, hi, q⟩ := List.getElem_of_mem hm
    exact ⟨i, by lia, by rw [go i (by lia), q]⟩
  · intro i k hi hk q
    rw [go i hi, go k hk] at q
    exact inj i k hi hk q
  · have psz : (((liveOf 31 owner).map (·.1)).toArray).size = hashes.size := by simp [hlen]
    have occ : ∀ j, j ≤ 31 → ¬ Free owner j → ∃ i, i < hashes.size ∧ (((liveOf 31 owner).map (·.1)).toArray).getD i 0 = j := by
      intro j hj nf
      have s1 : j < owner.size := by rw [L.size]; lia
      cases q : owner.getD j none with
      | none => exact absurd ((free_iff s1).mpr (by unfold occB; rw [q]; rfl)) nf
      | some a =>
        obtain ⟨i, hi, q'⟩ := List.getElem_of_mem (live_mem.mpr ⟨by lia, q⟩ : (j, a) ∈ liveOf 31 owner)
        exact ⟨i, by lia, by rw [gp i (by lia), q']⟩
    refine ⟨rfl, ?_, ?_, .inr rfl, ?_, ?_⟩
    · intro i k h1 h2
      have h2' : k < hashes.size := by rw [← psz]; exact h2
      show (((liveOf 31 owner).map (·.1)).toArray).getD i 0 < (((liveOf 31 owner).map (·.1)).toArray).getD k 0
      rw [gp i (by lia), gp k h2']
      exact hso i k (by lia) (by lia) h1
    · intro i hi
      have hi' : i < hashes.size := by rw [← psz]; exact hi
      show (((liveOf 31 owner).map (·.1)).toArray).getD i 0 ≤ 31
      rw [gp i hi']
      have := (el i hi').1
      lia
    · show (((liveOf 31 owner).map (·.1)).toArray).size ≤ 31
      rw [psz]; exact hn
    · intro i hi
      have hi' : i < hashes.size := by rw [← psz]; exact hi
      obtain ⟨kk, q1, q2⟩ := L.rc _ _ (el i hi').2
      refine ⟨kk, ?_, ?_⟩
      · show (pt 31 (hashes.getD ((((liveOf 31 owner).map (·.2)).toArray).getD i 0) 0) kk).j = (((liveOf 31 owner).map (·.1)).toArray).getD i 0
        rw [go i hi', gp i hi']
        exact q1
      · intro k' hk'
        have := q2 k' hk'
        unfold Occ
        show ∃ i', i' < (((liveOf 31 owner).map (·.1)).toArray).size ∧ (((liveOf 31 owner).map (·.1)).toArray).getD i' 0 = (pt 31 (hashes.getD ((((liveOf 31 owner).map (·.2)).toArray).getD i 0) 0) k').j
        rw [psz, go i hi']
        exact occ _ (by have := pt_le (mask := 31) (hashes.getD ((liveOf 31 owner)[i]'(by lia)).2 0) k'; lia) this
end FS
end
section
set_option maxRecDepth 100000
namespace FS
open PySem PySem.SetTable

section
variable {prog : Program} {w : World} {A : Around} {E : Value → Shared → Prop} {s : Shared}

theorem items_noref {ks : List Int} {vs : List Value} (h : ItemsAre (intKind prog w) ks vs) : ∀ v ∈ vs, ∃ i t, v = .int i t := by
  induction h with
  | nil => intro v hv; simp at hv
  | @cons k v' ks vs h1 _ ih =>
    intro v hv
    rcases List.mem_cons.mp hv with rfl | hv
    · obtain ⟨t, e⟩ := Value.isInt_shape (k := k) (v := v) h1
      exact ⟨k, t, e⟩
    · exact ih v hv

theorem ofAClass_tuple {ks : List Int} {a : Addr} {Q : Bool → Shared → Prop} (hk : IsTupleKey (intKind prog w) s.heap ks a) (h : Q false s) : wpAny (model prog w) A (ofAClassStatement 8 (.ref a)) Q E s := by
  have hT := hk.typeIs
  obtain ⟨o, items, n, ho, _, hd, hi⟩ := hk
  unfold ofAClassStatement
  refine wpAny_bind (wpAny_typeOf hT ?_)
  show wpAny _ _ ((if ("tuple" == "tuple") = true then pure true else isSubtype (.type "tuple") (.type "tuple")) >>= _) _ _ s
  rw [if_pos (by decide)]
  refine wpAny_bind (wpAny_pure ?_)
  simp only [Bool.not_true, Bool.false_eq_true, if_false]
  refine wpAny_bind (wpAny_seqItems ho hd ?_)
  simp only
  refine wpAny_bind ?_
  show wpAny _ _ (forIn items _ _) _ _ s
  rw [← Array.forIn_toList]
  refine wpAny_forIn_list _ (fun rest r s' => r.1 = none ∧ s' = s ∧ ∀ v ∈ rest, ∃ i t, v = Value.int i t) _ ?_ ?_ _ _ ⟨rfl, rfl, items_noref hi⟩
  · rintro v rest r s' ⟨hr, rfl, hall⟩
    obtain ⟨i, t, rfl⟩ := hall v List.mem_cons_self
    have e : ofAClassStatement 7 (.int i t) = pure false := by unfold ofAClassStatement; rfl
    refine wpAny_bind (wpAny_of_eq e ?_)
    simp only [Bool.false_eq_true, if_false]
    exact wpAny_pure ⟨rfl, rfl, fun u hu' => hall u (List.mem_cons_of_mem _ hu')⟩
  · rintro ⟨r1, r2⟩ s' ⟨hr, rfl, _⟩
    simp only at hr
    subst hr
    exact wpAny_pure h

theorem couldBeSeen {ks : List Int} {a : Addr} {stored : List Value} {Q : Bool → Shared → Prop} (hk : IsTupleKey (intKind prog w) s.heap ks a)
    (hst : ∀ y ∈ stored, ∃ b ks', y = .ref b ∧ IsTupleKey (intKind prog w) s.heap ks' b) (h : Q false s) : wpAny (model prog w) A (searchCouldBeSeen (.ref a) stored) Q E s := by
  unfold searchCouldBeSeen
  refine wpAny_bind ?_
  refine wpAny_forIn_list _ (fun rest r s' => r.1 = none ∧ s' = s ∧ ∀ y ∈ rest, ∃ b ks', y = .ref b ∧ IsTupleKey (intKind prog w) s.heap ks' b) _ ?_ ?_ _ _ ⟨rfl, rfl, hst⟩
  · rintro v rest r s' ⟨hr, rfl, hall⟩
    obtain ⟨b, ks', rfl, hb⟩ := hall v List.mem_cons_self
    have hall' : ∀ y ∈ rest, ∃ b ks', y = Value.ref b ∧ IsTupleKey (intKind prog w) s'.heap ks' b := fun u hu' => hall u (List.mem_cons_of_mem _ hu')
    dsimp only
    split
    · exact wpAny_pure ⟨rfl, rfl, hall'⟩
    · refine wpAny_bind (wpAny_eqIsQuiet_tuple hk ?_)
      simp only [Bool.not_true, Bool.false_eq_true, if_false]
      refine wpAny_bind (wpAny_eqIsQuiet_tuple hb ?_)
      simp only [Bool.not_true, Bool.false_eq_true, if_false]
      refine wpAny_bind (ofAClass_tuple hk ?_)
      simp only [Bool.false_eq_true, if_false]
      refine wpAny_bind (ofAClass_tuple hb ?_)
      simp only [Bool.false_eq_true, if_false]
      exact wpAny_pure ⟨rfl, rfl, hall'⟩
  · rintro ⟨r1, r2⟩ s' ⟨hr, rfl, _⟩
    simp only at hr
    subst hr
    exact wpAny_pure h

theorem hashByValue_tuple {ks : List Int} {a : Addr} {Q : Bool → Shared → Prop} (hk : IsTupleKey (intKind prog w) s.heap ks a) (h : Q true s) : wpAny (model prog w) A (hashByValue 8 (.ref a)) Q E s := by
  have hT := hk.typeIs
  obtain ⟨o, items, n, ho, _, hd, hi⟩ := hk
  unfold hashByValue
  refine wpAny_bind (wpAny_specialOf hT F.slot_tuple_hash.lookup ?_)
  refine wpAny_bind (wpAny_seqItems ho hd ?_)
  refine wpAny_bind ?_
  show wpAny _ _ (forIn items _ _) _ _ s
  rw [← Array.forIn_toList]
  refine wpAny_forIn_list _ (fun rest r s' => r.1 = none ∧ s' = s ∧ ∀ v ∈ rest, ∃ i t, v = Value.int i t) _ ?_ ?_ _ _ ⟨rfl, rfl, items_noref hi⟩
  · rintro v rest r s' ⟨hr, rfl, hall⟩
    obtain ⟨i, t, rfl⟩ := hall v List.mem_cons_self
    have e : hashByValue 7 (.int i t) = pure true := by unfold hashByValue; rfl
    refine wpAny_bind (wpAny_of_eq e ?_)
    simp only [Bool.not_true, Bool.false_eq_true, if_false]
    exact wpAny_pure ⟨rfl, rfl, fun u hu' => hall u (List.mem_cons_of_mem _ hu')⟩
  · rintro ⟨r1, r2⟩ s' ⟨hr, rfl, _⟩
    simp only at hr
    subst hr
    exact wpAny_pure h

/-! the set -/
abbrev hashOf (prog : Program) (w : World) (k : List Int) : Int := tupleKeyHash (intKind prog w) k
def esHash (es : Array (Int × Value)) (i : Nat) : Int := (es[i]?.map (·.1)).getD 0
/-- the entries are tuples of ints, each with its hash -/
def Ents (prog : Program) (w : World) (h : Heap) (es : Array (Int × Value)) : Prop := ∀ (i : Nat) (e : Int × Value), es[i]? = some e → ∃ (k : List Int) (r : Addr), e = (hashOf prog w k, Value.ref r) ∧ IsTupleKey (intKind prog w) h k r
def KeyIn (prog : Program) (w : World) (h : Heap) (es : Array (Int × Value)) (k : List Int) : Prop := ∃ (i : Nat) (r : Addr), es[i]? = some (hashOf prog w k, .ref r) ∧ IsTupleKey (intKind prog w) h k r
structure TabOk (prog : Program) (w : World) (h : Heap) (a : Addr) (o : Obj) (es : Array (Int × Value)) (ep : Nat) (t : SetTable) : Prop where
  ho : h.get? a = some o
  ex : o.ExactSet
  hd : o.data = .set es ep t
  sz : t.place.size = es.size
  ok : TOk t (esHash es)
  en : Ents prog w h es
theorem TabOk.fits {h : Heap} {a : Addr} {o : Obj} {es : Array (Int × Value)} {ep : Nat} {t : SetTable} (T : TabOk prog w h a o es ep t) : t.fits es.size = true := by
  unfold SetTable.fits SetTable.fill
  have := T.ok.sz
  rw [T.ok.dm, Bool.and_eq_true, beq_iff_eq, decide_eq_true_eq]
  exact ⟨T.sz, by simpa using this⟩
/-- the search's end -/
inductive Found (prog : Program) (w : World) (h : Heap) (es : Array (Int × Value)) (t : SetTable) (k : List Int) : SetFound → Prop
  | there (x : Option Nat) : KeyIn prog w h es k → Found prog w h es t k (.there x)
  | free (n : Nat) : ¬ KeyIn prog w h es k → ¬ Occ t (pt t.mask (hashOf prog w k) n).j → (∀ n', n' < n → Occ t (pt t.mask (hashOf prog w k) n').j) → Found prog w h es t k (.free (pt t.mask (hashOf prog w k) n).j false)

theorem if_led {α : Type} {b : Bool} {m : Sem Bool} {U T : Sem α} {Q : α → Shared → Prop} (hm : ∀ Q' : Bool → Shared → Prop, Q' false s → wpAny (model prog w) A m Q' E s) (hT : wpAny (model prog w) A T Q E s) :
    wpAny (model prog w) A (if (!b) = true then (m >>= fun c => if c = true then U else T) else T) Q E s := by
  cases b with
  | true => simpa using hT
  | false =>
    simp only [Bool.not_false, if_true]
    refine wpAny_bind (hm _ ?_)
    simp only [Bool.false_eq_true, if_false]
    exact hT

theorem search_ok {a r : Addr} {k : List Int} {o : Obj} {es : Array (Int × Value)} {ep : Nat} {t : SetTable} (T : TabOk prog w s.heap a o es ep t) (hk : IsTupleKey (intKind prog w) s.heap k r) (hu : A.units < cLine)
    {Q : SetFound → Shared → Prop} (hQ : ∀ f, Found prog w s.heap es t k f → Q f s) (K : Nat) (hK : ¬ Occ t (pt t.mask (hashOf prog w k) K).j) (hKb : K ≤ 10 * (t.mask + 13)) :
    ∀ (fuel n : Nat) (stand : Option Probe), K - n < fuel → n ≤ K → stand.getD (t.probeStart (hashOf prog w k)) = pt t.mask (hashOf prog w k) n →
      (∀ n', n' < n → ∃ i, i < t.place.size ∧ t.place.getD i 0 = (pt t.mask (hashOf prog w k) n').j ∧ ∀ rr, es[i]? = some (hashOf prog w k, .ref rr) → ¬ IsTupleKey (intKind prog w) s.heap k rr) →
      wpAny (model prog w) A (setSearchFrom a (.ref r) (hashOf prog w k) true fuel stand) Q E s := by
  intro fuel
  induction fuel with
  | zero => intro n stand h _ _ _; lia
  | succ f ih =>
    intro n stand hf hn hst before
    unfold setSearchFrom
    refine wpAny_bind (wpAny_setState_of T.ho T.hd T.fits ?_)
    have gw : t.gaveWay = false := by
      unfold SetTable.gaveWay
      rcases T.ok.mm with e | e <;> rw [e] <;> rfl
    simp only [gw, Bool.false_eq_true, if_false, hst]
    obtain ⟨m, hm, M⟩ := probe_meets T.ok (hashOf prog w k) K hK hKb hn
    have hm' : t.probe (esHash es) (hashOf prog w k) (pt t.mask (hashOf prog w k) n) = some m := hm
    -- what lies before n2 has not this key
    have ext : ∀ n2, (∀ n', n ≤ n' → n' < n2 → ∃ i, i < t.place.size ∧ t.place.getD i 0 = (pt t.mask (hashOf prog w k) n').j ∧ esHash es i ≠ hashOf prog w k) →
        ∀ n', n' < n2 → ∃ i, i < t.place.size ∧ t.place.getD i 0 = (pt t.mask (hashOf prog w k) n').j ∧ ∀ rr, es[i]? = some (hashOf prog w k, .ref rr) → ¬ IsTupleKey (intKind prog w) s.heap k rr := by
      intro n2 q n' hn'
      by_cases c : n' < n
      · exact before n' c
      · obtain ⟨i, h1, h2, h3⟩ := q n' (by lia) hn'
        refine ⟨i, h1, h2, fun rr e _ => h3 ?_⟩
        unfold esHash; rw [e]; rfl
    split
    case h_2 =>
      rename_i heq
      exact (heq m hm).elim
    rename_i met heq
    have em : met = m := Option.some.inj (heq.symm.trans hm)
    subst em
    clear heq
    cases M with
    | free n2 h1 h2 h3 =>
      refine wpAny_pure (hQ _ (.free n2 ?_ h2 ?_))
      · rintro ⟨i, rr, e1, e2⟩
        have hi : i < t.place.size := by
          rw [T.sz]
          have := Array.getElem?_eq_some_iff.mp e1
          exact this.1
        have eh : esHash es i = hashOf prog w k := by unfold esHash; rw [e1]; rfl
        obtain ⟨kk, q1, q2⟩ := T.ok.rc i hi
        rw [eh] at q1 q2
        by_cases c : kk < n2
        · obtain ⟨i', hi', p', nk⟩ := ext n2 h3 kk c
          have same : i' = i := by
            rcases Nat.lt_trichotomy i' i with d | d | d
            · have := T.ok.ri i' i d hi; lia
            · exact d
            · have := T.ok.ri i i' d hi'; lia
          subst same
          exact nk rr e1 e2
        · by_cases c2 : kk = n2
          · subst c2; exact h2 ⟨i, hi, q1.symm⟩
          · exact h2 (q2 n2 (by lia))
      · intro n' hn'
        obtain ⟨i, h1, h2, _⟩ := ext n2 h3 n' hn'
        exact ⟨i, h1, h2⟩
    | cand n2 i h1 h2 h3 h4 h5 =>
      have hi : i < es.size := by rw [← T.sz]; exact h2
      obtain ⟨k', r', e1, e2⟩ := T.en i _ (Array.getElem?_eq_getElem hi)
      have e1' : es[i]? = some (hashOf prog w k', .ref r') := by rw [Array.getElem?_eq_getElem hi, e1]
      have hkk : hashOf prog w k' = hashOf prog w k := by
        have : esHash es i = hashOf prog w k' := by unfold esHash; rw [e1']; rfl
        rw [← this]; exact h4
      have hslot := slot_live T.ok.ri h2 h3
      simp only
      refine if_led (fun Q' hq => couldBeSeen hk ?_ hq) ?_
      · intro y hy
        obtain ⟨e, he, rfl⟩ := List.mem_map.mp hy
        rw [Array.toList_filter] at he
        have hm := (List.mem_filter.mp he).1
        obtain ⟨ix, hix, q⟩ := List.getElem_of_mem hm
        have q' : es[ix]? = some e := by
          rw [← Array.getElem?_toList, List.getElem?_eq_getElem hix, q]
        obtain ⟨kx, rx, ex, hx⟩ := T.en ix e q'
        exact ⟨rx, kx, by rw [ex], hx⟩
      · rw [e1']
        refine wpAny_bind (wpAny_holding (wpAny_eqBool_tuple hu e2 hk ?_))
        refine wpAny_bind (wpAny_setState_of T.ho T.hd T.fits ?_)
        simp only
        by_cases ce : k' = k
        · subst ce
          simp only [decide_true, Bool.and_true, if_true]
          exact wpAny_pure (hQ _ (.there none ⟨i, r', e1', e2⟩))
        · rw [decide_eq_false ce]
          simp only [Bool.and_false, Bool.false_eq_true, if_false]
          have sm : t.sameMemory t.moves t.mask = some true := by unfold SetTable.sameMemory; simp
          rw [sm]
          simp only [if_true, hslot, e1']
          refine wpAny_bind (wpAny_isSame_ref_self (wpAny_bind (wpAny_pure ?_)))
          simp only [if_true]
          have hnK : n2 ≠ K := fun e => hK (by rw [← e, ← h3]; exact ⟨i, h2, rfl⟩)
          have hn2 : n2 < K := by
            rcases Nat.lt_trichotomy n2 K with c | c | c
            · exact c
            · exact absurd c hnK
            · exfalso
              obtain ⟨i', q1, q2, _⟩ := h5 K hn c
              exact hK ⟨i', q1, q2⟩
          refine ih (n2 + 1) (some _) (by lia) (by lia) rfl ?_
          intro n' hn'
          by_cases c : n' < n2
          · exact ext n2 h5 n' c
          · have : n' = n2 := by lia
            subst this
            refine ⟨i, h2, h3, fun rr er hrr => ?_⟩
            rw [e1'] at er
            have er' : r' = rr := by
              have := congrArg Prod.snd (Option.some.inj er)
              simpa using this
            subst er'
            exact ce (e2.inj hrr)

theorem tupleKey_same {h h' : Heap} {a r : Addr} {o : Obj} {k : List Int} (hk : IsTupleKey (intKind prog w) h k r) (ho : h.get? a = some o) (hc : o.cls = .type "set") (hs : Heap.SameBut a h h') : IsTupleKey (intKind prog w) h' k r := by
  obtain ⟨o', items, n, ho', hc', hd', hi⟩ := hk
  have hne : r ≠ a := by
    rintro rfl
    obtain rfl : o' = o := Option.some.inj (ho'.symm.trans ho)
    rw [hc] at hc'; exact absurd hc' (by decide)
  exact ⟨o', items, n, (hs.2 r hne).trans ho', hc', hd', hi⟩
theorem relay_eq (a : Addr) (wanted : Nat) : setRelay a wanted = (do
    let (es, _, t) ← setState a
    if SetTable.sizeAbove wanted > sizeLine then unsupported "set:memory"
    let (es, t) ← (do
      let some (t, order) := t.relaid (es.map (·.1)) wanted | unsupported "internal:set-table-without-room"
      let es' := order.filterMap (es[·]?)
      if es'.size != es.size then unsupported "internal:set-table-lost-an-element"
      pure (es', t))
    storeSet a es t) := rfl
theorem store_get {h : Heap} {a : Addr} {o : Obj} {es : Array (Int × Value)} {ep : Nat} {t : SetTable} (ho : h.get? a = some o) (hd : o.data = .set es ep t) (es' : Array (Int × Value)) (t' : SetTable) :
    (h.update a (Obj.putSet es' t')).get? a = some { o with data := .set es' (ep + 1) t' } := by
  have := Heap.get?_update_self (Obj.putSet es' t') ho (by rw [putSet_of es' t' hd]; rfl)
  rw [putSet_of es' t' hd] at this; exact this
theorem filterMap_order {es : Array (Int × Value)} {order : Array Nat} (hs : order.size = es.size) (hlt : ∀ i, i < es.size → order.getD i 0 < es.size) :
    (order.filterMap (es[·]?)).size = es.size ∧ ∀ (i : Nat), i < es.size → (order.filterMap (es[·]?))[i]? = es[order.getD i 0]? := by
  have key : ∀ (l : List Nat), (∀ x ∈ l, x < es.size) → (l.filterMap (es[·]?)).length = l.length ∧ ∀ i : Nat, i < l.length → (l.filterMap (es[·]?))[i]? = es[l.getD i 0]? := by
    intro l
    induction l with
    | nil => intro _; exact ⟨rfl, fun i h => absurd h (by simp)⟩
    | cons x l ih =>
      intro hx
      have h0 : es[x]? = some (es[x]'(hx x List.mem_cons_self)) := Array.getElem?_eq_getElem _
      obtain ⟨i1, i2⟩ := ih fun y hy => hx y (List.mem_cons_of_mem _ hy)
      rw [List.filterMap_cons, h0]
      refine ⟨by simp [i1], fun i hi => ?_⟩
      cases i with
      | zero => simp [h0]
      | succ i => simpa using i2 i (by simpa using hi)
  have hl := key order.toList (by
    intro x hx
    obtain ⟨i, hi, q⟩ := List.getElem_of_mem hx
    rw [Array.length_toList] at hi
    have := hlt i (by lia)
    rw [Array.getD_eq_getD_getElem?, Array.getElem?_eq_getElem hi] at this
    rw [← q]; simpa using this)
  have e : (order.filterMap (es[·]?)).toList = order.toList.filterMap (es[·]?) := by simp
  refine ⟨by rw [← Array.length_toList, e, hl.1, Array.length_toList, hs], fun i hi => ?_⟩
  rw [← Array.getElem?_toList, e, hl.2 i (by rw [Array.length_toList]; lia)]
  congr 1
  rw [List.getD_eq_getElem?_getD, Array.getElem?_toList, Array.getD_eq_getD_getElem?]
theorem relay_ok {a : Addr} {o : Obj} {es : Array (Int × Value)} {ep : Nat} {t : SetTable} (T : TabOk prog w s.heap a o es ep t) {wanted : Nat} (hw : sizeAbove wanted = 32) (hn : es.size ≤ 31) {Q : Unit → Shared → Prop}
    (hQ : ∀ h' o' es' ep' t', Heap.SameBut a s.heap h' → TabOk prog w h' a o' es' ep' t' → t'.mask = 31 → es'.size = es.size → (∀ e : Int × Value, (∃ i : Nat, es'[i]? = some e) ↔ ∃ i : Nat, es[i]? = some e) → Q () { s with heap := h' }) :
    wpAny (model prog w) A (setRelay a wanted) Q E s := by
  obtain ⟨t', order, e1, p1, p2, p3, p4, p5, p6, p7, p8, p9⟩ := relaid_ok (t := t) (hashes := es.map (·.1)) (wanted := wanted) (by rw [hw]) (by rw [Array.size_map]; exact hn)
  rw [Array.size_map] at p1 p2 p6 p7 p8
  obtain ⟨fs, fg⟩ := filterMap_order p2 p6
  rw [relay_eq]
  refine wpAny_bind (wpAny_setState_of T.ho T.hd T.fits ?_)
  simp only
  have hz : ¬ sizeAbove wanted > sizeLine := by rw [hw, sizeLine_eq]; lia
  rw [if_neg hz]
  refine wpAny_bind ?_
  rw [e1]
  simp only
  have hne : ((order.filterMap (es[·]?)).size != es.size) = false := by rw [fs]; simp
  rw [if_neg (by rw [hne]; exact Bool.false_ne_true)]
  refine wpAny_pure ?_
  have hz2 : (order.filterMap (es[·]?)).size ≤ sizeLine := by rw [fs, sizeLine_eq]; lia
  refine wpAny_storeSet_of T.ho T.hd ?_ hz2
  have sb := Heap.SameBut.update s.heap a (Obj.putSet (order.filterMap (es[·]?)) t')
  refine hQ _ _ _ _ _ sb ⟨store_get T.ho T.hd _ _, T.ex, rfl, by rw [p1, fs], ?_, ?_⟩ p3 fs ?_
  · have same : ∀ i, i < t'.place.size → esHash (order.filterMap (es[·]?)) i = (es.map (·.1)).getD (order.getD i 0) 0 := by
      intro i hi
      unfold esHash
      rw [fg i (by lia)]
      generalize order.getD i 0 = z
      rw [Array.getD_eq_getD_getElem?, Array.getElem?_map]
    refine ⟨p9.dm, p9.ri, p9.le, p9.mm, p9.sz, fun i hi => ?_⟩
    rw [same i hi]
    exact p9.rc i hi
  · intro i e q
    have hi : i < es.size := by
      have h0 : i < (order.filterMap (es[·]?)).size := (Array.getElem?_eq_some_iff.mp q).1
      lia
    have q : (order.filterMap (es[·]?))[i]? = some e := q
    rw [fg i hi] at q
    obtain ⟨k, r, e1, e2⟩ := T.en _ e q
    exact ⟨k, r, e1, tupleKey_same e2 T.ho T.ex.1 sb⟩
  · intro e
    constructor
    · rintro ⟨i, q⟩
      have hi : i < es.size := by
        have h0 : i < (order.filterMap (es[·]?)).size := (Array.getElem?_eq_some_iff.mp q).1
        lia
      have q : (order.filterMap (es[·]?))[i]? = some e := q
      rw [fg i hi] at q
      exact ⟨_, q⟩
    · rintro ⟨i, q⟩
      have hi : i < es.size := (Array.getElem?_eq_some_iff.mp q).1
      obtain ⟨i', h1, h2⟩ := p7 i hi
      exact ⟨i', by rw [fg i' h1, h2]; exact q⟩
theorem esHash_insert (es : Array (Int × Value)) (p : Nat) (hp : p ≤ es.size) (h : Int) (x : Value) : esHash (insertAt es p (h, x)) = insH (esHash es) p h := by
  funext i
  unfold esHash insH
  rw [insertAt_get es p (h, x) hp i]
  (repeat' split) <;> rfl
theorem tooFull_of {t : SetTable} {hs : Nat → Int} (ok : TOk t hs) : t.tooFull = decide (t.place.size * 5 ≥ t.mask * 3) := by
  unfold SetTable.tooFull SetTable.fill
  rw [ok.dm]
  simp
theorem tok_plain {t : SetTable} {hs : Nat → Int} (ok : TOk t hs) (b : Bool) : TOk { t with plain := b } hs := ⟨ok.dm, ok.ri, ok.le, ok.mm, ok.sz, ok.rc⟩
theorem add_ok {a r : Addr} {k : List Int} {o : Obj} {es : Array (Int × Value)} {ep : Nat} {t : SetTable} (T : TabOk prog w s.heap a o es ep t) (h7 : t.mask = 7 → es.size ≤ 4) (h12 : es.size ≤ 14) (hk : IsTupleKey (intKind prog w) s.heap k r) (hu : A.units < cLine)
    {Q : Bool → Shared → Prop} (hno : KeyIn prog w s.heap es k → Q false s)
    (hnew : ¬ KeyIn prog w s.heap es k → ∀ h' o' es' ep' t', Heap.SameBut a s.heap h' → TabOk prog w h' a o' es' ep' t' → (t'.mask = 7 → es'.size ≤ 4) → es'.size = es.size + 1 →
      (∀ k', KeyIn prog w h' es' k' ↔ KeyIn prog w s.heap es k' ∨ k' = k) → Q true { s with heap := h' }) :
    wpAny (model prog w) A (setAddHashed a (.ref r) (hashOf prog w k)) Q E s := by
  unfold setAddHashed setAddHashedIn
  refine wpAny_holding (wpAny_bind (wpAny_setState_of T.ho T.hd T.fits ?_))
  simp only
  have nb : byScan (.ref r) es = false := rfl
  rw [if_neg (by rw [nb]; exact Bool.false_ne_true)]
  obtain ⟨K, hKb, hK⟩ := T.ok.free (hashOf prog w k)
  unfold setSearch
  have hmask : t.mask ≤ 31 := by rcases T.ok.mm with e | e <;> lia
  refine wpAny_bind (search_ok T hk hu ?_ K hK hKb 100000 0 none (by lia) (Nat.zero_le _) rfl (fun _ h => absurd h (by lia)))
  intro f hf
  cases hf with
  | there x h => exact wpAny_pure (hno h)
  | free n h1 h2 h3 =>
    have hj := pt_le (mask := t.mask) (hashOf prog w k) n
    have hsz : t.place.size + 1 ≤ t.mask := by
      rw [T.sz]
      rcases T.ok.mm with e | e
      · have := h7 e; lia
      · lia
    have ok' := T.ok.put (h := hashOf prog w k) h2 h3 (by lia) hsz
    have pp := put_place T.ok (pt t.mask (hashOf prog w k) n).j
    have p2 : (t.put (pt t.mask (hashOf prog w k) n).j).2 = below t.place (pt t.mask (hashOf prog w k) n).j := rfl
    have bs := below_spec T.ok.ri (pt t.mask (hashOf prog w k) n).j
    simp only
    refine wpAny_bind (wpAny_setState_of T.ho T.hd T.fits ?_)
    simp only
    generalize (pt t.mask (hashOf prog w k) n).j = j at *
    have hp : below t.place j ≤ es.size := by rw [← T.sz]; exact bs.1
    -- the tail, whatever 'plain' is
    have tail : ∀ b : Bool, wpAny (model prog w) A (do
        storeSet a (insertAt es (t.put j).2 (hashOf prog w k, Value.ref r)) { (t.put j).1 with plain := b }
        if (!false && SetTable.tooFull { (t.put j).1 with plain := b }) = true then do
          setRelay a (SetTable.grown (es.size + 1))
          pure true
        else pure true) Q E s := by
      intro b
      have isz := insertAt_size es (below t.place j) (hashOf prog w k, Value.ref r) hp
      have hz : (insertAt es (t.put j).2 (hashOf prog w k, Value.ref r)).size ≤ sizeLine := by rw [p2, isz, sizeLine_eq]; lia
      refine wpAny_bind (wpAny_storeSet_of T.ho T.hd ?_ hz)
      have sb := Heap.SameBut.update s.heap a (Obj.putSet (insertAt es (t.put j).2 (hashOf prog w k, Value.ref r)) { (t.put j).1 with plain := b })
      have T1 : TabOk prog w (s.heap.update a (Obj.putSet (insertAt es (t.put j).2 (hashOf prog w k, Value.ref r)) { (t.put j).1 with plain := b })) a { o with data := .set (insertAt es (t.put j).2 (hashOf prog w k, Value.ref r)) (ep + 1) { (t.put j).1 with plain := b } } (insertAt es (t.put j).2 (hashOf prog w k, Value.ref r)) (ep + 1) { (t.put j).1 with plain := b } := by
        refine ⟨store_get T.ho T.hd _ _, T.ex, rfl, ?_, ?_, ?_⟩
        · show (t.put j).1.place.size = _
          rw [p2, isz, pp]
          show (insertAt t.place (below t.place j) j).size = _
          rw [insertAt_size _ _ _ bs.1, T.sz]
        · rw [p2, esHash_insert es _ hp]
          exact tok_plain ok' b
        · intro i e q
          rw [p2, insertAt_get es _ _ hp i] at q
          by_cases c1 : i < below t.place j
          · rw [if_pos c1] at q
            obtain ⟨k', r', e1, e2⟩ := T.en i e q
            exact ⟨k', r', e1, tupleKey_same e2 T.ho T.ex.1 sb⟩
          · by_cases c2 : i = below t.place j
            · rw [if_neg c1, if_pos c2] at q
              exact ⟨k, r, (Option.some.inj q).symm, tupleKey_same hk T.ho T.ex.1 sb⟩
            · rw [if_neg c1, if_neg c2] at q
              obtain ⟨k', r', e1, e2⟩ := T.en _ e q
              exact ⟨k', r', e1, tupleKey_same e2 T.ho T.ex.1 sb⟩
      have keys : ∀ h' : Heap, (∀ k' r', IsTupleKey (intKind prog w) s.heap k' r' → IsTupleKey (intKind prog w) h' k' r') → ∀ es' : Array (Int × Value), (∀ e : Int × Value, (∃ i : Nat, es'[i]? = some e) ↔ ∃ i : Nat, (insertAt es (t.put j).2 (hashOf prog w k, Value.ref r))[i]? = some e) →
          ∀ k', KeyIn prog w h' es' k' ↔ KeyIn prog w s.heap es k' ∨ k' = k := by
        intro h' up es' hes k'
        have mem : ∀ e : Int × Value, (∃ i : Nat, (insertAt es (t.put j).2 (hashOf prog w k, Value.ref r))[i]? = some e) ↔ (∃ i : Nat, es[i]? = some e) ∨ e = (hashOf prog w k, Value.ref r) := by
          intro e
          rw [p2]
          constructor
          · rintro ⟨i, q⟩
            rw [insertAt_get es _ _ hp i] at q
            by_cases c1 : i < below t.place j
            · rw [if_pos c1] at q; exact .inl ⟨i, q⟩
            · by_cases c2 : i = below t.place j
              · rw [if_neg c1, if_pos c2] at q; exact .inr (Option.some.inj q).symm
              · rw [if_neg c1, if_neg c2] at q; exact .inl ⟨_, q⟩
          · rintro (⟨i, q⟩ | rfl)
            · by_cases c1 : i < below t.place j
              · exact ⟨i, by rw [insertAt_get es _ _ hp i, if_pos c1]; exact q⟩
              · exact ⟨i + 1, by rw [insertAt_get es _ _ hp, if_neg (by lia), if_neg (by lia)]; exact q⟩
            · exact ⟨below t.place j, by rw [insertAt_get es _ _ hp, if_neg (by lia), if_pos rfl]⟩
        constructor
        · rintro ⟨i, r', q, hk'⟩
          rcases (mem _).mp ((hes _).mp ⟨i, q⟩) with ⟨i', q'⟩ | q'
          · obtain ⟨k2, r2, e1, e2⟩ := T.en i' _ q'
            have er : r' = r2 := by have := congrArg Prod.snd e1; simpa using this
            subst er
            have : k2 = k' := (up _ _ e2).inj hk'
            subst this
            exact .inl ⟨i', r', q', e2⟩
          · have er : r' = r := by have := congrArg Prod.snd q'; simpa using this
            subst er
            exact .inr (hk'.inj (up _ _ hk))
        · rintro (⟨i, r', q, hk'⟩ | rfl)
          · obtain ⟨i', q'⟩ := (hes _).mpr ((mem _).mpr (.inl ⟨i, q⟩))
            exact ⟨i', r', q', up _ _ hk'⟩
          · obtain ⟨i', q'⟩ := (hes _).mpr ((mem _).mpr (.inr rfl))
            exact ⟨i', r, q', up _ _ hk⟩
      have full : SetTable.tooFull { (t.put j).1 with plain := b } = decide ((es.size + 1) * 5 ≥ t.mask * 3) := by
        rw [tooFull_of (tok_plain ok' b)]
        show decide ((t.put j).1.place.size * 5 ≥ (t.put j).1.mask * 3) = _
        rw [pp]
        show decide ((insertAt t.place (below t.place j) j).size * 5 ≥ t.mask * 3) = _
        rw [insertAt_size _ _ _ bs.1, T.sz]
      rw [full]
      by_cases cf : (es.size + 1) * 5 ≥ t.mask * 3
      · rw [decide_eq_true cf]
        simp only [Bool.not_false, Bool.and_self, if_true]
        have h31 : t.mask = 7 := by rcases T.ok.mm with e | e <;> lia
        have h4 : es.size = 4 := by have := h7 h31; lia
        refine wpAny_bind (relay_ok T1 (by rw [h4]; decide) (by rw [p2, isz]; lia) ?_)
        intro h' o' es' ep' t' sb' T' m' sz' mem'
        refine wpAny_pure ?_
        refine hnew h1 h' o' es' ep' t' (sb.trans sb') T' (fun e => by lia) (by rw [sz', p2, isz]) ?_
        refine keys h' (fun k' r' hq => ?_) es' mem'
        exact tupleKey_same (tupleKey_same hq T.ho T.ex.1 sb) T1.ho T1.ex.1 sb'
      · rw [decide_eq_false cf]
        simp only [Bool.not_false, Bool.and_false, Bool.false_eq_true, if_false]
        refine wpAny_pure ?_
        refine hnew h1 _ _ _ _ _ sb T1 (fun e => ?_) (by rw [p2, isz]) ?_
        · have e' : t.mask = 7 := by
            have : (t.put j).1.mask = t.mask := by rw [pp]
            rw [← this]; exact e
          rw [p2, isz]; lia
        · exact keys _ (fun k' r' hq => tupleKey_same hq T.ho T.ex.1 sb) _ (fun e => Iff.rfl)
    have plainEq : (t.put j).1 = { (t.put j).1 with plain := (t.put j).1.plain } := rfl
    cases hpl : (t.put j).1.plain with
    | true =>
      simp only [if_true]
      refine wpAny_bind (hashByValue_tuple hk ?_)
      simp only [if_true]
      have := tail true
      have e : ({ (t.put j).1 with plain := true } : SetTable) = (t.put j).1 := by rw [← hpl]
      rw [e] at this
      exact this
    | false =>
      simp only [Bool.false_eq_true, if_false]
      refine wpAny_bind (wpAny_pure ?_)
      simp only [if_true]
      have := tail false
      have e : ({ (t.put j).1 with plain := false } : SetTable) = (t.put j).1 := by rw [← hpl]
      rw [e] at this
      exact this
end
end FS
end
section
set_option maxRecDepth 100000
namespace FS
open PySem PySem.SetTable
/-- the number of different ones among the first i -/
def diffs (key : Nat → List Int) : Nat → Nat
  | 0 => 0
  | i + 1 => diffs key i + if (List.range i).any fun j => decide (key j = key i) then 0 else 1
theorem diffs_le (key : Nat → List Int) : ∀ i, diffs key i ≤ i
  | 0 => Nat.le_refl _
  | i + 1 => by
    have := diffs_le key i
    unfold diffs
    split <;> lia
theorem diffs_lt (key : Nat → List Int) : ∀ i, diffs key i < i ↔ ∃ a b, a < b ∧ b < i ∧ key a = key b
  | 0 => ⟨fun h => absurd h (by unfold diffs; lia), fun ⟨_, _, _, h, _⟩ => absurd h (by lia)⟩
  | i + 1 => by
    have ih := diffs_lt key i
    have le := diffs_le key i
    unfold diffs
    constructor
    · intro h
      by_cases c : ((List.range i).any fun j => decide (key j = key i)) = true
      · obtain ⟨j, hj, e⟩ := List.any_eq_true.mp c
        exact ⟨j, i, List.mem_range.mp hj, by lia, of_decide_eq_true e⟩
      · rw [if_neg c] at h
        obtain ⟨a, b, h1, h2, h3⟩ := ih.mp (by lia)
        exact ⟨a, b, h1, by lia, h3⟩
    · rintro ⟨a, b, h1, h2, h3⟩
      by_cases e : b = i
      · subst e
        have c : ((List.range b).any fun j => decide (key j = key b)) = true := List.any_eq_true.mpr ⟨a, List.mem_range.mpr h1, decide_eq_true h3⟩
        rw [if_pos c]; lia
      · have := ih.mpr ⟨a, b, h1, by lia, h3⟩
        split <;> lia
section
variable {prog : Program} {w : World} {A : Around} {R : Result → Shared → Prop} {I : Addr} {fp wr : List Addr} {G : Array GenState → Array GenState → Prop} {n : Nat} {P : Nat → Value → Prop} {St : Nat → Shared → Prop}
/-- the set holds the first i -/
def Holds (prog : Program) (w : World) (h : Heap) (S : Addr) (key : Nat → List Int) (i : Nat) : Prop :=
  ∃ o es ep t, TabOk prog w h S o es ep t ∧ (t.mask = 7 → es.size ≤ 4) ∧ es.size = diffs key i ∧ ∀ k', KeyIn prog w h es k' ↔ ∃ j, j < i ∧ key j = k'
theorem holds_keep {h h' : Heap} {S : Addr} {key : Nat → List Int} {i : Nat} (H : Holds prog w h S key i) (k : ∀ b o, (b = S ∨ o.cls = .type "tuple") → h.get? b = some o → h'.get? b = some o) : Holds prog w h' S key i := by
  obtain ⟨o, es, ep, t, T, h7, sz, ks⟩ := H
  have up : ∀ k' r, IsTupleKey (intKind prog w) h k' r → IsTupleKey (intKind prog w) h' k' r := by
    rintro k' r ⟨o, items, n, ho, hc, hd, hi⟩
    exact ⟨o, items, n, k r o (.inr hc) ho, hc, hd, hi⟩
  refine ⟨o, es, ep, t, ⟨k _ _ (.inl rfl) T.ho, T.ex, T.hd, T.sz, T.ok, fun i e q => ?_⟩, h7, sz, fun k' => ?_⟩
  · obtain ⟨k', r, e1, e2⟩ := T.en i e q
    exact ⟨k', r, e1, up _ _ e2⟩
  · rw [← ks k']
    constructor
    · rintro ⟨i, r, q, e⟩
      obtain ⟨k2, r2, e1, e2⟩ := T.en i _ q
      have er : r = r2 := by have := congrArg Prod.snd e1; simpa using this
      subst er
      have : k2 = k' := (up _ _ e2).inj e
      subst this
      exact ⟨i, r, q, e2⟩
    · rintro ⟨i, r, q, e⟩
      exact ⟨i, r, q, up _ _ e⟩
theorem set_loop (W : WalksS prog w A.in1 I fp wr G n P St) (S : Addr) (hSf : S ∉ fp) (hu : A.in1.units < cLine) (key : Nat → List Int) (rf : Nat → Addr) (hval : ∀ i v, P i v → v = .ref (rf i)) (hn : n ≤ 14)
    (hrf : ∀ i, i < n → rf i ∉ S :: wr) (hSt : ∀ i s, St i s → ∀ b ∈ wr, ∀ o, s.heap.get? b = some o → o.cls ≠ .type "tuple") :
    ∀ (k i : Nat) (s : Shared), n - i = k → i ≤ n → St i s → Holds prog w s.heap S key i → (∀ j, j < n → IsTupleKey (intKind prog w) s.heap (key j) (rf j)) →
      (∀ s', Moved (S :: wr) G s s' → Holds prog w s'.heap S key n → R (.ok (.ret .none)) s') →
      codeAny (model prog w) A (.builtin "set.update.loop" ⟨[.ref S, .ref I], []⟩) R s := by
  have hSw : S ∉ wr := fun h => hSf (W.sub _ h)
  have hsub : ∀ b ∈ wr, b ∈ S :: wr := fun b hb => List.mem_cons_of_mem _ hb
  have keep : ∀ {s s' : Shared} {i : Nat}, Moved wr G s s' → (∀ b ∈ wr, ∀ o, s.heap.get? b = some o → o.cls ≠ .type "tuple") → Holds prog w s.heap S key i → Holds prog w s'.heap S key i := by
    intro s s' i hm hw H
    refine holds_keep H fun b o hb e => hm.heap b o ?_ e
    intro hbw
    rcases hb with rfl | hc
    · exact hSw hbw
    · exact hw b hbw o e hc
  intro k
  induction k with
  | zero =>
    intro i s hk hi hst hS hkeys hR
    have hin : i = n := by lia
    subst hin
    refine codeAny_builtin PyProof.Rows.F.entry_set_update_loop ?_
    rw [Around.under_plainId PyProof.Rows.F.plain_set_update_loop _]
    show wpAny _ A.in1 (pyNext (.ref I) >>= _) _ _ s
    refine wpAny_bind (W.done s _ _ hst fun s' hm => ?_)
    show wpAny _ A.in1 (ret Value.none) _ _ s'
    exact wpAny_pure (hR s' (hm.mono hsub) (keep hm (hSt _ _ hst) hS))
  | succ k ih =>
    intro i s hk hi hst hS hkeys hR
    have hlt : i < n := by lia
    refine codeAny_builtin PyProof.Rows.F.entry_set_update_loop ?_
    rw [Around.under_plainId PyProof.Rows.F.plain_set_update_loop _]
    show wpAny _ A.in1 (pyNext (.ref I) >>= _) _ _ s
    refine wpAny_bind (W.item i s _ _ hlt hst fun v s' hP hst' hm => ?_)
    obtain rfl := hval i v hP
    have hS' := keep hm (hSt _ _ hst) hS
    have hkeys' : ∀ j, j < n → IsTupleKey (intKind prog w) s'.heap (key j) (rf j) := by
      intro j hj
      obtain ⟨o, items, m, ho, r⟩ := hkeys j hj
      exact ⟨o, items, m, hm.heap _ o (fun z => hrf j hj (List.mem_cons_of_mem _ z)) ho, r⟩
    show wpAny _ A.in1 (holding [Value.ref (rf i)] (setAdd S (.ref (rf i))) >>= _) _ _ s'
    refine wpAny_bind (wpAny_holding ?_)
    unfold setAdd
    refine wpAny_holding ?_
    refine wpAny_bind (wpAny_pyHash_tuple hu (hkeys' i hlt) ?_)
    obtain ⟨o, es, ep, t, T, h7, sz, ks⟩ := hS'
    -- behind the adding
    have next : ∀ (h' : Heap), Heap.SameBut S s'.heap h' → Holds prog w h' S key (i + 1) →
        wpAny (model prog w) A.in1 (again (.builtin "set.update.loop" ⟨[.ref S, .ref I], []⟩)) (fun fin s₁ => match fin with | .done f => R (.ok f) s₁ | .again c => c.quiet ∧ codeAny (model prog w) A c R s₁) (fun e s₁ => R (.error e) s₁) { s' with heap := h', toks := s'.toks + ((key i).length + 1) } := by
      intro h' hsb hH
      refine wpAny_pure ⟨plainId_quiet PyProof.Rows.F.plain_set_update_loop _, ih (i + 1) _ (by lia) hlt (W.frame _ s' _ _ hst' (Nat.le_add_right _ _) fun b hb o e => ?_) hH ?_ (fun s'' hm'' hS'' => ?_)⟩
      · rw [hsb.2 b (fun h : b = S => hSf (by rw [← h]; exact hb))]; exact e
      · intro j hj
        exact tupleKey_same (hkeys' j hj) T.ho T.ex.1 hsb
      · refine hR s'' (Moved.trans W.gtrans ((hm.mono hsub).then_heap (Nat.le_add_right _ _) fun b o hb e => ?_) hm'') hS''
        rw [hsb.2 b (fun h : b = S => hb (by rw [h]; exact List.mem_cons_self))]; exact e
    have dl := diffs_le key i
    refine add_ok (s := { s' with toks := s'.toks + ((key i).length + 1) }) T h7 (by lia) (hkeys' i hlt) hu (fun hin => ?_) (fun hnin h' o' es' ep' t' hsb T' h7' sz' ks' => ?_)
    · refine next s'.heap (Heap.SameBut.refl _ _) ⟨o, es, ep, t, T, h7, ?_, fun k' => ?_⟩
      · have hin' := (ks _).mp hin
        obtain ⟨j, hj, e⟩ := hin'
        unfold diffs
        rw [if_pos (List.any_eq_true.mpr ⟨j, List.mem_range.mpr hj, decide_eq_true e⟩), sz]; rfl
      · rw [ks]
        constructor
        · rintro ⟨j, hj, e⟩; exact ⟨j, by lia, e⟩
        · rintro ⟨j, hj, e⟩
          by_cases c : j = i
          · subst c; subst e; exact (ks _).mp hin
          · exact ⟨j, by lia, e⟩
    · refine next h' hsb ⟨o', es', ep', t', T', h7', ?_, fun k' => ?_⟩
      · unfold diffs
        have : ¬ (((List.range i).any fun j => decide (key j = key i)) = true) := by
          intro c
          obtain ⟨j, hj, e⟩ := List.any_eq_true.mp c
          exact hnin ((ks _).mpr ⟨j, List.mem_range.mp hj, of_decide_eq_true e⟩)
        rw [if_neg this, sz', sz]
      · rw [ks' k']
        constructor
        · rintro (h | rfl)
          · obtain ⟨j, hj, e⟩ := (ks _).mp h; exact ⟨j, by lia, e⟩
          · exact ⟨i, by lia, rfl⟩
        · rintro ⟨j, hj, e⟩
          by_cases c : j = i
          · subst c; exact .inr e.symm
          · exact .inl ((ks _).mpr ⟨j, by lia, e⟩)
end
section
variable {prog : Program} {w : World} {A : Around} {E : Value → Shared → Prop} {s : Shared}
theorem holds_fresh {h : Heap} {S : Addr} {led : Bool} (key : Nat → List Int) (ho : h.get? S = some { cls := .type "set", dict := none, data := .set #[] 0 (.fresh 0 0 led) }) : Holds prog w h S key 0 := by
  refine ⟨_, #[], 0, _, ⟨ho, ⟨rfl, rfl, rfl⟩, rfl, rfl, tok_fresh _ _ _ _, fun i e q => by simp at q⟩, fun _ => Nat.zero_le _, rfl, fun k' => ?_⟩
  constructor
  · rintro ⟨i, r, q, _⟩; simp at q
  · rintro ⟨j, hj, _⟩; lia
set_option maxHeartbeats 3200000 in
theorem call_set_tuples {l : Addr} {items : Array Value} {key : Nat → List Int} {rf : Nat → Addr} {Q : Value → Shared → Prop}
    (hh : A.handled = none) (hu : A.units + 20 < cLine) (hl : s.heap.IsList l items) (hn : items.size ≤ 14) (hi : ∀ (i : Nat) v, items[i]? = some v → v = .ref (rf i)) (hk : ∀ i, i < items.size → IsTupleKey (intKind prog w) s.heap (key i) (rf i))
    (h : ∀ (h' : Heap) (tk : Nat), Holds prog w h' s.heap.objs.size key items.size → (∀ b o, b < s.heap.objs.size → s.heap.get? b = some o → h'.get? b = some o) → Q (.ref s.heap.objs.size) { s with heap := h', toks := tk }) :
    wpAny (model prog w) A (call (.type "set") [.ref l]) Q E s := by
  obtain ⟨c, tl, hmro⟩ := F.called_set.mro
  have hmade := F.called_set.made
  have hsub := F.called_set.sub
  refine wpAny_call (codeAny_of_tree ?_)
  show wpAny _ _ (callAny (.type "set") _) _ _ _
  refine wpAny_pure ⟨Code.quiet_builtin _ (by decide +kernel), codeAny_builtin F.entry_type_call ?_⟩
  rw [Around.under_plain (weight_type_call_type "set" [.ref l] []) rfl]
  have h1 := F.called_set.notType
  have h2 := F.called_set.canCreate
  have hct := F.typeCall_set_1 (.ref l)
  repeat (any_goals (first | assumption | wp_step))
  refine codeAny_mono (code_set_new_1 (.ref l) (E := E) (Q₁ := fun obj s₁ => ∃ led : Bool, obj = .ref s.heap.objs.size ∧ s₁ = { s with heap := s.heap.push { cls := .type "set", dict := none, data := .set #[] 0 (.fresh 0 0 led) } }) fun led => ⟨led, rfl, rfl⟩) fun r s₁ hr => ?_
  cases r with
  | error e => exact hr
  | ok fl =>
    cases fl with
    | ret obj =>
      obtain ⟨led, rfl, rfl⟩ := hr
      have hS : (s.heap.push { cls := .type "set", dict := none, data := .set #[] 0 (.fresh 0 0 led) }).get? s.heap.objs.size = some { cls := .type "set", dict := none, data := .set #[] 0 (.fresh 0 0 led) } := Heap.get?_push_size _ rfl
      have hT : Shared.TypeIs { s with heap := s.heap.push { cls := .type "set", dict := none, data := .set #[] 0 (.fresh 0 0 led) } } (.ref s.heap.objs.size) "set" := ⟨_, hS, rfl⟩
      have hli := F.called_set.init.lookup
      have hbi := F.called_set.init.bind (.ref s.heap.objs.size)
      repeat (any_goals (first | assumption | wp_step))
      refine codeAny_mono (codeAny_call_builtin (R := wants (fun r s₂ => r = .none ∧ ∃ h' tk, s₂ = { s with heap := h', toks := tk } ∧
          Holds prog w h' s.heap.objs.size key items.size ∧
          (∀ b o, b < s.heap.objs.size → s.heap.get? b = some o → h'.get? b = some o)) E) F.called_set.init.plain F.entry_set_init (check_set_init_1 hT ?_)) fun r₂ s₂ hr₂ => ?_
      · obtain ⟨ol, hol, hcl, nl, hdl⟩ := hl
        obtain ⟨ocls, odict, odata, oslots⟩ := ol
        simp only at hcl hdl
        subst hcl; subst hdl
        have hol' : (s.heap.push { cls := .type "set", dict := none, data := .set #[] 0 (.fresh 0 0 led) }).get? l = some { cls := .type "list", dict := odict, data := .seq items nl, slots := oslots } := Heap.get?_push_of_some _ hol
        have hsls := F.sub_list_set
        have hslf := F.sub_list_frozenset
        have hne : (Value.type "list" == Value.type "dict") = false := by decide
        have hl1 : (s.heap.push { cls := .type "set", dict := none, data := .set #[] 0 (.fresh 0 0 led) }).IsList l items := ⟨_, hol', rfl, nl, rfl⟩
        unfold Builtin.«set.__init__» noKeywords Builtin.Frozenset.updateFrom
        generalize hPI : pyIter = PI
        wp_walk
        subst hPI
        refine wpAny_pyIter_list hl1 ?_
        refine wpAny_bind (wpAny_runValue ?_)
        have hlS : l < s.heap.objs.size := Heap.lt_size hol
        have hh3 : A.in1.in1.in1.handled = none := by simp [hh]
        have hneI : l ≠ (s.heap.push { cls := .type "set", dict := none, data := .set #[] 0 (.fresh 0 0 led) }).objs.size := by
          rw [Heap.size_push]; exact Nat.ne_of_lt (Nat.lt_succ_of_lt hlS)
        have hSf : s.heap.objs.size ∉ [(s.heap.push { cls := .type "set", dict := none, data := .set #[] 0 (.fresh 0 0 led) }).objs.size, l] := by
          rw [Heap.size_push]; simp only [List.mem_cons, List.mem_singleton, List.not_mem_nil, or_false, not_or]
          exact ⟨Nat.ne_of_lt (Nat.lt_succ_self _), Nat.ne_of_gt hlS⟩
        have rlt : ∀ i, i < items.size → rf i < s.heap.objs.size := fun i hi' => by
          obtain ⟨o, _, _, ho, _⟩ := hk i hi'
          exact Heap.lt_size ho
        refine set_loop ((Walks.list hh3 _ l hneI items).toS) s.heap.objs.size
          hSf (by simp only [Around.in1_units]; lia) key rf hi hn ?_ ?hW (items.size - 0) 0 _ (by lia) (Nat.zero_le _)
          ⟨⟨_, Heap.get?_push_size _ rfl, rfl, rfl⟩, (hl1.push _)⟩ ?hS0 ?hK ?hR
        · intro i hi'
          have := rlt i hi'
          rw [Heap.size_push]
          simp only [List.mem_cons, List.not_mem_nil, or_false, not_or]
          exact ⟨Nat.ne_of_lt this, Nat.ne_of_lt (Nat.lt_succ_of_lt this)⟩
        case hS0 =>
          exact holds_fresh (led := led) key (Heap.get?_push_of_some _ hS)
        case hK =>
          intro j hj
          obtain ⟨o, its, m, ho, r⟩ := hk j hj
          exact ⟨o, its, m, Heap.get?_push_of_some _ (Heap.get?_push_of_some _ ho), r⟩
        case hW =>
          intro i s1 hst b hb o e
          have hb' := List.mem_singleton.mp hb
          subst hb'
          obtain ⟨⟨o', ho', hc', _⟩, _⟩ := hst
          rw [ho'] at e
          cases e
          rw [hc']
          decide
        case hR =>
          intro s' hm hS'
          obtain ⟨h', g', d', tk', os'⟩ := s'
          have eg : g' = s.gens := hm.gens
          have ed : d' = s.drawn := hm.drawn
          have eo : os' = s.os := hm.os
          subst eg; subst ed; subst eo
          show wpAny _ _ _ _ _ _
          refine wpAny_pure ?_
          show wpAny _ _ (ret Value.none) _ _ _
          refine wpAny_pure ⟨rfl, h', tk', rfl, hS', fun b o hb e => ?_⟩
          have hb1 : b ≠ s.heap.objs.size := Nat.ne_of_lt hb
          have hb2 : b ≠ (s.heap.push { cls := .type "set", dict := none, data := .set #[] 0 (.fresh 0 0 led) }).objs.size := by
            rw [Heap.size_push]; exact Nat.ne_of_lt (Nat.lt_succ_of_lt hb)
          exact hm.heap b o (by simp only [List.mem_cons, List.mem_singleton, List.not_mem_nil, or_false, not_or]; exact ⟨hb1, hb2⟩) (Heap.get?_push_of_some _ (Heap.get?_push_of_some _ e))
      · cases r₂ with
        | error e => exact hr₂
        | ok fl₂ =>
          cases fl₂ with
          | ret r =>
            obtain ⟨rfl, h', tk, rfl, hS', hk'⟩ := hr₂
            repeat (any_goals (first | assumption | wp_step))
            exact h _ _ hS' hk'
          | _ => exact hr₂.elim
    | _ => exact hr.elim
end
end FS
end
section
set_option maxRecDepth 100000
namespace FS
open PySem
namespace F
theorem lri_no_len : typeLookup (.type "list_reverseiterator") "__len__" = pure none := by rw [typeLookup_type, builtinLookup_eq_fast]; kernel_rfl
theorem lri_hint : typeLookup (.type "list_reverseiterator") "__length_hint__" = pure (some (.builtin "list_reverseiterator.__length_hint__")) := by rw [typeLookup_type, builtinLookup_eq_fast]; kernel_rfl
theorem sub_lri : isSubtype (.type "list_reverseiterator") (.type "list_reverseiterator") = pure true := by rw [isSubtype_type]; kernel_rfl
theorem zip_no_len : typeLookup (.type "zip") "__len__" = pure none := by rw [typeLookup_type, builtinLookup_eq_fast]; kernel_rfl
theorem zip_no_hint : typeLookup (.type "zip") "__length_hint__" = pure none := by rw [typeLookup_type, builtinLookup_eq_fast]; kernel_rfl
end F
section
variable {prog : Program} {w : World} {A : Around} {s : Shared} {R : Result → Shared → Prop}
variable {I : Addr} {fp wr : List Addr} {G : Array GenState → Array GenState → Prop} {n : Nat} {P : Nat → Value → Prop} {St : Nat → Shared → Prop}
theorem hint_rev {E : Value → Shared → Prop} {Q : Bool → Shared → Prop} (hT : s.TypeIs (.ref I) "list_reverseiterator") (h : Q false s) : wpAny (model prog w) A (Builtin.List.listLengthHint (.ref I)) Q E s := by
  unfold Builtin.List.listLengthHint
  refine wpAny_bind (wpAny_specialOf hT F.lri_no_len ?_)
  show wpAny _ A (specialOf (Value.ref I) (Str.ofString "__length_hint__") >>= _) _ _ _
  refine wpAny_bind (wpAny_specialOf hT F.lri_hint ?_)
  have hsp : splitId "list_reverseiterator.__length_hint__" = some ("list_reverseiterator", "__length_hint__") := by decide +kernel
  simp only [hsp]
  refine wpAny_bind (wpAny_isInstance hT F.sub_lri ?_)
  simp only [Bool.not_true, Bool.false_eq_true, if_false]
  exact wpAny_pure h
theorem extend_rev (W : WalksS prog w A.in1 I fp wr G n P St) (hT : ∀ i s, St i s → s.TypeIs (.ref I) "list_reverseiterator") (S : Addr) (res : Value) (c₀ : Nat) (hst : St 0 s) (hSf : S ∉ fp) (hI : I ∈ fp)
    (hS : s.heap.get? S = some { cls := .type "list", data := .seq #[] c₀ })
    (hR : ∀ s' acc' c', Moved (S :: wr) G s s' → s'.heap.get? S = some { cls := .type "list", dict := none, data := .seq acc' c', slots := #[] } → ItemsOf P acc' n → R (.ok (.ret res)) s') (hn : n ≤ sizeLine := by size_fits) :
    wpAny (model prog w) A.in1 (Builtin.List.listExtendWith (.ref S) (.ref I) res)
      (fun fin s' => match fin with | .done f => R (.ok f) s' | .again c' => c'.quiet = true ∧ codeAny (model prog w) A c' R s') (fun e s' => R (.error e) s') s := by
  have hSI : S ≠ I := fun e => hSf (e ▸ hI)
  unfold Builtin.List.listExtendWith
  refine wpAny_bind (wpAny_typeOf (hT 0 _ hst) ?_)
  have h1 : Builtin.List.listSameRef (.ref S) (.ref I) = false := by simp [Builtin.List.listSameRef, hSI]
  have h2 : (Value.type "list_reverseiterator" == Value.type "list") = false := by decide
  have h3 : (Value.type "list_reverseiterator" == Value.type "tuple") = false := by decide
  simp only [h1, h2, h3, Bool.or_false, Bool.false_eq_true, if_false]
  refine wpAny_bind (W.self 0 _ _ _ hst ?_)
  refine wpAny_bind (wpAny_holding (hint_rev (hT 0 _ hst) ?_))
  show wpAny _ A.in1 (again (.builtin "list.extend.loop" ⟨[.ref S, .ref I, res], []⟩)) _ _ _
  refine wpAny_pure ⟨plainId_quiet PySem.F.plain_extend_loop _, codeAny_extend_loopS W hn _ hSf _ n 0 _ _ _ rfl (Nat.zero_le _) hst hS (ItemsOf.nil P) fun s' acc' c' hm hS' hacc => ?_⟩
  exact hR s' acc' c' hm hS' hacc
theorem list_init_rev (W : WalksS prog w A.in1 I fp wr G n P St) (hT : ∀ i s, St i s → s.TypeIs (.ref I) "list_reverseiterator") (S : Addr) (hst : St 0 s) (hSf : S ∉ fp) (hI : I ∈ fp)
    (hS : s.heap.get? S = some { cls := .type "list", data := .seq #[] })
    (hR : ∀ s' acc' c', Moved (S :: wr) G s s' → s'.heap.get? S = some { cls := .type "list", dict := none, data := .seq acc' c', slots := #[] } → ItemsOf P acc' n → R (.ok (.ret .none)) s') (hn : n ≤ sizeLine := by size_fits) :
    wpAny (model prog w) A.in1 (Builtin.«list.__init__» ⟨[.ref S, .ref I], []⟩)
      (fun fin s' => match fin with | .done f => R (.ok f) s' | .again c' => c'.quiet = true ∧ codeAny (model prog w) A c' R s') (fun e s' => R (.error e) s') s := by
  show wpAny _ A.in1 (do let old ← Builtin.List.listItems (.ref S); Builtin.List.listUpdate (.ref S) (fun _ => #[]); letGo old.toList.reverse; Builtin.List.listExtendWith (.ref S) (.ref I) .none) _ _ s
  refine wpAny_bind ?_
  unfold Builtin.List.listItems
  refine wpAny_bind (wpAny_seqItems hS rfl (wpAny_pure ?_))
  show wpAny _ A.in1 (updateSeq S (fun _ => #[]) >>= fun _ => letGo (#[] : Array Value).toList.reverse >>= fun _ => Builtin.List.listExtendWith (.ref S) (.ref I) .none) _ _ s
  refine wpAny_bind (wpAny_updateSeq hS rfl ?_)
  have hS₂ := Heap.get?_update_self (Obj.mapSeq (fun _ => (#[] : Array Value))) hS rfl
  have oth : ∀ b o, b ≠ S → s.heap.get? b = some o → (s.heap.update S (Obj.mapSeq (fun _ => (#[] : Array Value)))).get? b = some o :=
    fun b o hb e => (Heap.get?_update_other _ _ (Ne.symm hb)).trans e
  refine wpAny_bind (wpAny_letGo ?_)
  refine extend_rev (hn := hn) W hT S .none _ (W.frame 0 s _ s.toks hst (Nat.le_refl _) fun b hb o e => oth b o (fun h => hSf (h ▸ hb)) e) hSf hI hS₂ fun s' acc' c' hm hS' hacc => ?_
  exact hR s' acc' c' (Moved.trans W.gtrans ((Moved.refl W.grefl).then_heap (Nat.le_refl _) fun b o hb e => oth b o (fun h => hb (h ▸ List.mem_cons_self)) e) hm) hS' hacc
end
section
variable {prog : Program} {w : World} {A : Around} {E : Value → Shared → Prop} {s : Shared}
/-- list(reversed(l)), the iterator at I just made -/
theorem call_list_rev {Q : Value → Shared → Prop} {I l : Addr} {items : Array Value} (hh : A.handled = none) (hne : l ≠ I) (hit : s.heap.IsRevIter I l ((items.size : Int) - 1)) (hl : s.heap.IsList l items) (hn : items.size ≤ sizeLine)
    (hQ : ∀ h' tk (acc : Array Value) c', (∀ b o, b ≠ I → s.heap.get? b = some o → h'.get? b = some o) → h'.get? s.heap.objs.size = some { cls := .type "list", dict := none, data := .seq acc c', slots := #[] } →
      acc.size = items.size → (∀ (j : Nat) v, acc[j]? = some v → items[items.size - 1 - j]? = some v) → Q (.ref s.heap.objs.size) { s with heap := h', toks := tk }) :
    wpAny (model prog w) A (call (.type "list") [.ref I]) Q E s := by
  have W := (Walks.listRev (prog := prog) (w := w) (A := A.in1.in1) (by simp [hh]) I l hne items).toS
  have hIlt : I < s.heap.objs.size := by obtain ⟨o, ho, _⟩ := hit; exact Heap.lt_size ho
  have hllt : l < s.heap.objs.size := by obtain ⟨o, ho, _⟩ := hl; exact Heap.lt_size ho
  have hSf : s.heap.objs.size ∉ [I, l] := by
    simp only [List.mem_cons, List.not_mem_nil, or_false, not_or]
    exact ⟨Nat.ne_of_gt hIlt, Nat.ne_of_gt hllt⟩
  refine callType_codes (Q₁ := fun obj s₁ => obj = .ref s.heap.objs.size ∧ s₁ = { s with heap := s.heap.push { cls := .type "list", data := .seq #[] } }) PySem.F.called_list (PySem.F.typeCall_list_1 _) PySem.F.entry_list_init
    (code_list_new _ ⟨rfl, rfl⟩) fun obj s₁ h₁ => ?_
  obtain ⟨rfl, rfl⟩ := h₁
  have hS : (s.heap.push { cls := .type "list", data := .seq #[] }).get? s.heap.objs.size = some { cls := .type "list", data := .seq #[] } := Heap.get?_push_size _ rfl
  have hit0 : s.heap.IsRevIter I l ((items.size : Int) - 1 - ((0 : Nat) : Int)) := by simpa using hit
  refine ⟨⟨_, hS, rfl⟩, PySem.F.args_list_init_2 _ _, list_init_rev (hn := hn) W (fun i s st => st.2.1.typeIs) _ ⟨Nat.zero_le _, hit0.at fun o e => Heap.get?_push_of_some _ e, hl.push _⟩ hSf (by simp) hS fun s' acc' c' hm hS' hacc => ?_⟩
  refine ⟨rfl, ?_⟩
  rw [Moved.eq_with hm]
  refine hQ s'.heap s'.toks acc' c' (fun b o hb e => hm.heap b o ?_ (Heap.get?_push_of_some _ e)) hS' hacc.1 hacc.2
  simp only [List.mem_cons, List.not_mem_nil, or_false, not_or]
  exact ⟨Nat.ne_of_lt (Heap.lt_size e), hb⟩
end

/-! ### zip, its tuple kept by another -/
abbrev IsZipK (h : Heap) (z TI TO : Addr) (f0 : Value) (f1 : Bool) : Prop :=
  h.get? z = some { cls := .type "zip", dict := none, data := .fields #[f0, .bool f1, .bool false, .ref TI, .ref TO], slots := #[] }
section
variable {prog : Program} {w : World} {A : Around} {E : Value → Shared → Prop} {s : Shared}
theorem owned_kept {z TI TO T : Addr} {f1 : Bool} {oT : Obj} {Q : Bool → Shared → Prop} (hz : IsZipK s.heap z TI TO (rawInt T) f1) (hT : s.heap.get? T = some oT)
    (h : ∀ h', IsZipK h' z TI TO (rawInt T) true → Heap.SameBut z s.heap h' → Q false { s with heap := h' }) : wpAny (model prog w) A (Builtin.SmallTypes.ownedTupleIsFree (.ref z)) Q E s := by
  unfold Builtin.SmallTypes.ownedTupleIsFree
  refine wpAny_bind (wpAny_field hz rfl (x := rawInt T) rfl ?_)
  show wpAny _ _ (loadIfAlive (T : Int).toNat >>= _) _ _ _
  have hal : ∀ {Q' : Option Obj → Shared → Prop}, Q' (some oT) s → wpAny (model prog w) A (loadIfAlive ((T : Nat) : Int).toNat) Q' E s := by
    intro Q' hq
    have e : s.heap.get? ((T : Nat) : Int).toNat = some oT := by simpa using hT
    intro Γ p hΓ
    unfold loadIfAlive
    rw [Sem.wp_loadIfAlive, e]
    exact hq
  refine wpAny_bind (hal ?_)
  simp only [Option.isNone_some, Bool.false_eq_true, if_false]
  refine wpAny_bind (wpAny_field hz rfl (x := .bool f1) rfl ?_)
  cases f1 with
  | true =>
    rw [if_neg (by decide)]
    exact wpAny_pure (h s.heap hz (Heap.SameBut.refl _ _))
  | false =>
    rw [if_pos (by decide)]
    refine wpAny_bind (wpAny_setField_rec hz (by simp) fun h' hz' hs' => wpAny_pure (h h' hz' hs'))

theorem zipK_next_item {z TI TO T i1 i2 l1 l2 : Addr} {f1 : Bool} {oT : Obj} {k1 k2 : Nat} {xs ys : Array Value} {x y a b : Value} {Q : Value → Shared → Prop} (D : ZipApart z TI TO i1 i2 l1 l2)
    (hz : IsZipK s.heap z TI TO (rawInt T) f1) (hT : s.heap.get? T = some oT) (hTI : IsPair s.heap TI (.ref i1) (.ref i2)) (hTO : IsPair s.heap TO a b)
    (h1 : s.heap.IsListIter i1 l1 k1) (h2 : s.heap.IsListIter i2 l2 k2) (hl1 : s.heap.IsList l1 xs) (hl2 : s.heap.IsList l2 ys) (hx : xs[k1]? = some x) (hy : ys[k2]? = some y)
    (hQ : ∀ h', IsZipK h' z TI TO (rawInt T) true → IsPair h' TO a b → h'.IsListIter i1 l1 (k1 + 1) → h'.IsListIter i2 l2 (k2 + 1) → IsPair h' s.heap.objs.size x y → h'.objs.size = s.heap.objs.size + 1 →
      (∀ c o, c ≠ z → c ≠ TO → c ≠ i1 → c ≠ i2 → s.heap.get? c = some o → h'.get? c = some o) → Q (.ref s.heap.objs.size) { s with heap := h' }) :
    wpAny (model prog w) A (Builtin.«zip.__next__» ⟨[.ref z], []⟩) (fun fin s' => ∃ v, fin = .done (.ret v) ∧ Q v s') E s := by
  show wpAny _ _ (field (.ref z) 2 >>= _) _ _ _
  refine wpAny_bind (wpAny_field hz rfl (x := .bool false) rfl ?_)
  show wpAny _ _ (field (.ref z) 3 >>= _) _ _ _
  refine wpAny_bind (wpAny_field hz rfl (x := .ref TI) rfl ?_)
  refine wpAny_bind (wpAny_seqItems hTI rfl ?_)
  show wpAny _ _ (Builtin.SmallTypes.ownedTupleIsFree (.ref z) >>= _) _ _ _
  refine wpAny_bind (owned_kept hz hT fun h₁ hz₁ hs₁ => ?_)
  simp only [Bool.false_eq_true, if_false]
  refine wpAny_bind ?_
  rw [← Array.forIn_toList]
  simp only [List.forIn_cons, List.forIn_nil]
  refine wpAny_bind (wpAny_bind (wpAny_holding ?_))
  show wpAny _ _ (Builtin.SmallTypes.nextOf (.ref i1) >>= _) _ _ _
  refine wpAny_bind (wpAny_nextOf_list_item (h1.extBut hs₁.extBut D.i1z) (hl1.extBut hs₁.extBut D.l1z) hx fun h₂ h1₂ hs₂ => wpAny_pure (wpAny_pure ?_))
  refine wpAny_bind (wpAny_bind (wpAny_holding ?_))
  show wpAny _ _ (Builtin.SmallTypes.nextOf (.ref i2) >>= _) _ _ _
  refine wpAny_bind (wpAny_nextOf_list_item ((h2.extBut hs₁.extBut D.i2z).extBut hs₂.extBut D.i12.symm)
    ((hl2.extBut hs₁.extBut D.l2z).extBut hs₂.extBut D.l2i1) hy fun h₄ h2₄ hs₄ => wpAny_pure (wpAny_pure (wpAny_pure ?_)))
  show wpAny _ _ (newTuple [x, y] >>= _) _ _ _
  refine wpAny_bind (wpAny_newTuple ?_ (by show 2 ≤ sizeLine; rw [sizeLine_eq]; lia))
  have hsz : h₄.objs.size = s.heap.objs.size := by rw [hs₄.1, hs₂.1, hs₁.1]
  have hz₄ : IsZipK h₄ z TI TO (rawInt T) true := hs₄.extBut _ _ D.i2z.symm (hs₂.extBut _ _ D.i1z.symm hz₁)
  have hk₄ : ∀ c o, c ≠ z → c ≠ TO → c ≠ i1 → c ≠ i2 → s.heap.get? c = some o → h₄.get? c = some o := fun c o c1 c2 c3 c4 e =>
    hs₄.extBut _ _ c4 (hs₂.extBut _ _ c3 (hs₁.extBut _ _ c1 e))
  have h1₄ : h₄.IsListIter i1 l1 (k1 + 1) := h1₂.extBut hs₄.extBut D.i12
  have hTO₄ : IsPair h₄ TO a b := hs₄.extBut _ _ D.TOi2 (hs₂.extBut _ _ D.TOi1 (hs₁.extBut _ _ D.TOz hTO))
  refine wpAny_pure ⟨_, rfl, ?_⟩
  show Q (.ref h₄.objs.size) _
  rw [hsz]
  have up : ∀ c o, h₄.get? c = some o → (h₄.push { cls := .type "tuple", data := .seq #[x, y] }).get? c = some o := fun c o e => Heap.get?_push_of_some _ e
  refine hQ _ (up _ _ hz₄) (up _ _ hTO₄) (h1₄.at fun o e => up _ o e) (h2₄.at fun o e => up _ o e) ?_ ?_ fun c o c1 c2 c3 c4 e => up c o (hk₄ c o c1 c2 c3 c4 e)
  · rw [← hsz]; exact Heap.get?_push_size _ rfl
  · rw [Heap.size_push, hsz]
theorem zipK_next_end {z TI TO T i1 i2 l1 l2 : Addr} {f1 : Bool} {oT : Obj} {k1 k2 : Nat} {xs ys : Array Value} {Q : Fin → Shared → Prop} (hh : A.handled = none) (D : ZipApart z TI TO i1 i2 l1 l2)
    (hz : IsZipK s.heap z TI TO (rawInt T) f1) (hT : s.heap.get? T = some oT) (hTI : IsPair s.heap TI (.ref i1) (.ref i2))
    (h1 : s.heap.IsListIter i1 l1 k1) (hl1 : s.heap.IsList l1 xs) (hend : xs[k1]? = none)
    (hE : ∀ h' e, (∀ c o, c ≠ z → c ≠ TO → c ≠ i1 → c ≠ i2 → s.heap.get? c = some o → h'.get? c = some o) → (∃ o, h'.get? e = some o ∧ o.cls = .type "StopIteration") → E (.ref e) { s with heap := h' }) :
    wpAny (model prog w) A (Builtin.«zip.__next__» ⟨[.ref z], []⟩) Q E s := by
  show wpAny _ _ (field (.ref z) 2 >>= _) _ _ _
  refine wpAny_bind (wpAny_field hz rfl (x := .bool false) rfl ?_)
  show wpAny _ _ (field (.ref z) 3 >>= _) _ _ _
  refine wpAny_bind (wpAny_field hz rfl (x := .ref TI) rfl ?_)
  refine wpAny_bind (wpAny_seqItems hTI rfl ?_)
  show wpAny _ _ (Builtin.SmallTypes.ownedTupleIsFree (.ref z) >>= _) _ _ _
  refine wpAny_bind (owned_kept hz hT fun h₁ hz₁ hs₁ => ?_)
  simp only [Bool.false_eq_true, if_false]
  refine wpAny_bind ?_
  rw [← Array.forIn_toList]
  simp only [List.forIn_cons, List.forIn_nil]
  refine wpAny_bind (wpAny_bind (wpAny_holding ?_))
  show wpAny _ _ (Builtin.SmallTypes.nextOf (.ref i1) >>= _) _ _ _
  refine wpAny_bind (wpAny_nextOf_list_end hh (h1.extBut hs₁.extBut D.i1z) (hl1.extBut hs₁.extBut D.l1z) hend fun h₂ e hs₂ he => ?_)
  exact hE h₂ e (fun c o c1 _ c3 _ q => hs₂ _ _ c3 (hs₁.extBut _ _ c1 q)) he
theorem pyNext_zipK_item {z TI TO T i1 i2 l1 l2 : Addr} {f1 : Bool} {oT : Obj} {k1 k2 : Nat} {xs ys : Array Value} {x y a b : Value} {Q : Option Value → Shared → Prop} (D : ZipApart z TI TO i1 i2 l1 l2)
    (hz : IsZipK s.heap z TI TO (rawInt T) f1) (hT' : s.heap.get? T = some oT) (hTI : IsPair s.heap TI (.ref i1) (.ref i2)) (hTO : IsPair s.heap TO a b)
    (h1 : s.heap.IsListIter i1 l1 k1) (h2 : s.heap.IsListIter i2 l2 k2) (hl1 : s.heap.IsList l1 xs) (hl2 : s.heap.IsList l2 ys) (hx : xs[k1]? = some x) (hy : ys[k2]? = some y)
    (hQ : ∀ h', IsZipK h' z TI TO (rawInt T) true → IsPair h' TO a b → h'.IsListIter i1 l1 (k1 + 1) → h'.IsListIter i2 l2 (k2 + 1) → IsPair h' s.heap.objs.size x y → h'.objs.size = s.heap.objs.size + 1 →
      (∀ c o, c ≠ z → c ≠ TO → c ≠ i1 → c ≠ i2 → s.heap.get? c = some o → h'.get? c = some o) → Q (some (.ref s.heap.objs.size)) { s with heap := h' }) :
    wpAny (model prog w) A (pyNext (.ref z)) Q E s := by
  have hT : s.TypeIs (.ref z) "zip" := ⟨_, hz, rfl⟩
  unfold pyNext
  exact wpAny_bind (wpAny_attempt (wpAny_callSpecial?_slot (name := Str.ofString "__next__") hT PySem.F.slot_zip_next
    (wpAny_call_entry PySem.F.slot_zip_next hT PySem.F.entry_zip_next
      (zipK_next_item D hz hT' hTI hTO h1 h2 hl1 hl2 hx hy fun h' a1 a2 a3 a4 a5 a6 a7 => wpAny_pure (hQ h' a1 a2 a3 a4 a5 a6 a7)) (PySem.F.args_zip_next_1 _))))
theorem pyNext_zipK_end {z TI TO T i1 i2 l1 l2 : Addr} {f1 : Bool} {oT : Obj} {k1 : Nat} {xs : Array Value} {Q : Option Value → Shared → Prop} (hh : A.handled = none) (D : ZipApart z TI TO i1 i2 l1 l2)
    (hz : IsZipK s.heap z TI TO (rawInt T) f1) (hT' : s.heap.get? T = some oT) (hTI : IsPair s.heap TI (.ref i1) (.ref i2))
    (h1 : s.heap.IsListIter i1 l1 k1) (hl1 : s.heap.IsList l1 xs) (hend : xs[k1]? = none)
    (hQ : ∀ h', (∀ c o, c ≠ z → c ≠ TO → c ≠ i1 → c ≠ i2 → s.heap.get? c = some o → h'.get? c = some o) → Q none { s with heap := h' }) : wpAny (model prog w) A (pyNext (.ref z)) Q E s := by
  have hT : s.TypeIs (.ref z) "zip" := ⟨_, hz, rfl⟩
  unfold pyNext
  refine wpAny_bind (wpAny_attempt (wpAny_callSpecial?_slot (name := Str.ofString "__next__") hT PySem.F.slot_zip_next
    (wpAny_call_entry PySem.F.slot_zip_next hT PySem.F.entry_zip_next (zipK_next_end (k2 := 0) (ys := #[]) hh D hz hT' hTI h1 hl1 hend fun h' e hk he => ?_) (PySem.F.args_zip_next_1 _))))
  obtain ⟨o, ho, hc⟩ := he
  refine wpAny_bind (wpAny_isInstance (T := "StopIteration") (b := true) ⟨o, ho, hc⟩ isSubtype_stop ?_)
  exact wpAny_pure (hQ _ hk)
/-- list's loop by an invariant of its own -/
theorem extend_loop_inv {R : Result → Shared → Prop} {I S : Addr} {n : Nat} (hn : n ≤ sizeLine) (res : Value) (J : Nat → Array Value → Shared → Prop) (Fin : Array Value → Shared → Prop)
    (hsz : ∀ i acc s, J i acc s → acc.size = i)
    (item : ∀ i acc s (E : Value → Shared → Prop), i < n → J i acc s → wpAny (model prog w) A.in1 (pyNext (.ref I)) (fun r s' => ∃ v c, r = some v ∧ s'.heap.get? S = some { cls := .type "list", dict := none, data := .seq acc c, slots := #[] } ∧
      J (i + 1) (acc.push v) { s' with heap := s'.heap.update S (Obj.mapSeq (·.push v)) }) E s)
    (done : ∀ acc s (E : Value → Shared → Prop), J n acc s → wpAny (model prog w) A.in1 (pyNext (.ref I)) (fun r s' => r = none ∧ Fin acc s') E s)
    (hR : ∀ acc s', Fin acc s' → R (.ok (.ret res)) s') :
    ∀ (k i : Nat) (acc : Array Value) (s : Shared), n - i = k → i ≤ n → J i acc s → codeAny (model prog w) A (.builtin "list.extend.loop" ⟨[.ref S, .ref I, res], []⟩) R s := by
  intro k
  induction k with
  | zero =>
    intro i acc s hk hi hJ
    have hin : i = n := by lia
    subst hin
    refine codeAny_builtin PySem.F.entry_extend_loop ?_
    rw [Around.under_plainId PySem.F.plain_extend_loop _]
    show wpAny _ A.in1 (pyNext (.ref I) >>= _) _ _ s
    refine wpAny_bind (wpAny_mono (done acc s _ hJ) (fun r s' zz => ?_) fun _ _ e => e)
    obtain ⟨hr, hf⟩ := zz
    subst hr
    exact wpAny_pure (hR acc s' hf)
  | succ k ih =>
    intro i acc s hk hi hJ
    have hlt : i < n := by lia
    refine codeAny_builtin PySem.F.entry_extend_loop ?_
    rw [Around.under_plainId PySem.F.plain_extend_loop _]
    show wpAny _ A.in1 (pyNext (.ref I) >>= _) _ _ s
    refine wpAny_bind (wpAny_mono (item i acc s _ hlt hJ) (fun r s' zz => ?_) fun _ _ e => e)
    obtain ⟨v, c, hr, hS, hJ'⟩ := zz
    subst hr
    have hs0 := hsz i acc s hJ
    show wpAny _ A.in1 (updateSeq S (·.push v) >>= _) _ _ _
    refine wpAny_bind ?_
    refine wpAny_updateSeq hS rfl (wpAny_pure ⟨plainId_quiet PySem.F.plain_extend_loop _, ih (i + 1) _ _ (by lia) hlt hJ'⟩)
      (by rw [hs0]; lia) (by show (acc.push v).size ≤ sizeLine + 1; rw [Array.size_push, hs0]; lia)

/-- one and the other list, of one length, zipped into a new list -/
structure ZipJ (s₀ : Shared) (z TI TO i1 i2 l1 l2 S N : Nat) (xs ys : Array Value) (i : Nat) (acc : Array Value) (s : Shared) : Prop where
  st : ∃ h', s = { s₀ with heap := h' }
  sz : acc.size = i
  hs : s.heap.objs.size = N + i
  ac : ∀ j, j < i → ∃ x y, xs[j]? = some x ∧ ys[j]? = some y ∧ acc[j]? = some (.ref (N + j)) ∧ IsPair s.heap (N + j) x y
  zz : (i = 0 ∧ IsZip s.heap z TI TO .none) ∨ (0 < i ∧ ∃ f1, IsZipK s.heap z TI TO (rawInt N) f1)
  ti : IsPair s.heap TI (.ref i1) (.ref i2)
  to : ∃ a b, IsPair s.heap TO a b
  h1 : s.heap.IsListIter i1 l1 i
  h2 : s.heap.IsListIter i2 l2 i
  l1 : s.heap.IsList l1 xs
  l2 : s.heap.IsList l2 ys
  ls : ∃ c, s.heap.get? S = some { cls := .type "list", dict := none, data := .seq acc c, slots := #[] }
  old : ∀ (b : Nat) o, b < N → b ≠ z → b ≠ TO → b ≠ i1 → b ≠ i2 → b ≠ S → s₀.heap.get? b = some o → s.heap.get? b = some o
theorem zip_item {s₀ : Shared} {z TI TO i1 i2 l1 l2 S N : Nat} {xs ys : Array Value} (D : ZipApart z TI TO i1 i2 l1 l2) (hSz : S ≠ z) (hSTI : S ≠ TI) (hSTO : S ≠ TO) (hS1 : S ≠ i1) (hS2 : S ≠ i2) (hSl1 : S ≠ l1) (hSl2 : S ≠ l2)
    (hN : z < N ∧ TI < N ∧ TO < N ∧ i1 < N ∧ i2 < N ∧ l1 < N ∧ l2 < N ∧ S < N) (hxy : xs.size = ys.size) {i : Nat} (hi : i < xs.size) {acc : Array Value} {s : Shared} (J : ZipJ s₀ z TI TO i1 i2 l1 l2 S N xs ys i acc s) {E : Value → Shared → Prop} :
    wpAny (model prog w) A (pyNext (.ref z)) (fun r s' => ∃ v c, r = some v ∧ s'.heap.get? S = some { cls := .type "list", dict := none, data := .seq acc c, slots := #[] } ∧
      ZipJ s₀ z TI TO i1 i2 l1 l2 S N xs ys (i + 1) (acc.push v) { s' with heap := s'.heap.update S (Obj.mapSeq (·.push v)) }) E s := by
  obtain ⟨h0, rfl⟩ := J.st
  have hx : xs[i]? = some xs[i] := Array.getElem?_eq_getElem hi
  have hy : ys[i]? = some (ys[i]'(by lia)) := Array.getElem?_eq_getElem (by lia)
  obtain ⟨a, b, hTO⟩ := J.to
  obtain ⟨c, hS⟩ := J.ls
  have hsz : h0.objs.size = N + i := J.hs
  -- what is behind, whichever way
  have fin : ∀ h' : Heap, (∃ f1, IsZipK h' z TI TO (rawInt N) f1) → (∃ a b, IsPair h' TO a b) → h'.IsListIter i1 l1 (i + 1) → h'.IsListIter i2 l2 (i + 1) → IsPair h' (N + i) xs[i] (ys[i]'(by lia)) → h'.objs.size = N + i + 1 →
      (∀ (c : Nat) o, c ≠ z → c ≠ TO → c ≠ i1 → c ≠ i2 → h0.get? c = some o → h'.get? c = some o) →
      ∃ v c, (some (Value.ref (N + i)) : Option Value) = some v ∧ h'.get? S = some { cls := .type "list", dict := none, data := .seq acc c, slots := #[] } ∧
        ZipJ s₀ z TI TO i1 i2 l1 l2 S N xs ys (i + 1) (acc.push v) { s₀ with heap := h'.update S (Obj.mapSeq (·.push v)) } := by
    intro h' ⟨f1, hz'⟩ ⟨a', b', hTO'⟩ h1' h2' hT' hs' hk'
    have hS' : h'.get? S = some { cls := .type "list", dict := none, data := .seq acc c, slots := #[] } := hk' S _ hSz hSTO hS1 hS2 hS
    refine ⟨.ref (N + i), c, rfl, hS', ?_⟩
    have up : ∀ (b : Nat) o, b ≠ S → h'.get? b = some o → (h'.update S (Obj.mapSeq (·.push (.ref (N + i))))).get? b = some o := fun b o hb e => (Heap.get?_update_other _ _ (Ne.symm hb)).trans e
    have hS'' := Heap.get?_update_self (Obj.mapSeq (·.push (Value.ref (N + i)))) hS' rfl
    refine ⟨⟨_, rfl⟩, by rw [Array.size_push, J.sz], by show (h'.update S _).objs.size = _; rw [Heap.size_update, hs']; lia, ?_, .inr ⟨by lia, f1, up _ _ (Ne.symm hSz) hz'⟩, up _ _ (Ne.symm hSTI) (hk' _ _ D.TIz D.TITO D.TIi1 D.TIi2 J.ti), ⟨a', b', up _ _ (Ne.symm hSTO) hTO'⟩,
      h1'.at fun o e => up _ o (Ne.symm hS1) e, h2'.at fun o e => up _ o (Ne.symm hS2) e, (J.l1.at fun o e => hk' _ o D.l1z D.l1TO D.l1i1 D.l1i2 e).at fun o e => up _ o (Ne.symm hSl1) e,
      (J.l2.at fun o e => hk' _ o D.l2z D.l2TO D.l2i1 D.l2i2 e).at fun o e => up _ o (Ne.symm hSl2) e, ⟨_, hS''⟩, fun b o hb b1 b2 b3 b4 b5 e => up b o b5 (hk' b o b1 b2 b3 b4 (J.old b o hb b1 b2 b3 b4 b5 e))⟩
    intro j hj
    by_cases c : j = i
    · subst c
      exact ⟨_, _, hx, hy, by rw [Array.getElem?_push, if_pos J.sz.symm], up _ _ (by lia) hT'⟩
    · obtain ⟨x, y, e1, e2, e3, e4⟩ := J.ac j (by lia)
      refine ⟨x, y, e1, e2, ?_, up _ _ (by lia) (hk' _ _ (by lia) (by lia) (by lia) (by lia) e4)⟩
      rw [Array.getElem?_push, if_neg (by rw [J.sz]; lia)]; exact e3
  rcases J.zz with ⟨rfl, hz⟩ | ⟨hpos, f1, hz⟩
  · refine wpAny_pyNext_zip_item D hz J.ti hTO J.h1 J.h2 J.l1 J.l2 hx hy fun h' a1 a2 a3 a4 a5 a6 a7 => ?_
    have a1' : IsZipK h' z TI TO (rawInt h0.objs.size) false := a1
    have a5' : IsPair h' h0.objs.size xs[0] (ys[0]'(by lia)) := a5
    have a6' : h'.objs.size = h0.objs.size + 1 := a6
    rw [hsz] at a1' a5' a6'
    show ∃ v c, (some (Value.ref h0.objs.size) : Option Value) = some v ∧ _
    rw [hsz]
    exact fin h' ⟨false, a1'⟩ ⟨_, _, a2⟩ a3 a4 a5' a6' a7
  · obtain ⟨x0, y0, _, _, _, hT0⟩ := J.ac 0 hpos
    rw [Nat.add_zero] at hT0
    refine pyNext_zipK_item D hz hT0 J.ti hTO J.h1 J.h2 J.l1 J.l2 hx hy fun h' a1 a2 a3 a4 a5 a6 a7 => ?_
    have a5' : IsPair h' h0.objs.size xs[i] (ys[i]'(by lia)) := a5
    have a6' : h'.objs.size = h0.objs.size + 1 := a6
    rw [hsz] at a5' a6'
    show ∃ v c, (some (Value.ref h0.objs.size) : Option Value) = some v ∧ _
    rw [hsz]
    exact fin h' ⟨true, a1⟩ ⟨_, _, a2⟩ a3 a4 a5' a6' a7
theorem zip_done {s₀ : Shared} {z TI TO i1 i2 l1 l2 S N : Nat} {xs ys : Array Value} (hh : A.handled = none) (D : ZipApart z TI TO i1 i2 l1 l2) (hSz : S ≠ z) (hSTO : S ≠ TO) (hS1 : S ≠ i1) (hS2 : S ≠ i2) (hN : z < N ∧ TO < N ∧ i1 < N ∧ i2 < N)
    {acc : Array Value} {s : Shared} (J : ZipJ s₀ z TI TO i1 i2 l1 l2 S N xs ys xs.size acc s) {E : Value → Shared → Prop} :
    wpAny (model prog w) A (pyNext (.ref z)) (fun r s' => r = none ∧ ∃ h', s' = { s₀ with heap := h' } ∧ (∃ c, h'.get? S = some { cls := .type "list", dict := none, data := .seq acc c, slots := #[] }) ∧ acc.size = xs.size ∧
      (∀ j, j < xs.size → ∃ x y, xs[j]? = some x ∧ ys[j]? = some y ∧ acc[j]? = some (.ref (N + j)) ∧ IsPair h' (N + j) x y) ∧ ∀ (b : Nat) o, b < N → b ≠ z → b ≠ TO → b ≠ i1 → b ≠ i2 → b ≠ S → s₀.heap.get? b = some o → h'.get? b = some o) E s := by
  obtain ⟨h0, rfl⟩ := J.st
  obtain ⟨c, hS⟩ := J.ls
  have hend : xs[xs.size]? = none := Array.getElem?_eq_none (Nat.le_refl _)
  have fin : ∀ h' : Heap, (∀ (c : Nat) o, c ≠ z → c ≠ TO → c ≠ i1 → c ≠ i2 → h0.get? c = some o → h'.get? c = some o) →
      (none : Option Value) = none ∧ ∃ h'', ({ s₀ with heap := h' } : Shared) = { s₀ with heap := h'' } ∧ (∃ c, h''.get? S = some { cls := .type "list", dict := none, data := .seq acc c, slots := #[] }) ∧ acc.size = xs.size ∧
      (∀ j, j < xs.size → ∃ x y, xs[j]? = some x ∧ ys[j]? = some y ∧ acc[j]? = some (.ref (N + j)) ∧ IsPair h'' (N + j) x y) ∧ ∀ (b : Nat) o, b < N → b ≠ z → b ≠ TO → b ≠ i1 → b ≠ i2 → b ≠ S → s₀.heap.get? b = some o → h''.get? b = some o := by
    intro h' hk
    refine ⟨rfl, h', rfl, ⟨c, hk _ _ hSz hSTO hS1 hS2 hS⟩, J.sz, fun j hj => ?_, fun b o hb b1 b2 b3 b4 b5 e => hk b o b1 b2 b3 b4 (J.old b o hb b1 b2 b3 b4 b5 e)⟩
    obtain ⟨x, y, e1, e2, e3, e4⟩ := J.ac j hj
    exact ⟨x, y, e1, e2, e3, hk _ _ (by lia) (by lia) (by lia) (by lia) e4⟩
  rcases J.zz with ⟨h00, hz⟩ | ⟨hpos, f1, hz⟩
  · obtain ⟨a, b, hTO⟩ := J.to
    exact wpAny_pyNext_zip_end hh D hz J.ti hTO J.h1 J.h2 J.l1 J.l2 (.inl hend) fun h' hk => fin h' hk
  · obtain ⟨x0, y0, _, _, _, hT0⟩ := J.ac 0 hpos
    rw [Nat.add_zero] at hT0
    exact pyNext_zipK_end hh D hz hT0 J.ti J.h1 J.l1 hend fun h' hk => fin h' hk
theorem call_list_zip {Q : Value → Shared → Prop} {l1 l2 : Nat} {xs ys : Array Value} (hh : A.handled = none) (hl1 : s.heap.IsList l1 xs) (hl2 : s.heap.IsList l2 ys) (hxy : xs.size = ys.size) (hn : xs.size ≤ sizeLine)
    (hQ : ∀ (h' : Heap) (acc : Array Value) (S N : Nat) (c : Nat), (∀ (b : Nat) o, s.heap.get? b = some o → h'.get? b = some o) → s.heap.objs.size ≤ S → S < N → h'.get? S = some { cls := .type "list", dict := none, data := .seq acc c, slots := #[] } → acc.size = xs.size →
      (∀ j, j < xs.size → ∃ x y, xs[j]? = some x ∧ ys[j]? = some y ∧ acc[j]? = some (.ref (N + j)) ∧ IsPair h' (N + j) x y) → Q (.ref S) { s with heap := h' }) :
    wpAny (model prog w) A (call (.type "zip") [.ref l1, .ref l2]) (fun v s1 => wpAny (model prog w) A (call (.type "list") [v]) Q E s1) E s := by
  have lt1 : l1 < s.heap.objs.size := by obtain ⟨o, ho, _⟩ := hl1; exact Heap.lt_size ho
  have lt2 : l2 < s.heap.objs.size := by obtain ⟨o, ho, _⟩ := hl2; exact Heap.lt_size ho
  refine call_zip_2 hl1 hl2 fun h' hz hTI hTO hi1 hi2 hsz hk => ?_
  generalize hM : s.heap.objs.size = M at *
  have D : ZipApart (M + 4) (M + 2) (M + 3) M (M + 1) l1 l2 := by constructor <;> (show @Ne Nat _ _; lia)
  refine callType_codes (Q₁ := fun obj s₁ => obj = .ref h'.objs.size ∧ s₁ = { s with heap := h'.push { cls := .type "list", data := .seq #[] } }) PySem.F.called_list (PySem.F.typeCall_list_1 _) PySem.F.entry_list_init
    (code_list_new _ ⟨rfl, rfl⟩) fun obj s₁ h₁ => ?_
  obtain ⟨rfl, rfl⟩ := h₁
  have hS : (h'.push { cls := .type "list", data := .seq #[] }).get? h'.objs.size = some { cls := .type "list", data := .seq #[] } := Heap.get?_push_size _ rfl
  refine ⟨⟨_, hS, rfl⟩, PySem.F.args_list_init_2 _ _, ?_⟩
  rw [hsz] at hS ⊢
  show wpAny _ A.in1.in1 (do let old ← Builtin.List.listItems (.ref (M + 5)); Builtin.List.listUpdate (.ref (M + 5)) (fun _ => #[]); letGo old.toList.reverse; Builtin.List.listExtendWith (.ref (M + 5)) (.ref (M + 4)) .none) _ _ _
  refine wpAny_bind ?_
  unfold Builtin.List.listItems
  refine wpAny_bind (wpAny_seqItems hS rfl (wpAny_pure ?_))
  show wpAny _ A.in1.in1 (updateSeq (M + 5) (fun _ => #[]) >>= fun _ => letGo (#[] : Array Value).toList.reverse >>= fun _ => Builtin.List.listExtendWith (.ref (M + 5)) (.ref (M + 4)) .none) _ _ _
  refine wpAny_bind (wpAny_updateSeq hS rfl ?_)
  have hS₂ := Heap.get?_update_self (Obj.mapSeq (fun _ => (#[] : Array Value))) hS rfl
  refine wpAny_bind (wpAny_letGo ?_)
  have k2 : ∀ (b : Nat) o, b < M + 5 → h'.get? b = some o → ((h'.push { cls := .type "list", data := .seq #[] }).update (M + 5) (Obj.mapSeq (fun _ => (#[] : Array Value)))).get? b = some o :=
    fun b o hb e => (Heap.get?_update_other _ _ (show @Ne Nat _ _ by lia)).trans (Heap.get?_push_of_some _ e)
  have sz2 : ((h'.push { cls := .type "list", data := .seq #[] }).update (M + 5) (Obj.mapSeq (fun _ => (#[] : Array Value)))).objs.size = M + 6 := by rw [Heap.size_update, Heap.size_push, hsz]
  generalize (h'.push { cls := .type "list", data := .seq #[] }).update (M + 5) (Obj.mapSeq (fun _ => (#[] : Array Value))) = h2 at *
  have hTz : Shared.TypeIs { s with heap := h2 } (.ref (M + 4)) "zip" := ⟨_, k2 _ _ (by lia) hz, rfl⟩
  unfold Builtin.List.listExtendWith
  refine wpAny_bind (wpAny_typeOf hTz ?_)
  have q1 : Builtin.List.listSameRef (.ref (M + 5)) (.ref (M + 4)) = false := by simp [Builtin.List.listSameRef]
  have q2 : (Value.type "zip" == Value.type "list") = false := by decide
  have q3 : (Value.type "zip" == Value.type "tuple") = false := by decide
  simp only [q1, q2, q3, Bool.or_false, Bool.false_eq_true, if_false]
  refine wpAny_bind (wpAny_pyIter_zip (k2 _ _ (by lia) hz) ?_)
  refine wpAny_bind (wpAny_holding ?_)
  unfold Builtin.List.listLengthHint
  refine wpAny_bind (wpAny_specialOf hTz F.zip_no_len ?_)
  show wpAny _ A.in1.in1 (specialOf (Value.ref (M + 4)) (Str.ofString "__length_hint__") >>= _) _ _ _
  refine wpAny_bind (wpAny_specialOf hTz F.zip_no_hint ?_)
  refine wpAny_pure ?_
  show wpAny _ A.in1.in1 (rule "list.extend.makes-room" >>= fun _ => Builtin.List.listTouch (.ref (M + 5)) >>= fun _ =>
    again (.builtin "list.extend.loop" ⟨[.ref (M + 5), .ref (M + 4), .none], []⟩)) _ _ _
  refine wpAny_bind (wpAny_rule ?_)
  refine wpAny_bind ?_
  show wpAny _ A.in1.in1 (updateSeq (M + 5) (·.push .none) >>= fun _ => updateSeq (M + 5) (·.pop)) _ _ _
  refine wpAny_bind (wpAny_updateSeq hS₂ rfl ?_)
  have hS₃ := Heap.get?_update_self (Obj.mapSeq (·.push Value.none)) hS₂ rfl
  refine wpAny_updateSeq (hz := by seq_fits) hS₃ rfl ?_
  have hS₄ := Heap.get?_update_self (Obj.mapSeq (·.pop)) hS₃ rfl
  have k3 : ∀ (b : Nat) o, b < M + 5 → h'.get? b = some o → ((h2.update (M + 5) (Obj.mapSeq (·.push Value.none))).update (M + 5) (Obj.mapSeq (·.pop))).get? b = some o :=
    fun b o hb e => (Heap.get?_update_other _ _ (show @Ne Nat _ _ by lia)).trans ((Heap.get?_update_other _ _ (show @Ne Nat _ _ by lia)).trans (k2 b o hb e))
  have sz3 : ((h2.update (M + 5) (Obj.mapSeq (·.push Value.none))).update (M + 5) (Obj.mapSeq (·.pop))).objs.size = M + 6 := by rw [Heap.size_update, Heap.size_update, sz2]
  generalize ((h2.update (M + 5) (Obj.mapSeq (·.push Value.none))).update (M + 5) (Obj.mapSeq (·.pop))) = h3 at *
  refine wpAny_pure ⟨plainId_quiet PySem.F.plain_extend_loop _, extend_loop_inv (A := A.in1) (n := xs.size) hn .none (ZipJ { s with heap := h3 } (M + 4) (M + 2) (M + 3) M (M + 1) l1 l2 (M + 5) (M + 6) xs ys)
    (fun acc s' => ∃ h'', s' = { s with heap := h'' } ∧ (∃ c, h''.get? (M + 5) = some { cls := .type "list", dict := none, data := .seq acc c, slots := #[] }) ∧ acc.size = xs.size ∧
      (∀ j, j < xs.size → ∃ x y, xs[j]? = some x ∧ ys[j]? = some y ∧ acc[j]? = some (.ref (M + 6 + j)) ∧ IsPair h'' (M + 6 + j) x y) ∧ ∀ (b : Nat) o, b < M → h3.get? b = some o → h''.get? b = some o)
    (fun i acc s' J => J.sz) (fun i acc s' E' hi J => ?_) (fun acc s' E' J => ?_) (fun acc s' hfin => ?_) xs.size 0 #[] _ rfl (Nat.zero_le _) ?_⟩
  · exact zip_item (A := A.in1.in1) D (by lia) (by lia) (by lia) (by lia) (by lia) (by lia) (by lia) (by lia) hxy hi J
  · refine wpAny_mono (zip_done (A := A.in1.in1) (by simp [hh]) D (by lia) (by lia) (by lia) (by lia) (by lia) J) (fun r s'' ⟨hr, h'', e, hc, a1, a2, a3⟩ => ⟨hr, h'', e, hc, a1, a2, fun b o hb q => ?_⟩) fun _ _ e => e
    exact a3 b o (by lia) (by lia) (by lia) (by lia) (by lia) (by lia) q
  · obtain ⟨h'', rfl, ⟨c, hc⟩, a1, a2, a3⟩ := hfin
    refine ⟨rfl, ?_⟩
    refine hQ h'' acc (M + 5) (M + 6) c (fun b o e => ?_) (by lia) (by lia) hc a1 a2
    have hb : b < M := by rw [← hM]; exact Heap.lt_size e
    exact a3 b o hb (k3 b o (by lia) (hk b o e))
  · refine ⟨⟨_, rfl⟩, rfl, sz3, fun j hj => absurd hj (by lia), .inl ⟨rfl, k3 _ _ (by lia) hz⟩, k3 _ _ (by lia) hTI, ⟨_, _, k3 _ _ (by lia) hTO⟩, hi1.at fun o e => k3 _ o (by lia) e, hi2.at fun o e => k3 _ o (by lia) e,
      (hl1.at fun o e => hk _ o e).at fun o e => k3 _ o (by lia) e, (hl2.at fun o e => hk _ o e).at fun o e => k3 _ o (by lia) e, ⟨_, hS₄⟩, fun b o _ _ _ _ _ _ e => e⟩
end
end FS
end
section
set_option maxRecDepth 100000
namespace L2
open PySem PySem.Spec PyProof.Rows

/-! ### the heap grows -/
theorem HOk.grow {P : Program} {w : World} {H H' : Hp} {h h' : Heap} (x : HOk P w H h) (k : ∀ b u, h.get? b = some u → h'.get? b = some u) (hx : ∀ b u, H b = some u → H' b = some u)
    (new : ∀ b o, H' b = some o → H b = some o ∨ ObjOk P w H' h' b o) : HOk P w H' h' := fun b o e => by
  rcases new b o e with q | q
  · exact (x b o q).stay (fun c v _ z => k c v z) (fun c z => hx c _ z) fun c xs z => hx c _ z
  · exact q
theorem Inv.grow {X : Cx} {pins : List (Addr × Obj)} {σ : List (Option V)} {H H' : Hp} {s : Shared} {h' : Heap} {t' : Nat} (I : Inv X pins σ H s) (k : ∀ b u, s.heap.get? b = some u → h'.get? b = some u)
    (ho : ∀ b u, s.heap.get? b = some u → H' b = H b) (hx : ∀ b u, H b = some u → H' b = some u) (new : ∀ b o, H' b = some o → H b = some o ∨ ObjOk X.prog X.w H' h' b o) : Inv X pins σ H' { s with heap := h', toks := t' } :=
  I.un ⟨fun b o e _ _ _ => k b o e, fun b o e _ _ _ => ⟨o.slots, k b o e⟩, fun b o e n _ => (ho b o e).trans n, fun b o e _ => ⟨o, k b o e⟩, fun b xs e => hx b _ e, fun b o u e => hx b _ e, fun b ps e => ⟨#[], by rw [hx b _ e]; simp⟩⟩ (I.hok.grow k hx new)

/-! ### comprehensions -/
theorem closure_of {scope : Scope} {env : Env} (hfr : ∀ y ∈ scope.names, y.2 = .free → ∃ c, env.cells.lookup y.1 = some c) :
    ∃ cl, closureFor scope env = pure cl ∧ (∀ x c, cl.lookup x = some c → env.cells.lookup x = some c) ∧ ∀ y ∈ scope.names, y.2 = .free → ∃ c, cl.lookup y.1 = some c := by
  have key : ∀ (l : List (Str × NameKind)) (cs : List (Str × Addr)), (∀ y ∈ l, y.2 = .free → ∃ c, env.cells.lookup y.1 = some c) → (∀ x c, cs.lookup x = some c → env.cells.lookup x = some c) →
      ∃ cl, (forIn l cs (fun (x : Str × NameKind) (r : List (Str × Addr)) => (if (x.2 == NameKind.free) = true then do let c ← cellOf env x.1; pure (ForInStep.yield ((x.1, c) :: r)) else pure (ForInStep.yield r) : Sem (ForInStep (List (Str × Addr))))) : Sem (List (Str × Addr))) = pure cl ∧
        (∀ x c, cl.lookup x = some c → env.cells.lookup x = some c) ∧ (∀ y ∈ l, y.2 = .free → ∃ c, cl.lookup y.1 = some c) ∧ (∀ x c, cs.lookup x = some c → ∃ c', cl.lookup x = some c') := by
    intro l
    induction l with
    | nil => intro cs _ h2; exact ⟨cs, rfl, h2, fun y hy => absurd hy (by simp), fun x c e => ⟨c, e⟩⟩
    | cons y l ih =>
      intro cs h1 h2
      obtain ⟨n, k⟩ := y
      rw [List.forIn_cons]
      by_cases hk : k = .free
      · subst hk
        obtain ⟨c, hc⟩ := h1 (n, .free) List.mem_cons_self rfl
        have e : cellOf env n = pure c := by unfold cellOf; rw [hc]
        have h2' : ∀ x c', ((n, c) :: cs).lookup x = some c' → env.cells.lookup x = some c' := by
          intro x c' q
          rw [List.lookup_cons] at q
          cases hx : x == n with
          | true => rw [hx] at q; have := eq_of_beq hx; subst this; cases q; exact hc
          | false => rw [hx] at q; exact h2 x c' q
        obtain ⟨cl, q1, q2, q3, q4⟩ := ih ((n, c) :: cs) (fun y hy => h1 y (List.mem_cons_of_mem _ hy)) h2'
        refine ⟨cl, ?_, q2, fun y hy hf => ?_, fun x c' q => ?_⟩
        · rw [if_pos (by rfl), e]
          exact q1
        · rcases List.mem_cons.mp hy with rfl | hy
          · exact q4 n c (by simp [List.lookup_cons])
          · exact q3 y hy hf
        · rcases hx : x == n with _ | _
          · exact q4 x c' (by rw [List.lookup_cons, hx]; exact q)
          · exact q4 x c (by rw [List.lookup_cons, hx])
      · have hb : (k == NameKind.free) = false := by simpa using hk
        obtain ⟨cl, q1, q2, q3, q4⟩ := ih cs (fun y hy => h1 y (List.mem_cons_of_mem _ hy)) h2
        refine ⟨cl, ?_, q2, fun y hy hf => ?_, q4⟩
        · rw [if_neg (by rw [hb]; exact Bool.false_ne_true)]
          exact q1
        · rcases List.mem_cons.mp hy with rfl | hy
          · exact absurd hf hk
          · exact q3 y hy hf
  obtain ⟨cl, q1, q2, q3, _⟩ := key scope.names [] hfr (fun x c e => by simp at e)
  refine ⟨cl, ?_, q2, q3⟩
  have e : closureFor scope env = (forIn scope.names ([] : List (Str × Addr)) (fun (x : Str × NameKind) (r : List (Str × Addr)) => (if (x.2 == NameKind.free) = true then do let c ← cellOf env x.1; pure (ForInStep.yield ((x.1, c) :: r)) else pure (ForInStep.yield r) : Sem (ForInStep (List (Str × Addr))))) : Sem (List (Str × Addr))) >>= pure := rfl
  rw [e, q1]
  rfl
theorem lookup_relabel {env : Env} {k : NameKind} : ∀ {names : List (Str × NameKind)} {x : Str}, names.lookup x = some k → k ≠ .local →
    (names.map fun (n, k) => if (k == NameKind.free && env.scope.kind == .function && env.kindOf n == some .cell) then (n, NameKind.cell) else (n, k)).lookup x = some k ∨
    (k = .free ∧ (names.map fun (n, k) => if (k == NameKind.free && env.scope.kind == .function && env.kindOf n == some .cell) then (n, NameKind.cell) else (n, k)).lookup x = some .cell)
  | [], _, h, _ => by simp at h
  | (n, k') :: r, x, h, hk => by
    have ih := @lookup_relabel env k r x
    show List.lookup x ((if (k' == NameKind.free && env.scope.kind == .function && env.kindOf n == some .cell) = true then (n, NameKind.cell) else (n, k')) :: _) = _ ∨ _ ∧ List.lookup x ((if (k' == NameKind.free && env.scope.kind == .function && env.kindOf n == some .cell) = true then (n, NameKind.cell) else (n, k')) :: _) = _
    cases hx : x == n with
    | true =>
      simp only [List.lookup_cons, hx] at h
      cases h
      by_cases hc : (k == NameKind.free && env.scope.kind == .function && env.kindOf n == some .cell) = true
      · right
        rw [if_pos hc]
        simp only [Bool.and_eq_true] at hc
        exact ⟨by simpa using hc.1.1, by simp only [List.lookup_cons, hx]⟩
      · left; rw [if_neg hc]; simp only [List.lookup_cons, hx]
    | false =>
      simp only [List.lookup_cons, hx] at h
      by_cases hc : (k' == NameKind.free && env.scope.kind == .function && env.kindOf n == some .cell) = true
      · rw [if_pos hc]; simp only [List.lookup_cons, hx]; exact ih h hk
      · rw [if_neg hc]; simp only [List.lookup_cons, hx]; exact ih h hk
/-- a name of the block's own table, from the relabelled one -/
theorem unrelabel {env : Env} : ∀ {names : List (Str × NameKind)} {x : Str} {k : NameKind}, (names.map fun (n, k) => if (k == NameKind.free && env.scope.kind == .function && env.kindOf n == some .cell) then (n, NameKind.cell) else (n, k)).lookup x = some k →
    names.lookup x = some k ∨ (k = .cell ∧ names.lookup x = some .free)
  | [], _, _, h => by simp at h
  | (n, k') :: r, x, k, h => by
    have ih := @unrelabel env r x k
    have h : List.lookup x ((if (k' == NameKind.free && env.scope.kind == .function && env.kindOf n == some .cell) = true then (n, NameKind.cell) else (n, k')) :: (r.map fun (n, k) => if (k == NameKind.free && env.scope.kind == .function && env.kindOf n == some .cell) then (n, NameKind.cell) else (n, k))) = some k := h
    by_cases hc : (k' == NameKind.free && env.scope.kind == .function && env.kindOf n == some .cell) = true
    · rw [if_pos hc] at h
      have hf : k' = .free := by simp only [Bool.and_eq_true] at hc; simpa using hc.1.1
      cases hx : x == n with
      | true => simp only [List.lookup_cons, hx] at h ⊢; cases h; right; exact ⟨rfl, by rw [hf]⟩
      | false => simp only [List.lookup_cons, hx] at h ⊢; exact ih h
    · rw [if_neg hc] at h
      cases hx : x == n with
      | true => simp only [List.lookup_cons, hx] at h ⊢; exact .inl h
      | false => simp only [List.lookup_cons, hx] at h ⊢; exact ih h

/-- the loop of a comprehension, the tuple of the iterator let go -/
theorem compLoop_turn {prog : Program} {w : World} {A : Around} {R : Result → Shared → Prop} {s : Shared} {elt target iter : Expr} {ifs : List Expr} {scope : Scope} {pos : Pos} {it acc : Value} {env : Env} (I : Nat → Shared → Prop)
    (turn : ∀ n s, I n s → wpAny (model prog w) A (pyNext it) (fun r s₁ => match r with
      | none => R (.ok .next) s₁
      | some v => wpAny (model prog w) A (letOwnedTupleGo target it v) (fun _ s₀ => wpAny (model prog w) A (assign target env v) (fun _ s₂ =>
          wpAny (model prog w) A (forIn ifs true fun c r => if r = true then do let ok ← isTrue c env (eval c env); pure (ForInStep.yield ok) else pure (ForInStep.yield r)) (fun ok s₃ =>
            if ok = true then wpAny (model prog w) A (eval elt env) (fun x s₄ =>
              wpAny (model prog w) A (call (.builtin "list.append") [acc, x]) (fun _ s₅ => ∃ m, m < n ∧ I m s₅) (notedBy (model prog w) A env fun e s' => R (.error e) s') s₄) (notedBy (model prog w) A env fun e s' => R (.error e) s') s₃
            else ∃ m, m < n ∧ I m s₃) (notedBy (model prog w) A env fun e s' => R (.error e) s') s₂) (notedBy (model prog w) A env fun e s' => R (.error e) s') s₀) (notedBy (model prog w) A env fun e s' => R (.error e) s') s₁) (notedBy (model prog w) A env fun e s' => R (.error e) s') s)
    (n : Nat) (h : I n s) :
    codeAny (model prog w) A (.compLoop (.ListComp elt [⟨target, iter, ifs, 0⟩] scope pos) 0 it acc env) R s := by
  refine codeAny_loop rfl I (fun n s hI => ?_) n h
  show wpAny _ A ((compTurn (.ListComp elt [⟨target, iter, ifs, 0⟩] scope pos) 0 it acc env).onRaise (fun x => do noteFrame x env; theTreesLotGoes x)) _ _ s
  refine wpAny_noted ?_
  rw [compTurn_list]
  refine wpAny_bind (wpAny_standAt (wpAny_bind (wpAny_mono (turn n s hI) (fun r s₁ h₁ => ?_) fun _ _ h' => h')))
  cases r with
  | none => exact wpAny_pure h₁
  | some v =>
    refine wpAny_bind (wpAny_mono h₁ (fun _ s₀ h₀ => ?_) fun _ _ h' => h')
    refine wpAny_bind (wpAny_mono h₀ (fun _ s₂ h₂ => wpAny_bind (wpAny_mono h₂ (fun ok s₃ h₃ => ?_) fun _ _ h' => h')) fun _ _ h' => h')
    cases ok with
    | false => exact wpAny_pure ⟨rfl, h₃⟩
    | true =>
      exact wpAny_bind (wpAny_bind (wpAny_mono h₃ (fun x s₄ h₄ => wpAny_bind (wpAny_mono h₄ (fun _ s₅ h₅ => wpAny_pure (wpAny_pure ⟨rfl, h₅⟩)) fun _ _ h' => h')) fun _ _ h' => h'))

/-- the tests of a clause -/
def PFs (X : Cx) (ifs : List Expr) (t : TT) : Prop := ∀ (pins : List (Addr × Obj)) (s : Shared) (σ : St) (H : Hp) (Q : Bool → Hp → Prop), Inv X pins σ H s → t σ H Q →
  wpAny (model X.prog X.w) X.A (forIn ifs true fun c r => if r = true then do let ok ← isTrue c X.env (eval c X.env); pure (ForInStep.yield ok) else pure (ForInStep.yield r)) (TP X pins σ Q) X.xe s
theorem pfs_nil {X : Cx} : PFs X [] (fun _ H Q => Q true H) := fun _ _ _ H _ I h => wpAny_tests_nil ⟨H, I, h⟩
theorem pfs_one {X : Cx} {c : Expr} {t : TT} (h : PT X c t) : PFs X [c] t := fun pins s σ H Q I q => wpAny_tests_one (h pins s σ H Q I q)

/-- the block's context -/
def compX (X : Cx) (scope : Scope) (N' : List Str) (C : Addr) (cl : List (Str × Addr)) (fp : List Addr) (pins : List (Addr × Obj)) (s₂ : Shared) (H₂ : Hp) : Cx :=
  { X with N := N', s₀ := s₂, H₀ := H₂, env := compEnvC scope cl C X.env, outer := X.stack, stack := X.stack, ex := fp, fn := fun _ => false, pn := X.pn ++ pins, xe := fun _ _ => False }
def compσ (own : Nat) (caps : List Nat) (σ : St) : St := List.replicate own none ++ caps.map fun j => σ.getD j none
/-- the captured names stay as they were -/
def KeepsCaps (own : Nat) (caps : List Nat) (σ σ2 : St) : Prop := σ2.length = (compσ own caps σ).length ∧ ∀ (i : Nat) v, (compσ own caps σ)[i]? = some (some v) → σ2[i]? = some (some v)
theorem keeps1 {own : Nat} {caps : List Nat} {σ : St} {i : Nat} {v : Option V} (h : i < own) : KeepsCaps own caps σ ((compσ own caps σ).set i v) := by
  refine ⟨List.length_set, fun j u e => ?_⟩
  have ne : i ≠ j := by
    rintro rfl
    unfold compσ at e
    rw [List.getElem?_append_left (by simpa using h), List.getElem?_replicate, if_pos h] at e; cases e
  rw [List.getElem?_set_ne ne]; exact e
theorem keeps2 {own : Nat} {caps : List Nat} {σ : St} {i j : Nat} {v w : Option V} (h : i < own) (h' : j < own) : KeepsCaps own caps σ (((compσ own caps σ).set i v).set j w) := by
  refine ⟨by rw [List.length_set, List.length_set], fun k u e => ?_⟩
  have ne : j ≠ k := by
    rintro rfl
    unfold compσ at e
    rw [List.getElem?_append_left (by simpa using h'), List.getElem?_replicate, if_pos h'] at e; cases e
  rw [List.getElem?_set_ne ne]
  exact (keeps1 h).2 k u e
/-- the reading: n turns; W by the turn, what is collected, the heap -/
def tComp (wi : TI) (own : Nat) (caps : List Nat) (g : TG) (tt : TT) (te : TE) : TE := fun σ H Q => wi σ H fun J H1 => ∃ (n : Nat) (W : Nat → List V → Hp → Prop), n ≤ sizeLine ∧ W 0 [] H1 ∧
  (∀ ys H, W n ys H → J.stop n H ∧ ∀ D, H D = none → Q (.ref D) (upd H D (.lst ys))) ∧
  ∀ i ys H, i < n → W i ys H → J.go i H ∧ ∀ x H', J.yld i H x H' → g x (compσ own caps σ) H' fun σ2 H2 => KeepsCaps own caps σ σ2 ∧ tt σ2 H2 fun b H3 => if b = true then te σ2 H3 fun v H4 => W (i + 1) (ys ++ [v]) H4 else W (i + 1) ys H3
/-- what is asked of the block's names -/
structure CompScope (X : Cx) (scope : Scope) (N' : List Str) (own : Nat) (caps : List Nat) : Prop where
  cell : ∀ y ∈ scope.names, y.2 ≠ .cell
  kind : scope.kind = .function
  names : ∀ y ∈ scope.names, y.2 = .local → scope.names.lookup y.1 = some .local
  free : ∀ y ∈ scope.names, y.2 = .free → X.env.kindOf y.1 = some .cell ∨ X.env.kindOf y.1 = some .free
  len : N'.length = own + caps.length
  cap : ∀ (i j : Nat) x, caps[i]? = some j → N'[own + i]? = some x → X.N[j]? = some x ∧ scope.names.lookup x = some .free
section
variable {X : Cx} {elt iter tg : Expr} {ifs : List Expr} {scope : Scope} {pos : Pos} {N' : List Str} {own : Nat} {caps : List Nat} {wi : TI} {g : TG} {tt : TT} {te : TE}
theorem getD_σ {σ : St} {j : Nat} {v : V} (h : σ.getD j none = some v) : σ[j]? = some (some v) := by
  rw [List.getD_eq_getElem?_getD] at h
  cases q : σ[j]? with
  | none => rw [q] at h; cases h
  | some o => rw [q] at h; simp at h; rw [h]
/-- the block runs -/
theorem comp_block (hc : X.calm = true) (S : CompScope X scope N' own caps)
    (hB : ∀ C cl fp pins s₂ H₂, PG (compX X scope N' C cl fp pins s₂ H₂) tg g ∧ PFs (compX X scope N' C cl fp pins s₂ H₂) ifs tt ∧ PE (compX X scope N' C cl fp pins s₂ H₂) elt te)
    {cl : List (Str × Addr)} (hcl1 : ∀ x c, cl.lookup x = some c → X.env.cells.lookup x = some c) (hcl2 : ∀ y ∈ scope.names, y.2 = .free → ∃ c, cl.lookup y.1 = some c)
    {pins : List (Addr × Obj)} {σ : St} {H2 : Hp} {s2 : Shared} {it : Addr} {fp : List Addr} {tn : Nat → Heap → Prop} {J : It} (I2 : Inv X pins σ H2 s2) (T : Turn X.prog X.w X.K tg J fp it tn) (st2 : tn 0 s2.heap) (f2 : ∀ b ∈ fp, FpOk X pins H2 b)
    {n : Nat} {W : Nat → List V → Hp → Prop} (hn : n ≤ sizeLine) (w0 : W 0 [] H2)
    (wstep : ∀ i ys H, i < n → W i ys H → J.go i H ∧ ∀ x H', J.yld i H x H' → g x (compσ own caps σ) H' fun σ2 H2 => KeepsCaps own caps σ σ2 ∧ tt σ2 H2 fun b H3 => if b = true then te σ2 H3 fun v H4 => W (i + 1) (ys ++ [v]) H4 else W (i + 1) ys H3)
    (wstop : ∀ ys H, W n ys H → J.stop n H)
    {RR : Value → Addr → Result → Shared → Prop}
    (hRR : ∀ (D C : Addr) (s' : Shared) (oC : Obj) (m : Str → Option Value) (ys : List V) (H' : Hp), Inv X (pins ++ [(C, oC)]) σ (upd H' D (.lst ys)) s' → s'.heap.Ns C m → (X.s₀.heap.objs.size ≤ C) → (upd H' D (.lst ys)) C = none → C ≠ X.env.locals → (∀ x c, X.env.cells.lookup x = some c → c ≠ C) →
      (∀ p ∈ X.pn ++ pins, p.1 ≠ C) → H' D = none → W n ys H' → RR (.ref D) C (.ok .next) s') {E : Value → Shared → Prop} :
    wpAny (model X.prog X.w) X.A (newList []) (fun acc s₃ => wpAny (model X.prog X.w) X.A (newFunctionEnv scope X.env.globals cl [] X.env.qual none .none (some X.env)) (fun cenv s₄ =>
      codeAny (model X.prog X.w) X.A (.compStart (.ListComp elt [⟨tg, iter, ifs, 0⟩] scope pos) 0 (.ref it) acc { cenv with scope := relabel scope X.env }) (RR acc cenv.locals) s₄) E s₃) E s2 := by
  refine wpAny_newObj_type (wpAny_newFunctionEnv S.cell (by intro y hy; simp at hy) (fun h₁ hns₁ hsb₁ => ?_) S.kind)
  dsimp only at hns₁ hsb₁ ⊢
  generalize hH2 : s2.heap.push { cls := .type "list", dict := none, data := .seq ([] : List Value).toArray } = G2 at hns₁ hsb₁ ⊢
  have hC : G2.objs.size = s2.heap.objs.size + 1 := by rw [← hH2, Heap.size_push]
  generalize hCe : G2.objs.size = C at hns₁ hsb₁ hC ⊢
  generalize hDe : s2.heap.objs.size = D at hC ⊢
  have hDC : D ≠ C := by rw [hC]; exact Nat.ne_of_lt (Nat.lt_succ_self _)
  have below : ∀ b, b < D → b ≠ C ∧ b ≠ D := fun b hb => ⟨by rw [hC]; exact Nat.ne_of_lt (Nat.lt_succ_of_lt hb), Nat.ne_of_lt hb⟩
  have hlt : ∀ b o, s2.heap.get? b = some o → b < D := fun b o e => by rw [← hDe]; exact Heap.lt_size e
  have old : ∀ b o, s2.heap.get? b = some o → h₁.get? b = some o := fun b o e => hsb₁.extBut b o (below b (hlt b o e)).1 (Heap.get?_push_of_some _ (hH2 ▸ Heap.get?_push_of_some _ e))
  have hacc : h₁.PlainList D #[] := ⟨_, hsb₁.extBut _ _ hDC (Heap.get?_push_of_some _ (by rw [← hH2, ← hDe]; exact Heap.get?_push_size _ rfl))⟩
  have fpl : ∀ b ∈ fp, b < D := fun b hb => by obtain ⟨o, e, _⟩ := T.obj _ _ st2 b hb; exact hlt b o e
  have st₁ : tn 0 h₁ := T.keep _ _ _ st2 fun b _ o e => old b o e
  -- the block's context
  have cellsOk : ∀ x c, cl.lookup x = some c → ∃ v, s2.heap.IsCell c v := fun x c e => I2.cell x c (hcl1 x c e)
  have Xok : (compX X scope N' C cl fp pins s2 H2).Ok := by
    refine ⟨I2.ok.mod, S.kind, I2.ok.glob, I2.ok.blt, ?_, fun x y c h1 h2 => I2.ok.inj x y c (hcl1 x c h1) (hcl1 y c h2), fun x hx => ?_, fun x c h => absurd h (by show ¬ (false = true); decide), I2.ok.hd, I2.ok.frames, .inl rfl, fun b hb => ?_, I2.bs, ?_, fun b o e hb => ?_, fun b hb => ?_, I2.stack, I2.stkFree⟩
    · show s2.heap.objs.size ≤ C
      rw [hDe, hC]; exact Nat.le_succ _
    · have hx' : (relabel scope X.env).names.lookup x = some .cell ∨ (relabel scope X.env).names.lookup x = some .free := hx
      have hfx : scope.names.lookup x = some .free := by
        rcases hx' with q | q
        · rcases unrelabel q with q | ⟨_, q⟩
          · exact absurd rfl (S.cell _ (PySem.mem_of_lookup q))
          · exact q
        · rcases unrelabel q with q | ⟨e, _⟩
          · exact q
          · cases e
      exact hcl2 _ (PySem.mem_of_lookup hfx) rfl
    · refine ⟨(below b (fpl b hb)).1, fun x c e => (f2 b hb).2.2.2.2.1 x c (hcl1 x c e)⟩
    · exact Nat.le_trans I2.ok.bsz I2.sz
    · obtain ⟨_, _, _, q, _⟩ := f2 b hb
      rcases q with q | q
      · exact I2.ok.noex b o e q
      · exact absurd (Nat.lt_of_lt_of_le (Heap.lt_size e) (Nat.le_trans I2.ok.bsz q)) (Nat.lt_irrefl _)
    · intro z
      rcases List.mem_cons.mp (I2.stkSub b z) with q | q
      · exact (f2 b hb).2.1 q
      · exact (f2 b hb).2.2.1 q
  have cne : ∀ x c, cl.lookup x = some c → c < D := fun x c e => by obtain ⟨v, o, ho, _⟩ := cellsOk x c e; exact hlt c o ho
  have I₁ : ∀ tk, Inv (compX X scope N' C cl fp pins s2 H2) [] (compσ own caps σ) H2 { s2 with heap := h₁, toks := tk } := by
    intro tk
    refine ⟨Xok, rfl, I2.bare, Un.kept old, ⟨_, hns₁, fun i x v h1 h2 h3 => ?_⟩, fun x c e => ?_, I2.hok.fresh (by rw [hDe, hC]; exact Nat.le_succ _), fun x c e => I2.freeC x c (hcl1 x c e), fun p hp => ?_, I2.hok.kept old, ?_⟩
    · -- a captured name
      have h2' : (compσ own caps σ)[i]? = some (some v) := h2
      have h1' : N'[i]? = some x := h1
      unfold compσ at h2'
      by_cases ci : i < own
      · rw [List.getElem?_append_left (by simpa using ci), List.getElem?_replicate, if_pos ci] at h2'; cases h2'
      · rw [List.getElem?_append_right (by simpa using ci), List.length_replicate, List.getElem?_map] at h2'
        cases cj : caps[i - own]? with
        | none => rw [cj] at h2'; cases h2'
        | some j =>
          rw [cj] at h2'
          have hv := getD_σ (Option.some.inj h2')
          obtain ⟨q1, q2⟩ := S.cap (i - own) j x cj (by rw [show own + (i - own) = i by lia]; exact h1')
          have kx := S.free _ (PySem.mem_of_lookup q2) rfl
          obtain ⟨m, hm, hl⟩ := I2.loc
          have vis : Vis X.env.scope x := kx.elim (fun z => .inr (.inl z)) fun z => .inr (.inr z)
          obtain ⟨u, ru, lk⟩ := hl j x v q1 hv vis
          refine ⟨u, ru, .inr ⟨?_, ?_⟩⟩
          · rcases lookup_relabel (env := X.env) q2 (by decide) with z | ⟨_, z⟩
            · exact .inr z
            · exact .inl z
          · rcases lk with ⟨z, _⟩ | ⟨_, c, hc', hcell⟩
            · exact absurd z (by rcases kx with k | k <;> rw [k] <;> decide)
            · obtain ⟨c2, hc2⟩ := hcl2 _ (PySem.mem_of_lookup q2) rfl
              have := hcl1 _ _ hc2
              rw [hc'] at this
              cases this
              obtain ⟨o, ho, hd⟩ := hcell
              exact ⟨c, hc2, o, old c o ho, hd⟩
    · obtain ⟨v, o, ho, hd⟩ := cellsOk x c e
      exact ⟨v, o, old c o ho, hd⟩
    · have hp' : p ∈ X.pn ++ pins := by simpa [compX] using hp
      obtain ⟨q1, q2, q3, q4, q5⟩ := I2.pin p hp'
      refine ⟨old _ _ q1, q2, (below _ (hlt _ _ q1)).1, fun z => ?_, q5⟩
      rcases List.mem_cons.mp (I2.stkSub p.1 z) with q | q
      · exact q3 q
      · exact q4 q
    · show (compσ own caps σ).length = N'.length
      unfold compσ
      rw [List.length_append, List.length_replicate, List.length_map, S.len]
  obtain ⟨hg, ht, he⟩ := hB C cl fp pins s2 H2
  have hD0 : H2 D = none := I2.hok.fresh (by rw [hDe]; exact Nat.le_refl _)
  have dfs : D ∉ frs X.stack := fun z => by
    rcases List.mem_cons.mp (I2.stkSub D z) with q | q
    · have := I2.lt; rw [hDe, ← q] at this; exact Nat.lt_irrefl _ this
    · exact I2.nofs (by rw [hDe]; exact Nat.le_refl _) q
  have loop : ∀ s₃ : Shared, s₃ = { s2 with heap := h₁, toks := s2.toks + ([] : List (Str × Value)).length } →
      codeAny (model X.prog X.w) X.A (.compLoop (.ListComp elt [⟨tg, iter, ifs, 0⟩] scope pos) 0 (.ref it) (.ref D) (compEnvC scope cl C X.env)) (RR (.ref D) C) s₃ := by
    rintro s₃ rfl
    refine compLoop_turn (fun k s' => ∃ i ys H', k = n + 1 - i ∧ i ≤ n ∧ ys.length ≤ i ∧ Inv (compX X scope N' C cl fp pins s2 H2) [] (compσ own caps σ) H' s' ∧ tn i s'.heap ∧ (∀ b ∈ fp, H' b = none) ∧ H' D = none ∧ (∃ its, Vals ys its ∧ s'.heap.PlainList D its.toArray) ∧ W i ys H') ?_ (n + 1)
      ⟨0, [], H2, rfl, Nat.zero_le _, Nat.le_refl _, I₁ _, st₁, fun b hb => (f2 b hb).1, hD0, ⟨[], .nil, hacc⟩, w0⟩
    rintro k s' ⟨i, ys, H', rfl, hi, hyl, I', st', fr', hDn, ⟨its, rv, hpl⟩, w'⟩
    have noE : ∀ {Q' : Value → Shared → Prop} (e : Value) (s'' : Shared), False → Q' e s'' := fun _ _ z => z.elim
    -- the list is pinned
    obtain ⟨nD, hDo⟩ := hpl
    have pinD : ∀ {σ1 : St} {H1 : Hp} {s1 : Shared}, Inv (compX X scope N' C cl fp pins s2 H2) [] σ1 H1 s1 → s1.heap.get? D = some { cls := .type "list", data := .seq its.toArray nD } → H1 D = none →
        Inv (compX X scope N' C cl fp pins s2 H2) [(D, { cls := .type "list", data := .seq its.toArray nD })] σ1 H1 s1 := fun I1 e1 e2 =>
      I1.pins_of fun p hp => by
        have e : p = (D, { cls := .type "list", data := .seq its.toArray nD }) := List.mem_singleton.mp hp
        subst e
        exact ⟨e1, e2, hDC, dfs, fun v z => by cases z⟩
    have stat : ∀ {H1 : Hp}, (∀ b ∈ fp, H1 b = none) → ∀ b ∈ fp, FpOk (compX X scope N' C cl fp pins s2 H2) [(D, { cls := .type "list", data := .seq its.toArray nD })] H1 b := fun hn' b hb => by
      refine ⟨hn' b hb, (below b (fpl b hb)).1, fun z => ?_, .inl hb, fun x c e => (f2 b hb).2.2.2.2.1 x c (hcl1 x c e), fun p hp => ?_⟩
      · rcases List.mem_cons.mp (I2.stkSub b z) with q | q
        · exact (f2 b hb).2.1 q
        · exact (f2 b hb).2.2.1 q
      · rcases List.mem_append.mp hp with q | q
        · exact (f2 b hb).2.2.2.2.2 p q
        · have e : p = (D, { cls := .type "list", data := .seq its.toArray nD }) := List.mem_singleton.mp q
          subst e
          exact fun z => (below b (fpl b hb)).2 z.symm
    have Ip := pinD I' hDo hDn
    by_cases hlt' : i < n
    · obtain ⟨go, step⟩ := wstep i ys H' hlt' w'
      refine wpAny_mono (T.item (compX X scope N' C cl fp pins s2 H2) rfl rfl rfl hc i _ s' _ H' (fun _ _ => False) Ip (stat fr') st' go) (fun r s4 zz => ?_) noE
      obtain ⟨u, hr, h4⟩ := zz
      subst hr
      refine wpAny_mono h4 (fun _ s5 zz => ?_) noE
      obtain ⟨x, H5, I5, r5, y5, st5, fr5⟩ := zz
      have I5' := I5.pinned (stat fr5) (T.obj _ _ st5)
      refine wpAny_mono (hg _ s5 _ H5 x u _ I5' r5 (step x H5 y5)) (fun _ s6 zz => ?_) noE
      obtain ⟨σ6, H6, I6, kc, q6⟩ := zz
      refine wpAny_mono (ht _ s6 σ6 H6 _ I6 q6) (fun b s7 zz => ?_) noE
      obtain ⟨H7, I7, q7⟩ := zz
      -- back to the invariant
      have back : ∀ {H8 : Hp} {s8 : Shared}, Inv (compX X scope N' C cl fp pins s2 H2) ([(D, { cls := .type "list", data := .seq its.toArray nD })] ++ pinsAt fp s5.heap) σ6 H8 s8 →
          Inv (compX X scope N' C cl fp pins s2 H2) [] (compσ own caps σ) H8 s8 ∧ tn (i + 1) s8.heap ∧ (∀ b ∈ fp, H8 b = none) ∧ H8 D = none ∧ s8.heap.get? D = some { cls := .type "list", data := .seq its.toArray nD } := fun {H8 s8} I8 => by
        have pD := I8.pin (D, { cls := .type "list", data := .seq its.toArray nD }) (List.mem_append_right _ (List.mem_append_left _ (List.mem_singleton.mpr rfl)))
        have pF : ∀ b ∈ fp, ∀ o, s5.heap.get? b = some o → s8.heap.get? b = some o ∧ H8 b = none := fun b hb o e =>
          have q := I8.pin (b, o) (List.mem_append_right _ (List.mem_append_right _ (mem_pinsAt hb e)))
          ⟨q.1, q.2.1⟩
        refine ⟨?_, T.keep _ _ _ st5 fun b hb o e => (pF b hb o e).1, fun b hb => ?_, pD.2.1, pD.1⟩
        · have I9 : Inv (compX X scope N' C cl fp pins s2 H2) [] σ6 H8 s8 := I8.pins_of fun p hp => absurd hp (by simp)
          exact I9.weak kc.1.symm kc.2
        · obtain ⟨o, e, _⟩ := T.obj _ _ st5 b hb
          exact (pF b hb o e).2
      cases b with
      | false =>
        simp only [Bool.false_eq_true, if_false] at q7 ⊢
        obtain ⟨J1, J2, J3, J4, J5⟩ := back I7
        exact ⟨n + 1 - (i + 1), by lia, i + 1, ys, H7, rfl, hlt', by lia, J1, J2, J3, J4, ⟨its, rv, nD, J5⟩, q7⟩
      | true =>
        simp only [if_true] at q7 ⊢
        refine wpAny_mono (he _ s7 σ6 H7 _ I7 q7) (fun y s8 zz => ?_) noE
        obtain ⟨v, H8, I8, r8, q8⟩ := zz
        obtain ⟨J1, J2, J3, J4, J5⟩ := back I8
        have hlen := rv.length
        refine wpAny_list_append_plain ⟨nD, J5⟩ (fun h9 hpl9 hsb9 => ?_) (by rw [List.size_toArray]; lia)
        refine ⟨n + 1 - (i + 1), by lia, i + 1, ys ++ [v], H8, rfl, hlt', by rw [List.length_append, List.length_singleton]; lia, ?_, T.keep _ _ _ J2 fun b hb o e => hsb9.extBut b o (below b (fpl b hb)).2 e, J3, J4, ⟨its ++ [y], rv.append (.cons r8 .nil), ?_⟩, q8⟩
        · refine J1.turned (t' := s8.toks) (it := D) (fun b o hb e => hsb9.extBut b o hb e) J4 hDC (.inr ?_) (fun x c e => Nat.ne_of_lt (cne x c e)) (fun p hp => ?_)
          · show s2.heap.objs.size ≤ D
            rw [hDe]; exact Nat.le_refl _
          · have hp' : p ∈ X.pn ++ pins := by simpa [compX] using hp
            exact Nat.ne_of_lt (hlt _ _ (I2.pin p hp').1)
        · have e : (its ++ [y]).toArray = its.toArray.push y := by simp
          rw [e]; exact hpl9
    · have hin : i = n := by lia
      subst hin
      refine wpAny_mono (T.done (compX X scope N' C cl fp pins s2 H2) rfl rfl rfl hc i _ s' _ H' (fun _ _ => False) Ip (stat fr') st' (wstop ys H' w')) (fun r s4 zz => ?_) noE
      obtain ⟨hr, I4⟩ := zz
      subst hr
      have pD := I4.pin (D, { cls := .type "list", data := .seq its.toArray nD }) (List.mem_append_right _ (List.mem_singleton.mpr rfl))
      obtain ⟨m, hm, _⟩ := I4.loc
      obtain ⟨oC, es, ep, hoC, hdC, hrest⟩ := id hm
      have hCn : H' C = none := I4.free
      have hlen := rv.length
      have u1 : Un (frs X.stack) fp H2 H' s2.heap s4.heap := I4.base
      have okL : ObjOk X.prog X.w (upd H' D (.lst ys)) s4.heap D (.lst ys) := ⟨by lia, its, nD, rv, pD.1⟩
      have hokL : HOk X.prog X.w (upd H' D (.lst ys)) s4.heap := fun b o e => by
        by_cases hb : b = D
        · subst hb; rw [upd_same] at e; cases e; exact okL
        · rw [upd_ne hb] at e
          exact (I4.hok b o e).stay (fun c v _ q => q) (fun c q => by rw [upd_ne (ne_of_none q hDn)]; exact q) fun c xs q => by rw [upd_ne (ne_of_none q hDn)]; exact q
      have I5 : Inv X pins σ (upd H' D (.lst ys)) s4 := by
        refine I2.call' (ch := fp) I4.os ⟨u1.keep, u1.slot, fun b o e n' hb => ?_, u1.there, fun b xs e => ?_, fun b o u e => ?_, fun b ps e => ?_⟩ hokL I4.bare fun b hb => ⟨(f2 b hb).2.2.2.1, (f2 b hb).2.1, (f2 b hb).2.2.2.2.1, (f2 b hb).2.2.2.2.2⟩
        · rw [upd_ne (Nat.ne_of_lt (hlt b o e))]; exact u1.free b o e n' hb
        · rw [upd_ne (ne_of_none e hD0)]; exact u1.tups b xs e
        · rw [upd_ne (ne_of_none e hD0)]; exact u1.frzs b o u e
        · rw [upd_ne (ne_of_none e hD0)]; exact u1.tbls b ps e
      have Cge : s2.heap.objs.size ≤ C := by rw [hDe, hC]; exact Nat.le_succ _
      have CL : C ≠ X.env.locals := Nat.ne_of_gt (Nat.lt_of_lt_of_le I2.lt Cge)
      have Cu : (upd H' D (.lst ys)) C = none := by rw [upd_ne (Ne.symm hDC)]; exact hCn
      have CF : C ∉ X.fs := I2.nofs Cge
      refine hRR D C s4 oC m ys H' ?_ hm (Nat.le_trans I2.sz Cge) Cu CL (fun x c e => ?_) (fun p hp => ?_) hDn w'
      · refine I5.pins_of fun p hp => ?_
        rcases List.mem_append.mp hp with q | q
        · exact I5.pin p (List.mem_append_right _ q)
        · have e : p = (C, oC) := List.mem_singleton.mp q
          subst e
          exact ⟨hoC, Cu, CL, CF, fun v z => by rw [hdC] at z; cases z⟩
      · obtain ⟨v, q⟩ := I2.cell x c e
        exact Nat.ne_of_lt (Nat.lt_of_lt_of_le q.lt Cge)
      · exact Nat.ne_of_lt (Nat.lt_of_lt_of_le (Heap.lt_size (I2.pin p hp).1) Cge)
  exact codeAny_compStart_list (loop _ rfl) (T.self _ _ _ _ _ st₁ (loop _ rfl))

theorem pe_comp (hc : X.calm = true) (S : CompScope X scope N' own caps) (hi : PI X tg iter wi)
    (hB : ∀ C cl fp pins s₂ H₂, PG (compX X scope N' C cl fp pins s₂ H₂) tg g ∧ PFs (compX X scope N' C cl fp pins s₂ H₂) ifs tt ∧ PE (compX X scope N' C cl fp pins s₂ H₂) elt te)
    (hs : ∀ x, foldedSetIterable iter X.env x = pure x := by intro _; rfl) : PE X (.ListComp elt [⟨tg, iter, ifs, 0⟩] scope pos) (tComp wi own caps g tt te) := by
  intro pins s σ H Q I h
  obtain ⟨cl, q1, q2, q3⟩ := closure_of (scope := scope) (env := X.env) (fun y hy hf => I.ok.has y.1 (S.free y hy hf))
  rw [eval_ListComp]
  refine wpAny_comprehension_free (use := none) rfl hs q1 S.kind S.names (thn (hi pins s σ H _ I h) fun v s1 h1 => thn h1 fun itv s2 h2 => ?_)
  obtain ⟨it, fp, tn, J, H2, e, I2, T, st2, f2, n, W, hn, w0, wend, wstep⟩ := h2
  subst e
  refine comp_block hc S hB q2 q3 I2 T st2 f2 hn w0 wstep (fun ys H w => (wend ys H w).1) ?_
  intro D C s' oC m ys H' IC hm h1 h2 h3 h4 h5 hD w
  refine ⟨m, hm, fun h' hs' => ?_⟩
  have I0 : Inv X pins σ (upd H' D (.lst ys)) s' := IC.unpinned
  exact ⟨.ref D, _, I0.turned (t' := s'.toks) (it := C) (fun b o hb e => hs'.extBut b o hb e) h2 h3 (.inr h1) h4 h5, rfl, (wend ys H' w).2 D hD⟩
/-- name = [ .. ] -/
theorem ps_setComp {i : Nat} {y : Str} {py spos : Pos} (hc : X.calm = true) (S : CompScope X scope N' own caps) (hN : X.N.Nodup) (hiy : X.N[i]? = some y) (hy : Loc X.env.scope y) (hi : PI X tg iter wi)
    (hB : ∀ C cl fp pins s₂ H₂, PG (compX X scope N' C cl fp pins s₂ H₂) tg g ∧ PFs (compX X scope N' C cl fp pins s₂ H₂) ifs tt ∧ PE (compX X scope N' C cl fp pins s₂ H₂) elt te)
    (hsw : swapsWith (.ListComp elt [⟨tg, iter, ifs, 0⟩] scope pos) (some (.Name y py)) spos.line X.env = pure true := by rfl)
    (hf : X.fn y = true ∨ X.env.scope.names.lookup y = some .local := by first | exact .inl rfl | exact .inr rfl | assumption)
    (hs : ∀ x, foldedSetIterable iter X.env x = pure x := by intro _; rfl) : PS X (.Assign [.Name y py] (.ListComp elt [⟨tg, iter, ifs, 0⟩] scope pos) spos) (tAsg (tComp wi own caps g tt te) (gName i)) := by
  intro pins s σ H Dd I h
  obtain ⟨cl, q1, q2, q3⟩ := closure_of (scope := scope) (env := X.env) (fun y hy hf => I.ok.has y.1 (S.free y hy hf))
  rw [exec_Assign_Name_used _ _ _ _ hsw]
  refine wpAny_bind (wpAny_standAt (wpAny_bind ?_))
  show wpAny _ X.A (do let _ ← comprehension (.ListComp elt [⟨tg, iter, ifs, 0⟩] scope pos) scope X.env _ (newList []) false (eval iter X.env) (some (assign (.Name y py) X.env))) _ _ s
  refine wpAny_bind (wpAny_mono (wpAny_comprehension_free (use := some (assign (.Name y py) X.env)) (Q := fun _ s' => SP X pins Dd .next s') rfl hs q1 S.kind S.names
    (thn (hi pins s σ H _ I h) fun v s1 h1 => thn h1 fun itv s2 h2 => ?_)) (fun _ s' hq => wpAny_pure (wpAny_pure hq)) fun _ _ e => e)
  obtain ⟨it, fp, tn, J, H2, e, I2, T, st2, f2, n, W, hn, w0, wend, wstep⟩ := h2
  subst e
  refine comp_block hc S hB q2 q3 I2 T st2 f2 hn w0 wstep (fun ys H w => (wend ys H w).1) ?_
  intro D C s' oC m ys H' IC hm h1 h2 h3 h4 h5 hD w
  show wpAny _ X.A (assign (.Name y py) X.env (.ref D)) _ _ _
  refine wpAny_assign_Name (store_ok IC hN hiy hy (v := .ref D) rfl (fun s'' I'' => ?_) hf)
  have pC := I''.pin (C, oC) (List.mem_append_right _ (List.mem_append_right _ (List.mem_singleton.mpr rfl)))
  have pC0 := IC.pin (C, oC) (List.mem_append_right _ (List.mem_append_right _ (List.mem_singleton.mpr rfl)))
  have hm'' : s''.heap.Ns C m := by
    obtain ⟨o, es, ep, ho, r⟩ := hm
    rw [pC0.1] at ho
    cases ho
    exact ⟨oC, es, ep, pC.1, r⟩
  refine ⟨m, hm'', fun h' hs' => ?_⟩
  have I0 : Inv X pins (σ.set i (some (.ref D))) (upd H' D (.lst ys)) s'' := I''.unpinned
  exact ⟨_, _, I0.turned (t' := s''.toks) (it := C) (fun b o hb e => hs'.extBut b o hb e) h2 h3 (.inr h1) h4 h5, (wend ys H' w).2 D hD⟩
end
end L2
end
section
set_option maxRecDepth 100000
namespace L2
open PySem PySem.Spec PyProof.Rows
section
variable {X : Cx}

/-! ### products of ints of up to a thousand bits -/
theorem bits_le {k : Int} (h1 : -(2 ^ 1000) < k) (h2 : k < 2 ^ 1000) : Builtin.Int.intBits k ≤ 2 ^ 20 := by
  unfold Builtin.Int.intBits
  split
  · exact Nat.zero_le _
  · have hn : k.natAbs < 2 ^ 1000 := by
      have e : ((2 : Int) ^ 1000) = ((2 ^ 1000 : Nat) : Int) := by norm_cast
      rw [e] at h1 h2
      lia
    have : k.natAbs.log2 < 1000 := by
      rcases Nat.eq_zero_or_pos k.natAbs with h0 | hp
      · rw [h0]; decide
      · exact (Nat.log2_lt (by lia)).mpr hn
    have h20 : (2 : Nat) ^ 20 = 1048576 := by decide
    lia
def Big (i : Int) : Prop := -(2 ^ 1000) < i ∧ i < 2 ^ 1000
def CBig (i j : Int) : Prop := Big i ∧ Big j
theorem op_mulB : OpR X (binaryOp .Mult) (rI CBig fun i j => .int (i * j)) := opI fun _ _ _ _ _ _ _ hc q => mul_int q (.of_bits (bits_le hc.1.1 hc.1.2) (bits_le hc.2.1 hc.2.2))

/-! ### list(zip(a, b)) -/
def tListZip (K : PySem.W.Frag) (t : TA) : TE := fun σ H Q => t σ H fun vs H1 => ∃ a b xs ys, vs = [.ref a, .ref b] ∧ SqL K H1 a xs ∧ SqL K H1 b ys ∧ xs.length = ys.length ∧
  ∀ (ts : Nat → Addr) (l : Addr) (H' : Hp), Same H1 H' → (∀ (j : Nat) x y, xs[j]? = some x → ys[j]? = some y → H' (ts j) = some (.tup [x, y])) → H' l = some (.lst ((List.range xs.length).map fun j => .ref (ts j))) → Q (.ref l) H'
theorem vals_range {n : Nat} {f : Nat → V} {acc : Array Value} (hs : acc.size = n) (h : ∀ j, j < n → ∃ u, acc[j]? = some u ∧ RelV (f j) u) : Vals ((List.range n).map f) acc.toList := by
  have key : ∀ (l : List Value) (m k : Nat), l.length = m → (∀ j, j < m → ∃ u, l[j]? = some u ∧ RelV (f (k + j)) u) → Vals ((List.range' k m).map f) l := by
    intro l
    induction l with
    | nil => intro m k hm _; subst hm; exact .nil
    | cons u l ih =>
      intro m k hm hj
      subst hm
      rw [List.length_cons, List.range'_succ, List.map_cons]
      obtain ⟨u', e, r⟩ := hj 0 (by simp)
      have e' : u = u' := by simpa using e
      subst e'
      refine .cons (by simpa using r) (ih _ _ rfl fun j hj' => ?_)
      obtain ⟨u2, e2, r2⟩ := hj (j + 1) (by simpa using hj')
      exact ⟨u2, by simpa using e2, by rw [show k + 1 + j = k + (j + 1) by lia]; exact r2⟩
  rw [List.range_eq_range']
  refine key acc.toList n 0 (by simpa using hs) fun j hj => ?_
  obtain ⟨u, e, r⟩ := h j hj
  exact ⟨u, by rw [Array.getElem?_toList]; exact e, by rw [Nat.zero_add]; exact r⟩
theorem pe_listzip {a b : Expr} {t : TA} {p p2 pos pos2 : Pos} (hc : X.calm = true) (hgl : Gl X "list") (hml : X.mg "list" = none) (hgz : Gl X "zip") (hmz : X.mg "zip" = none) (ha : PA X [a, b] t)
    (hs : starEach [a, b] X.env = (false, eval a X.env) :: starEach [b] X.env := by rfl) (hs2 : (backTo pos2 (starEach [b] X.env)).any (·.1) = false := by rfl)
    (hz : starEach [.Call (.Name "zip" p2) [a, b] [] pos2] X.env = [(false, eval (.Call (.Name "zip" p2) [a, b] [] pos2) X.env)] := by rfl) :
    PE X (.Call (.Name "list" p) [.Call (.Name "zip" p2) [a, b] [] pos2] [] pos) (tListZip X.K t) := by
  intro pins s σ H Q I h
  refine wpAny_Call_Name_kw (ld_blt I hgl hml boot_list ?_)
  refine PyProof.Rows.callWith_type1 ?_ hz rfl
  rw [hz]
  show wpAny _ _ (spliced ((false, eval (.Call (.Name "zip" p2) [a, b] [] pos2) X.env) :: [])) _ _ s
  refine Calls.spliced_cons ?_
  refine wpAny_Call_Name_kw (ld_blt I hgz hmz boot_zip ?_)
  refine PyProof.Rows.callWith_type1 (thn (ha pos2 pins s σ H _ I h) fun us s1 zz => ?_) hs hs2
  obtain ⟨vs, H1, I1, r1, q1⟩ := zz
  obtain ⟨a', b', xs, ys, rfl, hx, hy, hl, q⟩ := q1
  obtain ⟨u, v, rfl, ra, rb⟩ := vals2 r1
  cases ra
  cases rb
  obtain ⟨ix, rx, px, zx⟩ := I1.list hx
  obtain ⟨iy, ry, py, zy⟩ := I1.list hy
  have lx := rx.length
  have ly := ry.length
  refine thn (FS.call_list_zip (I1.ok.hd hc) px.isList py.isList (by simp only [List.size_toArray]; lia) (by simp only [List.size_toArray]; lia) fun h' acc S N c kp hS hSN eS az ac => ?_) fun v s2 hv => Calls.spliced_nil hv
  -- the new objects
  have asz : acc.size = xs.length := by rw [az, List.size_toArray, ← lx]
  have item : ∀ (j : Nat) x y, xs[j]? = some x → ys[j]? = some y → ∃ u v, RelV x u ∧ RelV y v ∧ acc[j]? = some (.ref (N + j)) ∧ IsPair h' (N + j) u v := by
    intro j x y ex ey
    obtain ⟨u, eu, ru⟩ := rx.get ex
    obtain ⟨v, ev, rv⟩ := ry.get ey
    have hj : j < ix.toArray.size := by rw [List.size_toArray]; exact (List.getElem?_eq_some_iff.mp eu).1
    obtain ⟨x', y', e1, e2, e3, e4⟩ := ac j hj
    rw [List.getElem?_toArray, eu] at e1
    rw [List.getElem?_toArray, ev] at e2
    cases e1
    cases e2
    exact ⟨u, v, ru, rv, e3, e4⟩
  let Hn : Hp := fun (b : Nat) => if b = S then some (.lst ((List.range xs.length).map fun j => .ref (N + j))) else if N ≤ b ∧ b < N + xs.length then
    (match xs[b - N]?, ys[b - N]? with | some x, some y => some (.tup [x, y]) | _, _ => none) else H1 b
  have hnew : ∀ b u, s1.heap.get? b = some u → Hn b = H1 b := fun (b : Nat) u e => by
    have : b < s1.heap.objs.size := Heap.lt_size e
    show (if b = S then _ else _) = _
    rw [if_neg (by lia), if_neg (by lia)]
  have hold : ∀ b u, H1 b = some u → Hn b = some u := fun (b : Nat) u e => by
    have : b < s1.heap.objs.size := I1.hok.lt e
    show (if b = S then _ else _) = _
    rw [if_neg (by lia), if_neg (by lia)]; exact e
  have hS' : Hn S = some (.lst ((List.range xs.length).map fun j => .ref (N + j))) := by
    show (if S = S then _ else _) = _
    rw [if_pos rfl]
  have hT' : ∀ (j : Nat) x y, xs[j]? = some x → ys[j]? = some y → Hn (N + j) = some (.tup [x, y]) := by
    intro j x y ex ey
    have hj : j < xs.length := (List.getElem?_eq_some_iff.mp ex).1
    show (if N + j = S then _ else _) = _
    rw [if_neg (by lia), if_pos (by lia), show N + j - N = j by lia, ex, ey]
  refine ⟨.ref S, Hn, I1.grow (t' := s1.toks) kp hnew hold ?_, rfl, q (fun j => N + j) S Hn (fun b u e => hold b u e) hT' hS'⟩
  intro (b : Nat) o e
  have e0 : (if (b : Nat) = S then some (.lst ((List.range xs.length).map fun j => .ref (N + j))) else if N ≤ b ∧ b < N + xs.length then
    (match xs[(b : Nat) - N]?, ys[(b : Nat) - N]? with | some x, some y => some (.tup [x, y]) | _, _ => none) else H1 b) = some o := e
  by_cases c1 : (b : Nat) = S
  · right
    rw [if_pos c1] at e0
    cases e0
    refine ⟨by rw [List.length_map, List.length_range]; lia, acc.toList, c, vals_range asz fun j hj => ?_, by rw [c1]; exact eS⟩
    have ex : xs[j]? = some xs[j] := List.getElem?_eq_getElem hj
    have ey : ys[j]? = some (ys[j]'(by lia)) := List.getElem?_eq_getElem (by lia)
    obtain ⟨u, v, _, _, e3, _⟩ := item j _ _ ex ey
    exact ⟨_, e3, rfl⟩
  · rw [if_neg c1] at e0
    by_cases c2 : N ≤ (b : Nat) ∧ (b : Nat) < N + xs.length
    · right
      rw [if_pos c2] at e0
      have ex : xs[(b : Nat) - N]? = some (xs[(b : Nat) - N]'(by lia)) := List.getElem?_eq_getElem (by lia)
      have ey : ys[(b : Nat) - N]? = some (ys[(b : Nat) - N]'(by lia)) := List.getElem?_eq_getElem (by lia)
      rw [ex, ey] at e0
      cases e0
      obtain ⟨u, v, ru, rv, e3, e4⟩ := item _ _ _ ex ey
      rw [show N + ((b : Nat) - N) = b by lia] at e4
      exact ⟨by show 2 ≤ sizeLine; decide, [u, v], .cons ru (.cons rv .nil), ⟨_, e4, rfl, _, rfl⟩⟩
    · left
      rw [if_neg c2] at e0
      exact e0

/-! ### list(reversed(a)) -/
def tListRev (K : PySem.W.Frag) (t : TA) : TE := fun σ H Q => t σ H fun vs H1 => ∃ a xs, vs = [.ref a] ∧ SqL K H1 a xs ∧ ∀ l, H1 l = none → Q (.ref l) (upd H1 l (.lst xs.reverse))
theorem vals_rev {xs : List V} {its : List Value} {acc : Array Value} (r : Vals xs its) (hs : acc.size = its.length) (h : ∀ (j : Nat) v, acc[j]? = some v → its[its.length - 1 - j]? = some v) : Vals xs.reverse acc.toList := by
  have e : acc.toList = its.reverse := by
    apply List.ext_getElem?
    intro j
    by_cases c : j < its.length
    · have hj : j < acc.size := by lia
      have e1 := h j _ (Array.getElem?_eq_getElem hj)
      rw [Array.getElem?_toList, Array.getElem?_eq_getElem hj, List.getElem?_reverse c, e1]
    · rw [List.getElem?_eq_none (by rw [Array.length_toList]; lia), List.getElem?_eq_none (by rw [List.length_reverse]; lia)]
  rw [e]
  exact Vals.reverse r
theorem pe_listrev {a : Expr} {t : TA} {p p2 pos pos2 : Pos} (hc : X.calm = true) (hgl : Gl X "list") (hml : X.mg "list" = none) (hgz : Gl X "reversed") (hmz : X.mg "reversed" = none) (ha : PA X [a] t)
    (hs : starEach [a] X.env = (false, eval a X.env) :: starEach [] X.env := by rfl) (hs2 : (backTo pos2 (starEach [] X.env)).any (·.1) = false := by rfl)
    (hz : starEach [.Call (.Name "reversed" p2) [a] [] pos2] X.env = [(false, eval (.Call (.Name "reversed" p2) [a] [] pos2) X.env)] := by rfl) :
    PE X (.Call (.Name "list" p) [.Call (.Name "reversed" p2) [a] [] pos2] [] pos) (tListRev X.K t) := by
  intro pins s σ H Q I h
  refine wpAny_Call_Name_kw (ld_blt I hgl hml boot_list ?_)
  refine PyProof.Rows.callWith_type1 ?_ hz rfl
  rw [hz]
  show wpAny _ _ (spliced ((false, eval (.Call (.Name "reversed" p2) [a] [] pos2) X.env) :: [])) _ _ s
  refine Calls.spliced_cons ?_
  refine wpAny_Call_Name_kw (ld_blt I hgz hmz boot_reversed ?_)
  refine PyProof.Rows.callWith_type1 (thn (ha pos2 pins s σ H _ I h) fun us s1 zz => ?_) hs hs2
  obtain ⟨vs, H1, I1, r1, q1⟩ := zz
  obtain ⟨a', xs, rfl, hx, q⟩ := q1
  obtain ⟨u, rfl, ra⟩ := vals1 r1
  cases ra
  obtain ⟨ix, rx, px, zx⟩ := I1.list hx
  have lx := rx.length
  have alt : a' < s1.heap.objs.size := by obtain ⟨o, ho, _⟩ := px.isList; exact Heap.lt_size ho
  refine call_reversed_list px.isList (Calls.spliced_nil ?_)
  have kp : ∀ b u, s1.heap.get? b = some u → (s1.heap.push (revObj a' ((ix.toArray.size : Int) - 1))).get? b = some u := fun b u e => Heap.get?_push_of_some _ e
  refine FS.call_list_rev (s := { s1 with heap := s1.heap.push (revObj a' ((ix.toArray.size : Int) - 1)) }) (I := s1.heap.objs.size) (l := a') (items := ix.toArray) (I1.ok.hd hc) (Nat.ne_of_lt alt) ⟨_, Heap.get?_push_size _ rfl, rfl, rfl⟩ (px.isList.push _) (by simp only [List.size_toArray]; lia) fun h' tk acc c kp2 eS az ac => ?_
  have sz : (s1.heap.push (revObj a' ((ix.toArray.size : Int) - 1))).objs.size = s1.heap.objs.size + 1 := Heap.size_push ..
  have kept : ∀ b u, s1.heap.get? b = some u → h'.get? b = some u := fun b u e => kp2 b u (Nat.ne_of_lt (Heap.lt_size e)) (kp b u e)
  show EP X pins σ Q (.ref (s1.heap.push (revObj a' ((ix.toArray.size : Int) - 1))).objs.size) _
  have eS' : h'.get? (s1.heap.push (revObj a' ((ix.toArray.size : Int) - 1))).objs.size = some { cls := .type "list", dict := none, data := .seq acc c, slots := #[] } := eS
  rw [sz] at eS' ⊢
  have hfr : H1 (s1.heap.objs.size + 1) = none := I1.hok.fresh (Nat.le_succ _)
  refine ⟨.ref (s1.heap.objs.size + 1), _, I1.laid (a := s1.heap.objs.size + 1) (o := .lst xs.reverse) (t' := tk) kept (Nat.le_succ _) ?_, rfl, q _ hfr⟩
  have az' : acc.size = ix.toArray.size := az
  refine ⟨by rw [List.length_reverse]; exact zx, acc.toList, c, vals_rev rx (by rw [az', List.size_toArray]) fun j v e => ?_, eS'⟩
  have := ac j v e
  rw [List.getElem?_toArray, List.size_toArray] at this
  exact this
end
end L2
end
section
set_option maxRecDepth 100000
namespace L2
open PySem PySem.Spec PyProof.Rows
set_option exponentiation.threshold 2000 in
theorem pow_lt_ : ((10 : Int) ^ 100) < 2 ^ 1000 := by decide +kernel
theorem big_of {i : Int} (h1 : -(10 ^ 100) ≤ i) (h2 : i ≤ 10 ^ 100) : Big i := by
  have := pow_lt_
  unfold Big
  generalize (2 : Int) ^ 1000 = z at *
  generalize (10 : Int) ^ 100 = y at *
  lia
section
variable {X : Cx}
/-! ### set(points), its length -/
def SetN (a : Addr) (n : Nat) : HO := .ext fun h => ∃ o es ep t, h.get? a = some o ∧ o.ExactSet ∧ o.data = .set es ep t ∧ t.fits es.size = true ∧ es.size = n ∧ n ≤ 14
theorem tup_key {pins : List (Addr × Obj)} {σ : St} {H : Hp} {s : Shared} {a : Addr} {x y : Int} (I : Inv X pins σ H s) (h : H a = some (.tup [.int x, .int y])) : IsTupleKey (intKind X.prog X.w) s.heap [x, y] a := by
  obtain ⟨_, its, r, o, ho, hc, n, hd⟩ := I.hok a _ h
  cases r with
  | cons r1 r =>
    cases r with
    | cons r2 r =>
      cases r
      obtain ⟨t1, rfl⟩ := r1
      obtain ⟨t2, rfl⟩ := r2
      exact ⟨o, _, n, ho, hc, hd, .cons (intKind_is _ _ _ _) (.cons (intKind_is _ _ _ _) .nil)⟩
theorem call_set_pts (hc : X.calm = true) (hu : X.A.units + 20 < cLine) : CallR X (.type "set") (fun xs H Q => ∃ (p : Addr) (rf : Nat → Addr) (px py : Nat → Int) (n : Nat), xs = [.ref p] ∧ SqL X.K H p ((List.range n).map fun i => .ref (rf i)) ∧ n ≤ 14 ∧
    (∀ i, i < n → H (rf i) = some (.tup [.int (px i), .int (py i)])) ∧ ∀ l, H l = none → Q (.ref l) (upd H l (SetN l (FS.diffs (fun i => [px i, py i]) n)))) := by
  intro pins s σ H xs us Q I r h
  obtain ⟨p, rf, px, py, n, rfl, hq, hn, ht, q⟩ := h
  obtain ⟨u, rfl, ra⟩ := vals1 r
  cases ra
  obtain ⟨its, rv, pl, hz⟩ := I.list hq
  have hl := rv.length
  rw [List.length_map, List.length_range] at hl
  have sz : its.toArray.size = n := by rw [List.size_toArray]; lia
  refine FS.call_set_tuples (key := fun i => [px i, py i]) (rf := rf) (I.ok.hd hc) hu pl.isList (by lia) ?_ ?_ ?_
  · intro i v e
    rw [List.getElem?_toArray] at e
    have hi : i < n := by have := (List.getElem?_eq_some_iff.mp e).1; lia
    have e1 : ((List.range n).map fun i => V.ref (rf i))[i]? = some (.ref (rf i)) := by rw [List.getElem?_map, List.getElem?_range hi]; rfl
    obtain ⟨u, eu, ru⟩ := rv.get e1
    rw [e] at eu
    cases eu
    exact ru
  · intro i hi
    exact tup_key I (ht i (by lia))
  · intro h' tk hH kp
    have kept : ∀ b o, s.heap.get? b = some o → h'.get? b = some o := fun b o e => kp b o (Heap.lt_size e) e
    have hf : H s.heap.objs.size = none := I.hok.fresh (Nat.le_refl _)
    refine ⟨.ref s.heap.objs.size, _, I.laid (o := SetN s.heap.objs.size (FS.diffs (fun i => [px i, py i]) n)) (t' := tk) kept (Nat.le_refl _) ?_, rfl, q _ hf⟩
    obtain ⟨o, es, ep, t, T, _, hsz, _⟩ := hH
    rw [sz] at hsz
    have dl := FS.diffs_le (fun i => [px i, py i]) n
    refine ⟨⟨o, es, ep, t, T.ho, T.ex, T.hd, T.fits, hsz, by lia⟩, ⟨o, T.ho⟩, ?_⟩
    rintro h1 h2 ⟨o, es, ep, t, e, r⟩ k
    exact ⟨o, es, ep, t, k o e, r⟩
theorem call_len_setN : CallR X (.builtin "len") (fun xs H Q => ∃ p n, xs = [.ref p] ∧ H p = some (SetN p n) ∧ Q (.int n) H) := by
  intro pins s σ H xs us Q I r h
  obtain ⟨p, n, rfl, hp, q⟩ := h
  obtain ⟨u, rfl, ra⟩ := vals1 r
  cases ra
  obtain ⟨⟨o, es, ep, t, e, ex, hd, hf, hs, hn⟩, _⟩ := I.hok p _ hp
  refine call_len_set e ex hd hf (by lia) ?_
  rw [hs]
  exact ⟨.int n, H, I.tok _, ⟨_, rfl⟩, q⟩

/-! ### sum of ints, any of bools: a made list -/
theorem walk_list {pins : List (Addr × Obj)} {σ : St} {H : Hp} {s : Shared} {p : Addr} {its : List Value} (I : Inv X pins σ H s) (pl : PlainL s.heap p its.toArray) (hc : X.calm = true) :
    (Walks X.prog X.w X.A.in1 s.heap.objs.size [s.heap.objs.size, p] [s.heap.objs.size] its.toArray.size (fun i v => its.toArray[i]? = some v) (fun i h => h.IsListIter s.heap.objs.size p i ∧ h.IsList p its.toArray)) := by
  have hlt : p < s.heap.objs.size := by obtain ⟨o, ho, _⟩ := pl.isList; exact Heap.lt_size ho
  exact Walks.list (show X.A.in1.handled = none from I.ok.hd hc) s.heap.objs.size p (Nat.ne_of_lt hlt) its.toArray
def sumI : List Int → Int
  | [] => 0
  | x :: r => x + sumI r
theorem preSum_list (val : Nat → Int) : ∀ (ns : List Int) (k : Nat), (∀ (i : Nat) v, ns[i]? = some v → val (k + i) = v) → preSum val (k + ns.length) = preSum val k + sumI ns
  | [], k, _ => by simp [sumI]
  | x :: r, k, h => by
    have h0 : val k = x := h 0 x rfl
    have ih := preSum_list val r (k + 1) fun i v e => by rw [show k + 1 + i = k + (i + 1) by lia]; exact h (i + 1) v e
    rw [List.length_cons, show k + (r.length + 1) = k + 1 + r.length by lia, ih]
    show preSum val k + val k + sumI r = preSum val k + (x + sumI r)
    rw [h0]; lia
theorem call_sum_ints (hc : X.calm = true) : CallR X (.builtin "sum") (fun xs H Q => ∃ (p : Addr) (ns : List Int), xs = [.ref p] ∧ SqL X.K H p (ns.map V.int) ∧ Q (.int (sumI ns)) H) := by
  intro pins s σ H xs us Q I r h
  obtain ⟨p, ns, rfl, hq, q⟩ := h
  obtain ⟨u, rfl, ra⟩ := vals1 r
  cases ra
  obtain ⟨its, rv, pl, hz⟩ := I.list hq
  have hl := rv.length
  rw [List.length_map] at hl
  have val : ∀ (i : Nat) v, its.toArray[i]? = some v → ∃ t, v = .int (ns.getD i 0) t := by
    intro i v e
    rw [List.getElem?_toArray] at e
    have hi : i < ns.length := by have := (List.getElem?_eq_some_iff.mp e).1; lia
    obtain ⟨u, eu, ru⟩ := rv.get (i := i) (x := .int ns[i]) (by rw [List.getElem?_map, List.getElem?_eq_getElem hi]; rfl)
    rw [e] at eu
    cases eu
    obtain ⟨t, rfl⟩ := ru
    exact ⟨t, by rw [List.getD_eq_getElem?_getD, List.getElem?_eq_getElem hi]; rfl⟩
  refine call_sum_walkG (wpAny_pyIter_list pl.isList ?_)
  refine ⟨s.heap.objs.size, _, _, _, _, _, fun i => ns.getD i 0, rfl, walk_list I pl hc, ⟨⟨_, Heap.get?_push_size _ rfl, rfl, rfl⟩, pl.isList.push _⟩, fun b hb => ?_, val, fun h' tk t' kp => ?_⟩
  · have hlt : p < s.heap.objs.size := by obtain ⟨o, ho, _⟩ := pl.isList; exact Heap.lt_size ho
    show b < (s.heap.push _).objs.size
    rw [Heap.size_push]
    simp only [List.mem_cons, List.not_mem_nil, or_false] at hb
    rcases hb with rfl | rfl
    · exact Nat.lt_succ_self _
    · exact Nat.lt_succ_of_lt hlt
  · have e : preSum (fun i => ns.getD i 0) its.toArray.size = sumI ns := by
      have := preSum_list (fun i => ns.getD i 0) ns 0 fun i v e => by rw [Nat.zero_add, List.getD_eq_getElem?_getD, e]; rfl
      rw [List.size_toArray, ← hl]
      simpa [preSum] using this
    rw [e]
    exact ⟨.int (sumI ns), H, I.kept fun b o eb => kp b o (by simp only [List.mem_cons, List.not_mem_nil, or_false]; exact Nat.ne_of_lt (Heap.lt_size eb)) (Heap.get?_push_of_some _ eb), ⟨_, rfl⟩, q⟩
/-! ### isinstance(x, a built-in type) of an int, a bool, a text -/
theorem call_isinst {T : String} : CallR X (.builtin "isinstance") (fun xs H Q => ∃ x t b, xs = [x, .ty T] ∧ TyOf X.K H x t ∧ PySem.W.kitOne X.K t (.type T) = some b ∧ Q (.bl b) H) := by
  intro pins s σ H xs us Q I r h
  obtain ⟨x, t, b, rfl, ty, e, q⟩ := h
  obtain ⟨u, v, rfl, ra, rb⟩ := vals2 r
  cases rb
  exact isinst_ok I ra ty e fun tk => ⟨.bl b, H, I.tok _, rfl, q⟩

/-! ### == of lists of points, of flat lists -/
/-- a value that is flat, or a tuple of two ints -/
inductive Cmp (K : PySem.W.Frag) (H : Hp) : V → V → Bool → Prop
  | flat {x y : V} : flatV x = true → flatV y = true → Cmp K H x y (eqV x y)
  | pt {a b : Addr} {x y x' y' : Int} : SqT K H a [.int x, .int y] → SqT K H b [.int x', .int y'] → Cmp K H (.ref a) (.ref b) (decide (x = x' ∧ y = y'))
theorem Cmp.at {pins : List (Addr × Obj)} {σ : St} {H : Hp} {s : Shared} {x y : V} {b : Bool} {u v : Value} {A : Around} (I : Inv X pins σ H s) (c : Cmp X.K H x y b) (rx : RelV x u) (ry : RelV y v) (hu : A.units + 1 < cLine) : SeqAt.EqAt A s u v b := by
  cases c with
  | flat f1 f2 => exact eqAt_V rx ry f1 f2
  | @pt a b x y x' y' h1 h2 =>
    cases rx
    cases ry
    by_cases hab : a = b
    · subst hab
      have := I.tuple_inj h1 h2
      simp only [List.cons.injEq, V.int.injEq, and_true] at this
      rw [decide_eq_true (p := x = x' ∧ y = y') this]
      exact SeqAt.EqAt.same _
    · refine SeqAt.EqAt.of_refs hab ?_
      obtain ⟨i1, r1, p1, _⟩ := I.tuple h1
      obtain ⟨i2, r2, p2, _⟩ := I.tuple h2
      cases r1 with
      | cons r1 t1 =>
        cases t1 with
        | cons r1' t1 =>
          cases t1
          cases r2 with
          | cons r2 t2 =>
            cases t2 with
            | cons r2' t2 =>
              cases t2
              obtain ⟨k1, rfl⟩ := r1
              obtain ⟨k1', rfl⟩ := r1'
              obtain ⟨k2, rfl⟩ := r2
              obtain ⟨k2', rfl⟩ := r2'
              have := SeqAt.RcAt.tuples (A := A) (s := s) (e := fun j => if j = 0 then x == x' else y == y') (show s.heap.IsTuple a _ from p1) (show s.heap.IsTuple b _ from p2) (by lia) fun j j1 j2 => by
                match j, j1 with
                | 0, _ => exact SeqAt.EqAt.int_int x k1 x' k2
                | 1, _ => exact SeqAt.EqAt.int_int y k1' y' k2'
              have e : ((List.range (min (#[Value.int x k1, Value.int y k1'] : Array Value).size (#[Value.int x' k2, Value.int y' k2'] : Array Value).size)).all (fun j => if j = 0 then x == x' else y == y') && (#[Value.int x k1, Value.int y k1'] : Array Value).size == (#[Value.int x' k2, Value.int y' k2'] : Array Value).size) = decide (x = x' ∧ y = y') := by
                show ((List.range 2).all (fun j => if j = 0 then x == x' else y == y') && true) = _
                rw [Bool.and_true]
                show ((x == x') && ((y == y') && true)) = _
                rw [Bool.and_true, Bool.eq_iff_iff]
                simp
              rw [e] at this
              exact this
/-- two lists, place by place -/
def rEqL (K : PySem.W.Frag) (neg : Bool) : R2 := fun x y H Q => ∃ a b xs ys, x = .ref a ∧ y = .ref b ∧ SqL K H a xs ∧ SqL K H b ys ∧
  ((xs.length ≠ ys.length ∧ Q (.bl neg) H) ∨ (xs.length = ys.length ∧ ∃ e : Nat → Bool, (∀ (j : Nat) x y, xs[j]? = some x → ys[j]? = some y → Cmp K H x y (e j)) ∧ Q (.bl (if neg then !(List.range xs.length).all e else (List.range xs.length).all e)) H))
theorem op_eqL (hu : X.A.units + 5 < cLine) : OpR X (compareOp .Eq) (rEqL X.K false) := by
  intro pins s σ H x y v u Q I rx ry h
  obtain ⟨a, b, xs, ys, rfl, rfl, h1, h2, h⟩ := h
  cases rx
  cases ry
  obtain ⟨i1, r1, p1, _⟩ := I.list h1
  obtain ⟨i2, r2, p2, _⟩ := I.list h2
  have l1 := r1.length
  have l2 := r2.length
  rcases h with ⟨hn, q⟩ | ⟨he, e, hc, q⟩
  · exact SeqAt.eq_list_lengthsAt p1.isList p2.isList (by simp only [List.size_toArray, bne_iff_ne]; lia) (by lia) ⟨.bl false, H, I, rfl, q⟩
  · refine SeqAt.eq_listAt (e := e) p1.isList p2.isList (by simp only [List.size_toArray]; lia) (by lia) (fun j j1 j2 => ?_) ⟨.bl ((List.range xs.length).all e), H, I, ?_, q⟩
    · have j1' : j < i1.length := by simpa using j1
      have j2' : j < i2.length := by simpa using j2
      obtain ⟨u, eu, ru⟩ := r1.get (i := j) (x := xs[j]'(by lia)) (List.getElem?_eq_getElem _)
      obtain ⟨v, ev, rv⟩ := r2.get (i := j) (x := ys[j]'(by lia)) (List.getElem?_eq_getElem _)
      rw [List.getElem?_eq_getElem j1'] at eu
      rw [List.getElem?_eq_getElem j2'] at ev
      cases eu
      cases ev
      have := (hc j _ _ (List.getElem?_eq_getElem (by lia)) (List.getElem?_eq_getElem (by lia))).at I ru rv (A := X.A.in1) (by show X.A.units + 1 + 1 < cLine; lia)
      simpa using this
    · rw [List.size_toArray, ← l1]; rfl
theorem op_neL (hu : X.A.units + 5 < cLine) : OpR X (compareOp .NotEq) (rEqL X.K true) := by
  intro pins s σ H x y v u Q I rx ry h
  obtain ⟨a, b, xs, ys, rfl, rfl, h1, h2, h⟩ := h
  cases rx
  cases ry
  obtain ⟨i1, r1, p1, _⟩ := I.list h1
  obtain ⟨i2, r2, p2, _⟩ := I.list h2
  have l1 := r1.length
  have l2 := r2.length
  rcases h with ⟨hn, q⟩ | ⟨he, e, hc, q⟩
  · exact SeqAt.RcNeAt.lists_lengths p1.isList p2.isList (by simp only [List.size_toArray, bne_iff_ne]; lia) (by lia) _ _ _ _ ⟨.bl true, H, I, rfl, q⟩
  · refine SeqAt.RcNeAt.lists (e := e) p1.isList p2.isList (by simp only [List.size_toArray]; lia) (by lia) (fun j j1 j2 => ?_) _ _ _ _ ⟨.bl (!(List.range xs.length).all e), H, I, ?_, q⟩
    · have j1' : j < i1.length := by simpa using j1
      have j2' : j < i2.length := by simpa using j2
      obtain ⟨u, eu, ru⟩ := r1.get (i := j) (x := xs[j]'(by lia)) (List.getElem?_eq_getElem _)
      obtain ⟨v, ev, rv⟩ := r2.get (i := j) (x := ys[j]'(by lia)) (List.getElem?_eq_getElem _)
      rw [List.getElem?_eq_getElem j1'] at eu
      rw [List.getElem?_eq_getElem j2'] at ev
      cases eu
      cases ev
      have := (hc j _ _ (List.getElem?_eq_getElem (by lia)) (List.getElem?_eq_getElem (by lia))).at I ru rv (A := X.A.in1) (by show X.A.units + 1 + 1 < cLine; lia)
      simpa using this
    · rw [List.size_toArray, ← l1]; rfl
end
/-! ### enumerate(list) -/
def Ite (K : PySem.W.Frag) (a : Addr) : It :=
  ⟨fun i H => ∃ xs x, SqL K H a xs ∧ xs[i]? = some x, fun i H x H' => ∃ T v, x = .ref T ∧ H T = none ∧ H' = upd H T (.tup [.int i, v]) ∧ ∀ xs, SqL K H a xs → xs[i]? = some v, fun i H => ∃ xs, SqL K H a xs ∧ xs.length ≤ i⟩
theorem turn_enum {P : Program} {w : World} {K : PySem.W.Frag} {es : List Expr} {k : Nat} {pos : Pos} (a e it : Addr) (hne : e ≠ it) :
    Turn P w K (.Tuple es k pos) (Ite K a) [e, it] e (fun i h => h.IsListIter it a i ∧ ∃ old, IsEnum h e it i old) where
  mem := by simp
  obj := fun i h st b hb => by
    obtain ⟨⟨o, ho, hc, hd⟩, old, he⟩ := st
    simp only [List.mem_cons, List.not_mem_nil, or_false] at hb
    rcases hb with rfl | rfl
    · exact ⟨_, he, fun v z => by cases z⟩
    · exact ⟨o, ho, fun v z => by rw [hd] at z; cases z⟩
  keep := fun i h h' st k => ⟨st.1.at fun o e' => k it (by simp) o e', st.2.imp fun old he => k e (by simp) _ he⟩
  item := by
    intro X hP hw hK hc i pins s σ H E I hf st hg
    subst hP hw hK
    obtain ⟨xs, x, hq, hx⟩ := hg
    obtain ⟨hit, old, he⟩ := st
    obtain ⟨its, rv, p, hz⟩ := I.list hq
    obtain ⟨u, hu, ru⟩ := rv.get hx
    obtain ⟨f0, f1, f2, f3, f4, f5⟩ := hf e (by simp)
    obtain ⟨g0, g1, g2, g3, g4, g5⟩ := hf it (by simp)
    refine wpAny_pyNext_enum_item he hit p.isList (x := u) (by simpa using hu) hne fun h' a1 a2 a3 a4 a5 => ?_
    refine ⟨_, rfl, ?_⟩
    refine wpAny_letOwnedTupleGo_enum a1 fun h'' b1 b2 => ?_
    have elt : e < s.heap.objs.size := Heap.lt_size he
    have a3' : h''.get? s.heap.objs.size = some { cls := .type "tuple", data := .seq #[.int i s.toks, u] } := b2.extBut _ _ (Nat.ne_of_gt elt) a3
    have hfr : H s.heap.objs.size = none := I.hok.fresh (Nat.le_refl _)
    -- the two records have turned, the tuple is new
    have nT : ∀ b ob, H b = some ob → b ≠ e ∧ b ≠ it := fun b ob q => ⟨fun z => (by rw [z, f0] at q; cases q), fun z => (by rw [z, g0] at q; cases q)⟩
    have kp : ∀ b o, b ∉ [e, it] → s.heap.get? b = some o → h''.get? b = some o := fun b o hb q => by
      simp only [List.mem_cons, List.not_mem_nil, or_false, not_or] at hb
      exact b2.extBut b o hb.1 (a5 b o hb.1 hb.2 q)
    have okT : ObjOk X.prog X.w (upd H s.heap.objs.size (.tup [.int i, x])) h'' s.heap.objs.size (.tup [.int i, x]) :=
      ⟨by show 2 ≤ sizeLine; decide, [.int i s.toks, u], .cons ⟨_, rfl⟩ (.cons ru .nil), ⟨_, a3', rfl, _, rfl⟩⟩
    have hokT : HOk X.prog X.w (upd H s.heap.objs.size (.tup [.int i, x])) h'' := fun b o q => by
      by_cases hb : b = s.heap.objs.size
      · subst hb; rw [upd_same] at q; cases q; exact okT
      · rw [upd_ne hb] at q
        refine (I.hok b o q).stay (fun c v hc' z => kp c v ?_ z) (fun c z => by rw [upd_ne (ne_of_none z hfr)]; exact z) fun c xs z => by rw [upd_ne (ne_of_none z hfr)]; exact z
        simp only [List.mem_cons, List.not_mem_nil, or_false, not_or]
        rcases hc' with rfl | hc'
        · exact nT _ _ q
        · exact nT _ _ hc'
    have I1 : Inv X pins σ (upd H s.heap.objs.size (.tup [.int i, x])) { s with heap := h'', toks := s.toks + 1 } := by
      refine I.step (g' := s.gens) (d' := s.drawn) (ch := [e, it]) (fun b hb => ?_) (fun b o _ _ hc' q _ => kp b o hc' q) (fun b o _ _ hc' q _ => ⟨o.slots, kp b o hc' q⟩) (fun b o hc' q n => ?_) (fun b o hc' q => ⟨o, kp b o hc' q⟩)
        (fun b xs q => by rw [upd_ne (ne_of_none q hfr)]; exact q) (fun b o u q => by rw [upd_ne (ne_of_none q hfr)]; exact q) (fun b ps q => ⟨#[], by rw [upd_ne (ne_of_none q hfr), q]; simp⟩) (fun m hm => ?_) hokT I.bare
      · simp only [List.mem_cons, List.not_mem_nil, or_false] at hb
        rcases hb with rfl | rfl
        · exact ⟨f3, f1, f4, f5⟩
        · exact ⟨g3, g1, g4, g5⟩
      · rw [upd_ne (Nat.ne_of_lt (Heap.lt_size q))]; exact n
      · obtain ⟨o, es', ep, ho, r⟩ := hm
        exact ⟨o, es', ep, kp _ o (by simp only [List.mem_cons, List.not_mem_nil, or_false, not_or]; exact ⟨Ne.symm f1, Ne.symm g1⟩) ho, r⟩
    refine ⟨.ref s.heap.objs.size, _, I1, rfl, ⟨_, x, rfl, hfr, rfl, fun ys hy => by rw [I.list_inj hy hq]; exact hx⟩, ⟨a2.extBut b2.extBut (Ne.symm hne), u, by simpa using b1⟩, fun b hb => ?_⟩
    have hb' : b < s.heap.objs.size := by
      simp only [List.mem_cons, List.not_mem_nil, or_false] at hb
      rcases hb with rfl | rfl
      · exact elt
      · obtain ⟨o, ho, _⟩ := hit; exact Heap.lt_size ho
    rw [upd_ne (Nat.ne_of_lt hb')]
    exact (hf b hb).1
  done := by
    intro X hP hw hK hc i pins s σ H E I hf st hg
    subst hP hw hK
    obtain ⟨xs, hq, hx⟩ := hg
    obtain ⟨hit, old, he⟩ := st
    obtain ⟨its, rv, p, hz⟩ := I.list hq
    obtain ⟨g0, g1, g2, g3, g4, g5⟩ := hf it (by simp)
    have hl := rv.length
    exact wpAny_pyNext_enum_end (I.ok.hd hc) he hit p.isList (by simp; lia) fun h' eb => ⟨rfl, I.turned (t' := s.toks) (fun b o hb e => eb b o hb e) g0 g1 g3 g4 g5⟩
  self := fun _ _ _ _ _ st h => by
    obtain ⟨_, old, he⟩ := st
    exact wpAny_pyIter_enum he h
section
variable {X : Cx}
def iEnum (K : PySem.W.Frag) (ta : TA) : TI := fun σ H R => ta σ H fun vs H1 => ∃ a, vs = [.ref a] ∧ (∃ xs, SqL K H1 a xs) ∧ R (Ite K a) H1
theorem pi_enum {es : List Expr} {k : Nat} {tpos : Pos} {l : Expr} {ta : TA} {p pos : Pos} (hg : Gl X "enumerate") (hm : X.mg "enumerate" = none) (ha : PA X [l] ta) (hs : starEach [l] X.env = (false, eval l X.env) :: starEach [] X.env := by rfl) :
    PI X (.Tuple es k tpos) (.Call (.Name "enumerate" p) [l] [] pos) (iEnum X.K ta) := by
  intro pins s σ H R I h
  refine Call_ (ld_blt I hg hm boot_enumerate (PyProof.Rows.callWith_type1 (thn (ha pos pins s σ H _ I h) fun us s1 zz => ?_) hs rfl))
  obtain ⟨vs, H1, I1, r1, q1⟩ := zz
  obtain ⟨a, rfl, ⟨xs, hq⟩, q⟩ := q1
  obtain ⟨u, rfl, ra⟩ := vals1 r1
  cases ra
  obtain ⟨its, rv, pl, hz⟩ := I1.list hq
  refine call_enumerate_list pl.isList fun h' a1 a2 a3 a4 => ?_
  refine wpAny_pyIter_enum a1 ?_
  have I2 : Inv X pins σ H1 { s1 with heap := h' } := I1.kept (t' := s1.toks) a4
  refine ⟨s1.heap.objs.size + 1, [s1.heap.objs.size + 1, s1.heap.objs.size], _, _, H1, rfl, I2, turn_enum a _ _ (Nat.succ_ne_self _), ⟨a2, .none, by simpa using a1⟩, fun b hb => ?_, q⟩
  simp only [List.mem_cons, List.not_mem_nil, or_false] at hb
  rcases hb with rfl | rfl
  · exact I1.fpOk (Nat.le_succ _) (I1.hok.fresh (Nat.le_succ _))
  · exact I1.fpOk (Nat.le_refl _) (I1.hok.fresh (Nat.le_refl _))
end
end L2
end
section
namespace FF
abbrev Pt := Int × Int

def turn (a b p : Pt) : Int := (b.1 - a.1) * (p.2 - a.2) - (b.2 - a.2) * (p.1 - a.1)

def Meet (a b c d : Pt) : Prop := ∃ u v s t : Int, 0 ≤ u ∧ 0 ≤ v ∧ 0 ≤ s ∧ 0 ≤ t ∧ 0 < u + v ∧ u + v = s + t ∧
  u * a.1 + v * b.1 = s * c.1 + t * d.1 ∧ u * a.2 + v * b.2 = s * c.2 + t * d.2
def Back (a c b : Pt) : Prop := ∃ s t : Int, 0 < s ∧ 0 < t ∧ s * (a.1 - c.1) = t * (b.1 - c.1) ∧ s * (a.2 - c.2) = t * (b.2 - c.2)
def On (a b c : Pt) : Prop := ∃ u v : Int, 0 ≤ u ∧ 0 ≤ v ∧ 0 < u + v ∧ u * a.1 + v * b.1 = (u + v) * c.1 ∧ u * a.2 + v * b.2 = (u + v) * c.2

/-! small arithmetic -/
theorem nonneg_of_mul {k x : Int} (hk : 0 < k) (h : 0 ≤ k * x) : 0 ≤ x := by
  apply Classical.byContradiction; intro hx
  have := Int.mul_neg_of_pos_of_neg hk (show x < 0 by lia)
  lia
theorem pos_of_mul {k x : Int} (hk : 0 < k) (h : 0 < k * x) : 0 < x := by
  apply Classical.byContradiction; intro hx
  have : k * x ≤ 0 := by
    have := Int.mul_nonneg (Int.le_of_lt hk) (show 0 ≤ -x by lia)
    have e : k * -x = -(k * x) := by grind
    lia
  lia
theorem zero_of_mul {k x : Int} (hk : 0 < k) (h : k * x = 0) : x = 0 := by
  rcases Int.mul_eq_zero.mp h with h | h <;> lia
theorem sq_nonneg (x : Int) : 0 ≤ x * x := by
  rcases Int.le_total 0 x with h | h
  · exact Int.mul_nonneg h h
  · have := Int.mul_nonneg (show 0 ≤ -x by lia) (show 0 ≤ -x by lia)
    have e : -x * -x = x * x := by grind
    lia
theorem sq_pos {x : Int} (h : x ≠ 0) : 0 < x * x := by
  have h1 := sq_nonneg x
  have h2 : x * x ≠ 0 := fun e => by rcases Int.mul_eq_zero.mp e with h3 | h3 <;> exact h h3
  omega
theorem norm_pos {x y : Int} (h : ¬ (x = 0 ∧ y = 0)) : 0 < x * x + y * y := by
  have h1 := sq_nonneg x
  have h2 := sq_nonneg y
  by_cases hx : x = 0
  · have hy : y ≠ 0 := fun e => h ⟨hx, e⟩
    have := sq_pos hy
    lia
  · have := sq_pos hx
    lia

/-! On -/
theorem On.turn {a b c : Pt} (h : On a b c) : FF.turn a b c = 0 := by
  obtain ⟨u, v, hu, hv, hp, e1, e2⟩ := h
  apply zero_of_mul hp
  unfold FF.turn
  grind
theorem On.btw1 {a b c : Pt} (h : On a b c) : (a.1 ≤ c.1 ∧ c.1 ≤ b.1) ∨ (b.1 ≤ c.1 ∧ c.1 ≤ a.1) := by
  obtain ⟨u, v, hu, hv, hp, e1, e2⟩ := h
  have e3 : (u + v) * (c.1 - a.1) = v * (b.1 - a.1) := by grind
  have e4 : (u + v) * (b.1 - c.1) = u * (b.1 - a.1) := by grind
  have e5 : (u + v) * (a.1 - c.1) = v * (a.1 - b.1) := by grind
  have e6 : (u + v) * (c.1 - b.1) = u * (a.1 - b.1) := by grind
  rcases Int.le_total a.1 b.1 with h | h
  · left
    have h3 := nonneg_of_mul hp (e3 ▸ Int.mul_nonneg hv (by lia))
    have h4 := nonneg_of_mul hp (e4 ▸ Int.mul_nonneg hu (by lia))
    lia
  · right
    have h3 := nonneg_of_mul hp (e5 ▸ Int.mul_nonneg hv (by lia))
    have h4 := nonneg_of_mul hp (e6 ▸ Int.mul_nonneg hu (by lia))
    lia
theorem On.flip {a b c : Pt} (h : On a b c) : On (a.2, a.1) (b.2, b.1) (c.2, c.1) := by
  obtain ⟨u, v, hu, hv, hp, e1, e2⟩ := h
  exact ⟨u, v, hu, hv, hp, e2, e1⟩
theorem On.btw2 {a b c : Pt} (h : On a b c) : (a.2 ≤ c.2 ∧ c.2 ≤ b.2) ∨ (b.2 ≤ c.2 ∧ c.2 ≤ a.2) := h.flip.btw1
theorem on_of_lies {a b c : Pt} (ht : FF.turn a b c = 0) (h1 : (a.1 ≤ c.1 ∧ c.1 ≤ b.1) ∨ (b.1 ≤ c.1 ∧ c.1 ≤ a.1))
    (h2 : (a.2 ≤ c.2 ∧ c.2 ≤ b.2) ∨ (b.2 ≤ c.2 ∧ c.2 ≤ a.2)) : On a b c := by
  unfold FF.turn at ht
  by_cases hx : a.1 = b.1
  · by_cases hy : a.2 = b.2
    · refine ⟨1, 0, by lia, by lia, by lia, ?_, ?_⟩ <;> lia
    · rcases h2 with h2 | h2
      · exact ⟨b.2 - c.2, c.2 - a.2, by lia, by lia, by lia, by grind, by grind⟩
      · exact ⟨c.2 - b.2, a.2 - c.2, by lia, by lia, by lia, by grind, by grind⟩
  · rcases h1 with h1 | h1
    · exact ⟨b.1 - c.1, c.1 - a.1, by lia, by lia, by lia, by grind, by grind⟩
    · exact ⟨c.1 - b.1, a.1 - c.1, by lia, by lia, by lia, by grind, by grind⟩
/-! Meet -/
theorem Meet.symm {a b c d : Pt} (h : Meet a b c d) : Meet c d a b := by
  obtain ⟨u, v, s, t, hu, hv, hs, ht, hp, he, e1, e2⟩ := h
  exact ⟨s, t, u, v, hs, ht, hu, hv, by lia, by lia, e1.symm, e2.symm⟩
theorem Meet.swap1 {a b c d : Pt} (h : Meet a b c d) : Meet b a c d := by
  obtain ⟨u, v, s, t, hu, hv, hs, ht, hp, he, e1, e2⟩ := h
  exact ⟨v, u, s, t, hv, hu, hs, ht, by lia, by lia, by lia, by lia⟩
theorem Meet.swap2 {a b c d : Pt} (h : Meet a b c d) : Meet a b d c := h.symm.swap1.symm
theorem On.meet1 {a b c d : Pt} (h : On a b c) : Meet a b c d := by
  obtain ⟨u, v, hu, hv, hp, e1, e2⟩ := h
  exact ⟨u, v, u + v, 0, hu, hv, by lia, by lia, hp, by lia, by rw [e1]; lia, by rw [e2]; lia⟩
theorem On.meet2 {a b c d : Pt} (h : On a b d) : Meet a b c d := h.meet1.swap2
theorem On.meet3 {a b c d : Pt} (h : On c d a) : Meet a b c d := h.meet1.symm
theorem On.meet4 {a b c d : Pt} (h : On c d b) : Meet a b c d := h.meet1.symm.swap1

theorem opp {x y : Int} (h : x * y < 0) : (x < 0 ∧ 0 < y) ∨ (0 < x ∧ y < 0) := by
  rcases Int.lt_trichotomy x 0 with hx | hx | hx
  · left
    refine ⟨hx, ?_⟩
    apply Classical.byContradiction; intro hy
    have := Int.mul_nonneg (show 0 ≤ -x by lia) (show 0 ≤ -y by lia)
    have e : -x * -y = x * y := by grind
    lia
  · subst hx; lia
  · right
    refine ⟨hx, ?_⟩
    apply Classical.byContradiction; intro hy
    have := Int.mul_nonneg (show 0 ≤ x by lia) (show 0 ≤ y by lia)
    lia
theorem opp_of {x y : Int} (h : (x < 0 ∧ 0 < y) ∨ (0 < x ∧ y < 0)) : x * y < 0 := by
  rcases h with ⟨h1, h2⟩ | ⟨h1, h2⟩
  · exact Int.mul_neg_of_neg_of_pos h1 h2
  · exact Int.mul_neg_of_pos_of_neg h1 h2

theorem meet_of_parts {a b c d : Pt} (h1 : FF.turn a b c * FF.turn a b d < 0) (h2 : FF.turn c d a * FF.turn c d b < 0) : Meet a b c d := by
  have e0 : FF.turn a b d - FF.turn a b c = FF.turn c d a - FF.turn c d b := by unfold FF.turn; grind
  have e1 : FF.turn a b d * c.1 - FF.turn a b c * d.1 = FF.turn c d a * b.1 - FF.turn c d b * a.1 := by unfold FF.turn; grind
  have e2 : FF.turn a b d * c.2 - FF.turn a b c * d.2 = FF.turn c d a * b.2 - FF.turn c d b * a.2 := by unfold FF.turn; grind
  generalize FF.turn a b d = T2 at *
  generalize FF.turn a b c = T1 at *
  generalize FF.turn c d a = S1 at *
  generalize FF.turn c d b = S2 at *
  rcases opp h1 with q1 | q1
  · rcases opp h2 with q2 | q2
    · lia
    · refine ⟨-S2, S1, T2, -T1, by lia, by lia, by lia, by lia, by lia, by lia, ?_, ?_⟩ <;> grind
  · rcases opp h2 with q2 | q2
    · refine ⟨S2, -S1, -T2, T1, by lia, by lia, by lia, by lia, by lia, by lia, ?_, ?_⟩ <;> grind
    · lia

theorem beyond_ {s t u v fc fd l : Int} (mf : s * fc + t * fd = v * l) (he : u + v = s + t) : s * (fc - l) + t * (fd - l) + u * l = 0 := by
  have e : v = s + t - u := by lia
  subst e
  grind
theorem along_ {w1 w2 p1 p2 q1 q2 : Int} (pq : p1 * q2 = p2 * q1) :
    (w1 * q1 + w2 * q2) * p1 = (w1 * p1 + w2 * p2) * q1 ∧ (w1 * q1 + w2 * q2) * p2 = (w1 * p1 + w2 * p2) * q2 := by
  constructor <;> grind
theorem meet_cases {a b c d : Pt} (h : Meet a b c d) : On a b c ∨ On a b d ∨ On c d a ∨ On c d b ∨
    (FF.turn a b c * FF.turn a b d < 0 ∧ FF.turn c d a * FF.turn c d b < 0) := by
  obtain ⟨u, v, s, t, hu, hv, hs, ht, hp, he, e1, e2⟩ := h
  have k1 : s * FF.turn a b c + t * FF.turn a b d = 0 := by unfold FF.turn; grind
  have k2 : u * FF.turn c d a + v * FF.turn c d b = 0 := by unfold FF.turn; grind
  have e0 : FF.turn a b d - FF.turn a b c = FF.turn c d a - FF.turn c d b := by unfold FF.turn; grind
  by_cases z1 : FF.turn a b c = 0
  · by_cases z2 : FF.turn a b d = 0
    · -- all on one line
      by_cases hab : a.1 - b.1 = 0 ∧ a.2 - b.2 = 0
      · refine .inr (.inr (.inl ⟨s, t, hs, ht, by lia, ?_, ?_⟩)) <;> grind
      · have L := norm_pos hab
        unfold FF.turn at z1 z2
        -- p = c - a, q = d - a are along w = b - a
        have pq : (c.1 - a.1) * (d.2 - a.2) = (c.2 - a.2) * (d.1 - a.1) := by
          have : ((a.1 - b.1) * (a.1 - b.1) + (a.2 - b.2) * (a.2 - b.2)) * ((c.1 - a.1) * (d.2 - a.2) - (c.2 - a.2) * (d.1 - a.1)) = 0 := by grind
          have := zero_of_mul L this
          lia
        -- f = (b - a) . (x - a)
        have mf : s * ((b.1 - a.1) * (c.1 - a.1) + (b.2 - a.2) * (c.2 - a.2)) + t * ((b.1 - a.1) * (d.1 - a.1) + (b.2 - a.2) * (d.2 - a.2))
            = v * ((a.1 - b.1) * (a.1 - b.1) + (a.2 - b.2) * (a.2 - b.2)) := by grind
        have wc : On a b c ∨ ((b.1 - a.1) * (c.1 - a.1) + (b.2 - a.2) * (c.2 - a.2) < 0) ∨ ((a.1 - b.1) * (a.1 - b.1) + (a.2 - b.2) * (a.2 - b.2) < (b.1 - a.1) * (c.1 - a.1) + (b.2 - a.2) * (c.2 - a.2)) := by
          by_cases g1 : (b.1 - a.1) * (c.1 - a.1) + (b.2 - a.2) * (c.2 - a.2) < 0
          · exact .inr (.inl g1)
          · by_cases g2 : (a.1 - b.1) * (a.1 - b.1) + (a.2 - b.2) * (a.2 - b.2) < (b.1 - a.1) * (c.1 - a.1) + (b.2 - a.2) * (c.2 - a.2)
            · exact .inr (.inr g2)
            · left
              refine ⟨((a.1 - b.1) * (a.1 - b.1) + (a.2 - b.2) * (a.2 - b.2)) - ((b.1 - a.1) * (c.1 - a.1) + (b.2 - a.2) * (c.2 - a.2)), (b.1 - a.1) * (c.1 - a.1) + (b.2 - a.2) * (c.2 - a.2), by lia, by lia, by lia, ?_, ?_⟩ <;> grind
        have wd : On a b d ∨ ((b.1 - a.1) * (d.1 - a.1) + (b.2 - a.2) * (d.2 - a.2) < 0) ∨ ((a.1 - b.1) * (a.1 - b.1) + (a.2 - b.2) * (a.2 - b.2) < (b.1 - a.1) * (d.1 - a.1) + (b.2 - a.2) * (d.2 - a.2)) := by
          by_cases g1 : (b.1 - a.1) * (d.1 - a.1) + (b.2 - a.2) * (d.2 - a.2) < 0
          · exact .inr (.inl g1)
          · by_cases g2 : (a.1 - b.1) * (a.1 - b.1) + (a.2 - b.2) * (a.2 - b.2) < (b.1 - a.1) * (d.1 - a.1) + (b.2 - a.2) * (d.2 - a.2)
            · exact .inr (.inr g2)
            · left
              refine ⟨((a.1 - b.1) * (a.1 - b.1) + (a.2 - b.2) * (a.2 - b.2)) - ((b.1 - a.1) * (d.1 - a.1) + (b.2 - a.2) * (d.2 - a.2)), (b.1 - a.1) * (d.1 - a.1) + (b.2 - a.2) * (d.2 - a.2), by lia, by lia, by lia, ?_, ?_⟩ <;> grind
        rcases wc with wc | wc
        · exact .inl wc
        rcases wd with wd | wd
        · exact .inr (.inl wd)
        -- on one side of a, or of b, both: no; else a lies between
        have onA := along_ (w1 := b.1 - a.1) (w2 := b.2 - a.2) pq
        generalize (b.1 - a.1) * (c.1 - a.1) + (b.2 - a.2) * (c.2 - a.2) = fc at *
        generalize (b.1 - a.1) * (d.1 - a.1) + (b.2 - a.2) * (d.2 - a.2) = fd at *
        generalize (a.1 - b.1) * (a.1 - b.1) + (a.2 - b.2) * (a.2 - b.2) = l at *
        have vl := Int.mul_nonneg hv (Int.le_of_lt L)
        rcases wc with wc | wc
        · rcases wd with wd | wd
          · exfalso
            have q1 := Int.mul_nonneg hs (show 0 ≤ -fc by lia)
            have q2 := Int.mul_nonneg ht (show 0 ≤ -fd by lia)
            have q3 : s * -fc = -(s * fc) := by grind
            have q4 : t * -fd = -(t * fd) := by grind
            have q5 : s * fc = 0 := by lia
            have q6 : t * fd = 0 := by lia
            rcases Int.mul_eq_zero.mp q5 with q | q
            · rcases Int.mul_eq_zero.mp q6 with q' | q' <;> lia
            · lia
          · refine .inr (.inr (.inl ⟨fd, -fc, by lia, by lia, by lia, ?_, ?_⟩)) <;> grind
        · rcases wd with wd | wd
          · refine .inr (.inr (.inl ⟨-fd, fc, by lia, by lia, by lia, ?_, ?_⟩)) <;> grind
          · exfalso
            -- s fc + t fd > (s + t) l >= v l
            have q1 := Int.mul_nonneg hs (show 0 ≤ fc - l by lia)
            have q2 := Int.mul_nonneg ht (show 0 ≤ fd - l by lia)
            have q3 := Int.mul_nonneg hu (Int.le_of_lt L)
            have q4 : s * (fc - l) + t * (fd - l) + u * l = 0 := beyond_ mf he
            have q5 : s * (fc - l) = 0 := by omega
            have q6 : t * (fd - l) = 0 := by omega
            rcases Int.mul_eq_zero.mp q5 with q | q
            · rcases Int.mul_eq_zero.mp q6 with q' | q' <;> lia
            · lia
    · -- t = 0
      left
      rw [z1] at k1
      have : t = 0 := by rcases Int.mul_eq_zero.mp (show t * FF.turn a b d = 0 by lia) with q | q <;> lia
      subst this
      refine ⟨u, v, hu, hv, hp, ?_, ?_⟩ <;> grind
  · by_cases z2 : FF.turn a b d = 0
    · right; left
      rw [z2] at k1
      have : s = 0 := by rcases Int.mul_eq_zero.mp (show s * FF.turn a b c = 0 by lia) with q | q <;> lia
      subst this
      refine ⟨u, v, hu, hv, hp, ?_, ?_⟩ <;> grind
    · by_cases z3 : FF.turn c d a = 0
      · right; right
        by_cases z4 : FF.turn c d b = 0
        · exfalso
          have e3 : FF.turn a b c = FF.turn a b d := by lia
          rw [e3] at k1
          have e4 : (u + v) * FF.turn a b d = 0 := by grind
          exact z2 (zero_of_mul hp e4)
        · left
          rw [z3] at k2
          have : v = 0 := by rcases Int.mul_eq_zero.mp (show v * FF.turn c d b = 0 by lia) with q | q <;> lia
          subst this
          refine ⟨s, t, hs, ht, by lia, ?_, ?_⟩ <;> grind
      · right; right
        by_cases z4 : FF.turn c d b = 0
        · right; left
          rw [z4] at k2
          have : u = 0 := by rcases Int.mul_eq_zero.mp (show u * FF.turn c d a = 0 by lia) with q | q <;> lia
          subst this
          refine ⟨s, t, hs, ht, by lia, ?_, ?_⟩ <;> grind
        · right; right
          have key : ∀ x y S T : Int, 0 ≤ x → 0 ≤ y → 0 < x + y → x * S + y * T = 0 → S ≠ 0 → T ≠ 0 → S * T < 0 := by
            intro x y S T hx hy hxy e hS hT
            apply opp_of
            apply Classical.byContradiction
            intro hno
            have hc : (0 < S ∧ 0 < T) ∨ (S < 0 ∧ T < 0) := by lia
            rcases hc with ⟨p1, p2⟩ | ⟨p1, p2⟩
            · have q1 := Int.mul_nonneg hx (Int.le_of_lt p1)
              have q2 := Int.mul_nonneg hy (Int.le_of_lt p2)
              rcases Int.mul_eq_zero.mp (show x * S = 0 by lia) with q | q
              · rcases Int.mul_eq_zero.mp (show y * T = 0 by lia) with q' | q' <;> lia
              · lia
            · have q1 := Int.mul_nonneg hx (show 0 ≤ -S by lia)
              have q2 := Int.mul_nonneg hy (show 0 ≤ -T by lia)
              have q3 : x * -S = -(x * S) := by grind
              have q4 : y * -T = -(y * T) := by grind
              rcases Int.mul_eq_zero.mp (show x * S = 0 by lia) with q | q
              · rcases Int.mul_eq_zero.mp (show y * T = 0 by lia) with q' | q' <;> lia
              · lia
          exact ⟨key s t _ _ hs ht (by lia) k1 z1 z2, key u v _ _ hu hv hp k2 z3 z4⟩
end FF
end
section
namespace FF
/-! no meeting -/
theorem Meet.sepX {a b c d : Pt} {k : Int} (h : Meet a b c d) (h1 : a.1 ≤ k) (h2 : b.1 ≤ k) (h3 : k < c.1) (h4 : k < d.1) : False := by
  obtain ⟨u, v, s, t, hu, hv, hs, ht, hp, he, e1, _⟩ := h
  have q1 := Int.mul_nonneg hu (show 0 ≤ k - a.1 by lia)
  have q2 := Int.mul_nonneg hv (show 0 ≤ k - b.1 by lia)
  have q3 := Int.mul_nonneg hs (show 0 ≤ c.1 - k - 1 by lia)
  have q4 := Int.mul_nonneg ht (show 0 ≤ d.1 - k - 1 by lia)
  have e : u * (k - a.1) + v * (k - b.1) + s * (c.1 - k - 1) + t * (d.1 - k - 1) = - (u + v) := by
    have e' : v = s + t - u := by lia
    subst e'
    grind
  lia
theorem Meet.touchX {a b c d : Pt} (h : Meet a b c d) (h1 : a.1 < b.1) (h2 : b.1 = c.1) (h3 : c.1 < d.1) (h4 : b.2 ≠ c.2) : False := by
  obtain ⟨u, v, s, t, hu, hv, hs, ht, hp, he, e1, e2⟩ := h
  have q1 := Int.mul_nonneg hu (show 0 ≤ b.1 - a.1 by lia)
  have q4 := Int.mul_nonneg ht (show 0 ≤ d.1 - c.1 by lia)
  have e : u * (b.1 - a.1) + t * (d.1 - c.1) = 0 := by
    have e' : v = s + t - u := by lia
    subst e'
    grind
  have z1 : u = 0 := by
    rcases Int.mul_eq_zero.mp (show u * (b.1 - a.1) = 0 by omega) with q | q <;> omega
  have z2 : t = 0 := by
    rcases Int.mul_eq_zero.mp (show t * (d.1 - c.1) = 0 by omega) with q | q <;> omega
  subst z1 z2
  have e5 : v = s := by lia
  subst e5
  have e6 : v * (b.2 - c.2) = 0 := by grind
  rcases Int.mul_eq_zero.mp e6 with q | q <;> lia
theorem Meet.turns {a b c d : Pt} (h : Meet a b c d) (h1 : 0 < turn a b c) (h2 : 0 < turn a b d) : False := by
  obtain ⟨u, v, s, t, hu, hv, hs, ht, hp, he, e1, e2⟩ := h
  have k1 : s * FF.turn a b c + t * FF.turn a b d = 0 := by unfold FF.turn; grind
  have q1 := Int.mul_nonneg hs (Int.le_of_lt h1)
  have q2 := Int.mul_nonneg ht (Int.le_of_lt h2)
  have z1 : s = 0 := by rcases Int.mul_eq_zero.mp (show s * turn a b c = 0 by lia) with q | q <;> lia
  have z2 : t = 0 := by rcases Int.mul_eq_zero.mp (show t * turn a b d = 0 by lia) with q | q <;> lia
  lia
/-! going back -/
theorem Back.symm {a c b : Pt} (h : Back a c b) : Back b c a := by
  obtain ⟨s, t, hs, ht, e1, e2⟩ := h
  exact ⟨t, s, ht, hs, e1.symm, e2.symm⟩
theorem Back.offX {a c b : Pt} (h : Back a c b) (h1 : a.1 ≤ c.1) (h2 : c.1 ≤ b.1) (h3 : a.1 < b.1) : False := by
  obtain ⟨s, t, hs, ht, e1, e2⟩ := h
  have q1 := Int.mul_nonneg (Int.le_of_lt hs) (show 0 ≤ c.1 - a.1 by lia)
  have q2 := Int.mul_nonneg (Int.le_of_lt ht) (show 0 ≤ b.1 - c.1 by lia)
  have e3 : s * (c.1 - a.1) = -(t * (b.1 - c.1)) := by grind
  rcases Int.mul_eq_zero.mp (show s * (c.1 - a.1) = 0 by omega) with q | q
  · lia
  rcases Int.mul_eq_zero.mp (show t * (b.1 - c.1) = 0 by omega) with q' | q' <;> omega
theorem Back.tip {a c b : Pt} (h : Back a c b) (h1 : a.1 = b.1) (h2 : a.1 ≠ c.1) (h3 : a.2 ≠ b.2) : False := by
  obtain ⟨s, t, hs, ht, e1, e2⟩ := h
  have e3 : (s - t) * (a.1 - c.1) = 0 := by rw [h1] at e1 ⊢; grind
  have e4 : s = t := by rcases Int.mul_eq_zero.mp e3 with q | q <;> lia
  subst e4
  have e5 : s * (a.2 - b.2) = 0 := by grind
  rcases Int.mul_eq_zero.mp e5 with q | q <;> lia

/-! fences -/
def at' (cs : List Pt) (i : Nat) : Pt := cs.getD i (0, 0)
def nx (n i : Nat) : Nat := if i + 1 = n then 0 else i + 1
structure FenceF (n : Nat) (P : Nat → Pt) : Prop where
  inj : ∀ i j, i < n → j < n → P i = P j → i = j
  nob : ∀ i, i < n → ¬ Back (P i) (P (nx n i)) (P (nx n (nx n i)))
  nom : ∀ i j, i < n → j < n → i ≠ j → nx n i ≠ j → nx n j ≠ i → ¬ Meet (P i) (P (nx n i)) (P j) (P (nx n j))
structure Fence (cs : List Pt) : Prop where
  lo : 3 ≤ cs.length
  hi : cs.length ≤ 12
  ok : FenceF cs.length (at' cs)
theorem nx_lt {n i : Nat} (h : i < n) : nx n i < n := by unfold nx; split <;> lia
theorem FenceF.reindex {n : Nat} {P R : Nat → Pt} (F : FenceF n P) (σ : Nat → Nat) (h1 : ∀ i, i < n → σ i < n) (h2 : ∀ i j, i < n → j < n → σ i = σ j → i = j)
    (h3 : ∀ i, i < n → R i = P (σ i)) (h4 : ∀ i, i < n → σ (nx n i) = nx n (σ i)) : FenceF n R := by
  refine ⟨fun i j hi hj e => ?_, fun i hi => ?_, fun i j hi hj h5 h6 h7 => ?_⟩
  · rw [h3 i hi, h3 j hj] at e
    exact h2 i j hi hj (F.inj _ _ (h1 i hi) (h1 j hj) e)
  · rw [h3 i hi, h3 _ (nx_lt hi), h3 _ (nx_lt (nx_lt hi)), h4 _ (nx_lt hi), h4 _ hi]
    exact F.nob _ (h1 i hi)
  · rw [h3 i hi, h3 _ (nx_lt hi), h3 j hj, h3 _ (nx_lt hj), h4 _ hi, h4 _ hj]
    refine F.nom _ _ (h1 i hi) (h1 j hj) (fun e => h5 (h2 i j hi hj e)) (fun e => h6 ?_) (fun e => h7 ?_)
    · rw [← h4 _ hi] at e
      exact h2 _ _ (nx_lt hi) hj e
    · rw [← h4 _ hj] at e
      exact h2 _ _ (nx_lt hj) hi e
theorem FenceF.reversed {n : Nat} {P R : Nat → Pt} (F : FenceF n P) (h3 : ∀ i, i < n → R i = P (n - 1 - i)) : FenceF n R := by
  have h1 : ∀ i, i < n → n - 1 - i < n := by lia
  have h2 : ∀ i j, i < n → j < n → n - 1 - i = n - 1 - j → i = j := by lia
  have h4 : ∀ i, i < n → nx n (n - 1 - nx n i) = n - 1 - i := by
    intro i hi
    unfold nx
    split <;> split <;> lia
  have h5 : ∀ i j, i < n → j < n → nx n i = nx n j → i = j := by
    intro i j hi hj
    unfold nx
    split <;> split <;> lia
  refine ⟨fun i j hi hj e => ?_, fun i hi hb => ?_, fun i j hi hj h5' h6 h7 hm => ?_⟩
  · rw [h3 i hi, h3 j hj] at e
    exact h2 i j hi hj (F.inj _ _ (h1 i hi) (h1 j hj) e)
  · rw [h3 i hi, h3 _ (nx_lt hi), h3 _ (nx_lt (nx_lt hi))] at hb
    have := F.nob _ (h1 _ (nx_lt (nx_lt hi)))
    rw [h4 _ (nx_lt hi), h4 _ hi] at this
    exact this hb.symm
  · rw [h3 i hi, h3 _ (nx_lt hi), h3 j hj, h3 _ (nx_lt hj)] at hm
    have := F.nom _ _ (h1 _ (nx_lt hi)) (h1 _ (nx_lt hj)) (fun e => h5' (h5 _ _ hi hj (h2 _ _ (nx_lt hi) (nx_lt hj) e)))
      (fun e => h7 (by rw [h4 _ hi] at e; exact (h2 _ _ hi (nx_lt hj) e).symm))
      (fun e => h6 (by rw [h4 _ hj] at e; exact (h2 _ _ hj (nx_lt hi) e).symm))
    rw [h4 _ hi, h4 _ hj] at this
    exact this hm.swap1.swap2
/-- an affine map of determinant 1 or -1 -/
structure Tn where
  a : Int
  b : Int
  c : Int
  d : Int
  e : Int
  f : Int
def Tn.det (T : Tn) : Int := T.a * T.d - T.b * T.c
def Tn.led (T : Tn) (p : Pt) : Pt := (T.a * p.1 + T.b * p.2 + T.e, T.c * p.1 + T.d * p.2 + T.f)
theorem inv_ {a b c d x y X Y : Int} (h1 : a * x + b * y = X) (h2 : c * x + d * y = Y) : (a * d - b * c) * x = d * X - b * Y ∧ (a * d - b * c) * y = a * Y - c * X := by
  constructor <;> grind
theorem unit_cancel {k x y : Int} (hk : k ≠ 0) (h : k * x = k * y) : x = y := Int.eq_of_mul_eq_mul_left hk h
theorem led_inj {T : Tn} (h : T.det ≠ 0) {p q : Pt} (e : T.led p = T.led q) : p = q := by
  have e1 : T.a * p.1 + T.b * p.2 = T.a * q.1 + T.b * q.2 := by have := congrArg Prod.fst e; simp only [Tn.led] at this; lia
  have e2 : T.c * p.1 + T.d * p.2 = T.c * q.1 + T.d * q.2 := by have := congrArg Prod.snd e; simp only [Tn.led] at this; lia
  have i1 := inv_ e1 e2
  have i2 := inv_ (a := T.a) (b := T.b) (c := T.c) (d := T.d) (x := q.1) (y := q.2) rfl rfl
  exact Prod.ext (unit_cancel h (i1.1.trans i2.1.symm)) (unit_cancel h (i1.2.trans i2.2.symm))
theorem Back.unled {T : Tn} (h : T.det ≠ 0) {a c b : Pt} (k : Back (T.led a) (T.led c) (T.led b)) : Back a c b := by
  obtain ⟨s, t, hs, ht, e1, e2⟩ := k
  simp only [Tn.led] at e1 e2
  refine ⟨s, t, hs, ht, unit_cancel h ?_, unit_cancel h ?_⟩
  · unfold Tn.det; grind
  · unfold Tn.det; grind
theorem Meet.unled {T : Tn} (h : T.det ≠ 0) {a b c d : Pt} (k : Meet (T.led a) (T.led b) (T.led c) (T.led d)) : Meet a b c d := by
  obtain ⟨u, v, s, t, hu, hv, hs, ht, hp, he, e1, e2⟩ := k
  simp only [Tn.led] at e1 e2
  have e' : v = s + t - u := by lia
  refine ⟨u, v, s, t, hu, hv, hs, ht, hp, he, unit_cancel h ?_, unit_cancel h ?_⟩
  · unfold Tn.det; subst e'; grind
  · unfold Tn.det; subst e'; grind
theorem Back.led (T : Tn) {a c b : Pt} (k : Back a c b) : Back (T.led a) (T.led c) (T.led b) := by
  obtain ⟨s, t, hs, ht, e1, e2⟩ := k
  refine ⟨s, t, hs, ht, ?_, ?_⟩ <;> simp only [Tn.led] <;> grind
theorem Meet.led (T : Tn) {a b c d : Pt} (k : Meet a b c d) : Meet (T.led a) (T.led b) (T.led c) (T.led d) := by
  obtain ⟨u, v, s, t, hu, hv, hs, ht, hp, he, e1, e2⟩ := k
  have e' : v = s + t - u := by lia
  refine ⟨u, v, s, t, hu, hv, hs, ht, hp, he, ?_, ?_⟩ <;> simp only [Tn.led] <;> subst e' <;> grind
theorem FenceF.led {n : Nat} {P R : Nat → Pt} (F : FenceF n P) (T : Tn) (h : T.det ≠ 0) (h3 : ∀ i, i < n → R i = T.led (P i)) : FenceF n R := by
  refine ⟨fun i j hi hj e => ?_, fun i hi hb => ?_, fun i j hi hj h5' h6 h7 hm => ?_⟩
  · rw [h3 i hi, h3 j hj] at e
    exact F.inj _ _ hi hj (led_inj h e)
  · rw [h3 i hi, h3 _ (nx_lt hi), h3 _ (nx_lt (nx_lt hi))] at hb
    exact F.nob _ hi (hb.unled h)
  · rw [h3 i hi, h3 _ (nx_lt hi), h3 j hj, h3 _ (nx_lt hj)] at hm
    exact F.nom _ _ hi hj h5' h6 h7 (hm.unled h)
theorem FenceF.unled {n : Nat} {P R : Nat → Pt} (F : FenceF n R) (T : Tn) (h3 : ∀ i, i < n → R i = T.led (P i)) : FenceF n P := by
  refine ⟨fun i j hi hj e => ?_, fun i hi hb => ?_, fun i j hi hj h5' h6 h7 hm => ?_⟩
  · exact F.inj _ _ hi hj (by rw [h3 i hi, h3 j hj, e])
  · refine F.nob _ hi ?_
    rw [h3 i hi, h3 _ (nx_lt hi), h3 _ (nx_lt (nx_lt hi))]
    exact hb.led T
  · refine F.nom _ _ hi hj h5' h6 h7 ?_
    rw [h3 i hi, h3 _ (nx_lt hi), h3 j hj, h3 _ (nx_lt hj)]
    exact hm.led T
end FF
end
section
namespace FF
/-- the corners of a fence by columns: m columns, lows to the right, then highs to the left; b = 1: the last column's high one is left out, a = 1: the first's -/
def colAt (m b : Nat) (x l h : Nat → Int) (i : Nat) : Pt := if i < m then (x i, l i) else (x (2 * m - 1 - b - i), h (2 * m - 1 - b - i))
structure Cols (m a b : Nat) (x l h : Nat → Int) : Prop where
  m2 : 2 ≤ m
  m6 : m ≤ 6
  a1 : a ≤ 1
  b1 : b ≤ 1
  n3 : 3 ≤ 2 * m - a - b
  xs : ∀ i j, i < j → j < m → x i < x j
  lh : ∀ i, i < m → l i < h i
def up (m a b : Nat) (l h : Nat → Int) (k : Nat) : Int := if (k = 0 ∧ a = 1) ∨ (k = m - 1 ∧ b = 1) then l k else h k
inductive Side (m a b n : Nat) (x l h : Nat → Int) (P : Nat → Pt) (i : Nat) : Prop
  | low : i < m - 1 → P i = (x i, l i) → P (nx n i) = (x (i + 1), l (i + 1)) → Side m a b n x l h P i
  | right : i = m - 1 → b = 0 → P i = (x (m - 1), l (m - 1)) → P (nx n i) = (x (m - 1), h (m - 1)) → Side m a b n x l h P i
  | high (s : Nat) : s + b + i + 2 = 2 * m → s ≤ m - 2 → P i = (x (s + 1), up m a b l h (s + 1)) → P (nx n i) = (x s, up m a b l h s) → Side m a b n x l h P i
  | left : i = n - 1 → a = 0 → P i = (x 0, h 0) → P (nx n i) = (x 0, l 0) → Side m a b n x l h P i
variable {m a b n : Nat} {x l h : Nat → Int} {P : Nat → Pt}
set_option synthInstance.maxHeartbeats 2000000 in
set_option synthInstance.maxSize 100000 in
set_option maxRecDepth 10000 in
theorem side_ix : ∀ m, m < 7 → ∀ a, a < 2 → ∀ b, b < 2 → ∀ i, i < 12 → 2 ≤ m → 3 ≤ 2 * m - a - b → i < 2 * m - a - b →
    (i < m - 1 ∧ i < m ∧ nx (2 * m - a - b) i = i + 1 ∧ i + 1 < 2 * m - a - b ∧ i + 1 < m) ∨
    (i = m - 1 ∧ b = 0 ∧ i < m ∧ nx (2 * m - a - b) i = m ∧ m < 2 * m - a - b ∧ ¬ m < m ∧ 2 * m - 1 - b - m = m - 1) ∨
    (i = 2 * m - a - b - 1 ∧ a = 0 ∧ ¬ i < m ∧ 2 * m - 1 - b - i = 0 ∧ nx (2 * m - a - b) i = 0 ∧ 0 < 2 * m - a - b ∧ 0 < m) ∨
    (2 * m - 2 - b - i + b + i + 2 = 2 * m ∧ 2 * m - 2 - b - i ≤ m - 2 ∧ nx (2 * m - a - b) i < 2 * m - a - b ∧
      ((i < m ∧ i = 2 * m - 2 - b - i + 1 ∧ ((2 * m - 2 - b - i + 1 = 0 ∧ a = 1) ∨ (2 * m - 2 - b - i + 1 = m - 1 ∧ b = 1))) ∨ (¬ i < m ∧ 2 * m - 1 - b - i = 2 * m - 2 - b - i + 1 ∧ ¬ ((2 * m - 2 - b - i + 1 = 0 ∧ a = 1) ∨ (2 * m - 2 - b - i + 1 = m - 1 ∧ b = 1)))) ∧
      ((nx (2 * m - a - b) i < m ∧ nx (2 * m - a - b) i = 2 * m - 2 - b - i ∧ ((2 * m - 2 - b - i = 0 ∧ a = 1) ∨ (2 * m - 2 - b - i = m - 1 ∧ b = 1))) ∨ (¬ nx (2 * m - a - b) i < m ∧ 2 * m - 1 - b - nx (2 * m - a - b) i = 2 * m - 2 - b - i ∧ ¬ ((2 * m - 2 - b - i = 0 ∧ a = 1) ∨ (2 * m - 2 - b - i = m - 1 ∧ b = 1))))) := by decide +kernel
theorem side_of (C : Cols m a b x l h) (hn : n = 2 * m - a - b) (hP : ∀ i, i < n → P i = colAt m b x l h i) {i : Nat} (hi : i < n) : Side m a b n x l h P i := by
  subst hn
  rcases side_ix m (Nat.lt_succ_of_le C.m6) a (Nat.lt_succ_of_le C.a1) b (Nat.lt_succ_of_le C.b1) i (by have := C.m6; lia) C.m2 C.n3 hi with ⟨c, c1, e, c2, c3⟩ | ⟨c, c0, c1, e, c2, c3, e4⟩ | ⟨c, c0, c1, e4, e, c2, c3⟩ | ⟨c, c0, c2, d, g⟩
  · refine .low c ?_ ?_
    · rw [hP i hi]; unfold colAt; rw [if_pos c1]
    · rw [e, hP _ c2]; unfold colAt; rw [if_pos c3]
  · refine .right c c0 ?_ ?_
    · rw [hP i hi]; unfold colAt; rw [if_pos c1, c]
    · rw [e, hP _ c2]; unfold colAt; rw [if_neg c3, e4]
  · refine .left c c0 ?_ ?_
    · rw [hP i hi]; unfold colAt; rw [if_neg c1, e4]
    · rw [e, hP _ c2]; unfold colAt; rw [if_pos c3]
  · refine .high (2 * m - 2 - b - i) c c0 ?_ ?_
    · rw [hP i hi]; unfold colAt up
      rcases d with ⟨d1, d2, d3⟩ | ⟨d1, d2, d3⟩
      · rw [if_pos d1, if_pos d3, ← d2]
      · rw [if_neg d1, if_neg d3, d2]
    · rw [hP _ c2]; unfold colAt up
      rcases g with ⟨d1, d2, d3⟩ | ⟨d1, d2, d3⟩
      · rw [if_pos d1, if_pos d3, d2]
      · rw [if_neg d1, if_neg d3, d2]
theorem up_gt (C : Cols m a b x l h) {k : Nat} (h0 : k < m) (h1 : k ≠ 0 ∨ a = 0) (h2 : k ≠ m - 1 ∨ b = 0) : l k < up m a b l h k := by
  have := C.lh k h0
  unfold up; rw [if_neg (by lia)]; exact this
theorem turn_strip {x0 x1 l0 l1 u0 u1 : Int} (hx : x0 < x1) (h0 : l0 < u0) (h1 : l1 < u1) : 0 < turn (x0, l0) (x1, l1) (x0, u0) ∧ 0 < turn (x0, l0) (x1, l1) (x1, u1) := by
  have q0 := Int.mul_pos (show 0 < x1 - x0 by lia) (show 0 < u0 - l0 by lia)
  have q1 := Int.mul_pos (show 0 < x1 - x0 by lia) (show 0 < u1 - l1 by lia)
  constructor
  · have e : turn (x0, l0) (x1, l1) (x0, u0) = (x1 - x0) * (u0 - l0) := by unfold turn; grind
    lia
  · have e : turn (x0, l0) (x1, l1) (x1, u1) = (x1 - x0) * (u1 - l1) := by unfold turn; grind
    lia
theorem col_nom (C : Cols m a b x l h) (hn : n = 2 * m - a - b) (hP : ∀ i, i < n → P i = colAt m b x l h i) {i j : Nat} (hi : i < n) (hj : j < n)
    (h1 : i ≠ j) (h2 : nx n i ≠ j) (h3 : nx n j ≠ i) : ¬ Meet (P i) (P (nx n i)) (P j) (P (nx n j)) := by
  have C2 := C.m2; have C3 := C.n3; have Ca := C.a1; have Cb := C.b1
  intro hm
  have Si := side_of C hn hP hi
  have Sj := side_of C hn hP hj
  have xs := C.xs
  -- low against all
  have LL : ∀ s t : Nat, s + 1 < t → t + 1 < m → ∀ p q p' q' : Int, ¬ Meet (x s, p) (x (s + 1), q) (x t, p') (x (t + 1), q') := by
    intro s t hs ht p q p' q' hM
    exact hM.sepX (k := x (s + 1)) (Int.le_of_lt (xs s (s + 1) (Nat.lt_succ_self _) (by lia))) (Int.le_refl _) (xs (s + 1) t hs (by lia)) (xs (s + 1) (t + 1) (by lia) (by lia))
  have LT : ∀ s : Nat, s + 2 < m → ∀ p q p' q' : Int, q ≠ p' → ¬ Meet (x s, p) (x (s + 1), q) (x (s + 1), p') (x (s + 2), q') := by
    intro s hs p q p' q' hq hM
    exact hM.touchX (xs s (s + 1) (Nat.lt_succ_self _) (by lia)) rfl (xs (s + 1) (s + 2) (Nat.lt_succ_self _) (by lia)) hq
  have LR : ∀ s : Nat, s + 2 < m → ∀ p q p' q' : Int, ¬ Meet (x s, p) (x (s + 1), q) (x (m - 1), p') (x (m - 1), q') := by
    intro s hs p q p' q' hM
    exact hM.sepX (k := x (s + 1)) (Int.le_of_lt (xs s (s + 1) (Nat.lt_succ_self _) (by lia))) (Int.le_refl _) (xs (s + 1) (m - 1) (by lia) (by lia)) (xs (s + 1) (m - 1) (by lia) (by lia))
  have VL : ∀ s : Nat, 1 ≤ s → s + 1 < m → ∀ p q p' q' : Int, ¬ Meet (x 0, p) (x 0, q) (x s, p') (x (s + 1), q') := by
    intro s hs ht p q p' q' hM
    exact hM.sepX (k := x 0) (Int.le_refl _) (Int.le_refl _) (xs 0 s (by lia) (by lia)) (xs 0 (s + 1) (Nat.succ_pos _) (by lia))
  have VV : ∀ p q p' q' : Int, ¬ Meet (x 0, p) (x 0, q) (x (m - 1), p') (x (m - 1), q') := by
    intro p q p' q' hM
    exact hM.sepX (k := x 0) (Int.le_refl _) (Int.le_refl _) (xs 0 (m - 1) (by lia) (by lia)) (xs 0 (m - 1) (by lia) (by lia))
  have LU : ∀ s t : Nat, s + 1 < m → t + 1 < m → ((s ≠ t) ∨ ((s ≠ 0 ∨ a = 0) ∧ (s + 1 ≠ m - 1 ∨ b = 0))) → ¬ Meet (x s, l s) (x (s + 1), l (s + 1)) (x (t + 1), up m a b l h (t + 1)) (x t, up m a b l h t) := by
    intro s t hs ht hst hM
    by_cases e1 : s = t
    · subst e1
      have g0 := up_gt C (k := s) (by lia) (by lia) (by lia)
      have g1 := up_gt C (k := s + 1) (by lia) (by lia) (by lia)
      have T := turn_strip (xs s (s + 1) (Nat.lt_succ_self _) (by lia)) g0 g1
      exact hM.turns T.2 T.1
    by_cases e2 : s + 1 < t
    · exact LL s t e2 ht _ _ _ _ hM.swap2
    by_cases e3 : t + 1 < s
    · exact LL t s e3 hs _ _ _ _ hM.swap2.symm
    by_cases e4 : t = s + 1
    · subst e4
      have g1 := up_gt C (k := s + 1) (by lia) (by lia) (by lia)
      exact LT s (by lia) _ _ _ _ (by lia) hM.swap2
    · have e5 : s = t + 1 := by lia
      subst e5
      have g1 := up_gt C (k := t + 1) (by lia) (by lia) (by lia)
      exact LT t (by lia) _ _ _ _ (by lia) hM.swap2.symm
  -- adjacency in terms of the places
  have n2 : ∀ i, i < n → nx n i = if i + 1 = n then 0 else i + 1 := fun i _ => rfl
  rw [n2 i hi] at h2
  rw [n2 j hj] at h3
  cases Si with
  | low a1 e1 e2 =>
    rw [e1, e2] at hm
    cases Sj with
    | low b1 f1 f2 =>
      rw [f1, f2] at hm
      rcases Nat.lt_or_gt_of_ne h1 with g | g
      · exact LL i j (by split at h2 <;> lia) (by lia) _ _ _ _ hm
      · exact LL j i (by split at h3 <;> lia) (by lia) _ _ _ _ hm.symm
    | right b1 b2 f1 f2 =>
      rw [f1, f2] at hm
      exact LR i (by split at h2 <;> lia) _ _ _ _ hm
    | high s b1 b2 f1 f2 =>
      rw [f1, f2] at hm
      refine LU i s (by lia) (by lia) ?_ hm
      by_cases g : i = s
      · right
        subst g
        constructor
        · by_cases g1 : i = 0
          · right
            split at h3 <;> lia
          · exact .inl g1
        · by_cases g1 : i + 1 = m - 1
          · right
            split at h2 <;> lia
          · exact .inl g1
      · exact .inl g
    | left b1 b2 f1 f2 =>
      rw [f1, f2] at hm
      exact VL i (by split at h3 <;> lia) (by lia) _ _ _ _ hm.symm
  | right a1 a2 e1 e2 =>
    rw [e1, e2] at hm
    cases Sj with
    | low b1 f1 f2 =>
      rw [f1, f2] at hm
      exact LR j (by split at h3 <;> lia) _ _ _ _ hm.symm
    | right b1 b2 f1 f2 => lia
    | high s b1 b2 f1 f2 =>
      rw [f1, f2] at hm
      exact LR s (by split at h2 <;> lia) _ _ _ _ hm.symm.swap1
    | left b1 b2 f1 f2 =>
      rw [f1, f2] at hm
      exact VV _ _ _ _ hm.symm
  | high t a1 a2 e1 e2 =>
    rw [e1, e2] at hm
    cases Sj with
    | low b1 f1 f2 =>
      rw [f1, f2] at hm
      refine LU j t (by lia) (by lia) ?_ hm.symm
      by_cases g : j = t
      · right
        subst g
        constructor
        · by_cases g1 : j = 0
          · right
            split at h2 <;> lia
          · exact .inl g1
        · by_cases g1 : j + 1 = m - 1
          · right
            split at h3 <;> lia
          · exact .inl g1
      · exact .inl g
    | right b1 b2 f1 f2 =>
      rw [f1, f2] at hm
      exact LR t (by split at h3 <;> lia) _ _ _ _ hm.swap1
    | high s b1 b2 f1 f2 =>
      rw [f1, f2] at hm
      rcases Nat.lt_or_gt_of_ne h1 with g | g
      · exact LL s t (by split at h2 <;> lia) (by lia) _ _ _ _ hm.symm.swap1.swap2
      · exact LL t s (by split at h3 <;> lia) (by lia) _ _ _ _ hm.swap1.swap2
    | left b1 b2 f1 f2 =>
      rw [f1, f2] at hm
      exact VL t (by split at h2 <;> lia) (by lia) _ _ _ _ hm.symm.swap2
  | left a1 a2 e1 e2 =>
    rw [e1, e2] at hm
    cases Sj with
    | low b1 f1 f2 =>
      rw [f1, f2] at hm
      exact VL j (by split at h2 <;> lia) (by lia) _ _ _ _ hm
    | right b1 b2 f1 f2 =>
      rw [f1, f2] at hm
      exact VV _ _ _ _ hm
    | high s b1 b2 f1 f2 =>
      rw [f1, f2] at hm
      exact VL s (by split at h3 <;> lia) (by lia) _ _ _ _ hm.swap2
    | left b1 b2 f1 f2 => lia
theorem col_inj (C : Cols m a b x l h) (hn : n = 2 * m - a - b) (hP : ∀ i, i < n → P i = colAt m b x l h i) {i j : Nat} (hi : i < n) (hj : j < n)
    (e : P i = P j) : i = j := by
  have C2 := C.m2; have C3 := C.n3; have Ca := C.a1; have Cb := C.b1
  have xi : ∀ s t, s < m → t < m → x s = x t → s = t := by
    intro s t hs ht he
    rcases Nat.lt_trichotomy s t with g | g | g
    · have := C.xs s t g ht; lia
    · exact g
    · have := C.xs t s g hs; lia
  rw [hP i hi, hP j hj] at e
  unfold colAt at e
  split at e <;> split at e
  · exact xi _ _ (by lia) (by lia) (congrArg Prod.fst e)
  · have q := xi _ _ (by lia) (by lia) (congrArg Prod.fst e)
    have q2 := congrArg Prod.snd e
    simp only at q2
    rw [q] at q2
    have := C.lh (2 * m - 1 - b - j) (by lia)
    lia
  · have q := xi _ _ (by lia) (by lia) (congrArg Prod.fst e)
    have q2 := congrArg Prod.snd e
    simp only at q2
    rw [q] at q2
    have := C.lh j (by lia)
    lia
  · have q := xi _ _ (by lia) (by lia) (congrArg Prod.fst e)
    lia
theorem col_nob (C : Cols m a b x l h) (hn : n = 2 * m - a - b) (hP : ∀ i, i < n → P i = colAt m b x l h i) {i : Nat} (hi : i < n) :
    ¬ Back (P i) (P (nx n i)) (P (nx n (nx n i))) := by
  have C2 := C.m2; have C3 := C.n3; have Ca := C.a1; have Cb := C.b1
  intro hb
  have xs := C.xs
  have Si := side_of C hn hP hi
  have Sj := side_of C hn hP (nx_lt hi)
  have n2 : nx n i = if i + 1 = n then 0 else i + 1 := rfl
  cases Si with
  | low a1 e1 e2 =>
    have n3 : nx n i = i + 1 := by rw [n2, if_neg (by lia)]
    cases Sj with
    | low b1 f1 f2 =>
      rw [e1, f1, f2, n3] at hb
      have q2 := xs (i + 1) (i + 1 + 1) (Nat.lt_succ_self _) (by lia)
      have q1 := xs i (i + 1) (Nat.lt_succ_self _) (by lia)
      exact hb.offX (Int.le_of_lt q1) (Int.le_of_lt q2) (Int.lt_trans q1 q2)
    | right b1 b2 f1 f2 =>
      rw [e1, f1, f2] at hb
      have q1 := xs i (m - 1) a1 (by lia)
      exact hb.offX (Int.le_of_lt q1) (Int.le_refl _) q1
    | high s b1 b2 f1 f2 =>
      rw [e1, e2, f2] at hb
      have e5 : s = i := by lia
      subst e5
      have q1 := xs s (s + 1) (Nat.lt_succ_self _) (by lia)
      have q2 := up_gt C (k := s) (by lia) (by lia) (by lia)
      exact hb.tip rfl (Int.ne_of_lt q1) (Int.ne_of_lt q2)
    | left b1 b2 f1 f2 => lia
  | right a1 a2 e1 e2 =>
    have n3 : nx n i = i + 1 := by rw [n2, if_neg (by lia)]
    cases Sj with
    | low b1 f1 f2 => lia
    | right b1 b2 f1 f2 => lia
    | high s b1 b2 f1 f2 =>
      rw [e1, e2, f2] at hb
      have q1 := xs s (m - 1) (by lia) (by lia)
      exact hb.symm.offX (Int.le_of_lt q1) (Int.le_refl _) q1
    | left b1 b2 f1 f2 => lia
  | high t a1 a2 e1 e2 =>
    cases Sj with
    | low b1 f1 f2 =>
      have n3 : nx n i = 0 := by rw [n2] at b1 ⊢; split at b1 <;> first | lia | (rw [if_pos (by lia)])
      have n4 : i + 1 = n := by rw [n2] at n3; split at n3 <;> lia
      have e5 : t = 0 := by lia
      subst e5
      rw [e1, f1, f2, n3] at hb
      have q1 := xs 0 1 Nat.zero_lt_one C2
      have q2 := up_gt C (k := 1) C2 (.inl Nat.one_ne_zero) (by lia)
      exact hb.tip rfl (Int.ne_of_lt q1).symm (Int.ne_of_lt q2).symm
    | right b1 b2 f1 f2 => rw [n2] at b1; split at b1 <;> lia
    | high s b1 b2 f1 f2 =>
      have n3 : nx n i = i + 1 := by rw [n2] at b1 ⊢; split at b1 <;> first | lia | (rw [if_neg (by lia)])
      have e5 : t = s + 1 := by lia
      subst e5
      rw [e1, e2, f2] at hb
      have q2 := xs (s + 1) (s + 1 + 1) (Nat.lt_succ_self _) (by lia)
      have q1 := xs s (s + 1) (Nat.lt_succ_self _) (by lia)
      exact hb.symm.offX (Int.le_of_lt q1) (Int.le_of_lt q2) (Int.lt_trans q1 q2)
    | left b1 b2 f1 f2 =>
      rw [e1, f1, f2] at hb
      have q1 := xs 0 (t + 1) (Nat.succ_pos _) (by lia)
      exact hb.symm.offX (Int.le_refl _) (Int.le_of_lt q1) q1
  | left a1 a2 e1 e2 =>
    have n3 : nx n i = 0 := by rw [n2, if_pos (by lia)]
    cases Sj with
    | low b1 f1 f2 =>
      rw [e1, e2, f2, n3] at hb
      have q1 := xs 0 1 Nat.zero_lt_one C2
      exact hb.offX (Int.le_refl _) (Int.le_of_lt q1) q1
    | right b1 b2 f1 f2 => lia
    | high s b1 b2 f1 f2 => lia
    | left b1 b2 f1 f2 => lia
theorem col_fence (C : Cols m a b x l h) (hn : n = 2 * m - a - b) (hP : ∀ i, i < n → P i = colAt m b x l h i) : FenceF n P :=
  ⟨fun _ _ hi hj e => col_inj C hn hP hi hj e, fun _ hi => col_nob C hn hP hi, fun _ _ hi hj h1 h2 h3 => col_nom C hn hP hi hj h1 h2 h3⟩
end FF
end
section
namespace FF
/-! lists of corners -/
theorem at_app {A B : List Pt} {i : Nat} : at' (A ++ B) i = if i < A.length then at' A i else at' B (i - A.length) := by
  unfold at'
  rw [List.getD_eq_getElem?_getD]
  split
  · rw [List.getElem?_append_left (by assumption), List.getD_eq_getElem?_getD]
  · rw [List.getElem?_append_right (by lia), List.getD_eq_getElem?_getD]
theorem Fence.rot {A B : List Pt} (F : Fence (A ++ B)) : Fence (B ++ A) := by
  have hl : (B ++ A).length = (A ++ B).length := by simp only [List.length_append]; lia
  refine ⟨hl ▸ F.lo, hl ▸ F.hi, ?_⟩
  rw [hl]
  have hn : (A ++ B).length = A.length + B.length := List.length_append
  by_cases hB : B.length = 0
  · have : B = [] := List.eq_nil_of_length_eq_zero hB
    subst this
    rw [List.append_nil, List.nil_append]
    have := F.ok
    rw [List.append_nil] at this
    exact this
  by_cases hA : A.length = 0
  · have : A = [] := List.eq_nil_of_length_eq_zero hA
    subst this
    rw [List.append_nil, List.nil_append]
    have := F.ok
    rw [List.nil_append] at this
    exact this
  refine F.ok.reindex (fun i => if i < B.length then i + A.length else i - B.length) ?_ ?_ ?_ ?_
  · intro i hi; split <;> lia
  · intro i j hi hj; split <;> split <;> lia
  · intro i hi
    rw [at_app, at_app]
    by_cases c : i < B.length
    · rw [if_pos c, if_pos c, if_neg (by lia)]
      congr 1
      lia
    · rw [if_neg c, if_neg c, if_pos (by lia)]
  · intro i hi
    unfold nx
    rw [hn] at hi ⊢
    (repeat' split) <;> lia
theorem Fence.rev {A : List Pt} (F : Fence A) : Fence A.reverse := by
  have hl : A.reverse.length = A.length := List.length_reverse
  refine ⟨hl ▸ F.lo, hl ▸ F.hi, ?_⟩
  rw [hl]
  refine F.ok.reversed ?_
  intro i hi
  unfold at'
  rw [List.getD_eq_getElem?_getD, List.getD_eq_getElem?_getD, List.getElem?_reverse hi]
theorem at_map {A : List Pt} {g : Pt → Pt} {i : Nat} (hi : i < A.length) : at' (A.map g) i = g (at' A i) := by
  unfold at'
  rw [List.getD_eq_getElem?_getD, List.getD_eq_getElem?_getD, List.getElem?_map, List.getElem?_eq_getElem hi]
  rfl
theorem fence_led_iff {A : List Pt} {T : Tn} (h : T.det ≠ 0) : Fence (A.map T.led) ↔ Fence A := by
  have hl : (A.map T.led).length = A.length := List.length_map _
  constructor
  · intro F
    refine ⟨hl ▸ F.lo, hl ▸ F.hi, ?_⟩
    have := F.ok
    rw [hl] at this
    exact this.unled T (fun i hi => at_map hi)
  · intro F
    refine ⟨hl.symm ▸ F.lo, hl.symm ▸ F.hi, ?_⟩
    rw [hl]
    exact F.ok.led T h (fun i hi => at_map hi)
/-! a corner more, straight on the side from the last to the first -/
def Strict (p q c : Pt) : Prop := ∃ u v : Int, 0 < u ∧ 0 < v ∧ u * p.1 + v * q.1 = (u + v) * c.1 ∧ u * p.2 + v * q.2 = (u + v) * c.2
theorem Strict.swap {p q c : Pt} (h : Strict p q c) : Strict q p c := by
  obtain ⟨u, v, hu, hv, e1, e2⟩ := h
  exact ⟨v, u, hv, hu, by rw [Int.add_comm v u]; lia, by rw [Int.add_comm v u]; lia⟩
theorem Meet.sub {p q c a b : Pt} (h : Strict p q c) (k : Meet p c a b) : Meet p q a b := by
  obtain ⟨u, v, hu, hv, e1, e2⟩ := h
  obtain ⟨u', v', s, t, hu', hv', hs, ht, hp, he, f1, f2⟩ := k
  have w : 0 < u + v := by lia
  refine ⟨u' * (u + v) + v' * u, v' * v, s * (u + v), t * (u + v), ?_, ?_, ?_, ?_, ?_, ?_, ?_, ?_⟩
  · have := Int.mul_nonneg hu' (Int.le_of_lt w); have := Int.mul_nonneg hv' (Int.le_of_lt hu); lia
  · exact Int.mul_nonneg hv' (Int.le_of_lt hv)
  · exact Int.mul_nonneg hs (Int.le_of_lt w)
  · exact Int.mul_nonneg ht (Int.le_of_lt w)
  · have := Int.mul_pos hp w
    have e : u' * (u + v) + v' * u + v' * v = (u' + v') * (u + v) := by grind
    lia
  · have e : u' * (u + v) + v' * u + v' * v = (u' + v') * (u + v) := by grind
    rw [e, he]; grind
  · have e : (u' * (u + v) + v' * u) * p.1 + v' * v * q.1 = (u + v) * (u' * p.1 + v' * c.1) := by grind
    rw [e, f1]; grind
  · have e : (u' * (u + v) + v' * u) * p.2 + v' * v * q.2 = (u + v) * (u' * p.2 + v' * c.2) := by grind
    rw [e, f2]; grind
theorem Back.sub {p q c b : Pt} (h : Strict p q c) (k : Back c q b) : Back p q b := by
  obtain ⟨u, v, hu, hv, e1, e2⟩ := h
  obtain ⟨s, t, hs, ht, f1, f2⟩ := k
  refine ⟨s * u, t * (u + v), Int.mul_pos hs hu, Int.mul_pos ht (by lia), ?_, ?_⟩
  · have e : u * (p.1 - q.1) = (u + v) * (c.1 - q.1) := by grind
    rw [Int.mul_assoc, e]; grind
  · have e : u * (p.2 - q.2) = (u + v) * (c.2 - q.2) := by grind
    rw [Int.mul_assoc, e]; grind
theorem Strict.noback {p q c : Pt} (h : Strict p q c) (hpq : p ≠ q) : ¬ Back p c q := by
  intro k
  obtain ⟨u, v, hu, hv, e1, e2⟩ := h
  obtain ⟨s, t, hs, ht, f1, f2⟩ := k
  have w : 0 < u + v := by lia
  have a1 : u * (p.1 - c.1) = - (v * (q.1 - c.1)) := by grind
  have a2 : u * (p.2 - c.2) = - (v * (q.2 - c.2)) := by grind
  have w2 : 0 < u * t + v * s := by have := Int.mul_pos hu ht; have := Int.mul_pos hv hs; lia
  have z1 : q.1 - c.1 = 0 := zero_of_mul w2 (by grind)
  have z2 : q.2 - c.2 = 0 := zero_of_mul w2 (by grind)
  rw [z1] at a1
  rw [z2] at a2
  have z3 : p.1 - c.1 = 0 := zero_of_mul hu (by lia)
  have z4 : p.2 - c.2 = 0 := zero_of_mul hu (by lia)
  exact hpq (Prod.ext (by lia) (by lia))
/-- two sides out of one corner that don't go back meet in it alone -/
theorem meet_corner {p c q r : Pt} (hq : q ≠ c) (k : ¬ Back p c q) (hs : Strict p c r) (hpc : p ≠ c) : ¬ Meet p r c q := by
  intro m
  obtain ⟨u', v', s, t, hu', hv', hs', ht, hp, he, f1, f2⟩ := m
  obtain ⟨u, v, hu, hv, e1, e2⟩ := hs
  -- (u+v) (u' (p-c) + v' (r-c)) = (u'(u+v) + v' u) (p - c) = (u+v) t (q-c)
  have w : 0 < u + v := by lia
  have g1 : (u' * (u + v) + v' * u) * (p.1 - c.1) = (u + v) * t * (q.1 - c.1) := by
    have e : v' = s + t - u' := by lia
    subst e; grind
  have g2 : (u' * (u + v) + v' * u) * (p.2 - c.2) = (u + v) * t * (q.2 - c.2) := by
    have e : v' = s + t - u' := by lia
    subst e; grind
  have w1 : 0 < u' * (u + v) + v' * u := by
    have q1 := Int.mul_nonneg hu' (Int.le_of_lt w)
    have q2 := Int.mul_nonneg hv' (Int.le_of_lt hu)
    by_cases z : u' = 0
    · have := Int.mul_pos (show 0 < v' by lia) hu; lia
    · have := Int.mul_pos (show 0 < u' by lia) w; lia
  by_cases z : t = 0
  · subst z
    have z1 : p.1 - c.1 = 0 := zero_of_mul w1 (by rw [g1]; grind)
    have z2 : p.2 - c.2 = 0 := zero_of_mul w1 (by rw [g2]; grind)
    exact hpc (Prod.ext (by lia) (by lia))
  · exact k ⟨_, _, w1, Int.mul_pos w (by lia), g1, g2⟩
theorem Strict.on {p q c : Pt} (h : Strict p q c) : On p q c := by
  obtain ⟨u, v, hu, hv, e1, e2⟩ := h
  exact ⟨u, v, by lia, by lia, by lia, e1, e2⟩
theorem strict_ne {p q c : Pt} (h : Strict p q c) (hpq : p ≠ q) : c ≠ q := by
  obtain ⟨u, v, hu, hv, e1, e2⟩ := h
  intro e; subst e
  have z1 : p.1 - c.1 = 0 := zero_of_mul hu (by grind)
  have z2 : p.2 - c.2 = 0 := zero_of_mul hu (by grind)
  exact hpq (Prod.ext (by lia) (by lia))
theorem FenceF.insert {n : Nat} {P R : Nat → Pt} (F : FenceF n P) (n3 : 3 ≤ n) {c : Pt} (hc : Strict (P (n - 1)) (P 0) c) (h0 : R 0 = c) (h1 : ∀ i, i < n → R (i + 1) = P i) : FenceF (n + 1) R := by
  have n0 : P (n - 1) ≠ P 0 := fun e => by have := F.inj _ _ (by lia) (by lia) e; lia
  have pn : n - 1 < n := by lia
  have p0 : 0 < n := by lia
  have F9 : nx n (n - 1) = 0 := by unfold nx; rw [if_pos (by lia)]
  have F8 : nx n 0 = 1 := by unfold nx; rw [if_neg (by lia)]
  have old : ∀ i, i < n → nx n i = if i + 1 = n then 0 else i + 1 := fun _ _ => rfl
  -- c is none of the corners
  have cne : ∀ i, i < n → P i ≠ c := by
    intro i hi e
    by_cases i0 : i = 0
    · subst i0; exact strict_ne hc n0 e.symm
    by_cases i1 : i = n - 1
    · subst i1; exact strict_ne hc.swap (fun e => n0 e.symm) e.symm
    by_cases i2 : i = 1
    · -- back at P 0
      subst i2
      have := F.nob (n - 1) pn
      have e1 := F9
      have e2 := F8
      rw [e1, e2, e] at this
      obtain ⟨u, v, hu, hv, g1, g2⟩ := hc
      exact this ⟨u, u + v, hu, by lia, by grind, by grind⟩
    · -- the side into P i from P (i - 1)
      have e1 : nx n (i - 1) = i := by unfold nx; rw [if_neg (by lia)]; lia
      have e2 := F9
      have e3 : nx n (n - 1) ≠ i - 1 := by rw [e2]; lia
      have := F.nom (n - 1) (i - 1) pn (by lia) (by lia) e3 (by rw [e1]; lia)
      rw [e1, e2, e] at this
      exact this hc.on.meet2
  have new : ∀ i, i < n + 1 → nx (n + 1) i = if i = n then 0 else i + 1 := by
    intro i hi; unfold nx; (repeat' split) <;> lia
  have g0 : nx (n + 1) 0 = 0 + 1 := by rw [new _ (by lia), if_neg (by lia)]
  refine ⟨fun i j hi hj e => ?_, fun i hi => ?_, fun i j hi hj k1 k2 k3 => ?_⟩
  · by_cases i0 : i = 0
    · by_cases j0 : j = 0
      · lia
      · obtain ⟨j', rfl⟩ := Nat.exists_eq_add_one_of_ne_zero j0
        subst i0
        rw [h0, h1 _ (by lia)] at e
        exact absurd e.symm (cne _ (by lia))
    · obtain ⟨i', rfl⟩ := Nat.exists_eq_add_one_of_ne_zero i0
      by_cases j0 : j = 0
      · subst j0
        rw [h0, h1 _ (by lia)] at e
        exact absurd e (cne _ (by lia))
      · obtain ⟨j', rfl⟩ := Nat.exists_eq_add_one_of_ne_zero j0
        rw [h1 _ (by lia), h1 _ (by lia)] at e
        have := F.inj _ _ (by lia) (by lia) e
        lia
  · -- back
    by_cases i0 : i = 0
    · subst i0
      have e1 := g0
      have e2 : nx (n + 1) (0 + 1) = 1 + 1 := by rw [new _ (by lia), if_neg (by lia)]
      rw [e1, e2, h0, h1 _ (by lia), h1 _ (by lia)]
      intro k
      have := F.nob (n - 1) pn
      have f1 := F9
      have f2 := F8
      rw [f1, f2] at this
      exact this (Back.sub hc k)
    · obtain ⟨i', rfl⟩ := Nat.exists_eq_add_one_of_ne_zero i0
      by_cases i1 : i' = n - 1
      · subst i1
        have e1 : nx (n + 1) (n - 1 + 1) = 0 := by rw [new _ (by lia), if_pos (by lia)]
        have e2 := g0
        rw [e1, e2, h0, h1 _ (by lia), h1 _ (by lia)]
        exact hc.noback n0
      by_cases i2 : i' = n - 2
      · subst i2
        have e1 : nx (n + 1) (n - 2 + 1) = n - 1 + 1 := by rw [new _ (by lia), if_neg (by lia)]; lia
        have e2 : nx (n + 1) (n - 1 + 1) = 0 := by rw [new _ (by lia), if_pos (by lia)]
        rw [e1, e2, h0, h1 _ (by lia), h1 _ (by lia)]
        intro k
        have := F.nob (n - 2) (by lia)
        have f1 : nx n (n - 2) = n - 1 := by unfold nx; rw [if_neg (by lia)]; lia
        have f2 := F9
        rw [f1, f2] at this
        exact this (Back.sub hc.swap k.symm).symm
      · have e1 : nx (n + 1) (i' + 1) = (i' + 1) + 1 := by rw [new _ (by lia), if_neg (by lia)]
        have e2 : nx (n + 1) (i' + 1 + 1) = (i' + 2) + 1 := by rw [new _ (by lia), if_neg (by lia)]
        rw [e1, e2, h1 _ (by lia), h1 _ (by lia), h1 _ (by lia)]
        have := F.nob i' (by lia)
        have f1 : nx n i' = i' + 1 := by unfold nx; rw [if_neg (by lia)]
        have f2 : nx n (i' + 1) = i' + 2 := by unfold nx; rw [if_neg (by lia)]
        rw [f1, f2] at this
        exact this
  · -- meet
    have f0 := F9
    have gn : nx (n + 1) n = 0 := by rw [new _ (by lia), if_pos (by lia)]
    have hRn : R n = P (n - 1) := by have := h1 (n - 1) (by lia); rwa [show n - 1 + 1 = n by lia] at this
    have main : ∀ i j, i < n + 1 → j < n + 1 → i ≠ j → nx (n + 1) i ≠ j → nx (n + 1) j ≠ i → i < j → ¬ Meet (R i) (R (nx (n + 1) i)) (R j) (R (nx (n + 1) j)) := by
      intro i j hi hj k1 k2 k3 hij
      by_cases i0 : i = 0
      · -- side c -> P 0
        subst i0
        rw [g0] at k2 ⊢
        rw [h0, h1 _ (by lia)]
        obtain ⟨j', rfl⟩ : ∃ j', j = j' + 1 := ⟨j - 1, by lia⟩
        have j1 : j' + 1 ≠ n := fun e => by rw [e, gn] at k3; exact k3 rfl
        have e1 : nx (n + 1) (j' + 1) = (j' + 1) + 1 := by rw [new _ (by lia), if_neg (by lia)]
        rw [e1, h1 _ (by lia), h1 _ (by lia)]
        by_cases j2 : j' + 1 = n - 1
        · -- the side into P (n - 1)
          have := F.nob j' (by lia)
          have f1 : nx n j' = n - 1 := by unfold nx; rw [if_neg (by lia)]; lia
          rw [f1, f0] at this
          intro m
          rw [j2] at m
          refine meet_corner (p := P 0) (c := P (n - 1)) (q := P j') (r := c) (fun e => ?_) (fun k => this k.symm) hc.swap (fun e => n0 e.symm) m.swap1.swap2
          have := F.inj _ _ (by lia) (by lia) e; lia
        · intro m
          have f1 : nx n j' = j' + 1 := by unfold nx; rw [if_neg (by lia)]
          have := F.nom (n - 1) j' (by lia) (by lia) (by lia) (by rw [f0]; lia) (by rw [f1]; lia)
          rw [f0, f1] at this
          exact this (Meet.sub hc.swap m.swap1).swap1
      · obtain ⟨i', rfl⟩ : ∃ i', i = i' + 1 := ⟨i - 1, by lia⟩
        obtain ⟨j', rfl⟩ : ∃ j', j = j' + 1 := ⟨j - 1, by lia⟩
        have e2 : nx (n + 1) (i' + 1) = (i' + 1) + 1 := by rw [new _ (by lia), if_neg (by lia)]
        have f2 : nx n i' = i' + 1 := by unfold nx; rw [if_neg (by lia)]
        rw [e2] at k2 ⊢
        rw [h1 _ (by lia), h1 _ (by lia)]
        by_cases j1 : j' + 1 = n
        · -- side P (n - 1) -> c
          rw [j1, gn, hRn, h0]
          intro m
          by_cases i1 : i' = 0
          · subst i1
            have := F.nob (n - 1) pn
            rw [f0, f2] at this
            refine meet_corner (p := P (n - 1)) (c := P 0) (q := P (0 + 1)) (r := c) (fun e => ?_) this hc n0 m.symm
            have := F.inj _ _ (by lia) (by lia) e; lia
          · have := F.nom (n - 1) i' (by lia) (by lia) (by lia) (by rw [f0]; lia) (by rw [f2]; lia)
            rw [f0, f2] at this
            exact this (Meet.sub hc m.symm)
        · have e1 : nx (n + 1) (j' + 1) = (j' + 1) + 1 := by rw [new _ (by lia), if_neg (by lia)]
          rw [e1] at k3 ⊢
          rw [h1 _ (by lia), h1 _ (by lia)]
          have f1 : nx n j' = j' + 1 := by unfold nx; rw [if_neg (by lia)]
          have := F.nom i' j' (by lia) (by lia) (by lia) (by rw [f2]; lia) (by rw [f1]; lia)
          rw [f1, f2] at this
          exact this
    rcases Nat.lt_or_gt_of_ne k1 with g | g
    · exact main i j hi hj k1 k2 k3 g
    · intro m
      exact main j i hj hi (fun e => k1 e.symm) k3 k2 g m.symm
theorem Fence.cons {cs : List Pt} (F : Fence cs) (h11 : cs.length ≤ 11) {c : Pt} (hc : Strict (at' cs (cs.length - 1)) (at' cs 0) c) : Fence (c :: cs) := by
  refine ⟨by have := F.lo; rw [List.length_cons]; lia, by rw [List.length_cons]; lia, ?_⟩
  rw [List.length_cons]
  exact F.ok.insert F.lo hc rfl (fun i _ => rfl)
theorem Fence.flat {A B : List Pt} (F : Fence (A ++ B)) (h11 : (A ++ B).length ≤ 11) {c : Pt} (hc : Strict (at' (B ++ A) ((A ++ B).length - 1)) (at' (B ++ A) 0) c) : Fence (A ++ [c] ++ B) := by
  have hl : (B ++ A).length = (A ++ B).length := by simp only [List.length_append]; lia
  have := F.rot.cons (by lia) (c := c) (by rw [hl]; exact hc)
  have h2 : Fence ((c :: B) ++ A) := by rw [List.cons_append]; exact this
  have h3 := h2.rot
  rw [List.append_assoc]
  exact h3
end FF
end
section
namespace FF
def cr (p q : Pt) : Int := p.1 * q.2 - q.1 * p.2
def pa (p : Pt) : List Pt → Pt → Int
  | [], f => cr p f
  | q :: r, f => cr p q + pa q r f
def area : List Pt → Int
  | [] => 0
  | c :: r => pa c r c
theorem pa_app : ∀ (r : List Pt) (p q : Pt) (r' : List Pt) (f : Pt), pa p (r ++ q :: r') f = pa p r q + pa q r' f
  | [], p, q, r', f => rfl
  | x :: r, p, q, r', f => by
    show cr p x + pa x (r ++ q :: r') f = cr p x + pa x r q + pa q r' f
    rw [pa_app r x q r' f]; lia
theorem area_rot : ∀ (A B : List Pt), area (A ++ B) = area (B ++ A)
  | [], B => by rw [List.nil_append, List.append_nil]
  | a :: A, [] => by rw [List.nil_append, List.append_nil]
  | a :: A, b :: B => by
    show pa a (A ++ b :: B) a = pa b (B ++ a :: A) b
    rw [pa_app, pa_app]; lia
theorem cr_swap (p q : Pt) : cr q p = - cr p q := by unfold cr; grind
theorem pa_rev : ∀ (r : List Pt) (p f : Pt), pa f r.reverse p = - pa p r f
  | [], p, f => cr_swap p f
  | x :: r, p, f => by
    rw [List.reverse_cons, pa_app, pa_rev r x f]
    show - pa x r f + cr x p = -(cr p x + pa x r f)
    rw [cr_swap p x]; lia
theorem area_rev : ∀ (A : List Pt), area A.reverse = - area A
  | [] => rfl
  | a :: A => by
    rw [List.reverse_cons, area_rot]
    show pa a A.reverse a = - pa a A a
    exact pa_rev A a a
theorem pa_led (T : Tn) : ∀ (r : List Pt) (p f : Pt), pa (T.led p) (r.map T.led) (T.led f) = T.det * pa p r f +
    ((T.e * (T.c * f.1 + T.d * f.2) - T.f * (T.a * f.1 + T.b * f.2)) - (T.e * (T.c * p.1 + T.d * p.2) - T.f * (T.a * p.1 + T.b * p.2)))
  | [], p, f => by
    show cr (T.led p) (T.led f) = _
    simp only [pa, cr, Tn.led, Tn.det]; grind
  | x :: r, p, f => by
    show cr (T.led p) (T.led x) + pa (T.led x) (r.map T.led) (T.led f) = T.det * (cr p x + pa x r f) + _
    rw [pa_led T r x f]
    generalize pa x r f = z
    simp only [cr, Tn.led, Tn.det]; grind
theorem area_led (T : Tn) : ∀ A : List Pt, area (A.map T.led) = T.det * area A
  | [] => by show (0 : Int) = T.det * 0; lia
  | a :: A => by
    show pa (T.led a) (A.map T.led) (T.led a) = T.det * pa a A a
    rw [pa_led]; lia
def lastP (p : Pt) : List Pt → Pt
  | [] => p
  | q :: r => lastP q r
theorem pa_last : ∀ (r : List Pt) (p f g : Pt), pa p r f - cr (lastP p r) f = pa p r g - cr (lastP p r) g
  | [], p, f, g => by simp only [pa, lastP]; lia
  | x :: r, p, f, g => by
    have := pa_last r x f g
    simp only [pa, lastP]; lia
theorem lastP_at : ∀ (r : List Pt) (p : Pt), at' (p :: r) r.length = lastP p r
  | [], p => rfl
  | x :: r, p => by
    show at' (x :: r) r.length = lastP x r
    exact lastP_at r x
theorem On.cr {p q c : Pt} (h : On p q c) : cr p c + FF.cr c q = FF.cr p q := by
  have := h.turn
  unfold FF.turn at this
  unfold FF.cr
  grind
theorem area_cons {cs : List Pt} {c : Pt} (h0 : cs ≠ []) (hc : On (at' cs (cs.length - 1)) (at' cs 0) c) : area (c :: cs) = area cs := by
  match cs, h0 with
  | q :: r, _ =>
    have e1 : at' (q :: r) ((q :: r).length - 1) = lastP q r := by
      rw [List.length_cons, Nat.add_sub_cancel]; exact lastP_at r q
    rw [e1] at hc
    have e2 : at' (q :: r) 0 = q := rfl
    rw [e2] at hc
    have k := hc.cr
    have l := pa_last r q c q
    show cr c q + pa q r c = pa q r q
    lia
theorem area_flat {A B : List Pt} {c : Pt} (h0 : A ++ B ≠ []) (hc : On (at' (B ++ A) ((A ++ B).length - 1)) (at' (B ++ A) 0) c) : area (A ++ [c] ++ B) = area (A ++ B) := by
  have hl : (B ++ A).length = (A ++ B).length := by simp only [List.length_append]; lia
  rw [List.append_assoc, area_rot A ([c] ++ B), area_rot A B]
  show area (c :: (B ++ A)) = _
  refine area_cons ?_ (by rw [hl]; exact hc)
  intro e
  have := congrArg List.length e
  rw [hl] at this
  exact h0 (List.eq_nil_of_length_eq_zero this)
/-! the area of a fence by columns -/
structure Col where
  x : Int
  l : Int
  u : Int
def Col.lo (c : Col) : Pt := (c.x, c.l)
def Col.hi (c : Col) : Pt := (c.x, c.u)
/-- along the lows, up, and back along the highs, to the first high -/
def loop (c : Col) : List Col → Int
  | [] => cr c.lo c.hi
  | d :: r => cr c.lo d.lo + loop d r + cr d.hi c.hi
def ColsOk (c : Col) : List Col → Prop
  | [] => True
  | d :: r => c.x < d.x ∧ c.l ≤ c.u ∧ d.l ≤ d.u ∧ c.l + d.l < c.u + d.u ∧ ColsOk d r
theorem loop_pos : ∀ (r : List Col) (c : Col), ColsOk c r → r ≠ [] → 0 < loop c r - cr c.lo c.hi
  | [d], c, ⟨h1, h2, h3, h4, _⟩, _ => by
    have q := Int.mul_pos (show 0 < d.x - c.x by lia) (show 0 < (c.u + d.u) - (c.l + d.l) by lia)
    have e : loop c [d] - cr c.lo c.hi = (d.x - c.x) * ((c.u + d.u) - (c.l + d.l)) := by
      simp only [loop, cr, Col.lo, Col.hi]; grind
    lia
  | d :: d' :: r, c, ⟨h1, h2, h3, h4, h5⟩, _ => by
    have ih := loop_pos (d' :: r) d h5 (by simp)
    have q := Int.mul_pos (show 0 < d.x - c.x by lia) (show 0 < (c.u + d.u) - (c.l + d.l) by lia)
    have e : loop c (d :: d' :: r) - cr c.lo c.hi = (loop d (d' :: r) - cr d.lo d.hi) + (d.x - c.x) * ((c.u + d.u) - (c.l + d.l)) := by
      show cr c.lo d.lo + loop d (d' :: r) + cr d.hi c.hi - cr c.lo c.hi = _
      generalize loop d (d' :: r) = z
      simp only [cr, Col.lo, Col.hi]; grind
    lia
theorem pa_loop : ∀ (r : List Col) (c : Col) (f : Pt), pa c.lo (r.map Col.lo ++ (c :: r).reverse.map Col.hi) f = loop c r + cr c.hi f
  | [], c, f => by simp only [List.map_nil, List.nil_append, List.reverse_cons, List.reverse_nil, List.map_cons, pa, loop]
  | d :: r, c, f => by
    have ih := pa_loop r d c.hi
    have e : (d :: r).map Col.lo ++ (c :: d :: r).reverse.map Col.hi = d.lo :: ((r.map Col.lo ++ (d :: r).reverse.map Col.hi) ++ [c.hi]) := by
      rw [List.reverse_cons (a := c), List.map_append, List.map_cons, List.cons_append, List.append_assoc]; rfl
    rw [e]
    show cr c.lo d.lo + pa d.lo (_ ++ [c.hi]) f = _
    rw [pa_app, ih]
    show _ + (loop d r + cr d.hi c.hi + cr c.hi f) = cr c.lo d.lo + loop d r + cr d.hi c.hi + cr c.hi f
    lia
theorem cr_self (p : Pt) : cr p p = 0 := by unfold cr; lia
/-- the whole list: lows, then highs back; positive -/
theorem area_cols {c : Col} {r : List Col} (h : ColsOk c r) (hr : r ≠ []) : 0 < area ((c :: r).map Col.lo ++ (c :: r).reverse.map Col.hi) := by
  show 0 < pa c.lo (r.map Col.lo ++ (c :: r).reverse.map Col.hi) c.lo
  rw [pa_loop, cr_swap c.lo c.hi]
  have := loop_pos r c h hr
  lia
/-- a corner that stands twice side by side does nothing -/
theorem area_dup (A B : List Pt) (p : Pt) : area (A ++ p :: p :: B) = area (A ++ p :: B) := by
  rw [area_rot, area_rot A]
  show cr p p + pa p (B ++ A) p = pa p (B ++ A) p
  rw [cr_self]; lia
end FF
end
section
namespace FF
/-! a check that is reckoned -/
def dotB (a c b : Pt) : Int := (a.1 - c.1) * (b.1 - c.1) + (a.2 - c.2) * (b.2 - c.2)
def backB (a c b : Pt) : Bool := turn a c b == 0 && decide (0 < dotB a c b)
theorem back_iff {a c b : Pt} (hb : b ≠ c) : Back a c b ↔ backB a c b = true := by
  unfold backB
  rw [Bool.and_eq_true, beq_iff_eq, decide_eq_true_eq]
  have nb : ¬ (b.1 - c.1 = 0 ∧ b.2 - c.2 = 0) := fun e => hb (Prod.ext (by lia) (by lia))
  have hn := norm_pos nb
  constructor
  · intro ⟨s, t, hs, ht, e1, e2⟩
    constructor
    · apply zero_of_mul hs
      unfold turn
      have : s * ((c.1 - a.1) * (b.2 - a.2) - (c.2 - a.2) * (b.1 - a.1)) = -(s * (a.1 - c.1)) * (b.2 - c.2) + (s * (a.2 - c.2)) * (b.1 - c.1) := by grind
      rw [this, e1, e2]; grind
    · apply pos_of_mul hs
      have : s * dotB a c b = t * ((b.1 - c.1) * (b.1 - c.1) + (b.2 - c.2) * (b.2 - c.2)) := by
        have e : s * dotB a c b = (s * (a.1 - c.1)) * (b.1 - c.1) + (s * (a.2 - c.2)) * (b.2 - c.2) := by unfold dotB; grind
        rw [e, e1, e2]; grind
      rw [this]
      exact Int.mul_pos ht hn
  · intro ⟨h1, h2⟩
    refine ⟨_, _, hn, h2, ?_, ?_⟩
    · unfold turn at h1; unfold dotB; grind
    · unfold turn at h1; unfold dotB; grind
def btwB (a n b : Int) : Bool := decide (a ≤ n ∧ n ≤ b) || decide (b ≤ n ∧ n ≤ a)
def liesB (a b c : Pt) : Bool := btwB a.1 c.1 b.1 && btwB a.2 c.2 b.2 && (turn a b c == 0)
theorem lies_iff {a b c : Pt} : On a b c ↔ liesB a b c = true := by
  unfold liesB btwB
  simp only [Bool.and_eq_true, Bool.or_eq_true, decide_eq_true_eq, beq_iff_eq]
  constructor
  · intro h; exact ⟨⟨h.btw1, h.btw2⟩, h.turn⟩
  · intro ⟨⟨h1, h2⟩, h3⟩; exact on_of_lies h3 h1 h2
def partsB (a b c d : Pt) : Bool := decide (turn a b c * turn a b d < 0)
def meetB (a b c d : Pt) : Bool := liesB a b c || liesB a b d || liesB c d a || liesB c d b || (partsB a b c d && partsB c d a b)
theorem meet_iff {a b c d : Pt} : Meet a b c d ↔ meetB a b c d = true := by
  unfold meetB partsB
  simp only [Bool.and_eq_true, Bool.or_eq_true, decide_eq_true_eq, ← lies_iff]
  constructor
  · intro h
    rcases meet_cases h with h | h | h | h | h
    · exact .inl (.inl (.inl (.inl h)))
    · exact .inl (.inl (.inl (.inr h)))
    · exact .inl (.inl (.inr h))
    · exact .inl (.inr h)
    · exact .inr h
  · intro h
    rcases h with (((h | h) | h) | h) | ⟨h, k⟩
    · exact h.meet1
    · exact h.meet2
    · exact h.meet3
    · exact h.meet4
    · exact meet_of_parts h k
def fenceB (cs : List Pt) : Bool :=
  let n := cs.length
  decide (3 ≤ n) && decide (n ≤ 12) &&
  (List.range n).all (fun i => (List.range n).all fun j => (i == j) || !(at' cs i == at' cs j)) &&
  (List.range n).all (fun i => !backB (at' cs i) (at' cs (nx n i)) (at' cs (nx n (nx n i)))) &&
  (List.range n).all (fun i => (List.range n).all fun j => (i == j) || (nx n i == j) || (nx n j == i) || !meetB (at' cs i) (at' cs (nx n i)) (at' cs j) (at' cs (nx n j)))
theorem fence_of_B {cs : List Pt} (h : fenceB cs = true) : Fence cs := by
  unfold fenceB at h
  simp only [Bool.and_eq_true, decide_eq_true_eq, List.all_eq_true, List.mem_range, Bool.or_eq_true, beq_iff_eq, Bool.not_eq_true'] at h
  obtain ⟨⟨⟨⟨h1, h2⟩, h3⟩, h4⟩, h5⟩ := h
  have inj : ∀ i j, i < cs.length → j < cs.length → at' cs i = at' cs j → i = j := by
    intro i j hi hj e
    rcases h3 i hi j hj with q | q
    · exact q
    · exact absurd e (beq_eq_false_iff_ne.mp q)
  refine ⟨h1, h2, inj, ?_, ?_⟩
  · intro i hi k
    have := h4 i hi
    rw [back_iff] at k
    · rw [k] at this; exact Bool.noConfusion this
    · intro e
      have := inj _ _ (nx_lt (nx_lt hi)) (nx_lt hi) e
      unfold nx at this
      (repeat' split at this) <;> lia
  · intro i j hi hj k1 k2 k3 k
    rcases h5 i hi j hj with ((q | q) | q) | q
    · exact k1 q
    · exact k2 q
    · exact k3 q
    · rw [meet_iff.mp k] at q; exact Bool.noConfusion q
/-! what is good of a drawn list -/
structure Good (cs : List Pt) : Prop where
  fe : Fence cs
  ar : area cs ≠ 0
theorem Good.rot {A B : List Pt} (G : Good (A ++ B)) : Good (B ++ A) := ⟨G.fe.rot, by rw [area_rot]; exact G.ar⟩
theorem Good.turnBy {A : List Pt} (G : Good A) (t : Nat) : Good (A.drop t ++ A.take t) := by
  have : Good (A.take t ++ A.drop t) := by rw [List.take_append_drop]; exact G
  exact this.rot
theorem Good.rev {A : List Pt} (G : Good A) : Good A.reverse := ⟨G.fe.rev, by rw [area_rev]; have := G.ar; lia⟩
theorem Good.led {A : List Pt} (G : Good A) {T : Tn} (h : T.det ≠ 0) : Good (A.map T.led) :=
  ⟨(fence_led_iff h).mpr G.fe, by rw [area_led]; intro e; rcases Int.mul_eq_zero.mp e with q | q; exact h q; exact G.ar q⟩
def swapT : Tn := ⟨0, 1, 1, 0, 0, 0⟩
def swp (p : Pt) : Pt := (p.2, p.1)
theorem Good.swap {A : List Pt} (G : Good A) : Good (A.map swp) := by
  have e : swp = swapT.led := by
    funext p
    simp only [swp, swapT, Tn.led]
    exact Prod.ext (by simp) (by simp)
  rw [e]
  exact G.led (by decide)
/-! the draws -/
def cell (ns : List Int) (k : Nat) : Int := ns.getD k 0
def draw (c k bound : Int) : Int := ((c % 2147483647 + 977 * k + 1) * 48271 % 2147483647 + 40692 * (k + 3)) * 69621 % 2147483629 / 8 % bound
theorem draw_range (c k : Int) {b : Int} (h : 0 < b) : 0 ≤ draw c k b ∧ draw c k b < b := ⟨Int.emod_nonneg _ (by lia), Int.emod_lt_of_pos _ h⟩
def xAt (c : Int) : Nat → Int
  | 0 => 0
  | k + 1 => xAt c k + 1 + draw c k 3
def lowAt (c : Int) (k : Nat) : Int := draw c k 9 - 4
def highAt (c d : Int) (k : Nat) : Int := lowAt c k + 1 + draw d k 5
theorem xAt_lt (c : Int) : ∀ {i j : Nat}, i < j → xAt c i < xAt c j := by
  have one : ∀ k, xAt c k < xAt c (k + 1) := fun k => by
    have := draw_range c k (show (0 : Int) < 3 by decide)
    simp only [xAt]; lia
  intro i j h
  induction j with
  | zero => lia
  | succ j ih =>
    by_cases e : i = j
    · subst e; exact one i
    · exact Int.lt_trans (ih (by lia)) (one j)
def joined (lows highs : List Pt) (tips : Int) : List Pt :=
  let top := if tips % 2 = 1 then highs.eraseIdx 0 else highs
  let top2 := if tips > 1 ∧ lows.length + top.length > 3 then top.dropLast else top
  lows ++ top2.reverse
/-- the lows, highs of m columns -/
def loL (m : Nat) (x l : Nat → Int) : List Pt := (List.range m).map fun k => (x k, l k)
theorem loL_len {m : Nat} {x l : Nat → Int} : (loL m x l).length = m := by unfold loL; rw [List.length_map, List.length_range]
theorem loL_at {m : Nat} {x l : Nat → Int} {k : Nat} (h : k < m) : at' (loL m x l) k = (x k, l k) := by
  unfold at' loL
  rw [List.getD_eq_getElem?_getD, List.getElem?_map, List.getElem?_range h]; rfl
theorem at_drop {A : List Pt} {k i : Nat} : at' (A.drop k) i = at' A (k + i) := by
  unfold at'; rw [List.getD_eq_getElem?_getD, List.getElem?_drop, List.getD_eq_getElem?_getD]
theorem at_take {A : List Pt} {k i : Nat} (h : i < k) : at' (A.take k) i = at' A i := by
  unfold at'; rw [List.getD_eq_getElem?_getD, List.getElem?_take_of_lt h, List.getD_eq_getElem?_getD]
theorem at_rev {A : List Pt} {i : Nat} (h : i < A.length) : at' A.reverse i = at' A (A.length - 1 - i) := by
  unfold at'; rw [List.getD_eq_getElem?_getD, List.getElem?_reverse h, List.getD_eq_getElem?_getD]
theorem list_ext_at {A B : List Pt} (hl : A.length = B.length) (h : ∀ i, i < A.length → at' A i = at' B i) : A = B := by
  apply List.ext_getElem hl
  intro i h1 h2
  have := h i h1
  unfold at' at this
  rw [List.getD_eq_getElem?_getD, List.getD_eq_getElem?_getD, List.getElem?_eq_getElem h1, List.getElem?_eq_getElem h2] at this
  exact this
theorem joined_eq {m : Nat} {x l h : Nat → Int} {tips : Int} (m2 : 2 ≤ m) : ∃ a b : Nat, a ≤ 1 ∧ b ≤ 1 ∧ 3 ≤ 2 * m - a - b ∧
    joined (loL m x l) (loL m x h) tips = loL m x l ++ (((loL m x h).drop a).take (m - a - b)).reverse := by
  have e1 : (if tips % 2 = 1 then (loL m x h).eraseIdx 0 else loL m x h) = (loL m x h).drop (if tips % 2 = 1 then 1 else 0) := by
    split
    · rw [List.eraseIdx_zero, List.drop_one]
    · rw [List.drop_zero]
  have ha : (if tips % 2 = 1 then 1 else 0) ≤ 1 := by split <;> lia
  unfold joined
  rw [e1]
  generalize (if tips % 2 = 1 then 1 else 0) = a at ha
  have hl : ((loL m x h).drop a).length = m - a := by rw [List.length_drop, loL_len]
  simp only [hl, loL_len]
  by_cases c : tips > 1 ∧ m + (m - a) > 3
  · refine ⟨a, 1, ha, by lia, by lia, ?_⟩
    rw [if_pos c, List.dropLast_eq_take, hl]
  · by_cases c2 : tips > 1
    · refine ⟨a, 0, ha, by lia, by lia, ?_⟩
      rw [if_neg c, List.take_of_length_le (by lia)]
    · refine ⟨a, 0, ha, by lia, by lia, ?_⟩
      rw [if_neg c, List.take_of_length_le (by lia)]
theorem topL_len {m a b : Nat} {x h : Nat → Int} (ha : a + b ≤ m) : (((loL m x h).drop a).take (m - a - b)).length = m - a - b := by
  rw [List.length_take, List.length_drop, loL_len]; lia
theorem joined_at {m a b : Nat} {x l h : Nat → Int} (C : Cols m a b x l h) {i : Nat} (hi : i < 2 * m - a - b) :
    at' (loL m x l ++ (((loL m x h).drop a).take (m - a - b)).reverse) i = colAt m b x l h i := by
  have := C.m2; have := C.a1; have := C.b1
  rw [at_app, loL_len]
  unfold colAt
  split
  · rw [loL_at (by assumption)]
  · have hl : (((loL m x h).drop a).take (m - a - b)).length = m - a - b := topL_len (by lia)
    rw [at_rev (by lia), hl, at_take (by lia), at_drop, loL_at (by lia)]
    have : a + (m - a - b - 1 - (i - m)) = 2 * m - 1 - b - i := by lia
    rw [this]
theorem colsOk_range (x l u : Nat → Int) : ∀ (m k : Nat), (∀ i, k ≤ i → i < k + m → x i < x (i + 1) ∧ l i ≤ u i ∧ l (i + 1) ≤ u (i + 1) ∧ l i + l (i + 1) < u i + u (i + 1)) →
    ColsOk ⟨x k, l k, u k⟩ ((List.range' (k + 1) m).map fun k => (⟨x k, l k, u k⟩ : Col))
  | 0, k, _ => trivial
  | m + 1, k, H => by
    rw [List.range'_succ, List.map_cons]
    have h0 := H k (Nat.le_refl _) (by lia)
    refine ⟨h0.1, h0.2.1, h0.2.2.1, h0.2.2.2, ?_⟩
    exact colsOk_range x l u m (k + 1) (fun i h1 h2 => H i (by lia) (by lia))
theorem area_full {m a b : Nat} {x l h : Nat → Int} (C : Cols m a b x l h) : 0 < area (loL m x l ++ (loL m x (up m a b l h)).reverse) := by
  have m2 := C.m2
  have e : loL m x l ++ (loL m x (up m a b l h)).reverse = ((⟨x 0, l 0, up m a b l h 0⟩ : Col) :: (List.range' 1 (m - 1)).map fun k => (⟨x k, l k, up m a b l h k⟩ : Col)).map Col.lo ++
      ((⟨x 0, l 0, up m a b l h 0⟩ : Col) :: (List.range' 1 (m - 1)).map fun k => (⟨x k, l k, up m a b l h k⟩ : Col)).reverse.map Col.hi := by
    have q : ∀ f : Nat → Int, loL m x f = (x 0, f 0) :: (List.range' 1 (m - 1)).map fun k => (x k, f k) := by
      intro f
      unfold loL
      rw [List.range_eq_range', show m = (m - 1) + 1 by lia, List.range'_succ, List.map_cons]
      rfl
    rw [q, q, ← List.map_reverse.symm, List.map_cons, List.map_cons, List.map_map, List.map_map]
    rfl
  rw [e]
  refine area_cols ?_ ?_
  · refine colsOk_range x l (up m a b l h) (m - 1) 0 ?_
    intro i _ hi
    have lh0 := C.lh i (by lia)
    have lh1 := C.lh (i + 1) (by lia)
    have n3 := C.n3; have := C.a1; have := C.b1
    refine ⟨C.xs i (i + 1) (by lia) (by lia), ?_, ?_, ?_⟩
    · unfold up; split <;> lia
    · unfold up; split <;> lia
    · unfold up; split <;> split <;> lia
  · intro q
    have := congrArg List.length q
    simp at this
    lia
theorem area_joined {m a b : Nat} {x l h : Nat → Int} (C : Cols m a b x l h) : area (loL m x l ++ (((loL m x h).drop a).take (m - a - b)).reverse) = area (loL m x l ++ (loL m x (up m a b l h)).reverse) := by
  have m2 := C.m2; have a1 := C.a1; have b1 := C.b1; have n3 := C.n3
  -- the two lists in pieces
  let mid : List Pt := ((loL m x h).drop 1).take (m - 2)
  have midl : mid.length = m - 2 := by show (List.take _ _).length = _; rw [List.length_take, List.length_drop, loL_len]; lia
  have midat : ∀ i, i < m - 2 → at' mid i = (x (i + 1), h (i + 1)) := by
    intro i hi
    show at' (List.take _ _) i = _
    rw [at_take hi, at_drop, loL_at (by lia), Nat.add_comm 1 i]
  have top : ((loL m x h).drop a).take (m - a - b) = (if a = 1 then [] else [(x 0, h 0)]) ++ (mid ++ (if b = 1 then [] else [(x (m - 1), h (m - 1))])) := by
    have hl := topL_len (m := m) (a := a) (b := b) (x := x) (h := h) (by lia)
    apply list_ext_at
    · rw [hl, List.length_append, List.length_append, midl]
      split <;> split <;> simp <;> lia
    · intro i hi
      rw [hl] at hi
      rw [at_take hi, at_drop, loL_at (by lia), at_app]
      by_cases c : a = 1
      · rw [if_pos c]
        rw [if_neg (by simp), at_app, midl]
        simp only [List.length_nil, Nat.sub_zero]
        by_cases c2 : i < m - 2
        · rw [if_pos c2, midat i c2, c, Nat.add_comm]
        · rw [if_neg c2, if_neg (by lia)]
          have : i - (m - 2) = 0 := by lia
          rw [this]
          have : a + i = m - 1 := by lia
          rw [this]; rfl
      · rw [if_neg c]
        have a0 : a = 0 := by lia
        subst a0
        by_cases c1 : i = 0
        · subst c1; rfl
        · rw [if_neg (by simp only [List.length_singleton]; lia), at_app, midl]
          simp only [List.length_singleton, Nat.zero_add]
          by_cases c2 : i - 1 < m - 2
          · rw [if_pos c2, midat _ c2, show i - 1 + 1 = i by lia]
          · rw [if_neg c2, if_neg (by lia)]
            have : i - 1 - (m - 2) = 0 := by lia
            rw [this]
            have : i = m - 1 := by lia
            rw [this]; rfl
  have full : loL m x (up m a b l h) = (x 0, up m a b l h 0) :: (mid ++ [(x (m - 1), up m a b l h (m - 1))]) := by
    apply list_ext_at
    · rw [loL_len, List.length_cons, List.length_append, midl]; simp; lia
    · intro i hi
      rw [loL_len] at hi
      rw [loL_at hi]
      by_cases c1 : i = 0
      · subst c1; rfl
      · obtain ⟨j, rfl⟩ : ∃ j, i = j + 1 := ⟨i - 1, by lia⟩
        show _ = at' (mid ++ _) j
        rw [at_app, midl]
        by_cases c2 : j < m - 2
        · rw [if_pos c2, midat _ c2]
          unfold up; rw [if_neg (by lia)]
        · rw [if_neg c2]
          have e2 : j + 1 = m - 1 := by lia
          rw [e2]
          have : j - (m - 2) = 0 := by lia
          rw [this]; rfl
  have low : loL m x l = (x 0, l 0) :: (loL m x l).tail := by
    have hl : (loL m x l).length = m := loL_len
    match q : loL m x l, hl with
    | [], hl => exact absurd hl (by simp only [List.length_nil]; lia)
    | p :: r, _ =>
      have := loL_at (m := m) (x := x) (l := l) (k := 0) (by lia)
      rw [q] at this
      have e : p = (x 0, l 0) := this
      rw [e]; rfl
  have lowE : loL m x l = (loL m x l).dropLast ++ [(x (m - 1), l (m - 1))] := by
    apply list_ext_at
    · rw [List.length_append, List.length_dropLast, loL_len]; simp; lia
    · intro i hi
      rw [loL_len] at hi
      rw [at_app, List.length_dropLast, loL_len, List.dropLast_eq_take, loL_len]
      by_cases c : i < m - 1
      · rw [if_pos c, at_take c]
      · rw [if_neg c, loL_at hi]
        have : i = m - 1 := by lia
        rw [this, Nat.sub_self]; rfl
  rw [top, full]
  -- b, then a
  have stepB : ∀ Z : List Pt, area (loL m x l ++ ((if b = 1 then [] else [(x (m - 1), h (m - 1))]) ++ Z)) = area (loL m x l ++ ((x (m - 1), up m a b l h (m - 1)) :: Z)) := by
    intro Z
    by_cases c : b = 1
    · rw [if_pos c, List.nil_append]
      have e : up m a b l h (m - 1) = l (m - 1) := by unfold up; rw [if_pos (by lia)]
      rw [e, lowE, List.append_assoc, List.append_assoc]
      exact (area_dup _ _ _).symm
    · rw [if_neg c]
      have e : up m a b l h (m - 1) = h (m - 1) := by unfold up; rw [if_neg (by lia)]
      rw [e]; rfl
  have stepA : ∀ Z : List Pt, area (loL m x l ++ (Z ++ (if a = 1 then [] else [(x 0, h 0)]))) = area (loL m x l ++ (Z ++ [(x 0, up m a b l h 0)])) := by
    intro Z
    by_cases c : a = 1
    · rw [if_pos c, List.append_nil]
      have e : up m a b l h 0 = l 0 := by unfold up; rw [if_pos (by lia)]
      rw [e, ← List.append_assoc, area_rot (loL m x l ++ Z), low]
      exact (area_dup [] _ _).symm
    · rw [if_neg c]
      have e : up m a b l h 0 = h 0 := by unfold up; rw [if_neg (by lia)]
      rw [e]
  have rA : (if a = 1 then ([] : List Pt) else [(x 0, h 0)]).reverse = if a = 1 then [] else [(x 0, h 0)] := by split <;> rfl
  have rB : (if b = 1 then ([] : List Pt) else [(x (m - 1), h (m - 1))]).reverse = if b = 1 then [] else [(x (m - 1), h (m - 1))] := by split <;> rfl
  rw [List.reverse_append, List.reverse_append, rA, rB, List.reverse_cons, List.reverse_append, List.reverse_singleton]
  rw [stepA, List.append_assoc, stepB, List.append_assoc, List.cons_append, List.nil_append]
theorem good_joined {m : Nat} {x l h : Nat → Int} {tips : Int} (m2 : 2 ≤ m) (m6 : m ≤ 6) (xs : ∀ i j, i < j → j < m → x i < x j) (lh : ∀ i, i < m → l i < h i) :
    Good (joined (loL m x l) (loL m x h) tips) := by
  obtain ⟨a, b, ha, hb, n3, e⟩ := joined_eq (x := x) (l := l) (h := h) (tips := tips) m2
  rw [e]
  have C : Cols m a b x l h := ⟨m2, m6, ha, hb, n3, xs, lh⟩
  have hl : (loL m x l ++ (((loL m x h).drop a).take (m - a - b)).reverse).length = 2 * m - a - b := by
    rw [List.length_append, loL_len, List.length_reverse, topL_len (by lia)]; lia
  refine ⟨⟨by rw [hl]; exact n3, by rw [hl]; lia, ?_⟩, ?_⟩
  · rw [hl]
    exact col_fence C rfl (fun i hi => joined_at C hi)
  · rw [area_joined C]
    have := area_full C
    lia

/-! the spiral -/
def spiral (c : Int) : List Pt :=
  let w := 5 + c % 3
  let h := 6 + c / 3 % 3
  [(0, 0), (w, 0), (w, h), (0, h), (0, 3), (w - 3, 3)] ++ [(w - 3, 4), (1, 4), (1, h - 1), (w - 1, h - 1), (w - 1, 1), (0, 1)]
def spiralAt (w h : Int) : List Pt := [(0, 0), (w, 0), (w, h), (0, h), (0, 3), (w - 3, 3)] ++ [(w - 3, 4), (1, 4), (1, h - 1), (w - 1, h - 1), (w - 1, 1), (0, 1)]
theorem spiral_all : ((List.range 3).all fun i => (List.range 3).all fun j => fenceB (spiralAt (5 + (i : Int)) (6 + (j : Int))) && decide (area (spiralAt (5 + (i : Int)) (6 + (j : Int))) ≠ 0)) = true := by decide +kernel
theorem good_spiral (c : Int) : Good (spiral c) := by
  have h := spiral_all
  simp only [List.all_eq_true, List.mem_range, Bool.and_eq_true, decide_eq_true_eq] at h
  have q := h (c % 3).toNat (by lia) (c / 3 % 3).toNat (by lia)
  have e1 : (((c % 3).toNat : Nat) : Int) = c % 3 := by lia
  have e2 : (((c / 3 % 3).toNat : Nat) : Int) = c / 3 % 3 := by lia
  rw [e1, e2] at q
  exact ⟨fence_of_B q.1, q.2⟩
/-! a corner more -/
def divs (x y : Int) : List Int := ((List.range 18).map fun k => ((2 + k : Nat) : Int)).filter fun k => x % k == 0 && y % k == 0
def flat (cs : List Pt) (c : Int) : List Pt :=
  let at_ := (c % cs.length).toNat
  let one := at' cs (if at_ = 0 then cs.length - 1 else at_ - 1)
  let x := (at' cs at_).1 - one.1
  let y := (at' cs at_).2 - one.2
  match (divs x y).getLast? with
  | none => cs
  | some g => if cs.length > 11 then cs else
    cs.take at_ ++ [(one.1 + x / g * (1 + c / 12 % (g - 1)), one.2 + y / g * (1 + c / 12 % (g - 1)))] ++ cs.drop at_
theorem divs_mem {x y g : Int} (h : g ∈ divs x y) : 2 ≤ g ∧ x % g = 0 ∧ y % g = 0 := by
  unfold divs at h
  rw [List.mem_filter, List.mem_map] at h
  obtain ⟨⟨k, hk, rfl⟩, h2⟩ := h
  simp only [Bool.and_eq_true, beq_iff_eq] at h2
  exact ⟨by lia, h2.1, h2.2⟩
theorem strict_flat {p q : Pt} {g k : Int} (g2 : 2 ≤ g) (hx : (q.1 - p.1) % g = 0) (hy : (q.2 - p.2) % g = 0) (k1 : 1 ≤ k) (k2 : k < g) :
    Strict p q (p.1 + (q.1 - p.1) / g * k, p.2 + (q.2 - p.2) / g * k) := by
  have ex : g * ((q.1 - p.1) / g) = q.1 - p.1 := Int.mul_ediv_cancel' (Int.dvd_of_emod_eq_zero hx)
  have ey : g * ((q.2 - p.2) / g) = q.2 - p.2 := Int.mul_ediv_cancel' (Int.dvd_of_emod_eq_zero hy)
  refine ⟨g - k, k, by lia, by lia, ?_, ?_⟩
  · generalize (q.1 - p.1) / g = z at ex ⊢
    simp only
    have : q.1 = p.1 + g * z := by lia
    rw [this]; grind
  · generalize (q.2 - p.2) / g = z at ey ⊢
    simp only
    have : q.2 = p.2 + g * z := by lia
    rw [this]; grind
theorem Good.flat {cs : List Pt} (G : Good cs) (c : Int) : Good (flat cs c) := by
  unfold FF.flat
  have lo := G.fe.lo
  have hat : (c % cs.length).toNat < cs.length := by
    have h1 := Int.emod_nonneg c (show (cs.length : Int) ≠ 0 by lia)
    have h2 := Int.emod_lt_of_pos c (show (0 : Int) < cs.length by lia)
    lia
  generalize (c % cs.length).toNat = t at hat
  simp only
  split
  · exact G
  · rename_i g hg
    split
    · exact G
    · rename_i h11
      have hm := divs_mem (List.mem_of_getLast? hg)
      have k0 := Int.emod_nonneg (c / 12) (show g - 1 ≠ 0 by lia)
      have k1 := Int.emod_lt_of_pos (c / 12) (show 0 < g - 1 by lia)
      have st := strict_flat hm.1 hm.2.1 hm.2.2 (k := 1 + c / 12 % (g - 1)) (by lia) (by lia)
      have G2 : Good (cs.take t ++ cs.drop t) := by rw [List.take_append_drop]; exact G
      have hl : (cs.take t ++ cs.drop t).length = cs.length := by rw [List.take_append_drop]
      have a0 : at' (cs.drop t ++ cs.take t) 0 = at' cs t := by
        rw [at_app, List.length_drop, if_pos (by lia), at_drop, Nat.add_zero]
      have a1 : at' (cs.drop t ++ cs.take t) (cs.length - 1) = at' cs (if t = 0 then cs.length - 1 else t - 1) := by
        rw [at_app, List.length_drop]
        by_cases z : t = 0
        · subst z
          rw [if_pos (by lia), at_drop, Nat.zero_add, if_pos rfl]
        · rw [if_neg (by lia), if_neg z, at_take (by lia)]
          congr 1
          lia
      refine ⟨G2.fe.flat (by lia) (by rw [hl, a0, a1]; exact st), ?_⟩
      rw [area_flat (by intro e; have := congrArg List.length e; rw [hl] at this; rw [List.length_nil] at this; lia) (by rw [hl, a0, a1]; exact st.on), List.take_append_drop]
      exact G.ar
/-! the whole drawn fence -/
def colM (c : Int) : Nat := (2 + c % 5).toNat
def lowsOf (ns : List Int) (f : Nat) : List Pt := loL (colM (cell ns f)) (xAt (cell ns (f + 3))) (lowAt (cell ns (f + 1)))
def highsOf (ns : List Int) (f : Nat) : List Pt := loL (colM (cell ns f)) (xAt (cell ns (f + 3))) (highAt (cell ns (f + 1)) (cell ns (f + 2)))
def stepS (cs : List Pt) (c d : Int) : List Pt := if c / 48 % 5 = 1 then spiral d else cs
def stepF (cs : List Pt) (c d : Int) : List Pt := if c / 240 % 2 = 1 then flat cs d else cs
def turnL (cs : List Pt) (c : Int) : List Pt := cs.drop (c % cs.length).toNat ++ cs.take (c % cs.length).toNat
def stepR (cs : List Pt) (c : Int) : List Pt := if c / 12 % 2 = 1 then cs.reverse else cs
def stepX (cs : List Pt) (c : Int) : List Pt := if c / 24 % 2 = 1 then cs.map swp else cs
def fenceBy (ns : List Int) (f : Nat) : List Pt :=
  let c := cell ns f / 20
  stepX (stepR (turnL (stepF (stepS (joined (lowsOf ns f) (highsOf ns f) (cell ns f / 5 % 4)) c (cell ns (f + 1))) c (cell ns (f + 2))) c) c) c
theorem good_fenceBy (ns : List Int) (f : Nat) : Good (fenceBy ns f) := by
  have hm : 2 ≤ colM (cell ns f) ∧ colM (cell ns f) ≤ 6 := by
    unfold colM
    lia
  have g0 : Good (joined (lowsOf ns f) (highsOf ns f) (cell ns f / 5 % 4)) := by
    refine good_joined hm.1 hm.2 (fun i j h _ => xAt_lt _ h) (fun i _ => ?_)
    have := draw_range (cell ns (f + 2)) i (show (0 : Int) < 5 by decide)
    unfold highAt; lia
  unfold fenceBy
  simp only
  have g1 : ∀ cs c d, Good cs → Good (stepS cs c d) := by
    intro cs c d G; unfold stepS; split; exact good_spiral _; exact G
  have g2 : ∀ cs c d, Good cs → Good (stepF cs c d) := by
    intro cs c d G; unfold stepF; split; exact G.flat _; exact G
  have g4 : ∀ cs c, Good cs → Good (stepR cs c) := by
    intro cs c G; unfold stepR; split; exact G.rev; exact G
  have g5 : ∀ cs c, Good cs → Good (stepX cs c) := by
    intro cs c G; unfold stepX; split; exact G.swap; exact G
  exact g5 _ _ (g4 _ _ ((g2 _ _ _ (g1 _ _ _ g0)).turnBy _))
end FF
end
section
set_option maxRecDepth 100000
set_option linter.all false
namespace FD
open PySem L2 FF
def top (i : Nat) : Stmt := PySem.Challenge.pw_fencefield_k13_turned.main.body.getD i (.Pass ⟨0, 0, 0, 0⟩)
abbrev sTurn : Stmt := top 6
abbrev sBetween : Stmt := top 7
abbrev sLies : Stmt := top 8
abbrev sParts : Stmt := top 9
abbrev sMeet : Stmt := top 10
abbrev sBack : Stmt := top 11
def Co (p : Pt) : Prop := (-(10 ^ 40) ≤ p.1 ∧ p.1 ≤ 10 ^ 40) ∧ -(10 ^ 40) ≤ p.2 ∧ p.2 ≤ 10 ^ 40
def PtA (H : Hp) (a : Addr) (p : Pt) : Prop := H a = some (.tup [.int p.1, .int p.2])
theorem at0 {x y : V} : atI [x, y] 0 = some x := rfl
theorem at1 {x y : V} : atI [x, y] 1 = some y := rfl
theorem big2 {x y : Int} (h1 : -(10 ^ 40) ≤ x ∧ x ≤ 10 ^ 40) (h2 : -(10 ^ 40) ≤ y ∧ y ≤ 10 ^ 40) : Big (x - y) := big_of (by lia) (by lia)
theorem mul_bd {x y a b : Int} (h1 : -a ≤ x ∧ x ≤ a) (h2 : -b ≤ y ∧ y ≤ b) (ha : 0 ≤ a) (hb : 0 ≤ b) : -(a * b) ≤ x * y ∧ x * y ≤ a * b := by
  have k1 := Int.mul_nonneg (show 0 ≤ a - x by lia) (show 0 ≤ b - y by lia)
  have k2 := Int.mul_nonneg (show 0 ≤ a + x by lia) (show 0 ≤ b + y by lia)
  have k3 := Int.mul_nonneg (show 0 ≤ a - x by lia) (show 0 ≤ b + y by lia)
  have k4 := Int.mul_nonneg (show 0 ≤ a + x by lia) (show 0 ≤ b - y by lia)
  have e1 : (a - x) * (b - y) = a * b - a * y - x * b + x * y := by grind
  have e2 : (a + x) * (b + y) = a * b + a * y + x * b + x * y := by grind
  have e3 : (a - x) * (b + y) = a * b + a * y - x * b - x * y := by grind
  have e4 : (a + x) * (b - y) = a * b - a * y + x * b - x * y := by grind
  lia
theorem turn_bd {a b c : Pt} (ha : Co a) (hb : Co b) (hc : Co c) : -(10 ^ 90) ≤ turn a b c ∧ turn a b c ≤ 10 ^ 90 := by
  obtain ⟨a1, a2⟩ := ha
  obtain ⟨b1, b2⟩ := hb
  obtain ⟨c1, c2⟩ := hc
  have k1 := mul_bd (x := b.1 - a.1) (y := c.2 - a.2) (a := 2 * 10 ^ 40) (b := 2 * 10 ^ 40) (by lia) (by lia) (by decide) (by decide)
  have k2 := mul_bd (x := b.2 - a.2) (y := c.1 - a.1) (a := 2 * 10 ^ 40) (b := 2 * 10 ^ 40) (by lia) (by lia) (by decide) (by decide)
  unfold turn
  have : (2 * 10 ^ 40 : Int) * (2 * 10 ^ 40) * 2 ≤ 10 ^ 90 := by decide
  lia
/-! contracts -/
def spTurn : Sp := fun vs H Q _ => ∃ a b c pa pb pc, vs = [.ref a, .ref b, .ref c] ∧ PtA H a pa ∧ PtA H b pb ∧ PtA H c pc ∧ Co pa ∧ Co pb ∧ Co pc ∧ Q (.int (turn pa pb pc)) H
def spBetween : Sp := fun vs H Q _ => ∃ a n b, vs = [.int a, .int n, .int b] ∧ Q (.bl (btwB a n b)) H
def spLies : Sp := fun vs H Q _ => ∃ a b c pa pb pc, vs = [.ref a, .ref b, .ref c] ∧ PtA H a pa ∧ PtA H b pb ∧ PtA H c pc ∧ Co pa ∧ Co pb ∧ Co pc ∧ Q (.bl (liesB pa pb pc)) H
def spParts : Sp := fun vs H Q _ => ∃ a b c d pa pb pc pd, vs = [.ref a, .ref b, .ref c, .ref d] ∧ PtA H a pa ∧ PtA H b pb ∧ PtA H c pc ∧ PtA H d pd ∧ Co pa ∧ Co pb ∧ Co pc ∧ Co pd ∧ Q (.bl (partsB pa pb pc pd)) H
def spMeet : Sp := fun vs H Q _ => ∃ a b c d pa pb pc pd, vs = [.ref a, .ref b, .ref c, .ref d] ∧ PtA H a pa ∧ PtA H b pb ∧ PtA H c pc ∧ PtA H d pd ∧ Co pa ∧ Co pb ∧ Co pc ∧ Co pd ∧ Q (.bl (meetB pa pb pc pd)) H
def spBack : Sp := fun vs H Q _ => ∃ a b c pa pb pc, vs = [.ref a, .ref b, .ref c] ∧ PtA H a pa ∧ PtA H b pb ∧ PtA H c pc ∧ Co pa ∧ Co pb ∧ Co pc ∧ Q (.bl (backB pa pb pc)) H
/-- a def that may be called -/
structure Cal (P : Program) (w : World) (K : PySem.W.Frag) (mg : Str → Option Value) (base : Heap) (n : Nat) (x : Str) (ps : List Str) (sp : Sp) : Prop where
  ex : ∃ f fd, FnOk P w K mg base CX0 n f fd ps sp ∧ Binds K fd ps [] ∧ PySem.W.keepIn K (.ref f) = true ∧ mg x = some (.ref f)
theorem pe_cal {X : Cx} {j k : Nat} {x : Str} {ps : List Str} {sp : Sp} {p pos : Pos} {e : Expr} {es : List Expr} {t : TA} (C : Cal X.prog X.w X.K X.mg X.base j x ps sp) (hr : Room k X.A) (hj : j ≤ k) (hg : Gl X x) (ha : PA X (e :: es) t)
    (hdb : (x == ("__debug__" : Str)) = false := by decide) (he : starEach (e :: es) X.env = (false, eval e X.env) :: starEach es X.env := by rfl) (hpl : (backTo pos (starEach es X.env)).any (·.1) = false := by rfl) :
    PE X (.Call (.Name x p) (e :: es) [] pos) (tCall sp [] E0 t) := by
  obtain ⟨f, fd, F, b, k', m⟩ := C.ex
  exact pe_call F (hr.mono hj) hg m k' b .nil pass0 ha hdb he hpl
theorem Cal.of {P : Program} {w : World} {K : PySem.W.Frag} {mg : Str → Option Value} {base : Heap} {n : Nat} {x : Str} {ps : List Str} {sp : Sp} {f : Addr} {fd : FuncData} (F : FnOk P w K mg base CX0 n f fd ps sp) (b : Binds K fd ps []) (k : PySem.W.keepIn K (.ref f) = true) (m : mg x = some (.ref f)) :
    Cal P w K mg base n x ps sp := ⟨f, fd, F, b, k, m⟩
section
variable {P : Program} {w : World} {K : PySem.W.Frag} {mg : Str → Option Value} {base : Heap} {f : Addr} {fd : FuncData}
theorem scTurn : FnScope ["start", "end", "point", "across", "along"] ["start", "end", "point"] (defScope sTurn) := ⟨rfl, rfl, rfl, by decide +kernel, rfl, by decide +kernel, by decide +kernel⟩
theorem ok_turn {n : Nat} (F : Fun K "turn" "turn" sTurn f fd) : FnOk P w K mg base CX0 (n + 1) f fd ["start", "end", "point"] spTurn := by
  refine F.ok scTurn (fun vs H Q E h => ?_) (fun cdv A outer s H vs Q E hr h => ?_)
  · obtain ⟨a, b, c, pa, pb, pc, rfl, _⟩ := h
    rfl
  obtain ⟨a, b, c, pa, pb, pc, rfl, ha, hb, hc, ca, cb, cc, q⟩ := h
  refine ⟨_, pss_cons (ps_set (i := 3) scTurn.nd rfl (Or.inl rfl) (pe_op op_mulB (pe_op op_sub (pe_ix ix_tup (pv 1) pe_int (fun _ _ => rfl)) (pe_ix ix_tup (pv 0) pe_int (fun _ _ => rfl))) (pe_op op_sub (pe_ix ix_tup (pv 2) pe_int (fun _ _ => rfl)) (pe_ix ix_tup (pv 0) pe_int (fun _ _ => rfl)))))
    (pss_cons (ps_set (i := 4) scTurn.nd rfl (Or.inl rfl) (pe_op op_mulB (pe_op op_sub (pe_ix ix_tup (pv 1) pe_int (fun _ _ => rfl)) (pe_ix ix_tup (pv 0) pe_int (fun _ _ => rfl))) (pe_op op_sub (pe_ix ix_tup (pv 2) pe_int (fun _ _ => rfl)) (pe_ix ix_tup (pv 0) pe_int (fun _ _ => rfl)))))
    (pss_one (ps_ret (pe_op op_sub (pv 3) (pv 4))))), ?_⟩
  refine ⟨_, rfl, b, _, _, _, rfl, rfl, SqT.of hb, at0, _, rfl, a, _, _, _, rfl, rfl, SqT.of ha, at0, _, _, rfl, rfl, _, rfl, c, _, _, _, rfl, rfl, SqT.of hc, at1, _, rfl, a, _, _, _, rfl, rfl, SqT.of ha, at1, _, _, rfl, rfl, _, _, rfl, rfl, ⟨big2 cb.1 ca.1, big2 cc.2 ca.2⟩, ?_⟩
  refine ⟨_, rfl, b, _, _, _, rfl, rfl, SqT.of hb, at1, _, rfl, a, _, _, _, rfl, rfl, SqT.of ha, at1, _, _, rfl, rfl, _, rfl, c, _, _, _, rfl, rfl, SqT.of hc, at0, _, rfl, a, _, _, _, rfl, rfl, SqT.of ha, at0, _, _, rfl, rfl, _, _, rfl, rfl, ⟨big2 cb.2 ca.2, big2 cc.1 ca.1⟩, ?_⟩
  exact ⟨_, rfl, _, rfl, _, _, rfl, rfl, q⟩

theorem scBetween : FnScope ["one", "number", "other"] ["one", "number", "other"] (defScope sBetween) := ⟨rfl, rfl, rfl, by decide +kernel, rfl, by decide +kernel, by decide +kernel⟩
theorem ok_between {n : Nat} (F : Fun K "between" "between" sBetween f fd) (m1 : mg "min" = none) (m2 : mg "max" = none) : FnOk P w K mg base CX0 (n + 1) f fd ["one", "number", "other"] spBetween := by
  refine F.ok scBetween (fun vs H Q E h => ?_) (fun cdv A outer s H vs Q E hr h => ?_)
  · obtain ⟨a, b, c, rfl, _⟩ := h
    rfl
  obtain ⟨a, m, b, rfl, q⟩ := h
  refine ⟨_, pss_one (ps_ret (pe_chain op_le op_le (pe_callB (call_min2 rfl) rfl m1 PyProof.Rows.boot_min (pa_cons (pv 0) (pa_cons (pv 2) pa_nil))) (pv 1) (pe_callB (call_max2 rfl) rfl m2 PyProof.Rows.boot_max (pa_cons (pv 0) (pa_cons (pv 2) pa_nil))))), ?_⟩
  refine ⟨_, rfl, _, rfl, _, _, rfl, _, rfl, _, _, rfl, rfl, _, rfl, ?_⟩
  refine ite2 (fun c => ?_) (fun c => ?_)
  · refine ⟨_, rfl, _, rfl, _, _, rfl, _, _, rfl, rfl, ?_⟩
    have c' := of_decide_eq_true c
    have e : decide (m ≤ if b > a then b else a) = btwB a m b := by
      unfold btwB
      rw [Bool.eq_iff_iff, Bool.or_eq_true]
      simp only [decide_eq_true_eq]
      (repeat' split at c') <;> (repeat' split) <;> lia
    show Q (.bl (decide (m ≤ if b > a then b else a))) H
    rw [e]; exact q
  · have c' : ¬ _ := fun z => c (decide_eq_true z)
    have e : false = btwB a m b := by
      unfold btwB
      symm
      rw [Bool.or_eq_false_iff]
      simp only [decide_eq_false_iff_not]
      (repeat' split at c') <;> lia
    show Q (.bl false) H
    rw [e]; exact q
theorem scLies : FnScope ["start", "end", "point"] ["start", "end", "point"] (defScope sLies) := ⟨rfl, rfl, rfl, by decide +kernel, rfl, by decide +kernel, by decide +kernel⟩
theorem ok_lies (F : Fun K "lies_on" "lies_on" sLies f fd) (cB : Cal P w K mg base 1 "between" ["one", "number", "other"] spBetween) (cT : Cal P w K mg base 1 "turn" ["start", "end", "point"] spTurn) : FnOk P w K mg base CX0 2 f fd ["start", "end", "point"] spLies := by
  refine F.ok scLies (fun vs H Q E h => ?_) (fun cdv A outer s H vs Q E hr h => ?_)
  · obtain ⟨a, b, c, pa, pb, pc, rfl, _⟩ := h
    rfl
  obtain ⟨a, b, c, pa, pb, pc, rfl, ha, hb, hc, ca, cb, cc, q⟩ := h
  refine ⟨_, pss_cons (ps_if (PW.pt (pw_or (pt_not (pt_val (pe_cal cB hr (by decide) rfl (pa_cons (pe_ix ix_tup (pv 0) pe_int (fun _ _ => rfl)) (pa_cons (pe_ix ix_tup (pv 2) pe_int (fun _ _ => rfl)) (pa_cons (pe_ix ix_tup (pv 1) pe_int (fun _ _ => rfl)) pa_nil))))))
      (pw_or1 (pt_not (pt_val (pe_cal cB hr (by decide) rfl (pa_cons (pe_ix ix_tup (pv 0) pe_int (fun _ _ => rfl)) (pa_cons (pe_ix ix_tup (pv 2) pe_int (fun _ _ => rfl)) (pa_cons (pe_ix ix_tup (pv 1) pe_int (fun _ _ => rfl)) pa_nil)))))))))
      (pss_one (ps_ret pe_bl)) pss_nil)
    (pss_one (ps_ret (pe_cmpR op_eq (pe_cal cT hr (by decide) rfl (pa_cons (pv 0) (pa_cons (pv 1) (pa_cons (pv 2) pa_nil)))) pe_int (nomark _)))), ?_⟩
  refine ⟨_, rfl, a, _, _, _, rfl, rfl, SqT.of ha, at0, _, rfl, c, _, _, _, rfl, rfl, SqT.of hc, at0, _, rfl, b, _, _, _, rfl, rfl, SqT.of hb, at0, ?_⟩
  refine ⟨_, _, _, rfl, _, rfl, ?_⟩
  refine ite2 (fun c1 => ?_) (fun c1 => ?_)
  · refine iteT ?_
    have e : liesB pa pb pc = false := by
      unfold liesB
      rw [Bool.not_eq_true'] at c1
      rw [show btwB pa.1 pc.1 pb.1 = false from c1]; rfl
    rw [e] at q
    exact q
  · refine ⟨_, rfl, a, _, _, _, rfl, rfl, SqT.of ha, at1, _, rfl, c, _, _, _, rfl, rfl, SqT.of hc, at1, _, rfl, b, _, _, _, rfl, rfl, SqT.of hb, at1, _, _, _, rfl, _, rfl, ?_⟩
    refine ite2 (fun c2 => ?_) (fun c2 => ?_)
    · have e : liesB pa pb pc = false := by
        unfold liesB
        rw [Bool.not_eq_true'] at c2
        rw [show btwB pa.2 pc.2 pb.2 = false from c2, Bool.and_false]; rfl
      rw [e] at q
      exact q
    · have c1' : btwB pa.1 pc.1 pb.1 = true := by simpa using c1
      have c2' : btwB pa.2 pc.2 pb.2 = true := by simpa using c2
      refine ⟨_, rfl, _, rfl, _, rfl, a, b, c, pa, pb, pc, rfl, ha, hb, hc, ca, cb, cc, rfl, ?_⟩
      have e : liesB pa pb pc = decide (V.int (turn pa pb pc) = V.int 0) := by
        unfold liesB
        rw [c1', c2', dec_int]; rfl
      rw [e] at q
      exact q
theorem scParts : FnScope ["start", "end", "one", "other"] ["start", "end", "one", "other"] (defScope sParts) := ⟨rfl, rfl, rfl, by decide +kernel, rfl, by decide +kernel, by decide +kernel⟩
theorem ok_parts (F : Fun K "parts" "parts" sParts f fd) (cT : Cal P w K mg base 1 "turn" ["start", "end", "point"] spTurn) : FnOk P w K mg base CX0 2 f fd ["start", "end", "one", "other"] spParts := by
  refine F.ok scParts (fun vs H Q E h => ?_) (fun cdv A outer s H vs Q E hr h => ?_)
  · obtain ⟨a, b, c, d, pa, pb, pc, pd, rfl, _⟩ := h
    rfl
  obtain ⟨a, b, c, d, pa, pb, pc, pd, rfl, ha, hb, hc, hd, ca, cb, cc, cd, q⟩ := h
  refine ⟨_, pss_one (ps_ret (pe_cmpR op_lt (pe_op op_mulB (pe_cal cT hr (by decide) rfl (pa_cons (pv 0) (pa_cons (pv 1) (pa_cons (pv 2) pa_nil)))) (pe_cal cT hr (by decide) rfl (pa_cons (pv 0) (pa_cons (pv 1) (pa_cons (pv 3) pa_nil))))) pe_int (nomark _))), ?_⟩
  have k1 := turn_bd ca cb cc
  have k2 := turn_bd ca cb cd
  exact ⟨_, rfl, _, rfl, _, rfl, a, b, c, pa, pb, pc, rfl, ha, hb, hc, ca, cb, cc, _, rfl, _, rfl, _, rfl, a, b, d, pa, pb, pd, rfl, ha, hb, hd, ca, cb, cd, _, _, rfl, rfl, ⟨big_of (by lia) (by lia), big_of (by lia) (by lia)⟩, _, _, rfl, rfl, q⟩
theorem scMeet : FnScope ["start", "end", "other_start", "other_end"] ["start", "end", "other_start", "other_end"] (defScope sMeet) := ⟨rfl, rfl, rfl, by decide +kernel, rfl, by decide +kernel, by decide +kernel⟩
theorem ok_meet (F : Fun K "sides_meet" "sides_meet" sMeet f fd) (cL : Cal P w K mg base 2 "lies_on" ["start", "end", "point"] spLies) (cP : Cal P w K mg base 2 "parts" ["start", "end", "one", "other"] spParts) : FnOk P w K mg base CX0 3 f fd ["start", "end", "other_start", "other_end"] spMeet := by
  refine F.ok scMeet (fun vs H Q E h => ?_) (fun cdv A outer s H vs Q E hr h => ?_)
  · obtain ⟨a, b, c, d, pa, pb, pc, pd, rfl, _⟩ := h
    rfl
  obtain ⟨a, b, c, d, pa, pb, pc, pd, rfl, ha, hb, hc, hd, ca, cb, cc, cd, q⟩ := h
  refine ⟨_, pss_cons (ps_if (PW.pt (pw_or (pt_val (pe_cal cL hr (by decide) rfl (pa_cons (pv 0) (pa_cons (pv 1) (pa_cons (pv 2) pa_nil))))) (pw_or1 (pt_val (pe_cal cL hr (by decide) rfl (pa_cons (pv 0) (pa_cons (pv 1) (pa_cons (pv 3) pa_nil)))))))) (pss_one (ps_ret pe_bl)) pss_nil)
    (pss_cons (ps_if (PW.pt (pw_or (pt_val (pe_cal cL hr (by decide) rfl (pa_cons (pv 2) (pa_cons (pv 3) (pa_cons (pv 0) pa_nil))))) (pw_or1 (pt_val (pe_cal cL hr (by decide) rfl (pa_cons (pv 2) (pa_cons (pv 3) (pa_cons (pv 1) pa_nil)))))))) (pss_one (ps_ret pe_bl)) pss_nil)
    (pss_one (ps_ret (pe_and (pe_cal cP hr (by decide) rfl (pa_cons (pv 0) (pa_cons (pv 1) (pa_cons (pv 2) (pa_cons (pv 3) pa_nil))))) (pe_one (pe_cal cP hr (by decide) rfl (pa_cons (pv 2) (pa_cons (pv 3) (pa_cons (pv 0) (pa_cons (pv 1) pa_nil)))))))))), ?_⟩
  refine ⟨_, rfl, _, rfl, _, rfl, a, b, c, pa, pb, pc, rfl, ha, hb, hc, ca, cb, cc, _, rfl, ?_⟩
  refine ite2 (fun c1 => ?_) (fun c1 => ?_)
  · refine iteT ?_
    have e : meetB pa pb pc pd = true := by unfold meetB; rw [c1]; rfl
    rw [e] at q; exact q
  refine ⟨_, rfl, _, rfl, _, rfl, a, b, d, pa, pb, pd, rfl, ha, hb, hd, ca, cb, cd, _, rfl, ?_⟩
  refine ite2 (fun c2 => ?_) (fun c2 => ?_)
  · have e : meetB pa pb pc pd = true := by unfold meetB; rw [c2, Bool.or_true]; rfl
    rw [e] at q; exact q
  refine ⟨_, rfl, _, rfl, _, rfl, c, d, a, pc, pd, pa, rfl, hc, hd, ha, cc, cd, ca, _, rfl, ?_⟩
  refine ite2 (fun c3 => ?_) (fun c3 => ?_)
  · refine iteT ?_
    have e : meetB pa pb pc pd = true := by unfold meetB; rw [c3, Bool.or_true]; rfl
    rw [e] at q; exact q
  refine ⟨_, rfl, _, rfl, _, rfl, c, d, b, pc, pd, pb, rfl, hc, hd, hb, cc, cd, cb, _, rfl, ?_⟩
  refine ite2 (fun c4 => ?_) (fun c4 => ?_)
  · have e : meetB pa pb pc pd = true := by unfold meetB; rw [c4, Bool.or_true]; rfl
    rw [e] at q; exact q
  have e : meetB pa pb pc pd = (partsB pa pb pc pd && partsB pc pd pa pb) := by
    unfold meetB
    rw [Bool.eq_false_iff.mpr c1, Bool.eq_false_iff.mpr c2, Bool.eq_false_iff.mpr c3, Bool.eq_false_iff.mpr c4]; rfl
  rw [e] at q
  refine ⟨_, rfl, _, rfl, _, rfl, _, rfl, a, b, c, d, pa, pb, pc, pd, rfl, ha, hb, hc, hd, ca, cb, cc, cd, _, rfl, ?_⟩
  refine ite2 (fun c5 => ?_) (fun c5 => ?_)
  · rw [c5, Bool.true_and] at q
    exact ⟨_, rfl, _, rfl, _, rfl, _, rfl, c, d, a, b, pc, pd, pa, pb, rfl, hc, hd, ha, hb, cc, cd, ca, cb, q⟩
  · rw [Bool.eq_false_iff.mpr c5, Bool.false_and] at q
    exact q
theorem scBack : FnScope ["before", "corner", "after", "across", "upward"] ["before", "corner", "after"] (defScope sBack) := ⟨rfl, rfl, rfl, by decide +kernel, rfl, by decide +kernel, by decide +kernel⟩
theorem ok_back (F : Fun K "goes_back" "goes_back" sBack f fd) (cT : Cal P w K mg base 1 "turn" ["start", "end", "point"] spTurn) : FnOk P w K mg base CX0 2 f fd ["before", "corner", "after"] spBack := by
  refine F.ok scBack (fun vs H Q E h => ?_) (fun cdv A outer s H vs Q E hr h => ?_)
  · obtain ⟨a, b, c, pa, pb, pc, rfl, _⟩ := h
    rfl
  obtain ⟨a, b, c, pa, pb, pc, rfl, ha, hb, hc, ca, cb, cc, q⟩ := h
  refine ⟨_, pss_cons (ps_if (pt_cmpR op_ne (pe_cal cT hr (by decide) rfl (pa_cons (pv 0) (pa_cons (pv 1) (pa_cons (pv 2) pa_nil)))) pe_int (nomark _)) (pss_one (ps_ret pe_bl)) pss_nil)
    (pss_cons (ps_set (i := 3) scBack.nd rfl (Or.inl rfl) (pe_op op_mulB (pe_op op_sub (pe_ix ix_tup (pv 0) pe_int (fun _ _ => rfl)) (pe_ix ix_tup (pv 1) pe_int (fun _ _ => rfl))) (pe_op op_sub (pe_ix ix_tup (pv 2) pe_int (fun _ _ => rfl)) (pe_ix ix_tup (pv 1) pe_int (fun _ _ => rfl)))))
    (pss_cons (ps_set (i := 4) scBack.nd rfl (Or.inl rfl) (pe_op op_mulB (pe_op op_sub (pe_ix ix_tup (pv 0) pe_int (fun _ _ => rfl)) (pe_ix ix_tup (pv 1) pe_int (fun _ _ => rfl))) (pe_op op_sub (pe_ix ix_tup (pv 2) pe_int (fun _ _ => rfl)) (pe_ix ix_tup (pv 1) pe_int (fun _ _ => rfl)))))
    (pss_one (ps_ret (pe_cmpR op_gt (pe_op op_add (pv 3) (pv 4)) pe_int (nomark _)))))), ?_⟩
  refine ⟨_, rfl, _, rfl, _, rfl, a, b, c, pa, pb, pc, rfl, ha, hb, hc, ca, cb, cc, rfl, _, rfl, ?_⟩
  refine ite2 (fun c1 => ?_) (fun c1 => ?_)
  · have e : backB pa pb pc = false := by
      unfold backB
      rw [dec_int, Bool.not_eq_true'] at c1
      rw [c1]; rfl
    rw [e] at q; exact q
  have c1' : (turn pa pb pc == 0) = true := by
    rw [dec_int] at c1
    simpa using c1
  refine ⟨_, rfl, a, _, _, _, rfl, rfl, SqT.of ha, at0, _, rfl, b, _, _, _, rfl, rfl, SqT.of hb, at0, _, _, rfl, rfl, _, rfl, c, _, _, _, rfl, rfl, SqT.of hc, at0, _, rfl, b, _, _, _, rfl, rfl, SqT.of hb, at0, _, _, rfl, rfl, _, _, rfl, rfl, ⟨big2 ca.1 cb.1, big2 cc.1 cb.1⟩, ?_⟩
  refine ⟨_, rfl, a, _, _, _, rfl, rfl, SqT.of ha, at1, _, rfl, b, _, _, _, rfl, rfl, SqT.of hb, at1, _, _, rfl, rfl, _, rfl, c, _, _, _, rfl, rfl, SqT.of hc, at1, _, rfl, b, _, _, _, rfl, rfl, SqT.of hb, at1, _, _, rfl, rfl, _, _, rfl, rfl, ⟨big2 ca.2 cb.2, big2 cc.2 cb.2⟩, ?_⟩
  refine ⟨_, rfl, _, rfl, _, _, rfl, rfl, _, _, rfl, rfl, ?_⟩
  have e : backB pa pb pc = decide (0 < dotB pa pb pc) := by unfold backB; rw [c1']; rfl
  rw [e] at q
  exact q
end
end FD
end
section
set_option maxRecDepth 100000
set_option linter.all false
namespace FD
open PySem L2 FF
abbrev sFence : Stmt := top 16
abbrev sArea : Stmt := top 17

abbrev sRefuse : Stmt := top 18
abbrev sSides : Stmt := top 19
abbrev sSomeBack : Stmt := top 20
abbrev sSomeMeet : Stmt := top 21
abbrev sSigned : Stmt := top 22
/-! lists of points -/
def refs (n : Nat) (rf : Nat → Addr) : List V := (List.range n).map fun i => V.ref (rf i)
theorem refs_len {n : Nat} {rf : Nat → Addr} : (refs n rf).length = n := by unfold refs; rw [List.length_map, List.length_range]
theorem refs_get {n : Nat} {rf : Nat → Addr} {i : Nat} (h : i < n) : (refs n rf)[i]? = some (.ref (rf i)) := by unfold refs; rw [List.getElem?_map, List.getElem?_range h]; rfl
theorem refs_get' {n : Nat} {rf : Nat → Addr} {i : Nat} {x : V} (h : (refs n rf)[i]? = some x) : i < n ∧ x = .ref (rf i) := by
  have hi : i < n := by have := (List.getElem?_eq_some_iff.mp h).1; rwa [refs_len] at this
  rw [refs_get hi] at h
  exact ⟨hi, (Option.some.inj h).symm⟩
def PLs (H : Hp) (l : Addr) (rf : Nat → Addr) (cs : List Pt) : Prop := H l = some (.lst (refs cs.length rf)) ∧ ∀ i, i < cs.length → PtA H (rf i) (at' cs i)
theorem PLs.mono {H H' : Hp} {l : Addr} {rf : Nat → Addr} {cs : List Pt} (h : PLs H l rf cs) (s : Same H H') : PLs H' l rf cs := ⟨s _ _ h.1, fun i hi => s _ _ (h.2 i hi)⟩
def AllCo (cs : List Pt) : Prop := ∀ i, i < cs.length → Co (at' cs i)
theorem same_upd {H : Hp} {p : Addr} (h : H p = none) (o : HO) : Same H (upd H p o) := fun b u q => by rw [upd_ne (ne_of_none q h)]; exact q
theorem small {n : Nat} (h : n ≤ 1000) : n ≤ sizeLine := Nat.le_of_lt (small1000 h)
/-- an index of any sign -/
theorem atI_neg {n k : Nat} {rf : Nat → Addr} (hk : k ≤ n) (h0 : 0 < k) : atI (refs n rf) (-(k : Int)) = some (.ref (rf (n - k))) := by
  unfold atI ixN
  rw [refs_len, if_neg (by lia), if_pos (by lia)]
  have e : (-(k : Int) + (n : Int)).toNat = n - k := by lia
  rw [e]
  exact refs_get (by lia)
theorem atI_pos {n k : Nat} {rf : Nat → Addr} (hk : k < n) : atI (refs n rf) (k : Int) = some (.ref (rf k)) := atI_nat (refs_get hk)
def pv_ (n i : Nat) : Nat := if i = 0 then n - 1 else i - 1
/-- xs[k - 1] -/
theorem atI_prev {n k : Nat} {rf : Nat → Addr} (hk : k < n) : atI (refs n rf) ((k : Int) - 1) = some (.ref (rf (pv_ n k))) := by
  unfold pv_
  by_cases c : k = 0
  · rw [if_pos c]
    have : (k : Int) - 1 = -((1 : Nat) : Int) := by lia
    rw [this]
    exact atI_neg (by lia) (by lia)
  · rw [if_neg c]
    have : (k : Int) - 1 = ((k - 1 : Nat) : Int) := by lia
    rw [this]
    exact atI_pos (by lia)
theorem atI_prev2 {n k : Nat} {rf : Nat → Addr} (hk : k < n) (h2 : 2 ≤ n) : atI (refs n rf) ((k : Int) - 2) = some (.ref (rf (pv_ n (pv_ n k)))) := by
  unfold pv_
  by_cases c : k = 0
  · rw [if_pos c, if_neg (by lia)]
    have : (k : Int) - 2 = -((2 : Nat) : Int) := by lia
    rw [this, show n - 1 - 1 = n - 2 by lia]
    exact atI_neg (by lia) (by lia)
  · rw [if_neg c]
    by_cases c2 : k = 1
    · rw [if_pos (by lia)]
      have : (k : Int) - 2 = -((1 : Nat) : Int) := by lia
      rw [this]
      exact atI_neg (by lia) (by lia)
    · rw [if_neg (by lia)]
      have : (k : Int) - 2 = ((k - 2 : Nat) : Int) := by lia
      rw [this, show k - 1 - 1 = k - 2 by lia]
      exact atI_pos (by lia)
theorem pv_lt {n i : Nat} (h : i < n) : pv_ n i < n := by unfold pv_; split <;> lia
theorem nx_pv {n i : Nat} (h : i < n) : nx n (pv_ n i) = i := by unfold nx pv_; (repeat' split) <;> lia
theorem pv_nx {n i : Nat} (h : i < n) : pv_ n (nx n i) = i := by unfold nx pv_; (repeat' split) <;> lia
/-- xs[1:] + xs[:1] -/
theorem turned1 {n : Nat} {rf : Nat → Addr} (h : 1 ≤ n) : cutV (refs n rf) (some 1) none ++ cutV (refs n rf) none (some 1) = refs n (fun i => rf (nx n i)) := by
  have e1 : cutV (refs n rf) (some 1) none = (refs n rf).drop 1 := by
    unfold cutV
    rw [show HT.sIx (refs n rf).length 0 (some 1) = min 1 (refs n rf).length from HT.sIx_nat _ _ 1, HT.sIx_none, refs_len, Nat.min_eq_left h]
    exact List.take_of_length_le (by rw [List.length_drop, refs_len]; lia)
  have e2 : cutV (refs n rf) none (some 1) = (refs n rf).take 1 := by
    unfold cutV
    rw [show HT.sIx (refs n rf).length (refs n rf).length (some 1) = min 1 (refs n rf).length from HT.sIx_nat _ _ 1, HT.sIx_none, refs_len, Nat.min_eq_left h, List.drop_zero]
  rw [e1, e2]
  apply List.ext_getElem?
  intro i
  by_cases c : i < n
  · rw [refs_get c]
    by_cases c2 : i + 1 = n
    · rw [List.getElem?_append_right (by rw [List.length_drop, refs_len]; lia), List.length_drop, refs_len, List.getElem?_take_of_lt (by lia), show i - (n - 1) = 0 by lia, refs_get (by lia)]
      unfold nx; rw [if_pos c2]
    · rw [List.getElem?_append_left (by rw [List.length_drop, refs_len]; lia), List.getElem?_drop, refs_get (by lia)]
      unfold nx; rw [if_neg c2, Nat.add_comm]
  · rw [List.getElem?_eq_none (by rw [List.length_append, List.length_drop, List.length_take, refs_len]; lia), List.getElem?_eq_none (by rw [refs_len]; lia)]
/-! contracts -/
/-- the sides: pairs of the corners' own tuples -/
def SidesAt (H : Hp) (r : Addr) (ts rf : Nat → Addr) (n : Nat) : Prop := H r = some (.lst (refs n ts)) ∧ ∀ i, i < n → H (ts i) = some (.tup [.ref (rf i), .ref (rf (nx n i))])
def spSides : Sp := fun vs H Q _ => ∃ l rf cs, vs = [.ref l] ∧ PLs H l rf cs ∧ 1 ≤ cs.length ∧ cs.length ≤ 400 ∧ ∀ r ts H', Same H H' → SidesAt H' r ts rf cs.length → Q (.ref r) H'
def SomeBack (cs : List Pt) : Prop := ∃ i, i < cs.length ∧ backB (at' cs i) (at' cs (nx cs.length i)) (at' cs (nx cs.length (nx cs.length i))) = true
def SomeMeet (cs : List Pt) : Prop := ∃ i j, i < cs.length ∧ j < cs.length ∧ i ≠ j ∧ nx cs.length i ≠ j ∧ nx cs.length j ≠ i ∧ meetB (at' cs i) (at' cs (nx cs.length i)) (at' cs j) (at' cs (nx cs.length j)) = true
def spSomeBack : Sp := fun vs H Q _ => ∃ l rf cs, vs = [.ref l] ∧ PLs H l rf cs ∧ AllCo cs ∧ 3 ≤ cs.length ∧ cs.length ≤ 400 ∧ ∀ b, (b = true ↔ SomeBack cs) → Q (.bl b) H
def spSomeMeet : Sp := fun vs H Q _ => ∃ l rf cs, vs = [.ref l] ∧ PLs H l rf cs ∧ AllCo cs ∧ 3 ≤ cs.length ∧ cs.length ≤ 400 ∧ ∀ b H', Same H H' → (b = true ↔ SomeMeet cs) → Q (.bl b) H'
def spFence : Sp := fun vs H Q _ => ∃ l rf cs, vs = [.ref l] ∧ PLs H l rf cs ∧ AllCo cs ∧ cs.length ≤ 400 ∧ ∀ b H', Same H H' → (b = true ↔ Fence cs) → Q (.bl b) H'
def spRefuse : Sp := fun vs H Q _ => ∃ l rf cs, vs = [.ref l] ∧ PLs H l rf cs ∧ AllCo cs ∧ Fence cs ∧ ∀ H', Same H H' → Q .non H'
def spSigned : Sp := fun vs H Q _ => ∃ l rf cs, vs = [.ref l] ∧ PLs H l rf cs ∧ AllCo cs ∧ 1 ≤ cs.length ∧ cs.length ≤ 400 ∧ ∀ H', Same H H' → Q (.int (area cs)) H'
def spArea : Sp := fun vs H Q _ => ∃ l rf cs, vs = [.ref l] ∧ PLs H l rf cs ∧ AllCo cs ∧ Fence cs ∧ ∀ H', Same H H' → Q (.int (if area cs < 0 then - area cs else area cs)) H'
section
variable {P : Program} {w : World} {K : PySem.W.Frag} {mg : Str → Option Value} {base : Heap} {f : Addr} {fd : FuncData}
theorem scSides : FnScope ["corners"] ["corners"] (defScope sSides) := ⟨rfl, rfl, rfl, by decide +kernel, rfl, by decide +kernel, by decide +kernel⟩
theorem ok_sides {n : Nat} (F : Fun K "sides_of" "sides_of" sSides f fd) (m1 : mg "list" = none) (m2 : mg "zip" = none) : FnOk P w K mg base CX0 (n + 1) f fd ["corners"] spSides := by
  refine F.ok scSides (fun vs H Q E h => ?_) (fun cdv A outer s H vs Q E hr h => ?_)
  · obtain ⟨l, rf, cs, rfl, _⟩ := h
    rfl
  obtain ⟨l, rf, cs, rfl, hp, n1, n4, q⟩ := h
  refine ⟨_, pss_one (ps_ret (pe_listzip rfl rfl m1 rfl m2 (pa_cons (pv 0) (pa_cons (pe_op op_cat (pe_slice sl_list (pv 0) (po_some pe_int) po_none) (pe_slice sl_list (pv 0) po_none (po_some pe_int))) pa_nil)))), ?_⟩
  refine ⟨_, rfl, _, rfl, 1, rfl, l, _, rfl, SqL.of hp.1, fun p1 hp1 => ?_⟩
  have s1 := same_upd hp1 (.lst (cutV (refs cs.length rf) (some 1) none))
  refine ⟨_, rfl, 1, rfl, l, _, rfl, SqL.of (s1 _ _ hp.1), fun p2 hp2 => ?_⟩
  have s2 := same_upd hp2 (.lst (cutV (refs cs.length rf) none (some 1)))
  refine ⟨p1, p2, _, _, rfl, rfl, s2 _ _ upd_same, upd_same, ?_, fun p3 hp3 => ?_⟩
  · rw [← List.length_append, turned1 n1, refs_len]; exact small (by lia)
  have s3 := same_upd hp3 (.lst (cutV (refs cs.length rf) (some 1) none ++ cutV (refs cs.length rf) none (some 1)))
  have sA := s1.trans (s2.trans s3)
  refine ⟨l, p3, refs cs.length rf, refs cs.length (fun i => rf (nx cs.length i)), rfl, SqL.of (sA _ _ hp.1), ?_, by rw [refs_len, refs_len], fun ts r H' sH ht hl => ?_⟩
  · rw [← turned1 n1]; exact SqL.of upd_same
  refine q r ts H' (sA.trans sH) ⟨?_, fun i hi => ht i _ _ (refs_get hi) (refs_get hi)⟩
  rw [hl, refs_len]; rfl
theorem scSomeBack : FnScope ["corners", "k"] ["corners"] (defScope sSomeBack) := ⟨rfl, rfl, rfl, by decide +kernel, rfl, by decide +kernel, by decide +kernel⟩
theorem ok_someBack (F : Fun K "some_side_goes_back" "some_side_goes_back" sSomeBack f fd) (cB : Cal P w K mg base 2 "goes_back" ["before", "corner", "after"] spBack) (m1 : mg "range" = none) (m2 : mg "len" = none) : FnOk P w K mg base CX0 3 f fd ["corners"] spSomeBack := by
  refine F.ok scSomeBack (fun vs H Q E h => ?_) (fun cdv A outer s H vs Q E hr h => ?_)
  · obtain ⟨l, rf, cs, rfl, _⟩ := h
    rfl
  obtain ⟨l, rf, cs, rfl, hp, co, n3, n4, q⟩ := h
  refine ⟨_, pss_cons (ps_for PassesOwn.never rfl (pi_range1 rfl m1 (pa_cons (pe_callB call_len_seq rfl m2 PySem.boot_len (pa_cons (pv 0) pa_nil)) pa_nil)) (pg_name (i := 1) scSomeBack.nd rfl (Or.inl rfl))
      (pss_one (ps_if (pt_val (pe_cal cB hr (by decide) rfl (pa_cons (pe_ix ix_list (pv 0) (pe_op op_sub (pv 1) pe_int) (fun _ _ => rfl)) (pa_cons (pe_ix ix_list (pv 0) (pe_op op_sub (pv 1) pe_int) (fun _ _ => rfl)) (pa_cons (pe_ix ix_list (pv 0) (pv 1) (fun _ _ => rfl)) pa_nil))))) (pss_one (ps_ret pe_bl)) pss_nil)))
    (pss_one (ps_ret pe_bl)), ?_⟩
  refine ⟨_, rfl, l, _, rfl, .inl (SqL.of hp.1), _, rfl, ?_, ?_, ?_⟩
  · lia
  · rw [refs_len]; lia
  rw [refs_len]
  have e0 : ((cs.length : Nat) : Int).toNat = cs.length := by lia
  rw [e0]
  refine for_range (fun i σ H' => (∃ kv, σ = [some (.ref l), kv]) ∧ H' = H ∧ ∀ k, k < i → backB (at' cs (pv_ cs.length (pv_ cs.length k))) (at' cs (pv_ cs.length k)) (at' cs k) = false) ⟨⟨none, rfl⟩, rfl, fun k hk => absurd hk (by lia)⟩ ?_ ?_
  · rintro i σ H' hi ⟨⟨kv, rfl⟩, rfl, hno⟩
    have ei : (0 : Int) + (i : Int) = (i : Int) := by lia
    rw [ei]
    have p1 := pv_lt hi
    have p2 := pv_lt p1
    refine ⟨_, rfl, _, rfl, _, _, rfl, rfl, l, _, _, _, rfl, rfl, SqL.of hp.1, atI_prev2 hi (by lia), _, rfl, _, rfl, _, _, rfl, rfl, l, _, _, _, rfl, rfl, SqL.of hp.1, atI_prev hi, _, rfl, _, rfl, l, _, _, _, rfl, rfl, SqL.of hp.1, atI_pos hi,
      rf _, rf _, rf i, _, _, _, rfl, hp.2 _ p2, hp.2 _ p1, hp.2 _ hi, co _ p2, co _ p1, co _ hi, _, rfl, ?_⟩
    refine ite2 (fun c => ?_) (fun c => ?_)
    · refine q true ⟨fun _ => ?_, fun _ => rfl⟩
      refine ⟨pv_ cs.length (pv_ cs.length i), p2, ?_⟩
      rw [nx_pv p1, nx_pv hi]; exact c
    · refine ⟨⟨_, rfl⟩, rfl, fun k hk => ?_⟩
      by_cases e : k = i
      · subst e; exact Bool.eq_false_iff.mpr c
      · exact hno k (by lia)
  · rintro σ H' ⟨_, rfl, hno⟩
    refine q false ⟨fun z => Bool.noConfusion z, fun ⟨i, hi, hb⟩ => ?_⟩
    have n1 := nx_lt hi
    have n2 := nx_lt n1
    have := hno _ n2
    rw [pv_nx n1, pv_nx hi] at this
    rw [this] at hb; exact Bool.noConfusion hb
end
end FD
end
section
set_option maxRecDepth 100000
set_option linter.all false
namespace L2
open PySem PySem.Spec PyProof.Rows
theorem for_enum {K : PySem.W.Frag} {a : Addr} {xs : List V} {g : TG} {tb : TS} {D : Ends} {σ : St} {H : Hp} (Pv : Nat → St → Hp → Prop) (h0 : Pv 0 σ H) (hl : ∀ i σ H, i ≤ xs.length → Pv i σ H → SqL K H a xs)
    (hs : ∀ i x σ H T, xs[i]? = some x → Pv i σ H → H T = none → g (.ref T) σ (upd H T (.tup [.int i, x])) fun σ2 H2 => tb { D with nx := Pv (i + 1), ct := Pv (i + 1), bk := D.nx } σ2 H2) (hd : ∀ σ H, Pv xs.length σ H → D.nx σ H) :
    ∃ W : Nat → Nat → St → Hp → Prop, (∃ m, W 0 m σ H) ∧ ∀ i m σ H, W i m σ H →
      ((Ite K a).stop i H ∧ D.nx σ H) ∨ ((Ite K a).go i H ∧ ∃ N : St → Hp → Prop, (∀ σ' H', N σ' H' → ∃ m', m' < m ∧ W (i + 1) m' σ' H') ∧ ∀ x H', (Ite K a).yld i H x H' → g x σ H' fun σ2 H2 => tb { D with nx := N, ct := N, bk := D.nx } σ2 H2) := by
  refine ⟨fun i m σ H => m = xs.length - i ∧ i ≤ xs.length ∧ Pv i σ H, ⟨xs.length, by simp, Nat.zero_le _, h0⟩, ?_⟩
  rintro i m σ H ⟨rfl, hi, p⟩
  have q := hl i σ H hi p
  by_cases hlt : i < xs.length
  · refine .inr ⟨⟨xs, xs[i], q, by simp [hlt]⟩, Pv (i + 1), fun σ' H' p' => ⟨xs.length - (i + 1), by lia, rfl, hlt, p'⟩, fun x H' y => ?_⟩
    obtain ⟨T, v, rfl, hT, rfl, y⟩ := y
    exact hs i v σ _ T (y xs q) p hT
  · have e : i = xs.length := by lia
    subst e
    exact .inl ⟨⟨xs, q, Nat.le_refl _⟩, hd σ H p⟩
/-- the block's names, by a look -/
def compOk (sc scope : Scope) (N0 N' : List Str) (own : Nat) (caps : List Nat) : Bool :=
  scope.names.all (fun y => !(y.2 == .cell)) && (scope.kind == .function) && scope.names.all (fun y => !(y.2 == .local) || scope.names.lookup y.1 == some .local) &&
  scope.names.all (fun y => !(y.2 == .free) || sc.names.lookup y.1 == some .cell || sc.names.lookup y.1 == some .free) && (N'.length == own + caps.length) &&
  (List.range caps.length).all fun i => match caps[i]?, N'[own + i]? with | some j, some x => N0[j]? == some x && scope.names.lookup x == some .free | _, _ => true
theorem CompScope.of {X : Cx} {sc scope : Scope} {N0 N' : List Str} {own : Nat} {caps : List Nat} (hsc : X.env.scope = sc) (hN : X.N = N0) (h : compOk sc scope N0 N' own caps = true) : CompScope X scope N' own caps := by
  subst hsc hN
  unfold compOk at h
  simp only [Bool.and_eq_true, List.all_eq_true, Bool.not_eq_true', Bool.or_eq_true, beq_iff_eq, List.mem_range] at h
  obtain ⟨⟨⟨⟨⟨h1, h2⟩, h3⟩, h4⟩, h5⟩, h6⟩ := h
  refine ⟨fun y hy e => ?_, h2, fun y hy e => ?_, fun y hy e => ?_, h5, fun i j x e1 e2 => ?_⟩
  · have := h1 y hy; rw [e] at this; exact absurd this (by decide)
  · rcases h3 y hy with q | q
    · rw [e] at q; exact absurd q (by decide)
    · exact q
  · rcases h4 y hy with (q | q) | q
    · rw [e] at q; exact absurd q (by decide)
    · exact .inl q
    · exact .inr q
  · have hi : i < caps.length := (List.getElem?_eq_some_iff.mp e1).1
    have := h6 i hi
    rw [e1, e2] at this
    simp only [Bool.and_eq_true, beq_iff_eq] at this
    exact this
end L2
namespace FD
open PySem L2 FF
theorem cut_from {n s : Nat} {ts : Nat → Addr} : cutV (refs n ts) (some (s : Int)) none = refs (n - s) (fun j => ts (s + j)) := by
  unfold cutV
  rw [HT.sIx_nat, HT.sIx_none, refs_len]
  apply List.ext_getElem?
  intro i
  by_cases c : i < n - s
  · rw [refs_get c, List.getElem?_take_of_lt (by lia), List.getElem?_drop, Nat.min_eq_left (by lia), refs_get (by lia)]
  · rw [List.getElem?_eq_none (by rw [List.length_take, List.length_drop, refs_len]; lia), List.getElem?_eq_none (by rw [refs_len]; lia)]
theorem cut_mid {n : Nat} {ts : Nat → Addr} (h : 3 ≤ n) : cutV (refs n ts) (some 2) (some (-1)) = refs (n - 3) (fun j => ts (2 + j)) := by
  unfold cutV
  have e1 : HT.sIx (refs n ts).length 0 (some 2) = 2 := by
    rw [show HT.sIx (refs n ts).length 0 (some 2) = min 2 (refs n ts).length from HT.sIx_nat _ _ 2, refs_len]; lia
  have e2 : HT.sIx (refs n ts).length (refs n ts).length (some (-1)) = n - 1 := by
    show (if (-1 : Int) < 0 then ((-1 : Int) + ((refs n ts).length : Int)).toNat else min (-1 : Int).toNat (refs n ts).length) = _
    rw [if_pos (by decide), refs_len]; lia
  rw [e1, e2]
  apply List.ext_getElem?
  intro i
  by_cases c : i < n - 3
  · rw [refs_get c, List.getElem?_take_of_lt (by lia), List.getElem?_drop, refs_get (by lia)]
  · rw [List.getElem?_eq_none (by rw [List.length_take, List.length_drop, refs_len]; lia), List.getElem?_eq_none (by rw [refs_len]; lia)]
/-- the sides behind the k-th that are asked -/
def bhN (n k : Nat) : Nat := if k = 0 then n - 3 else n - (k + 2)
theorem no_meet {cs : List Pt} (h3 : 3 ≤ cs.length) (h : ∀ k, k < cs.length → ∀ j, j < bhN cs.length k → meetB (at' cs k) (at' cs (nx cs.length k)) (at' cs (k + 2 + j)) (at' cs (nx cs.length (k + 2 + j))) = false) : ¬ SomeMeet cs := by
  have main : ∀ i j, i < j → j < cs.length → nx cs.length i ≠ j → nx cs.length j ≠ i → meetB (at' cs i) (at' cs (nx cs.length i)) (at' cs j) (at' cs (nx cs.length j)) = false := by
    intro i j hij hj n1 n2
    have := h i (by lia) (j - (i + 2)) (by unfold bhN; unfold nx at n1 n2; (repeat' split at n1) <;> (repeat' split at n2) <;> (repeat' split) <;> lia)
    have e : i + 2 + (j - (i + 2)) = j := by unfold nx at n1; (repeat' split at n1) <;> lia
    rw [e] at this
    exact this
  rintro ⟨i, j, hi, hj, h1, h2, h3', hm⟩
  rcases Nat.lt_or_gt_of_ne h1 with g | g
  · rw [main i j g hj h2 h3'] at hm; exact Bool.noConfusion hm
  · have hm' := meet_iff.mp (meet_iff.mpr hm).symm
    rw [main j i g hi h3' h2] at hm'; exact Bool.noConfusion hm'
section
variable {P : Program} {w : World} {K : PySem.W.Frag} {mg : Str → Option Value} {base : Heap} {f : Addr} {fd : FuncData}
theorem scSomeMeet : FnScope ["corners", "sides", "k", "side", "behind", "other"] ["corners"] (defScope sSomeMeet) := ⟨rfl, rfl, rfl, by decide +kernel, rfl, by decide +kernel, by decide +kernel⟩
theorem ok_someMeet (F : Fun K "some_sides_meet" "some_sides_meet" sSomeMeet f fd) (cS : Cal P w K mg base 1 "sides_of" ["corners"] spSides) (cM : Cal P w K mg base 3 "sides_meet" ["start", "end", "other_start", "other_end"] spMeet) (m1 : mg "enumerate" = none) : FnOk P w K mg base CX0 4 f fd ["corners"] spSomeMeet := by
  refine F.ok scSomeMeet (fun vs H Q E h => ?_) (fun cdv A outer s H vs Q E hr h => ?_)
  · obtain ⟨l, rf, cs, rfl, _⟩ := h
    rfl
  obtain ⟨l, rf, cs, rfl, hp, co, n3, n4, q⟩ := h
  refine ⟨_, pss_cons (ps_set (i := 1) scSomeMeet.nd rfl (Or.inl rfl) (pe_cal cS hr (by decide) rfl (pa_cons (pv 0) pa_nil)))
    (pss_cons (ps_for PassesOwn.never rfl (pi_enum rfl m1 (pa_cons (pv 1) pa_nil)) (pg_tup rfl (pgs_cons (pg_name (i := 2) scSomeMeet.nd rfl (Or.inl rfl)) (pgs_cons (pg_name (i := 3) scSomeMeet.nd rfl (Or.inl rfl)) pgs_nil)))
      (pss_cons (ps_set (i := 4) scSomeMeet.nd rfl (Or.inl rfl) (pe_ifExp (pt_cmpR op_gt (pv 2) pe_int (nomark _)) (pe_slice sl_list (pv 1) (po_some (pe_op op_add (pv 2) pe_int)) po_none) (pe_slice sl_list (pv 1) (po_some pe_int) (po_some (pe_un un_neg pe_int)))))
      (pss_one (ps_for PassesOwn.never rfl (pi_list (pv 4)) (pg_name (i := 5) scSomeMeet.nd rfl (Or.inl rfl))
        (pss_one (ps_if (pt_val (pe_cal cM hr (by decide) rfl (pa_cons (pe_ix ix_tup (pv 3) pe_int (fun _ _ => rfl)) (pa_cons (pe_ix ix_tup (pv 3) pe_int (fun _ _ => rfl)) (pa_cons (pe_ix ix_tup (pv 5) pe_int (fun _ _ => rfl)) (pa_cons (pe_ix ix_tup (pv 5) pe_int (fun _ _ => rfl)) pa_nil)))))) (pss_one (ps_ret pe_bl)) pss_nil))))))
    (pss_one (ps_ret pe_bl))), ?_⟩
  refine ⟨_, rfl, l, rf, cs, rfl, hp, by lia, n4, fun r ts H1 s1 hS1 => ?_⟩
  refine ⟨_, rfl, r, rfl, ⟨_, SqL.of hS1.1⟩, ?_⟩
  -- the outer invariant
  have lenN : (refs cs.length ts).length = cs.length := refs_len
  refine for_enum (xs := refs cs.length ts) (fun i σ H' => (∃ x2 x3 x4 x5, σ = [some (.ref l), some (.ref r), x2, x3, x4, x5]) ∧ Same H1 H' ∧
      ∀ k, k < i → ∀ j, j < bhN cs.length k → meetB (at' cs k) (at' cs (nx cs.length k)) (at' cs (k + 2 + j)) (at' cs (nx cs.length (k + 2 + j))) = false)
    ⟨⟨none, none, none, none, rfl⟩, Same.refl _, fun k hk => absurd hk (by lia)⟩ (fun i σ H' _ hI => SqL.of (hI.2.1 _ _ hS1.1)) ?_ ?_
  · rintro i x σ H' T hx ⟨⟨x2, x3, x4, x5, rfl⟩, sH, hno⟩ hT
    obtain ⟨hi, rfl⟩ := refs_get' hx
    have sT := same_upd hT (.tup [.int i, .ref (ts i)])
    have s2 : Same H1 (upd H' T (.tup [.int i, .ref (ts i)])) := sH.trans sT
    refine ⟨T, _, rfl, SqT.of upd_same, rfl, _, _, rfl, _, _, rfl, rfl, ?_⟩
    generalize upd H' T (.tup [.int i, .ref (ts i)]) = H2 at *
    -- behind, then the inner loop
    have inner : ∀ (p : Addr) (H3 : Hp), Same H1 H3 → H3 p = some (.lst (refs (bhN cs.length i) fun j => ts (i + 2 + j))) →
        tFor (iList K (tVar 4)) (gName 5) (tIfS (tB (tCall spMeet [] E0 (tCons (tOp (rIxT K) (tVar 3) (tC (.int 0))) (tCons (tOp (rIxT K) (tVar 3) (tC (.int 1))) (tCons (tOp (rIxT K) (tVar 5) (tC (.int 0))) (tCons (tOp (rIxT K) (tVar 5) (tC (.int 1))) tNil)))))) (tRet (tC (.bl true))) tNext)
          { nx := fun σ H' => (∃ x2 x3 x4 x5, σ = [some (.ref l), some (.ref r), x2, x3, x4, x5]) ∧ Same H1 H' ∧
              ∀ k, k < i + 1 → ∀ j, j < bhN cs.length k → meetB (at' cs k) (at' cs (nx cs.length k)) (at' cs (k + 2 + j)) (at' cs (nx cs.length (k + 2 + j))) = false, rt := Q,
            bk := fun σ H' => tRet (tC (.bl false)) { nx := fun _ H' => Q .non H', rt := Q } σ H',
            ct := fun σ H' => (∃ x2 x3 x4 x5, σ = [some (.ref l), some (.ref r), x2, x3, x4, x5]) ∧ Same H1 H' ∧
              ∀ k, k < i + 1 → ∀ j, j < bhN cs.length k → meetB (at' cs k) (at' cs (nx cs.length k)) (at' cs (k + 2 + j)) (at' cs (nx cs.length (k + 2 + j))) = false }
          [some (.ref l), some (.ref r), some (.int i), some (.ref (ts i)), some (.ref p), x5] H3 := by
      intro p H3 s3 hb
      refine ⟨_, rfl, p, rfl, ⟨_, SqL.of hb⟩, ?_⟩
      refine for_list (xs := refs (bhN cs.length i) fun j => ts (i + 2 + j)) (fun m σ H' => (∃ x5, σ = [some (.ref l), some (.ref r), some (.int i), some (.ref (ts i)), some (.ref p), x5]) ∧ H' = H3 ∧
        ∀ j, j < m → meetB (at' cs i) (at' cs (nx cs.length i)) (at' cs (i + 2 + j)) (at' cs (nx cs.length (i + 2 + j))) = false) ⟨⟨_, rfl⟩, rfl, fun j hj => absurd hj (by lia)⟩ (fun m σ H' _ hI => by rw [hI.2.1]; exact SqL.of hb) ?_ ?_
      · rintro m y σ H' hy ⟨⟨x5, rfl⟩, rfl, hno2⟩
        obtain ⟨hm, rfl⟩ := refs_get' hy
        have hj : i + 2 + m < cs.length := by unfold bhN at hm; split at hm <;> lia
        have t1 := s3 _ _ (hS1.2 i hi)
        have t2 := s3 _ _ (hS1.2 (i + 2 + m) hj)
        have pP : ∀ k, k < cs.length → PtA H' (rf k) (at' cs k) := fun k hk => s3 _ _ (s1 _ _ (hp.2 k hk))
        refine ⟨_, rfl, _, _, _, _, rfl, rfl, SqT.of t1, at0, _, rfl, _, _, _, _, rfl, rfl, SqT.of t1, at1, _, rfl, _, _, _, _, rfl, rfl, SqT.of t2, at0, _, rfl, _, _, _, _, rfl, rfl, SqT.of t2, at1,
          _, _, _, _, _, _, _, _, rfl, pP _ hi, pP _ (nx_lt hi), pP _ hj, pP _ (nx_lt hj), co _ hi, co _ (nx_lt hi), co _ hj, co _ (nx_lt hj), _, rfl, ?_⟩
        refine ite2 (fun c => ?_) (fun c => ?_)
        · refine q true H' (s1.trans s3) ⟨fun _ => ?_, fun _ => rfl⟩
          refine ⟨i, i + 2 + m, hi, hj, by lia, ?_, ?_, c⟩
          · unfold nx; split <;> lia
          · unfold bhN at hm; unfold nx; (repeat' split) <;> (split at hm) <;> lia
        · refine ⟨⟨_, rfl⟩, rfl, fun j hj' => ?_⟩
          by_cases e : j = m
          · subst e; exact Bool.eq_false_iff.mpr c
          · exact hno2 j (by lia)
      · rintro σ H' ⟨⟨x5, rfl⟩, rfl, hno2⟩
        rw [refs_len] at hno2
        refine ⟨⟨_, _, _, _, rfl⟩, s3, fun k hk => ?_⟩
        by_cases e : k = i
        · subst e; exact hno2
        · exact hno k (by lia)
    refine ⟨_, rfl, _, _, rfl, rfl, _, rfl, ?_⟩
    refine ite2 (fun c => ?_) (fun c => ?_)
    · have c' := of_decide_eq_true c
      refine ⟨_, rfl, _, rfl, _, _, rfl, rfl, _, rfl, r, _, rfl, SqL.of (s2 _ _ hS1.1), fun p hp' => ?_⟩
      have s4 := same_upd hp' (.lst (cutV (refs cs.length ts) (some ((i : Int) + 2)) none))
      refine inner p _ (s2.trans s4) ?_
      rw [upd_same]
      have e : ((i : Int) + 2) = ((i + 2 : Nat) : Int) := by lia
      rw [e, cut_from]
      have e2 : bhN cs.length i = cs.length - (i + 2) := by unfold bhN; rw [if_neg (by lia)]
      rw [e2]
    · have c' : ¬ (0 : Int) < (i : Int) := fun z => c (decide_eq_true z)
      have i0 : i = 0 := by lia
      subst i0
      refine ⟨_, rfl, _, rfl, _, rfl, _, rfl, r, _, rfl, SqL.of (s2 _ _ hS1.1), fun p hp' => ?_⟩
      have s4 := same_upd hp' (.lst (cutV (refs cs.length ts) (some 2) (some (-1))))
      refine inner p _ (s2.trans s4) ?_
      rw [upd_same, cut_mid n3]
      have e2 : bhN cs.length 0 = cs.length - 3 := by unfold bhN; rw [if_pos rfl]
      rw [e2]
  · rintro σ H' ⟨_, sH, hno⟩
    rw [lenN] at hno
    exact q false H' (s1.trans sH) ⟨fun z => Bool.noConfusion z, fun z => absurd z (no_meet n3 hno)⟩
end
end FD
end
section
set_option maxRecDepth 100000
set_option linter.all false
namespace L2
open PySem PySem.Spec PyProof.Rows
section
variable {X : Cx} {scope : Scope} {N' : List Str} {C : Addr} {cl : List (Str × Addr)} {fp : List Addr} {pins : List (Addr × Obj)} {s₂ : Shared} {H₂ : Hp}
theorem ixC_tup : IxR (compX X scope N' C cl fp pins s₂ H₂) (rIxT X.K) := ix_tup
theorem pgC_tup {es : List Expr} {k : Nat} {t : TGs} {n : Nat} {pos : Pos} (hc : X.calm = true) (h : PGs (compX X scope N' C cl fp pins s₂ H₂) es t)
    (hn : (assignEach es (compX X scope N' C cl fp pins s₂ H₂).env).length = n := by rfl) (hst : (assignEach es (compX X scope N' C cl fp pins s₂ H₂).env).findIdx? (·.1) = none := by rfl) : PG (compX X scope N' C cl fp pins s₂ H₂) (.Tuple es k pos) (gTup X.K n t) := pg_tup hc h hn hst
end
theorem pe_compS {X : Cx} {elt iter tg : Expr} {ifs : List Expr} {scope : Scope} {pos : Pos} {N' : List Str} {own : Nat} {caps : List Nat} {wi : TI} {g : TG} {tt : TT} {te : TE} (hc : X.calm = true) (S : CompScope X scope N' own caps) (hi : PI X tg iter wi)
    (hg : ∀ C cl fp pins s₂ H₂, PG (compX X scope N' C cl fp pins s₂ H₂) tg g) (ht : ∀ C cl fp pins s₂ H₂, PFs (compX X scope N' C cl fp pins s₂ H₂) ifs tt) (he : ∀ C cl fp pins s₂ H₂, PE (compX X scope N' C cl fp pins s₂ H₂) elt te)
    (hs : ∀ x, foldedSetIterable iter X.env x = pure x := by intro _; rfl) : PE X (.ListComp elt [⟨tg, iter, ifs, 0⟩] scope pos) (tComp wi own caps g tt te) :=
  pe_comp hc S hi (fun C cl fp pins s₂ H₂ => ⟨hg C cl fp pins s₂ H₂, ht C cl fp pins s₂ H₂, he C cl fp pins s₂ H₂⟩) hs
theorem ps_setCompS {X : Cx} {elt iter tg : Expr} {ifs : List Expr} {scope : Scope} {pos : Pos} {N' : List Str} {own : Nat} {caps : List Nat} {wi : TI} {g : TG} {tt : TT} {te : TE} {i : Nat} {y : Str} {py spos : Pos} (hc : X.calm = true) (S : CompScope X scope N' own caps) (hN : X.N.Nodup) (hiy : X.N[i]? = some y) (hy : Loc X.env.scope y) (hi : PI X tg iter wi)
    (hg : ∀ C cl fp pins s₂ H₂, PG (compX X scope N' C cl fp pins s₂ H₂) tg g) (ht : ∀ C cl fp pins s₂ H₂, PFs (compX X scope N' C cl fp pins s₂ H₂) ifs tt) (he : ∀ C cl fp pins s₂ H₂, PE (compX X scope N' C cl fp pins s₂ H₂) elt te)
    (hsw : swapsWith (.ListComp elt [⟨tg, iter, ifs, 0⟩] scope pos) (some (.Name y py)) spos.line X.env = pure true := by rfl)
    (hf : X.fn y = true ∨ X.env.scope.names.lookup y = some .local := by first | exact .inl rfl | exact .inr rfl | assumption)
    (hs : ∀ x, foldedSetIterable iter X.env x = pure x := by intro _; rfl) : PS X (.Assign [.Name y py] (.ListComp elt [⟨tg, iter, ifs, 0⟩] scope pos) spos) (tAsg (tComp wi own caps g tt te) (gName i)) :=
  ps_setComp hc S hN hiy hy hi (fun C cl fp pins s₂ H₂ => ⟨hg C cl fp pins s₂ H₂, ht C cl fp pins s₂ H₂, he C cl fp pins s₂ H₂⟩) hsw hf hs
end L2
namespace FD
open PySem L2 FF
theorem key_inj {cs : List Pt} : FS.diffs (fun i => [(at' cs i).1, (at' cs i).2]) cs.length < cs.length ↔ ¬ ∀ i j, i < cs.length → j < cs.length → at' cs i = at' cs j → i = j := by
  rw [FS.diffs_lt]
  constructor
  · rintro ⟨a, b, h1, h2, e⟩ h
    simp only [List.cons.injEq, and_true] at e
    have := h a b (by lia) h2 (Prod.ext e.1 e.2)
    lia
  · intro h
    apply Classical.byContradiction
    intro no
    apply h
    intro i j hi hj e
    rcases Nat.lt_trichotomy i j with c | c | c
    · exact absurd ⟨i, j, c, hj, by show [(at' cs i).1, (at' cs i).2] = [(at' cs j).1, (at' cs j).2]; rw [e]⟩ no
    · exact c
    · exact absurd ⟨j, i, c, hi, by show [(at' cs j).1, (at' cs j).2] = [(at' cs i).1, (at' cs i).2]; rw [e]⟩ no
theorem fence_iff {cs : List Pt} : Fence cs ↔ 3 ≤ cs.length ∧ cs.length ≤ 12 ∧ (∀ i j, i < cs.length → j < cs.length → at' cs i = at' cs j → i = j) ∧ ¬ SomeBack cs ∧ ¬ SomeMeet cs := by
  have ne2 : ∀ {i}, 3 ≤ cs.length → (∀ i j, i < cs.length → j < cs.length → at' cs i = at' cs j → i = j) → i < cs.length → at' cs (nx cs.length (nx cs.length i)) ≠ at' cs (nx cs.length i) := by
    intro i h3 inj hi e
    have := inj _ _ (nx_lt (nx_lt hi)) (nx_lt hi) e
    unfold nx at this
    (repeat' split at this) <;> lia
  constructor
  · intro F
    refine ⟨F.lo, F.hi, F.ok.inj, ?_, ?_⟩
    · rintro ⟨i, hi, hb⟩
      exact F.ok.nob i hi ((back_iff (ne2 F.lo F.ok.inj hi)).mpr hb)
    · rintro ⟨i, j, hi, hj, h1, h2, h3, hm⟩
      exact F.ok.nom i j hi hj h1 h2 h3 (meet_iff.mpr hm)
  · rintro ⟨h1, h2, inj, nb, nm⟩
    refine ⟨h1, h2, inj, fun i hi k => nb ⟨i, hi, (back_iff (ne2 h1 inj hi)).mp k⟩, fun i j hi hj a b c k => nm ⟨i, j, hi, hj, a, b, c, meet_iff.mp k⟩⟩
/-! the area as a sum -/
theorem pa_sum : ∀ (r : List Pt) (p f : Pt), sumI ((List.range (r.length + 1)).map fun i => cr (at' (p :: r) i) (if i = r.length then f else at' (p :: r) (i + 1))) = pa p r f
  | [], p, f => by
    show cr p f + 0 = cr p f
    lia
  | x :: r, p, f => by
    have ih := pa_sum r x f
    rw [List.length_cons, List.range_succ_eq_map, List.map_cons, List.map_map]
    show cr (at' (p :: x :: r) 0) (if 0 = r.length + 1 then f else at' (p :: x :: r) (0 + 1)) + sumI _ = cr p x + pa x r f
    rw [if_neg (by lia), ← ih]
    congr 2
    apply List.map_congr_left
    intro i _
    show cr (at' (x :: r) i) (if i + 1 = r.length + 1 then f else at' (x :: r) (i + 1)) = _
    by_cases c : i = r.length
    · rw [if_pos (by lia), if_pos c]
    · rw [if_neg (by lia), if_neg c]
theorem area_sum {cs : List Pt} (h : 1 ≤ cs.length) : sumI ((List.range cs.length).map fun i => cr (at' cs i) (at' cs (nx cs.length i))) = area cs := by
  match cs, h with
  | c :: r, _ =>
    have := pa_sum r c c
    rw [show area (c :: r) = pa c r c from rfl, ← this, List.length_cons]
    congr 1
    apply List.map_congr_left
    intro i hi
    have hi := List.mem_range.mp hi
    unfold nx
    by_cases e : i = r.length
    · rw [if_pos (by lia), if_pos e]; rfl
    · rw [if_neg (by lia), if_neg e]
theorem cr_bd {p q : Pt} (hp : Co p) (hq : Co q) : Big p.1 ∧ Big q.2 ∧ Big q.1 ∧ Big p.2 := ⟨big_of (by have := hp.1; lia) (by have := hp.1; lia), big_of (by have := hq.2; lia) (by have := hq.2; lia), big_of (by have := hq.1; lia) (by have := hq.1; lia), big_of (by have := hp.2; lia) (by have := hp.2; lia)⟩
section
variable {P : Program} {w : World} {K : PySem.W.Frag} {mg : Str → Option Value} {base : Heap} {f : Addr} {fd : FuncData}
theorem scFence : FnScope ["corners"] ["corners"] (defScope sFence) := ⟨rfl, rfl, rfl, by decide +kernel, rfl, by decide +kernel, by decide +kernel⟩
theorem ok_fence {t3 t12 : Tok} (F : Fun K "is_fence" "is_fence" sFence f fd) (cB : Cal P w K mg base 3 "some_side_goes_back" ["corners"] spSomeBack) (cM : Cal P w K mg base 4 "some_sides_meet" ["corners"] spSomeMeet) (ml : mg "len" = none) (ms : mg "set" = none)
    (m3 : mg "FEWEST_CORNERS" = some (.int 3 t3)) (m12 : mg "MOST_CORNERS" = some (.int 12 t12)) : FnOk P w K mg base CX0 5 f fd ["corners"] spFence := by
  refine F.ok scFence (fun vs H Q E h => ?_) (fun cdv A outer s H vs Q E hr h => ?_)
  · obtain ⟨l, rf, cs, rfl, _⟩ := h
    rfl
  obtain ⟨l, rf, cs, rfl, hp, co, n4, q⟩ := h
  have hu := hr.un
  refine ⟨_, pss_cons (ps_if (PW.pt (pw_or (pt_cmpR op_lt (pe_callB call_len_seq rfl ml PySem.boot_len (pa_cons (pv 0) pa_nil)) (pe_glob (v := .int 3) rfl m3 ⟨_, rfl⟩) (nomark _)) (pw_or1 (pt_cmpR op_gt (pe_callB call_len_seq rfl ml PySem.boot_len (pa_cons (pv 0) pa_nil)) (pe_glob (v := .int 12) rfl m12 ⟨_, rfl⟩) (nomark _))))) (pss_one (ps_ret pe_bl)) pss_nil)
    (pss_cons (ps_if (pt_cmpR op_lt (pe_callB call_len_setN rfl ml PySem.boot_len (pa_cons (pe_callTy (call_set_pts rfl (by show A.units + 3 + 20 < _; have : A.units + 3 + 16 * 4 + 200 < cLine := hu; lia)) rfl ms PyProof.Rows.boot_set (pa_cons (pv 0) pa_nil)) pa_nil)) (pe_callB call_len_seq rfl ml PySem.boot_len (pa_cons (pv 0) pa_nil)) (nomark _)) (pss_one (ps_ret pe_bl)) pss_nil)
    (pss_one (ps_ret (pe_and (pe_not (pe_cal cB hr (by decide) rfl (pa_cons (pv 0) pa_nil))) (pe_one (pe_not (pe_cal cM hr (by decide) rfl (pa_cons (pv 0) pa_nil)))))))), ?_⟩
  refine ⟨_, rfl, l, _, rfl, .inl (SqL.of hp.1), _, _, rfl, rfl, _, rfl, ?_⟩
  rw [refs_len]
  refine ite2 (fun c1 => ?_) (fun c1 => ?_)
  · refine iteT ?_
    have c1' := of_decide_eq_true c1
    exact q false H (Same.refl _) ⟨fun z => Bool.noConfusion z, fun F => by have := F.lo; lia⟩
  have c1' : ¬ _ := fun z => c1 (decide_eq_true z)
  refine ⟨_, rfl, l, _, rfl, .inl (SqL.of hp.1), _, _, rfl, rfl, _, rfl, ?_⟩
  rw [refs_len]
  refine ite2 (fun c2 => ?_) (fun c2 => ?_)
  · have c2' := of_decide_eq_true c2
    exact q false H (Same.refl _) ⟨fun z => Bool.noConfusion z, fun F => by have := F.hi; lia⟩
  have c2' : ¬ _ := fun z => c2 (decide_eq_true z)
  refine ⟨_, rfl, l, rf, fun i => (at' cs i).1, fun i => (at' cs i).2, cs.length, rfl, SqL.of hp.1, by lia, fun i hi => hp.2 i hi, fun p hp' => ?_⟩
  have s1 := same_upd hp' (SetN p (FS.diffs (fun i => [(at' cs i).1, (at' cs i).2]) cs.length))
  refine ⟨p, _, rfl, upd_same, _, rfl, l, _, rfl, .inl (SqL.of (s1 _ _ hp.1)), _, _, rfl, rfl, _, rfl, ?_⟩
  rw [refs_len]
  have ki := key_inj (cs := cs)
  refine ite2 (fun c3 => ?_) (fun c3 => ?_)
  · have c3' : ((FS.diffs (fun i => [(at' cs i).1, (at' cs i).2]) cs.length : Nat) : Int) < (cs.length : Int) := of_decide_eq_true c3
    refine q false _ s1 ⟨fun z => Bool.noConfusion z, fun F => ?_⟩
    exact absurd F.ok.inj (ki.mp (by lia))
  have c3' : ¬ ((FS.diffs (fun i => [(at' cs i).1, (at' cs i).2]) cs.length : Nat) : Int) < (cs.length : Int) := fun z => c3 (decide_eq_true z)
  have inj : ∀ i j, i < cs.length → j < cs.length → at' cs i = at' cs j → i = j := by
    apply Classical.byContradiction
    intro no
    have := ki.mpr no
    lia
  refine ⟨_, rfl, l, rf, cs, rfl, hp.mono s1, co, by lia, n4, fun b hb => ⟨_, rfl, _, rfl, ?_⟩⟩
  refine ite2 (fun c4 => ?_) (fun c4 => ?_)
  · have nb : ¬ SomeBack cs := fun z => by
      have := hb.mpr z
      rw [this] at c4
      exact absurd c4 (by decide)
    refine ⟨_, rfl, l, rf, cs, rfl, hp.mono s1, co, by lia, n4, fun b2 H2 s2 hb2 => ⟨_, rfl, ?_⟩⟩
    refine q _ H2 (s1.trans s2) ?_
    rw [fence_iff, Bool.not_eq_true', ← Bool.not_eq_true, hb2]
    constructor
    · intro nm; exact ⟨by lia, by lia, inj, nb, nm⟩
    · rintro ⟨_, _, _, _, nm⟩; exact nm
  · have yb : SomeBack cs := hb.mp (by cases b with | true => rfl | false => exact absurd rfl c4)
    refine q false _ s1 ⟨fun z => Bool.noConfusion z, fun F => ?_⟩
    exact absurd yb (fence_iff.mp F).2.2.2.1
theorem scRefuse : FnScope ["corners"] ["corners"] (defScope sRefuse) := ⟨rfl, rfl, rfl, by decide +kernel, rfl, by decide +kernel, by decide +kernel⟩
theorem ok_refuse (F : Fun K "refuse_no_fence" "refuse_no_fence" sRefuse f fd) (cF : Cal P w K mg base 5 "is_fence" ["corners"] spFence) : FnOk P w K mg base CX0 6 f fd ["corners"] spRefuse := by
  refine F.ok scRefuse (fun vs H Q E h => ?_) (fun cdv A outer s H vs Q E hr h => ?_)
  · obtain ⟨l, rf, cs, rfl, _⟩ := h
    rfl
  obtain ⟨l, rf, cs, rfl, hp, co, fe, q⟩ := h
  refine ⟨_, pss_one (ps_if (pt_not (pt_val (pe_cal cF hr (by decide) rfl (pa_cons (pv 0) pa_nil)))) pss_never pss_nil), ?_⟩
  refine ⟨_, rfl, l, rf, cs, rfl, hp, co, by have := fe.hi; lia, fun b H' sH hb => ⟨_, rfl, ?_⟩⟩
  rw [hb.mpr fe]
  exact iteF (q H' sH)
theorem nd_se : (["start", "end"] : List Str).Nodup := by decide +kernel
theorem scSigned : FnScope ["corners"] ["corners"] (defScope sSigned) := ⟨rfl, rfl, rfl, by decide +kernel, rfl, by decide +kernel, by decide +kernel⟩
theorem ok_signed (F : Fun K "signed_double_area" "signed_double_area" sSigned f fd) (cS : Cal P w K mg base 1 "sides_of" ["corners"] spSides) (m1 : mg "sum" = none) : FnOk P w K mg base CX0 2 f fd ["corners"] spSigned := by
  refine F.ok scSigned (fun vs H Q E h => ?_) (fun cdv A outer s H vs Q E hr h => ?_)
  · obtain ⟨l, rf, cs, rfl, _⟩ := h
    rfl
  obtain ⟨l, rf, cs, rfl, hp, co, n1, n4, q⟩ := h
  refine ⟨_, pss_one (ps_ret (pe_callB (call_sum_ints rfl) rfl m1 PyProof.Rows.boot_sum (pa_cons (pe_compS (N' := ["start", "end"]) (own := 2) (caps := []) rfl (CompScope.of (sc := defScope sSigned) (N0 := ["corners"]) rfl rfl (by decide +kernel)) (pi_list (pe_cal cS hr (by decide) rfl (pa_cons (pv 0) pa_nil)))
    (fun C cl fp pins s₂ H₂ => pgC_tup (n := 2) rfl (pgs_cons (pg_name (i := 0) nd_se rfl (Or.inl rfl)) (pgs_cons (pg_name (i := 1) nd_se rfl (Or.inl rfl)) pgs_nil))) (fun C cl fp pins s₂ H₂ => pfs_nil)
    (fun C cl fp pins s₂ H₂ => pe_op op_sub (pe_op op_mulB (pe_ix ixC_tup (pv 0) pe_int (fun _ _ => rfl)) (pe_ix ixC_tup (pv 1) pe_int (fun _ _ => rfl))) (pe_op op_mulB (pe_ix ixC_tup (pv 1) pe_int (fun _ _ => rfl)) (pe_ix ixC_tup (pv 0) pe_int (fun _ _ => rfl))))) pa_nil))), ?_⟩
  refine ⟨_, rfl, l, rf, cs, rfl, hp, n1, n4, fun r ts H1 s1 hS1 => ?_⟩
  refine ⟨r, rfl, ⟨_, SqL.of hS1.1⟩, ?_⟩
  have pP : ∀ k, k < cs.length → PtA H1 (rf k) (at' cs k) := fun k hk => s1 _ _ (hp.2 k hk)
  refine ⟨cs.length, fun i ys H' => H' = H1 ∧ ys = (List.range i).map fun i => V.int (cr (at' cs i) (at' cs (nx cs.length i))), small (by lia), ⟨rfl, rfl⟩, fun ys H' hW => ⟨⟨refs cs.length ts, by rw [hW.1]; exact SqL.of hS1.1, by rw [refs_len]; exact Nat.le_refl _⟩, fun D hD => ?_⟩,
    fun i ys H' hi hW => ⟨⟨refs cs.length ts, _, by rw [hW.1]; exact SqL.of hS1.1, refs_get hi⟩, fun x H2 hy => ?_⟩⟩
  · obtain ⟨rfl, rfl⟩ := hW
    refine ⟨D, (List.range cs.length).map fun i => cr (at' cs i) (at' cs (nx cs.length i)), rfl, ?_, ?_⟩
    · rw [List.map_map]; exact SqL.of upd_same
    · rw [area_sum n1]
      exact q _ (s1.trans (same_upd hD _))
  · obtain ⟨rfl, rfl⟩ := hW
    obtain ⟨rfl, hy⟩ := hy
    obtain ⟨_, rfl⟩ := refs_get' (hy _ (SqL.of hS1.1))
    have t1 := hS1.2 i hi
    have b := cr_bd (co _ hi) (co _ (nx_lt hi))
    refine ⟨_, _, rfl, SqT.of t1, rfl, _, _, rfl, _, _, rfl, rfl, keeps2 (by decide) (by decide), ?_⟩
    refine iteT ?_
    refine ⟨_, rfl, _, _, _, _, rfl, rfl, SqT.of (pP _ hi), at0, _, rfl, _, _, _, _, rfl, rfl, SqT.of (pP _ (nx_lt hi)), at1, _, _, rfl, rfl, ⟨b.1, b.2.1⟩, _, rfl, _, _, _, _, rfl, rfl, SqT.of (pP _ (nx_lt hi)), at0, _, rfl, _, _, _, _, rfl, rfl, SqT.of (pP _ hi), at1, _, _, rfl, rfl, ⟨b.2.2.1, b.2.2.2⟩, _, _, rfl, rfl, rfl, ?_⟩
    rw [List.range_succ, List.map_append]; rfl
theorem scArea : FnScope ["corners"] ["corners"] (defScope sArea) := ⟨rfl, rfl, rfl, by decide +kernel, rfl, by decide +kernel, by decide +kernel⟩
theorem ok_area (F : Fun K "double_area" "double_area" sArea f fd) (cR : Cal P w K mg base 6 "refuse_no_fence" ["corners"] spRefuse) (cS : Cal P w K mg base 2 "signed_double_area" ["corners"] spSigned) (m1 : mg "abs" = none) : FnOk P w K mg base CX0 7 f fd ["corners"] spArea := by
  refine F.ok scArea (fun vs H Q E h => ?_) (fun cdv A outer s H vs Q E hr h => ?_)
  · obtain ⟨l, rf, cs, rfl, _⟩ := h
    rfl
  obtain ⟨l, rf, cs, rfl, hp, co, fe, q⟩ := h
  refine ⟨_, pss_cons (ps_expr (pe_cal cR hr (by decide) rfl (pa_cons (pv 0) pa_nil))) (pss_one (ps_ret (pe_callB call_abs rfl m1 PyProof.Rows.boot_abs (pa_cons (pe_cal cS hr (by decide) rfl (pa_cons (pv 0) pa_nil)) pa_nil)))), ?_⟩
  have := fe.lo
  have := fe.hi
  refine ⟨_, rfl, l, rf, cs, rfl, hp, co, fe, fun H1 s1 => ?_⟩
  exact ⟨_, rfl, l, rf, cs, rfl, hp.mono s1, co, by lia, by lia, fun H2 s2 => ⟨_, rfl, q H2 (s1.trans s2)⟩⟩
end
end FD
end
section
set_option maxRecDepth 100000
set_option linter.all false
namespace FD
open PySem L2 FF
abbrev sCell : Stmt := top 32
abbrev sDraw : Stmt := top 33
abbrev sRows : Stmt := top 34
abbrev sJoined : Stmt := top 35
abbrev sSpiral : Stmt := top 36
theorem Same.updN {H H1 : Hp} {l : Addr} {o : HO} (s : Same H H1) (h : H l = none) : Same H (upd H1 l o) := fun b u q => by rw [upd_ne (ne_of_none q h)]; exact s b u q
/-! refs -/
theorem refs_ext {xs : List V} {n : Nat} {rf : Nat → Addr} (hl : xs.length = n) (h : ∀ i, i < n → xs[i]? = some (.ref (rf i))) : xs = refs n rf := by
  apply List.ext_getElem?
  intro i
  by_cases c : i < n
  · rw [h i c, refs_get c]
  · rw [List.getElem?_eq_none (by lia), List.getElem?_eq_none (by rw [refs_len]; lia)]
theorem refs_snoc {n : Nat} {rf : Nat → Addr} {t : Addr} : refs n rf ++ [.ref t] = refs (n + 1) (fun i => if i < n then rf i else t) := by
  refine refs_ext (by rw [List.length_append, refs_len]; rfl) fun i hi => ?_
  by_cases c : i < n
  · rw [List.getElem?_append_left (by rw [refs_len]; exact c), refs_get c, if_pos c]
  · rw [List.getElem?_append_right (by rw [refs_len]; lia), refs_len, if_neg c, show i - n = 0 by lia]; rfl
theorem refs_app {n m : Nat} {rf rg : Nat → Addr} : refs n rf ++ refs m rg = refs (n + m) (fun i => if i < n then rf i else rg (i - n)) := by
  refine refs_ext (by rw [List.length_append, refs_len, refs_len]) fun i hi => ?_
  by_cases c : i < n
  · rw [List.getElem?_append_left (by rw [refs_len]; exact c), refs_get c, if_pos c]
  · rw [List.getElem?_append_right (by rw [refs_len]; lia), refs_len, if_neg c, refs_get (by lia)]
theorem refs_rev {n : Nat} {rf : Nat → Addr} : (refs n rf).reverse = refs n (fun i => rf (n - 1 - i)) := by
  refine refs_ext (by rw [List.length_reverse, refs_len]) fun i hi => ?_
  rw [List.getElem?_reverse (by rw [refs_len]; exact hi), refs_len, refs_get (by lia)]
theorem refs_drop {n k : Nat} {rf : Nat → Addr} : (refs n rf).drop k = refs (n - k) (fun i => rf (k + i)) := by
  refine refs_ext (by rw [List.length_drop, refs_len]) fun i hi => ?_
  rw [List.getElem?_drop, refs_get (by lia)]
theorem refs_take {n k : Nat} {rf : Nat → Addr} (h : k ≤ n) : (refs n rf).take k = refs k rf := by
  refine refs_ext (by rw [List.length_take, refs_len]; lia) fun i hi => ?_
  rw [List.getElem?_take_of_lt hi, refs_get (by lia)]
/-! lists of points, by what is done -/
theorem PLs.at_upd {H H' : Hp} {l l' : Addr} {rf : Nat → Addr} {cs : List Pt} (h : PLs H l rf cs) (s : Same H H') {rg : Nat → Addr} {ds : List Pt} (e : H' l' = some (.lst (refs ds.length rg))) (hd : ∀ i, i < ds.length → ∃ j, j < cs.length ∧ rg i = rf j ∧ at' ds i = at' cs j) : PLs H' l' rg ds :=
  ⟨e, fun i hi => by obtain ⟨j, hj, e1, e2⟩ := hd i hi; rw [e1, e2]; exact s _ _ (h.2 j hj)⟩
theorem pls_rev {H H' : Hp} {l l' : Addr} {rf : Nat → Addr} {cs : List Pt} (h : PLs H l rf cs) (s : Same H H') (e : H' l' = some (.lst (refs cs.length rf).reverse)) : PLs H' l' (fun i => rf (cs.length - 1 - i)) cs.reverse := by
  refine h.at_upd s (by rw [e, refs_rev, List.length_reverse]) fun i hi => ⟨cs.length - 1 - i, ?_, rfl, ?_⟩
  · rw [List.length_reverse] at hi; lia
  · rw [List.length_reverse] at hi; exact at_rev hi
theorem pls_app {H : Hp} {l l2 l' : Addr} {rf rg : Nat → Addr} {cs ds : List Pt} (h : PLs H l rf cs) (h2 : PLs H l2 rg ds) {H' : Hp} (s : Same H H') (e : H' l' = some (.lst (refs cs.length rf ++ refs ds.length rg))) : PLs H' l' (fun i => if i < cs.length then rf i else rg (i - cs.length)) (cs ++ ds) := by
  refine ⟨by rw [e, refs_app, List.length_append], fun i hi => ?_⟩
  rw [List.length_append] at hi
  rw [at_app]
  by_cases c : i < cs.length
  · simp only [if_pos c]; exact s _ _ (h.2 i c)
  · simp only [if_neg c]; exact s _ _ (h2.2 (i - cs.length) (by lia))
theorem pls_copy {H H' : Hp} {l l' : Addr} {rf : Nat → Addr} {cs : List Pt} (h : PLs H l rf cs) (s : Same H H') (e : H' l' = some (.lst (refs cs.length rf))) : PLs H' l' rf cs := ⟨e, fun i hi => s _ _ (h.2 i hi)⟩
/-! the script -/
def Scr (K : PySem.W.Frag) (H : Hp) (a : Addr) (ns : List Int) : Prop := SqL K H a (ns.map V.int) ∧ ns.length ≤ 63
theorem Scr.mono {K : PySem.W.Frag} {H H' : Hp} {a : Addr} {ns : List Int} (h : Scr K H a ns) (s : Same H H') : Scr K H' a ns := ⟨s.seq h.1, h.2⟩
def spCell (K : PySem.W.Frag) : Sp := fun vs H Q _ => ∃ a ns k, vs = [.ref a, .int ((k : Nat) : Int)] ∧ Scr K H a ns ∧ Q (.int (cell ns k)) H
def spDraw : Sp := fun vs H Q _ => ∃ c k b, vs = [.int c, .int k, .int b] ∧ 0 < b ∧ (-(2 ^ 60) < k ∧ k < 2 ^ 60) ∧ Q (.int (draw c k b)) H
def spRows (K : PySem.W.Frag) : Sp := fun vs H Q _ => ∃ a ns f, vs = [.ref a, .int ((f : Nat) : Int)] ∧ Scr K H a ns ∧ ∀ r lo hi rl rh H', Same H H' → H' r = some (.lst [.ref lo, .ref hi, .int (cell ns f / 5 % 4)]) → PLs H' lo rl (lowsOf ns f) → PLs H' hi rh (highsOf ns f) → Q (.ref r) H'
def spJoined : Sp := fun vs H Q _ => ∃ lo hi tips rl rh L Hs, vs = [.ref lo, .ref hi, .int tips] ∧ PLs H lo rl L ∧ PLs H hi rh Hs ∧ 2 ≤ L.length ∧ L.length ≤ 100 ∧ 2 ≤ Hs.length ∧ Hs.length ≤ 100 ∧ ∀ r rf H', Same H H' → PLs H' r rf (joined L Hs tips) → Q (.ref r) H'
def spSpiral : Sp := fun vs H Q _ => ∃ c, vs = [.int c] ∧ ∀ r rf H', Same H H' → PLs H' r rf (spiral c) → Q (.ref r) H'
section
variable {P : Program} {w : World} {K : PySem.W.Frag} {mg : Str → Option Value} {base : Heap} {f : Addr} {fd : FuncData}
theorem scCell : FnScope ["script", "k"] ["script", "k"] (defScope sCell) := ⟨rfl, rfl, rfl, by decide +kernel, rfl, by decide +kernel, by decide +kernel⟩
theorem ok_cell {n : Nat} (F : Fun K "_law_cell_at" "_law_cell_at" sCell f fd) (ml : mg "len" = none) : FnOk P w K mg base CX0 (n + 1) f fd ["script", "k"] (spCell K) := by
  refine F.ok scCell (fun vs H Q E h => ?_) (fun cdv A outer s H vs Q E hr h => ?_)
  · obtain ⟨a, ns, k, rfl, _⟩ := h
    rfl
  obtain ⟨a, ns, k, rfl, hS, q⟩ := h
  refine ⟨_, pss_cons (ps_if (pt_cmpR op_lt (pv 1) (pe_callB call_len_seq rfl ml PySem.boot_len (pa_cons (pv 0) pa_nil)) (nomark _)) (pss_one (ps_ret (pe_ix ix_list (pv 0) (pv 1) (fun _ _ => rfl)))) pss_nil) (pss_one (ps_ret pe_int)), ?_⟩
  refine ⟨_, rfl, _, rfl, a, _, rfl, .inl hS.1, _, _, rfl, rfl, _, rfl, ?_⟩
  rw [List.length_map]
  refine ite2 (fun c => ?_) (fun c => ?_)
  · have c' := of_decide_eq_true c
    have hk : k < ns.length := by lia
    refine ⟨_, rfl, _, rfl, a, _, _, .int (cell ns k), rfl, rfl, hS.1, atI_nat ?_, q⟩
    rw [List.getElem?_map, List.getElem?_eq_getElem hk]
    unfold cell
    rw [List.getD_eq_getElem?_getD, List.getElem?_eq_getElem hk]; rfl
  · have c' : ¬ _ := fun z => c (decide_eq_true z)
    have e : cell ns k = 0 := by unfold cell; rw [List.getD_eq_getElem?_getD, List.getElem?_eq_none (by lia)]; rfl
    rw [e] at q
    exact q
theorem scDraw : FnScope ["cell", "k", "bound", "stir"] ["cell", "k", "bound"] (defScope sDraw) := ⟨rfl, rfl, rfl, by decide +kernel, rfl, by decide +kernel, by decide +kernel⟩
theorem ok_draw {n : Nat} (F : Fun K "_law_draw" "_law_draw" sDraw f fd) : FnOk P w K mg base CX0 (n + 1) f fd ["cell", "k", "bound"] spDraw := by
  refine F.ok scDraw (fun vs H Q E h => ?_) (fun cdv A outer s H vs Q E hr h => ?_)
  · obtain ⟨c, k, b, rfl, _⟩ := h
    rfl
  obtain ⟨c, k, b, rfl, hb, hk, q⟩ := h
  refine ⟨_, pss_cons (ps_set (i := 3) scDraw.nd rfl (Or.inl rfl) (pe_op op_mod (pe_op op_mul (pe_op op_add (pe_op op_add (pe_op op_mod (pv 0) pe_int) (pe_op op_mul pe_int (pv 1))) pe_int) pe_int) pe_int))
    (pss_cons (ps_set (i := 3) scDraw.nd rfl (Or.inl rfl) (pe_op op_mod (pe_op op_mul (pe_op op_add (pv 3) (pe_op op_mul pe_int (pe_op op_add (pv 1) pe_int))) pe_int) pe_int))
    (pss_one (ps_ret (pe_op op_mod (pe_op op_fdiv (pv 3) pe_int) (pv 2))))), ?_⟩
  refine ⟨_, rfl, _, _, rfl, rfl, (show (0 : Int) < 2147483647 by decide), _, rfl, _, _, rfl, rfl, .inl ⟨by decide, by decide⟩, _, _, rfl, rfl, _, _, rfl, rfl, _, _, rfl, rfl, .inr ⟨by decide, by decide⟩, _, _, rfl, rfl, (show (0 : Int) < 2147483647 by decide), ?_⟩
  refine ⟨_, rfl, _, rfl, _, _, rfl, rfl, _, _, rfl, rfl, .inl ⟨by decide, by decide⟩, _, _, rfl, rfl, _, _, rfl, rfl, .inr ⟨by decide, by decide⟩, _, _, rfl, rfl, (show (0 : Int) < 2147483629 by decide), ?_⟩
  exact ⟨_, rfl, _, _, rfl, rfl, ⟨by decide, by decide⟩, _, rfl, _, _, rfl, rfl, hb, q⟩
theorem scRows : FnScope ["script", "first", "cell", "many", "x", "lows", "highs", "k", "low"] ["script", "first"] (defScope sRows) := ⟨rfl, rfl, rfl, by decide +kernel, rfl, by decide +kernel, by decide +kernel⟩
theorem ok_rows (F : Fun K "_law_rows_by" "_law_rows_by" sRows f fd) (cC : Cal P w K mg base 1 "_law_cell_at" ["script", "k"] (spCell K)) (cD : Cal P w K mg base 1 "_law_draw" ["cell", "k", "bound"] spDraw) (mr : mg "range" = none) : FnOk P w K mg base CX0 2 f fd ["script", "first"] (spRows K) := by
  refine F.ok scRows (fun vs H Q E h => ?_) (fun cdv A outer s H vs Q E hr h => ?_)
  · obtain ⟨a, ns, k, rfl, _⟩ := h
    rfl
  obtain ⟨a, ns, m, rfl, hS, q⟩ := h
  refine ⟨_, pss_cons (ps_set (i := 2) scRows.nd rfl (Or.inl rfl) (pe_cal cC hr (by decide) rfl (pa_cons (pv 0) (pa_cons (pv 1) pa_nil))))
    (pss_cons (ps_set (i := 3) scRows.nd rfl (Or.inl rfl) (pe_op op_add pe_int (pe_op op_mod (pv 2) pe_int)))
    (pss_cons (ps_set (i := 4) scRows.nd rfl (Or.inl rfl) pe_int)
    (pss_cons (ps_set (i := 5) scRows.nd rfl (Or.inl rfl) (pe_lst pa_nil))
    (pss_cons (ps_set (i := 6) scRows.nd rfl (Or.inl rfl) (pe_lst pa_nil))
    (pss_cons (ps_for PassesOwn.never rfl (pi_range1 rfl mr (pa_cons (pv 3) pa_nil)) (pg_name (i := 7) scRows.nd rfl (Or.inl rfl))
      (pss_cons (ps_set (i := 8) scRows.nd rfl (Or.inl rfl) (pe_op op_sub (pe_cal cD hr (by decide) rfl (pa_cons (pe_cal cC hr (by decide) rfl (pa_cons (pv 0) (pa_cons (pe_op op_add (pv 1) pe_int) pa_nil))) (pa_cons (pv 7) (pa_cons pe_int pa_nil)))) pe_int))
      (pss_cons (ps_expr (pe_bm PySem.F.plainAttrs_list PySem.F.slot_list_append PySem.F.type_list_append mt_append (pv 5) (pa_cons (pe_tup (pa_cons (pv 4) (pa_cons (pv 8) pa_nil))) pa_nil)))
      (pss_cons (ps_expr (pe_bm PySem.F.plainAttrs_list PySem.F.slot_list_append PySem.F.type_list_append mt_append (pv 6) (pa_cons (pe_tup (pa_cons (pv 4) (pa_cons (pe_op op_add (pe_op op_add (pv 8) pe_int) (pe_cal cD hr (by decide) rfl (pa_cons (pe_cal cC hr (by decide) rfl (pa_cons (pv 0) (pa_cons (pe_op op_add (pv 1) pe_int) pa_nil))) (pa_cons (pv 7) (pa_cons pe_int pa_nil))))) pa_nil))) pa_nil)))
      (pss_one (ps_set (i := 4) scRows.nd rfl (Or.inl rfl) (pe_op op_add (pe_op op_add (pv 4) pe_int) (pe_cal cD hr (by decide) rfl (pa_cons (pe_cal cC hr (by decide) rfl (pa_cons (pv 0) (pa_cons (pe_op op_add (pv 1) pe_int) pa_nil))) (pa_cons (pv 7) (pa_cons pe_int pa_nil)))))))))))
    (pss_one (ps_ret (pe_lst (pa_cons (pv 5) (pa_cons (pv 6) (pa_cons (pe_op op_mod (pe_op op_fdiv (pv 2) pe_int) pe_int) pa_nil))))))))))), ?_⟩
  refine ⟨_, rfl, _, rfl, a, ns, m, rfl, hS, ?_⟩
  refine ⟨_, rfl, _, _, rfl, rfl, (show (0 : Int) < 5 by decide), _, _, rfl, rfl, ?_⟩
  refine ⟨by show 0 ≤ sizeLine; decide, fun lo hlo => ?_⟩
  refine ⟨by show 0 ≤ sizeLine; decide, fun hi hhi => ?_⟩
  have hne : lo ≠ hi := fun e => by rw [← e, upd_same] at hhi; cases hhi
  have hhi0 : H hi = none := by rw [upd_ne (Ne.symm hne)] at hhi; exact hhi
  have hmod := Int.emod_nonneg (cell ns m) (show (5 : Int) ≠ 0 by decide)
  have hmod2 := Int.emod_lt_of_pos (cell ns m) (show (0 : Int) < 5 by decide)
  refine ⟨_, rfl, _, rfl, by lia, by lia, ?_⟩
  have eM : (2 + cell ns m % 5).toNat = colM (cell ns m) := rfl
  rw [eM]
  have cM : colM (cell ns m) ≤ 6 := by unfold colM; lia
  generalize hMg : colM (cell ns m) = M at *
  refine for_range (fun i σ H' => (∃ x7 x8, σ = [some (.ref a), some (.int m), some (.int (cell ns m)), some (.int (2 + cell ns m % 5)), some (.int (xAt (cell ns (m + 3)) i)), some (.ref lo), some (.ref hi), x7, x8]) ∧ Same H H' ∧
      (∃ rl, PLs H' lo rl (loL i (xAt (cell ns (m + 3))) (lowAt (cell ns (m + 1))))) ∧ ∃ rh, PLs H' hi rh (loL i (xAt (cell ns (m + 3))) (highAt (cell ns (m + 1)) (cell ns (m + 2)))))
    ⟨⟨none, none, rfl⟩, (Same.updN (Same.updN (Same.refl H) hlo) hhi0), ⟨fun _ => lo, by rw [upd_ne hne, upd_same]; rfl, fun i hi => absurd hi (by rw [loL_len]; lia)⟩, ⟨fun _ => lo, by rw [upd_same]; rfl, fun i hi => absurd hi (by rw [loL_len]; lia)⟩⟩ ?_ ?_
  · rintro i σ H' hi' ⟨⟨x7, x8, rfl⟩, sH, ⟨rl, hL⟩, rh, hR⟩
    have ei : (0 : Int) + (i : Int) = (i : Int) := by lia
    rw [ei]
    have e1 : ∀ j : Nat, ((m : Nat) : Int) + ((j : Nat) : Int) = ((m + j : Nat) : Int) := fun j => by lia
    have hSm := hS.mono sH
    have bi : -(2 ^ 60) < (i : Int) ∧ (i : Int) < 2 ^ 60 := by lia
    refine ⟨_, rfl, _, rfl, _, _, rfl, rfl, a, ns, m + 1, by rw [← e1 1]; rfl, hSm, _, rfl, _, i, 9, rfl, by decide, bi, _, _, rfl, rfl, ?_⟩
    refine ⟨_, rfl, .inl ⟨rfl, _, SqL.of hL.1⟩, _, rfl, _, rfl, by show 2 ≤ sizeLine; decide, fun t ht => ?_⟩
    have st := same_upd ht (.tup [.int (xAt (cell ns (m + 3)) i), .int (draw (cell ns (m + 1)) i 9 - 4)])
    have nlt : lo ≠ t := fun e => by rw [← e, hL.1] at ht; cases ht
    have nht : hi ≠ t := fun e => by rw [← e, hR.1] at ht; cases ht
    refine ⟨lo, _, _, rfl, rfl, st _ _ hL.1, by rw [refs_len, loL_len]; exact small1000 (by lia), ?_⟩
    -- the first list is longer
    have hL2 : PLs (upd (upd H' t (.tup [.int (xAt (cell ns (m + 3)) i), .int (draw (cell ns (m + 1)) i 9 - 4)])) lo (.lst (refs (loL i (xAt (cell ns (m + 3))) (lowAt (cell ns (m + 1)))).length rl ++ [.ref t]))) lo (fun j => if j < i then rl j else t) (loL (i + 1) (xAt (cell ns (m + 3))) (lowAt (cell ns (m + 1)))) := by
      refine ⟨by rw [upd_same, refs_snoc, loL_len, loL_len], fun j hj => ?_⟩
      rw [loL_len] at hj
      unfold PtA
      by_cases c : j < i
      · have := hL.2 j (by rw [loL_len]; exact c)
        rw [loL_at c] at this
        rw [loL_at hj]
        dsimp only
        rw [if_pos c]
        have n1 : rl j ≠ lo := ne_of this hL.1 (by intro z; cases z)
        rw [upd_ne n1]
        exact st _ _ this
      · have ej : j = i := by lia
        subst ej
        rw [loL_at hj]
        dsimp only
        rw [if_neg c, upd_ne (Ne.symm nlt), upd_same]; rfl
    have hH2 : ∀ b o, b ≠ lo → H' b = some o → (upd (upd H' t (.tup [.int (xAt (cell ns (m + 3)) i), .int (draw (cell ns (m + 1)) i 9 - 4)])) lo (.lst (refs (loL i (xAt (cell ns (m + 3))) (lowAt (cell ns (m + 1)))).length rl ++ [.ref t]))) b = some o := fun b o hb e => by rw [upd_ne hb]; exact st _ _ e
    have sH2 : Same H (upd (upd H' t (.tup [.int (xAt (cell ns (m + 3)) i), .int (draw (cell ns (m + 1)) i 9 - 4)])) lo (.lst (refs (loL i (xAt (cell ns (m + 3))) (lowAt (cell ns (m + 1)))).length rl ++ [.ref t]))) := Same.updN (sH.trans st) hlo
    generalize upd (upd H' t (.tup [.int (xAt (cell ns (m + 3)) i), .int (draw (cell ns (m + 1)) i 9 - 4)])) lo (.lst (refs (loL i (xAt (cell ns (m + 3))) (lowAt (cell ns (m + 1)))).length rl ++ [.ref t])) = H2 at *
    have hR2 : PLs H2 hi rh (loL i (xAt (cell ns (m + 3))) (highAt (cell ns (m + 1)) (cell ns (m + 2)))) := by
      refine ⟨hH2 _ _ (Ne.symm hne) hR.1, fun j hj => ?_⟩
      have := hR.2 j hj
      exact hH2 _ _ (ne_of this hL.1 (by intro z; cases z)) this
    have hS2 := hS.mono sH2
    refine ⟨_, rfl, .inl ⟨rfl, _, SqL.of hR2.1⟩, _, rfl, _, rfl, _, _, rfl, rfl, _, rfl, _, rfl, _, _, rfl, rfl, a, ns, m + 2, by rw [← e1 2]; rfl, hS2, _, rfl, _, i, 5, rfl, by decide, bi, _, _, rfl, rfl, by show 2 ≤ sizeLine; decide, fun t2 ht2 => ?_⟩
    have st2 := same_upd ht2 (.tup [.int (xAt (cell ns (m + 3)) i), .int (draw (cell ns (m + 1)) i 9 - 4 + 1 + draw (cell ns (m + 2)) i 5)])
    have nlt2 : lo ≠ t2 := fun e => by rw [← e, hL2.1] at ht2; cases ht2
    have nht2 : hi ≠ t2 := fun e => by rw [← e, hR2.1] at ht2; cases ht2
    refine ⟨hi, _, _, rfl, rfl, st2 _ _ hR2.1, by rw [refs_len, loL_len]; exact small1000 (by lia), ?_⟩
    have hR3 : PLs (upd (upd H2 t2 (.tup [.int (xAt (cell ns (m + 3)) i), .int (draw (cell ns (m + 1)) i 9 - 4 + 1 + draw (cell ns (m + 2)) i 5)])) hi (.lst (refs (loL i (xAt (cell ns (m + 3))) (highAt (cell ns (m + 1)) (cell ns (m + 2)))).length rh ++ [.ref t2]))) hi (fun j => if j < i then rh j else t2) (loL (i + 1) (xAt (cell ns (m + 3))) (highAt (cell ns (m + 1)) (cell ns (m + 2)))) := by
      refine ⟨by rw [upd_same, refs_snoc, loL_len, loL_len], fun j hj => ?_⟩
      rw [loL_len] at hj
      unfold PtA
      by_cases c : j < i
      · have := hR2.2 j (by rw [loL_len]; exact c)
        rw [loL_at c] at this
        rw [loL_at hj]
        dsimp only
        rw [if_pos c]
        have n1 : rh j ≠ hi := ne_of this hR2.1 (by intro z; cases z)
        rw [upd_ne n1]
        exact st2 _ _ this
      · have ej : j = i := by lia
        subst ej
        rw [loL_at hj]
        dsimp only
        rw [if_neg c, upd_ne (Ne.symm nht2), upd_same]; rfl
    have hH3 : ∀ b o, b ≠ hi → H2 b = some o → (upd (upd H2 t2 (.tup [.int (xAt (cell ns (m + 3)) i), .int (draw (cell ns (m + 1)) i 9 - 4 + 1 + draw (cell ns (m + 2)) i 5)])) hi (.lst (refs (loL i (xAt (cell ns (m + 3))) (highAt (cell ns (m + 1)) (cell ns (m + 2)))).length rh ++ [.ref t2]))) b = some o := fun b o hb e => by rw [upd_ne hb]; exact st2 _ _ e
    have sH3 : Same H (upd (upd H2 t2 (.tup [.int (xAt (cell ns (m + 3)) i), .int (draw (cell ns (m + 1)) i 9 - 4 + 1 + draw (cell ns (m + 2)) i 5)])) hi (.lst (refs (loL i (xAt (cell ns (m + 3))) (highAt (cell ns (m + 1)) (cell ns (m + 2)))).length rh ++ [.ref t2]))) := Same.updN (sH2.trans st2) hhi0
    generalize upd (upd H2 t2 (.tup [.int (xAt (cell ns (m + 3)) i), .int (draw (cell ns (m + 1)) i 9 - 4 + 1 + draw (cell ns (m + 2)) i 5)])) hi (.lst (refs (loL i (xAt (cell ns (m + 3))) (highAt (cell ns (m + 1)) (cell ns (m + 2)))).length rh ++ [.ref t2])) = H3 at *
    have hL3 : PLs H3 lo (fun j => if j < i then rl j else t) (loL (i + 1) (xAt (cell ns (m + 3))) (lowAt (cell ns (m + 1)))) := by
      refine ⟨hH3 _ _ hne hL2.1, fun j hj => ?_⟩
      have := hL2.2 j hj
      exact hH3 _ _ (ne_of this hR2.1 (by intro z; cases z)) this
    have hS3 := hS.mono sH3
    refine ⟨_, rfl, _, _, rfl, rfl, _, rfl, _, rfl, _, _, rfl, rfl, a, ns, m + 3, by rw [← e1 3]; rfl, hS3, _, rfl, _, i, 3, rfl, by decide, bi, _, _, rfl, rfl, ?_⟩
    exact ⟨⟨_, _, rfl⟩, sH3, ⟨_, hL3⟩, _, hR3⟩
  · rintro σ H' ⟨⟨x7, x8, rfl⟩, sH, ⟨rl, hL⟩, rh, hR⟩
    refine ⟨_, rfl, _, rfl, _, rfl, _, _, rfl, rfl, ⟨by decide, by decide⟩, _, _, rfl, rfl, (show (0 : Int) < 4 by decide), by show 3 ≤ sizeLine; decide, fun r hr' => ?_⟩
    have sr := same_upd hr' (.lst [.ref lo, .ref hi, .int (cell ns m / 5 % 4)])
    refine q r lo hi rl rh _ (sH.trans sr) upd_same ?_ ?_
    · unfold lowsOf; rw [hMg]; exact hL.mono sr
    · unfold highsOf; rw [hMg]; exact hR.mono sr
end
end FD
end
section
set_option maxRecDepth 100000
set_option linter.all false
namespace FD
open PySem L2 FF
/-- a way that both arms come to -/
theorem via {G : Prop} {K Pm : Hp → Prop} (main : (∀ H1, Pm H1 → K H1) → G) (rest : ∀ H1, Pm H1 → K H1) : G := main rest
theorem pls_upd {H : Hp} {t : Addr} {rt rt' : Nat → Addr} {T T' : List Pt} {xs : List V} (h : PLs H t rt T) (e : xs = refs T'.length rt') (hd : ∀ i, i < T'.length → ∃ j, j < T.length ∧ rt' i = rt j ∧ at' T' i = at' T j) : PLs (upd H t (.lst xs)) t rt' T' :=
  ⟨by rw [upd_same, e], fun i hi => by
    obtain ⟨j, hj, e1, e2⟩ := hd i hi
    rw [e1, e2]
    have := h.2 j hj
    unfold PtA
    rw [upd_ne (ne_of this h.1 (by intro z; cases z))]; exact this⟩
section
variable {P : Program} {w : World} {K : PySem.W.Frag} {mg : Str → Option Value} {base : Heap} {f : Addr} {fd : FuncData}
theorem scJoined : FnScope ["lows", "highs", "tips", "top"] ["lows", "highs", "tips"] (defScope sJoined) := ⟨rfl, rfl, rfl, by decide +kernel, rfl, by decide +kernel, by decide +kernel⟩
theorem ok_joined {n : Nat} (F : Fun K "_law_joined" "_law_joined" sJoined f fd) (ml : mg "list" = none) (mrv : mg "reversed" = none) (mn : mg "len" = none) : FnOk P w K mg base CX0 (n + 1) f fd ["lows", "highs", "tips"] spJoined := by
  refine F.ok scJoined (fun vs H Q E h => ?_) (fun cdv A outer s H vs Q E hr h => ?_)
  · obtain ⟨lo, hi, tips, rl, rh, L, Hs, rfl, _⟩ := h
    rfl
  obtain ⟨lo, hi, tips, rl, rh, L, Hs, rfl, hL, hR, l2, l100, r2, r100, q⟩ := h
  refine ⟨_, pss_cons (ps_set (i := 3) scJoined.nd rfl (Or.inl rfl) (pe_callTy call_list_of rfl ml PyProof.Rows.boot_list (pa_cons (pv 1) pa_nil)))
    (pss_cons (ps_if (pt_cmpR op_eq (pe_op op_mod (pv 2) pe_int) pe_int (nomark _)) (pss_one (ps_expr (pe_bm PySem.F.plainAttrs_list PySem.F.slot_list_pop PySem.F.type_list_pop mt_popAt (pv 3) (pa_cons pe_int pa_nil)))) pss_nil)
    (pss_cons (ps_if (PW.pt (pw_and (pt_cmpR op_gt (pv 2) pe_int (nomark _)) (pw_and1 (pt_cmpR op_gt (pe_op op_add (pe_callB call_len_seq rfl mn PySem.boot_len (pa_cons (pv 0) pa_nil)) (pe_callB call_len_seq rfl mn PySem.boot_len (pa_cons (pv 3) pa_nil))) pe_int (nomark _))))) (pss_one (ps_expr (pe_bm0 PySem.F.plainAttrs_list PySem.F.slot_list_pop PySem.F.type_list_pop mt_pop (pv 3)))) pss_nil)
    (pss_one (ps_ret (pe_op op_cat (pv 0) (pe_listrev rfl rfl ml rfl mrv (pa_cons (pv 3) pa_nil))))))), ?_⟩
  refine ⟨_, rfl, hi, _, rfl, .inl (SqL.of hR.1), fun t ht => ?_⟩
  have s1 := same_upd ht (.lst (refs Hs.length rh))
  have hT : PLs (upd H t (.lst (refs Hs.length rh))) t rh Hs := pls_copy hR s1 upd_same
  generalize upd H t (.lst (refs Hs.length rh)) = H1 at *
  refine ⟨_, rfl, _, _, rfl, rfl, (show (0 : Int) < 2 by decide), rfl, _, rfl, ?_⟩
  rw [dec_int]
  apply via (Pm := fun H2 => Same H H2 ∧ ∃ rt, PLs H2 t rt (if tips % 2 = 1 then Hs.eraseIdx 0 else Hs))
  · intro rest
    refine ite2 (fun c => ?_) (fun c => ?_)
    · have c' : tips % 2 = 1 := by simpa using c
      have h0 : (refs Hs.length rh)[0]? = some (.ref (rh 0)) := refs_get (by lia)
      refine ⟨_, rfl, .inl ⟨rfl, _, SqL.of hT.1⟩, t, _, 0, 0, _, rfl, rfl, hT.1, by decide, by decide, ?_, h0, ?_⟩
      · rw [refs_len]
        have hz : (0 : Int) < (Hs.length : Int) := by lia
        unfold seqIndex?
        have hn : Hs ≠ [] := fun z => by rw [z] at hz; exact absurd hz (by decide)
        simp [hz, hn]
      have hT2 : PLs (upd H1 t (.lst ((refs Hs.length rh).eraseIdx 0))) t (fun i => rh (1 + i)) (Hs.eraseIdx 0) := by
        refine pls_upd hT ?_ fun i hi => ⟨1 + i, ?_, rfl, ?_⟩
        · rw [List.eraseIdx_zero, List.eraseIdx_zero, ← List.drop_one, refs_drop, List.length_tail]
        · rw [List.eraseIdx_zero, List.length_tail] at hi; lia
        · rw [List.eraseIdx_zero, ← List.drop_one]; exact at_drop
      have s2 : Same H (upd H1 t (.lst ((refs Hs.length rh).eraseIdx 0))) := Same.updN s1 ht
      generalize upd H1 t (.lst ((refs Hs.length rh).eraseIdx 0)) = H2 at *
      exact rest H2 ⟨s2, _, by rw [if_pos c']; exact hT2⟩
    · have c' : ¬ tips % 2 = 1 := by simpa using c
      exact rest H1 ⟨s1, rh, by rw [if_neg c']; exact hT⟩
  rintro H2 ⟨s2, rt, hT2⟩
  have hlen : (if tips % 2 = 1 then Hs.eraseIdx 0 else Hs).length ≤ 100 ∧ 1 ≤ (if tips % 2 = 1 then Hs.eraseIdx 0 else Hs).length := by
    split
    · rw [List.eraseIdx_zero, List.length_tail]; lia
    · lia
  unfold joined at q
  simp only at q
  generalize (if tips % 2 = 1 then Hs.eraseIdx 0 else Hs) = T at *
  refine ⟨_, rfl, _, _, rfl, rfl, _, rfl, ?_⟩
  apply via (Pm := fun H3 => Same H H3 ∧ ∃ rt, PLs H3 t rt (if tips > 1 ∧ L.length + T.length > 3 then T.dropLast else T))
  · intro rest
    refine ite2 (fun c => ?_) (fun c => ?_)
    · refine ⟨_, rfl, lo, _, rfl, .inl (SqL.of (s2 _ _ hL.1)), _, rfl, t, _, rfl, .inl (SqL.of hT2.1), _, _, rfl, rfl, _, _, rfl, rfl, _, rfl, ?_⟩
      rw [refs_len, refs_len]
      have c' := of_decide_eq_true c
      refine ite2 (fun d => ?_) (fun d => ?_)
      · have d' := of_decide_eq_true d
        refine ⟨_, rfl, .inl ⟨rfl, _, SqL.of hT2.1⟩, t, _, _, rfl, rfl, hT2.1, by rw [refs_len]; exact refs_get (by lia), ?_⟩
        have hT3 : PLs (upd H2 t (.lst (refs T.length rt).dropLast)) t rt T.dropLast := by
          refine pls_upd hT2 ?_ fun i hi => ⟨i, ?_, rfl, ?_⟩
          · rw [List.dropLast_eq_take, refs_len, refs_take (by lia), List.length_dropLast]
          · rw [List.length_dropLast] at hi; lia
          · rw [List.length_dropLast] at hi; rw [List.dropLast_eq_take]; exact at_take hi
        have s3 : Same H (upd H2 t (.lst (refs T.length rt).dropLast)) := Same.updN s2 ht
        generalize upd H2 t (.lst (refs T.length rt).dropLast) = H3 at *
        exact rest H3 ⟨s3, rt, by rw [if_pos ⟨c', by lia⟩]; exact hT3⟩
      · have d' : ¬ _ := fun z => d (decide_eq_true z)
        exact rest H2 ⟨s2, rt, by rw [if_neg (by lia)]; exact hT2⟩
    · have c' : ¬ _ := fun z => c (decide_eq_true z)
      exact iteF (rest H2 ⟨s2, rt, by rw [if_neg (by lia)]; exact hT2⟩)
  rintro H3 ⟨s3, rt3, hT3⟩
  have hlen3 : (if tips > 1 ∧ L.length + T.length > 3 then T.dropLast else T).length ≤ 100 := by
    split
    · rw [List.length_dropLast]; lia
    · lia
  generalize (if tips > 1 ∧ L.length + T.length > 3 then T.dropLast else T) = T3 at *
  refine ⟨_, rfl, _, rfl, t, _, rfl, SqL.of hT3.1, fun p hp => ?_⟩
  have s4 := same_upd hp (.lst (refs T3.length rt3).reverse)
  have hP : PLs (upd H3 p (.lst (refs T3.length rt3).reverse)) p _ T3.reverse := pls_rev hT3 s4 upd_same
  have hL3 := hL.mono (s3.trans s4)
  refine ⟨lo, p, _, _, rfl, rfl, hL3.1, hP.1, by rw [refs_len, refs_len, List.length_reverse]; exact small (by lia), fun r hr' => ?_⟩
  exact q r _ _ ((s3.trans s4).trans (same_upd hr' _)) (pls_app hL3 hP (same_upd hr' _) upd_same)
theorem scSpiral : FnScope ["cell", "w", "h", "outer"] ["cell"] (defScope sSpiral) := ⟨rfl, rfl, rfl, by decide +kernel, rfl, by decide +kernel, by decide +kernel⟩
theorem ok_spiral {n : Nat} (F : Fun K "_law_spiral" "_law_spiral" sSpiral f fd) : FnOk P w K mg base CX0 (n + 1) f fd ["cell"] spSpiral := by
  refine F.ok scSpiral (fun vs H Q E h => ?_) (fun cdv A outer s H vs Q E hr h => ?_)
  · obtain ⟨c, rfl, _⟩ := h
    rfl
  obtain ⟨c, rfl, q⟩ := h
  refine ⟨_, pss_cons (ps_set (i := 1) scSpiral.nd rfl (Or.inl rfl) (pe_op op_add pe_int (pe_op op_mod (pv 0) pe_int)))
    (pss_cons (ps_set (i := 2) scSpiral.nd rfl (Or.inl rfl) (pe_op op_add pe_int (pe_op op_mod (pe_op op_fdiv (pv 0) pe_int) pe_int)))
    (pss_cons (ps_set (i := 3) scSpiral.nd rfl (Or.inl rfl) (pe_lst (pa_cons (pe_tup (pa_cons pe_int (pa_cons pe_int pa_nil))) (pa_cons (pe_tup (pa_cons (pv 1) (pa_cons pe_int pa_nil))) (pa_cons (pe_tup (pa_cons (pv 1) (pa_cons (pv 2) pa_nil))) (pa_cons (pe_tup (pa_cons pe_int (pa_cons (pv 2) pa_nil))) (pa_cons (pe_tup (pa_cons pe_int (pa_cons pe_int pa_nil))) (pa_cons (pe_tup (pa_cons (pe_op op_sub (pv 1) pe_int) (pa_cons pe_int pa_nil))) pa_nil))))))))
    (pss_one (ps_ret (pe_op op_cat (pv 3) (pe_lst (pa_cons (pe_tup (pa_cons (pe_op op_sub (pv 1) pe_int) (pa_cons pe_int pa_nil))) (pa_cons (pe_tup (pa_cons pe_int (pa_cons pe_int pa_nil))) (pa_cons (pe_tup (pa_cons pe_int (pa_cons (pe_op op_sub (pv 2) pe_int) pa_nil))) (pa_cons (pe_tup (pa_cons (pe_op op_sub (pv 1) pe_int) (pa_cons (pe_op op_sub (pv 2) pe_int) pa_nil))) (pa_cons (pe_tup (pa_cons (pe_op op_sub (pv 1) pe_int) (pa_cons pe_int pa_nil))) (pa_cons (pe_tup (pa_cons pe_int (pa_cons pe_int pa_nil))) pa_nil)))))))))))), ?_⟩
  refine ⟨_, rfl, _, _, rfl, rfl, (show (0 : Int) < 3 by decide), _, _, rfl, rfl, ?_⟩
  refine ⟨_, rfl, _, _, rfl, rfl, ⟨by decide, by decide⟩, _, _, rfl, rfl, (show (0 : Int) < 3 by decide), _, _, rfl, rfl, ?_⟩
  refine ⟨by show 2 ≤ sizeLine; decide, fun t0 h0 => ?_⟩
  have s0 := same_upd h0 (.tup [.int (0), .int (0)])
  have p0 : PtA (upd H t0 (.tup [.int (0), .int (0)])) t0 (0, 0) := upd_same
  generalize upd H t0 (.tup [.int (0), .int (0)]) = H0 at *
  refine ⟨_, rfl, by show 2 ≤ sizeLine; decide, fun t1 h1 => ?_⟩
  have s1 := same_upd h1 (.tup [.int ((5 + c % 3)), .int (0)])
  have p1 : PtA (upd H0 t1 (.tup [.int ((5 + c % 3)), .int (0)])) t1 ((5 + c % 3), 0) := upd_same
  generalize upd H0 t1 (.tup [.int ((5 + c % 3)), .int (0)]) = H1 at *
  refine ⟨_, rfl, _, rfl, by show 2 ≤ sizeLine; decide, fun t2 h2 => ?_⟩
  have s2 := same_upd h2 (.tup [.int ((5 + c % 3)), .int ((6 + c / 3 % 3))])
  have p2 : PtA (upd H1 t2 (.tup [.int ((5 + c % 3)), .int ((6 + c / 3 % 3))])) t2 ((5 + c % 3), (6 + c / 3 % 3)) := upd_same
  generalize upd H1 t2 (.tup [.int ((5 + c % 3)), .int ((6 + c / 3 % 3))]) = H2 at *
  refine ⟨_, rfl, by show 2 ≤ sizeLine; decide, fun t3 h3 => ?_⟩
  have s3 := same_upd h3 (.tup [.int (0), .int ((6 + c / 3 % 3))])
  have p3 : PtA (upd H2 t3 (.tup [.int (0), .int ((6 + c / 3 % 3))])) t3 (0, (6 + c / 3 % 3)) := upd_same
  generalize upd H2 t3 (.tup [.int (0), .int ((6 + c / 3 % 3))]) = H3 at *
  refine ⟨by show 2 ≤ sizeLine; decide, fun t4 h4 => ?_⟩
  have s4 := same_upd h4 (.tup [.int (0), .int (3)])
  have p4 : PtA (upd H3 t4 (.tup [.int (0), .int (3)])) t4 (0, 3) := upd_same
  generalize upd H3 t4 (.tup [.int (0), .int (3)]) = H4 at *
  refine ⟨_, rfl, _, _, rfl, rfl, by show 2 ≤ sizeLine; decide, fun t5 h5 => ?_⟩
  have s5 := same_upd h5 (.tup [.int ((5 + c % 3) - 3), .int (3)])
  have p5 : PtA (upd H4 t5 (.tup [.int ((5 + c % 3) - 3), .int (3)])) t5 ((5 + c % 3) - 3, 3) := upd_same
  generalize upd H4 t5 (.tup [.int ((5 + c % 3) - 3), .int (3)]) = H5 at *
  refine ⟨by show 6 ≤ sizeLine; decide, fun o ho => ?_⟩
  have so := same_upd ho (.lst [.ref t0, .ref t1, .ref t2, .ref t3, .ref t4, .ref t5])
  have eo : (upd H5 o (.lst [.ref t0, .ref t1, .ref t2, .ref t3, .ref t4, .ref t5])) o = some (.lst [.ref t0, .ref t1, .ref t2, .ref t3, .ref t4, .ref t5]) := upd_same
  generalize upd H5 o (.lst [.ref t0, .ref t1, .ref t2, .ref t3, .ref t4, .ref t5]) = Ho at *
  refine ⟨_, rfl, _, rfl, _, _, rfl, rfl, by show 2 ≤ sizeLine; decide, fun t6 h6 => ?_⟩
  have s6 := same_upd h6 (.tup [.int ((5 + c % 3) - 3), .int (4)])
  have p6 : PtA (upd Ho t6 (.tup [.int ((5 + c % 3) - 3), .int (4)])) t6 ((5 + c % 3) - 3, 4) := upd_same
  generalize upd Ho t6 (.tup [.int ((5 + c % 3) - 3), .int (4)]) = H6 at *
  refine ⟨by show 2 ≤ sizeLine; decide, fun t7 h7 => ?_⟩
  have s7 := same_upd h7 (.tup [.int (1), .int (4)])
  have p7 : PtA (upd H6 t7 (.tup [.int (1), .int (4)])) t7 (1, 4) := upd_same
  generalize upd H6 t7 (.tup [.int (1), .int (4)]) = H7 at *
  refine ⟨_, rfl, _, _, rfl, rfl, by show 2 ≤ sizeLine; decide, fun t8 h8 => ?_⟩
  have s8 := same_upd h8 (.tup [.int (1), .int ((6 + c / 3 % 3) - 1)])
  have p8 : PtA (upd H7 t8 (.tup [.int (1), .int ((6 + c / 3 % 3) - 1)])) t8 (1, (6 + c / 3 % 3) - 1) := upd_same
  generalize upd H7 t8 (.tup [.int (1), .int ((6 + c / 3 % 3) - 1)]) = H8 at *
  refine ⟨_, rfl, _, _, rfl, rfl, _, rfl, _, _, rfl, rfl, by show 2 ≤ sizeLine; decide, fun t9 h9 => ?_⟩
  have s9 := same_upd h9 (.tup [.int ((5 + c % 3) - 1), .int ((6 + c / 3 % 3) - 1)])
  have p9 : PtA (upd H8 t9 (.tup [.int ((5 + c % 3) - 1), .int ((6 + c / 3 % 3) - 1)])) t9 ((5 + c % 3) - 1, (6 + c / 3 % 3) - 1) := upd_same
  generalize upd H8 t9 (.tup [.int ((5 + c % 3) - 1), .int ((6 + c / 3 % 3) - 1)]) = H9 at *
  refine ⟨_, rfl, _, _, rfl, rfl, by show 2 ≤ sizeLine; decide, fun t10 h10 => ?_⟩
  have s10 := same_upd h10 (.tup [.int ((5 + c % 3) - 1), .int (1)])
  have p10 : PtA (upd H9 t10 (.tup [.int ((5 + c % 3) - 1), .int (1)])) t10 ((5 + c % 3) - 1, 1) := upd_same
  generalize upd H9 t10 (.tup [.int ((5 + c % 3) - 1), .int (1)]) = H10 at *
  refine ⟨by show 2 ≤ sizeLine; decide, fun t11 h11 => ?_⟩
  have s11 := same_upd h11 (.tup [.int (0), .int (1)])
  have p11 : PtA (upd H10 t11 (.tup [.int (0), .int (1)])) t11 (0, 1) := upd_same
  generalize upd H10 t11 (.tup [.int (0), .int (1)]) = H11 at *
  refine ⟨by show 6 ≤ sizeLine; decide, fun l hl => ?_⟩
  have sl := same_upd hl (.lst [.ref t6, .ref t7, .ref t8, .ref t9, .ref t10, .ref t11])
  have el : (upd H11 l (.lst [.ref t6, .ref t7, .ref t8, .ref t9, .ref t10, .ref t11])) l = some (.lst [.ref t6, .ref t7, .ref t8, .ref t9, .ref t10, .ref t11]) := upd_same
  generalize upd H11 l (.lst [.ref t6, .ref t7, .ref t8, .ref t9, .ref t10, .ref t11]) = Hl at *
  refine ⟨o, l, _, _, rfl, rfl, sl _ _ (s11 _ _ (s10 _ _ (s9 _ _ (s8 _ _ (s7 _ _ (s6 _ _ eo)))))), el, by show 12 ≤ sizeLine; decide, fun r hr' => ?_⟩
  have sr := same_upd hr' (.lst ([.ref t0, .ref t1, .ref t2, .ref t3, .ref t4, .ref t5] ++ [.ref t6, .ref t7, .ref t8, .ref t9, .ref t10, .ref t11]))
  have z11 := sl.trans sr
  have z10 := s11.trans z11
  have z9 := s10.trans z10
  have z8 := s9.trans z9
  have z7 := s8.trans z8
  have z6 := s7.trans z7
  have zo := s6.trans z6
  have z5 := so.trans zo
  have z4 := s5.trans z5
  have z3 := s4.trans z4
  have z2 := s3.trans z3
  have z1 := s2.trans z2
  have z0 := s1.trans z1
  refine q r (fun i => [t0, t1, t2, t3, t4, t5, t6, t7, t8, t9, t10, t11].getD i t0) _ (s0.trans z0) ⟨upd_same, fun i hi => ?_⟩
  match i, hi with
  | 0, _ => exact z0 _ _ p0
  | 1, _ => exact z1 _ _ p1
  | 2, _ => exact z2 _ _ p2
  | 3, _ => exact z3 _ _ p3
  | 4, _ => exact z4 _ _ p4
  | 5, _ => exact z5 _ _ p5
  | 6, _ => exact z6 _ _ p6
  | 7, _ => exact z7 _ _ p7
  | 8, _ => exact z8 _ _ p8
  | 9, _ => exact z9 _ _ p9
  | 10, _ => exact z10 _ _ p10
  | 11, _ => exact z11 _ _ p11
  | n + 12, h => exact absurd h (by show ¬ n + 12 < 12; lia)
end
end FD
end
section
set_option maxRecDepth 100000
set_option linter.all false
namespace FD
open PySem L2 FF
abbrev sFlat : Stmt := top 37
theorem cut_to {n s : Nat} {ts : Nat → Addr} (h : s ≤ n) : cutV (refs n ts) none (some (s : Int)) = refs s ts := by
  unfold cutV
  rw [HT.sIx_nat, HT.sIx_none, refs_len, List.drop_zero, Nat.min_eq_left h, Nat.sub_zero]
  exact refs_take h
theorem atI_last {xs : List V} {v : V} (h : xs.getLast? = some v) : atI xs (-1) = some v := by
  have hn : xs ≠ [] := fun e => by rw [e] at h; cases h
  have hl : 0 < xs.length := List.length_pos_iff.mpr hn
  unfold atI ixN
  rw [if_neg (by lia), if_pos (by lia)]
  have e : ((-1 : Int) + (xs.length : Int)).toNat = xs.length - 1 := by lia
  rw [e]
  rw [← h, List.getLast?_eq_getElem?]; rfl
def spFlat : Sp := fun vs H Q _ => ∃ l rf cs c, vs = [.ref l, .int c] ∧ PLs H l rf cs ∧ 1 ≤ cs.length ∧ cs.length ≤ 100 ∧ ∀ r rg H', Same H H' → PLs H' r rg (flat cs c) → Q (.ref r) H'
theorem divs_lt {x y g : Int} (h : g ∈ divs x y) : g < 20 := by
  unfold divs at h
  obtain ⟨k, hk, rfl⟩ := List.mem_map.mp (List.mem_filter.mp h).1
  have := List.mem_range.mp hk
  lia
theorem flat_none {cs : List Pt} {c : Int} {a : Nat} (ha : (c % cs.length).toNat = a) (h : (divs ((at' cs a).1 - (at' cs (pv_ cs.length a)).1) ((at' cs a).2 - (at' cs (pv_ cs.length a)).2)) = [] ∨ 11 < cs.length) : flat cs c = cs := by
  unfold flat
  rw [ha]
  simp only
  unfold pv_ at h
  rcases h with h | h
  · rw [h]; rfl
  · split
    · rfl
    · rw [if_pos h]
theorem flat_some {cs : List Pt} {c g : Int} {a : Nat} (ha : (c % cs.length).toNat = a) (h : (divs ((at' cs a).1 - (at' cs (pv_ cs.length a)).1) ((at' cs a).2 - (at' cs (pv_ cs.length a)).2)).getLast? = some g) (h2 : ¬ 11 < cs.length) :
    flat cs c = cs.take a ++ [((at' cs (pv_ cs.length a)).1 + ((at' cs a).1 - (at' cs (pv_ cs.length a)).1) / g * (1 + c / 12 % (g - 1)), (at' cs (pv_ cs.length a)).2 + ((at' cs a).2 - (at' cs (pv_ cs.length a)).2) / g * (1 + c / 12 % (g - 1)))] ++ cs.drop a := by
  unfold flat
  rw [ha]
  simp only
  unfold pv_ at *
  rw [h]
  simp only
  rw [if_neg h2]
theorem divs_to {x y : Int} {i : Nat} : (((List.range (i + 1)).map fun k => ((2 + k : Nat) : Int)).filter fun k => x % k == 0 && y % k == 0) = (((List.range i).map fun k => ((2 + k : Nat) : Int)).filter fun k => x % k == 0 && y % k == 0) ++ if (x % (2 + (i : Int)) == 0 && y % (2 + (i : Int)) == 0) = true then [(2 + (i : Int))] else [] := by
  rw [List.range_succ, List.map_append, List.filter_append]
  congr 1
  show List.filter _ [((2 + i : Nat) : Int)] = _
  have e : ((2 + i : Nat) : Int) = 2 + (i : Int) := by lia
  rw [e, List.filter_cons]
  rfl
section
variable {P : Program} {w : World} {K : PySem.W.Frag} {mg : Str → Option Value} {base : Heap} {f : Addr} {fd : FuncData}
theorem nd_kxy : (["k", "x", "y"] : List Str).Nodup := by decide +kernel
theorem scFlat : FnScope ["corners", "cell", "at", "one", "x", "y", "parts_v", "k"] ["corners", "cell"] (defScope sFlat) := ⟨rfl, rfl, rfl, by decide +kernel, rfl, by decide +kernel, by decide +kernel⟩
theorem ok_flat {n : Nat} (F : Fun K "_law_flat" "_law_flat" sFlat f fd) (ml : mg "len" = none) (mr : mg "range" = none) : FnOk P w K mg base CX0 (n + 1) f fd ["corners", "cell"] spFlat := by
  refine F.ok scFlat (fun vs H Q E h => ?_) (fun cdv A outer s H vs Q E hr h => ?_)
  · obtain ⟨l, rf, cs, c, rfl, _⟩ := h
    rfl
  obtain ⟨l, rf, cs, c, rfl, hp, n1, n4, q⟩ := h
  have hu := hr.un
  have hu2 : A.units + 3 + 5 < cLine := by have : A.units + 3 + 16 * n + 200 < cLine := hu; lia
  refine ⟨_, pss_cons (ps_set (i := 2) scFlat.nd rfl (Or.inl rfl) (pe_op op_mod (pv 1) (pe_callB call_len_seq rfl ml PySem.boot_len (pa_cons (pv 0) pa_nil))))
    (pss_cons (ps_set (i := 3) scFlat.nd rfl (Or.inl rfl) (pe_ix ix_list (pv 0) (pe_op op_sub (pv 2) pe_int) (fun _ _ => rfl)))
    (pss_cons (ps_set (i := 4) scFlat.nd rfl (Or.inr rfl) (pe_op op_sub (pe_ix ix_tup (pe_ix ix_list (pv 0) (pv 2) (fun _ _ => rfl)) pe_int (fun _ _ => rfl)) (pe_ix ix_tup (pv 3) pe_int (fun _ _ => rfl))))
    (pss_cons (ps_set (i := 5) scFlat.nd rfl (Or.inr rfl) (pe_op op_sub (pe_ix ix_tup (pe_ix ix_list (pv 0) (pv 2) (fun _ _ => rfl)) pe_int (fun _ _ => rfl)) (pe_ix ix_tup (pv 3) pe_int (fun _ _ => rfl))))
    (pss_cons (ps_setCompS (i := 6) (N' := ["k", "x", "y"]) (own := 1) (caps := [4, 5]) rfl (CompScope.of (sc := defScope sFlat) (N0 := ["corners", "cell", "at", "one", "x", "y", "parts_v", "k"]) rfl rfl (by decide +kernel)) scFlat.nd rfl (Or.inl rfl) (pi_range2 rfl mr (pa_cons pe_int (pa_cons pe_int pa_nil)))
      (fun C cl fp pins s₂ H₂ => pg_name (i := 0) nd_kxy rfl (Or.inl rfl)) (fun C cl fp pins s₂ H₂ => pfs_one (PW.pt (pw_and (pt_cmpR op_eq (pe_op op_mod (pv 1) (pv 0)) pe_int (nomark _)) (pw_and1 (pt_cmpR op_eq (pe_op op_mod (pv 2) (pv 0)) pe_int (nomark _)))))) (fun C cl fp pins s₂ H₂ => pv 0))
    (pss_cons (ps_if (PW.pt (pw_or (pt_cmpR (op_eqL hu2) (pv 6) (pe_lst pa_nil) (nomark _)) (pw_or1 (pt_cmpR op_gt (pe_callB call_len_seq rfl ml PySem.boot_len (pa_cons (pv 0) pa_nil)) pe_int (nomark _))))) (pss_one (ps_ret (pv 0))) pss_nil)
    (pss_cons (ps_set (i := 7) scFlat.nd rfl (Or.inl rfl) (pe_op op_add pe_int (pe_op op_mod (pe_op op_fdiv (pv 1) pe_int) (pe_op op_sub (pe_ix ix_list (pv 6) (pe_un un_neg pe_int) (fun _ _ => rfl)) pe_int))))
    (pss_one (ps_ret (pe_op op_cat (pe_op op_cat (pe_slice sl_list (pv 0) po_none (po_some (pv 2))) (pe_lst (pa_cons (pe_tup (pa_cons (pe_op op_add (pe_ix ix_tup (pv 3) pe_int (fun _ _ => rfl)) (pe_op op_mul (pe_op op_fdiv (pv 4) (pe_ix ix_list (pv 6) (pe_un un_neg pe_int) (fun _ _ => rfl))) (pv 7))) (pa_cons (pe_op op_add (pe_ix ix_tup (pv 3) pe_int (fun _ _ => rfl)) (pe_op op_mul (pe_op op_fdiv (pv 5) (pe_ix ix_list (pv 6) (pe_un un_neg pe_int) (fun _ _ => rfl))) (pv 7))) pa_nil))) pa_nil))) (pe_slice sl_list (pv 0) (po_some (pv 2)) po_none)))))))))), ?_⟩
  have hn0 : (0 : Int) < (cs.length : Int) := by lia
  have hm1 := Int.emod_nonneg c (show (cs.length : Int) ≠ 0 by lia)
  have hm2 := Int.emod_lt_of_pos c hn0
  obtain ⟨a, ha⟩ : ∃ a : Nat, c % (cs.length : Int) = (a : Int) := ⟨(c % (cs.length : Int)).toNat, by lia⟩
  have ha' : (c % (cs.length : Int)).toNat = a := by lia
  have han : a < cs.length := by lia
  have hpv := pv_lt han
  refine ⟨_, rfl, _, rfl, l, _, rfl, .inl (SqL.of hp.1), _, _, rfl, rfl, by rw [refs_len]; exact hn0, ?_⟩
  rw [refs_len]
  have aP : atI (refs cs.length rf) (c % (cs.length : Int) - 1) = some (.ref (rf (pv_ cs.length a))) := by rw [ha]; exact atI_prev han
  have aA : atI (refs cs.length rf) (c % (cs.length : Int)) = some (.ref (rf a)) := by rw [ha]; exact atI_pos han
  refine ⟨_, rfl, _, rfl, _, _, rfl, rfl, l, _, _, _, rfl, rfl, SqL.of hp.1, aP, ?_⟩
  have pA := hp.2 a han
  have pO := hp.2 _ hpv
  refine ⟨_, rfl, _, rfl, l, _, _, _, rfl, rfl, SqL.of hp.1, aA, _, _, _, _, rfl, rfl, SqT.of pA, at0, _, rfl, _, _, _, _, rfl, rfl, SqT.of pO, at0, _, _, rfl, rfl, ?_⟩
  refine ⟨_, rfl, _, rfl, l, _, _, _, rfl, rfl, SqL.of hp.1, aA, _, _, _, _, rfl, rfl, SqT.of pA, at1, _, rfl, _, _, _, _, rfl, rfl, SqT.of pO, at1, _, _, rfl, rfl, ?_⟩
  refine ⟨_, _, rfl, by decide, 18, fun i ys H' => H' = H ∧ ys = ((((List.range i).map fun k => ((2 + k : Nat) : Int)).filter fun k => ((at' cs a).1 - (at' cs (pv_ cs.length a)).1) % k == 0 && ((at' cs a).2 - (at' cs (pv_ cs.length a)).2) % k == 0)).map V.int, small (by decide), ⟨rfl, rfl⟩, fun ys H' hW => ⟨by show 18 ≤ 18; decide, fun D hD => ?_⟩, fun i ys H' hi hW => ⟨hi, fun x H2 hy => ?_⟩⟩
  rotate_left
  · obtain ⟨rfl, rfl⟩ := hW
    obtain ⟨rfl, rfl⟩ := hy
    refine ⟨keeps1 (by decide), ?_⟩
    have i0 : (0 : Int) < 2 + (i : Int) := by lia
    refine ⟨_, rfl, _, rfl, _, _, rfl, rfl, i0, rfl, _, rfl, ?_⟩
    rw [dec_int]
    refine ite2 (fun c1 => ?_) (fun c1 => ?_)
    · refine ⟨_, rfl, _, rfl, _, _, rfl, rfl, i0, rfl, _, rfl, ?_⟩
      rw [dec_int]
      refine ite2 (fun c2 => ?_) (fun c2 => ?_)
      · refine ⟨_, rfl, rfl, ?_⟩
        rw [divs_to, if_pos (by rw [c1, c2]; rfl), List.map_append]; rfl
      · refine ⟨rfl, ?_⟩
        rw [divs_to, if_neg (by rw [c1]; exact c2), List.append_nil]
    · refine iteF ⟨rfl, ?_⟩
      rw [divs_to, if_neg (by rw [Bool.eq_false_iff.mpr c1]; exact Bool.false_ne_true), List.append_nil]
  obtain ⟨rfl, rfl⟩ := hW
  have fn := flat_none (cs := cs) (c := c) ha'
  have fs := fun g => flat_some (cs := cs) (c := c) (g := g) (a := a) ha'
  have dm : ∀ g, (divs ((at' cs a).1 - (at' cs (pv_ cs.length a)).1) ((at' cs a).2 - (at' cs (pv_ cs.length a)).2)).getLast? = some g → 2 ≤ g ∧ g < 20 := by
    intro g hg
    have := List.mem_of_getLast? hg
    exact ⟨(divs_mem this).1, divs_lt this⟩
  have eD : (((List.range 18).map fun k => ((2 + k : Nat) : Int)).filter fun k => ((at' cs a).1 - (at' cs (pv_ cs.length a)).1) % k == 0 && ((at' cs a).2 - (at' cs (pv_ cs.length a)).2) % k == 0) = divs ((at' cs a).1 - (at' cs (pv_ cs.length a)).1) ((at' cs a).2 - (at' cs (pv_ cs.length a)).2) := rfl
  rw [eD]
  generalize divs ((at' cs a).1 - (at' cs (pv_ cs.length a)).1) ((at' cs a).2 - (at' cs (pv_ cs.length a)).2) = ds at *
  have s1 := same_upd hD (.lst (ds.map V.int))
  have hD1 : (upd H' D (.lst (ds.map V.int))) D = some (.lst (ds.map V.int)) := upd_same
  generalize upd H' D (.lst (ds.map V.int)) = H1 at *
  refine ⟨_, rfl, by show 0 ≤ sizeLine; decide, fun p0 hp0 => ?_⟩
  have s2 := same_upd hp0 (.lst [])
  have hP0 : (upd H1 p0 (.lst [])) p0 = some (.lst []) := upd_same
  generalize upd H1 p0 (.lst []) = H2 at *
  have hD2 := s2 _ _ hD1
  have sA := s1.trans s2
  cases hds : ds.getLast? with
  | none =>
    have e0 : ds = [] := by rwa [List.getLast?_eq_none_iff] at hds
    subst e0
    refine ⟨D, p0, _, _, rfl, rfl, SqL.of hD2, SqL.of hP0, .inr ⟨rfl, fun _ => true, (fun j x y hx _ => absurd hx (by simp)), _, rfl, ?_⟩⟩
    refine iteT (iteT ⟨_, rfl, ?_⟩)
    exact q l rf H2 sA (by rw [fn (.inl rfl)]; exact hp.mono sA)
  | some g =>
    have e0 : ds ≠ [] := fun z => by rw [z] at hds; cases hds
    have hl0 : 0 < ds.length := List.length_pos_iff.mpr e0
    refine ⟨D, p0, _, _, rfl, rfl, SqL.of hD2, SqL.of hP0, .inl ⟨by rw [List.length_map]; show ds.length ≠ 0; lia, _, rfl, ?_⟩⟩
    refine iteF ?_
    refine ⟨_, rfl, l, _, rfl, .inl (SqL.of (sA _ _ hp.1)), _, _, rfl, rfl, _, rfl, ?_⟩
    rw [refs_len]
    refine ite2 (fun c3 => ?_) (fun c3 => ?_)
    · have c3' := of_decide_eq_true c3
      exact ⟨_, rfl, q l rf H2 sA (by rw [fn (.inr (by lia))]; exact hp.mono sA)⟩
    have c3' : ¬ _ := fun z => c3 (decide_eq_true z)
    have g2 := dm g hds
    have hpA := hp.mono sA
    have pO2 := hpA.2 _ hpv
    have lst : atI (ds.map V.int) (-1) = some (.int g) := atI_last (by rw [List.getLast?_map, hds]; rfl)
    have k1 := Int.emod_nonneg (c / 12) (show g - 1 ≠ 0 by lia)
    have k2 := Int.emod_lt_of_pos (c / 12) (show 0 < g - 1 by lia)
    refine ⟨_, rfl, _, _, rfl, rfl, ⟨by decide, by decide⟩, _, rfl, _, rfl, D, _, _, _, rfl, rfl, SqL.of hD2, lst, _, _, rfl, rfl, _, _, rfl, rfl, (show (0 : Int) < g - 1 by lia), _, _, rfl, rfl, ?_⟩
    refine ⟨_, rfl, _, rfl, c % (cs.length : Int), rfl, l, _, rfl, SqL.of hpA.1, fun p1 hp1 => ?_⟩
    have s3 := same_upd hp1 (.lst (cutV (refs cs.length rf) none (some (c % (cs.length : Int)))))
    have hP1 : (upd H2 p1 (.lst (cutV (refs cs.length rf) none (some (c % (cs.length : Int)))))) p1 = some (.lst (cutV (refs cs.length rf) none (some (c % (cs.length : Int))))) := upd_same
    generalize upd H2 p1 (.lst (cutV (refs cs.length rf) none (some (c % (cs.length : Int))))) = H3 at *
    rw [ha, cut_to (by lia)] at hP1
    have pO3 := s3 _ _ pO2
    have hD3 := s3 _ _ hD2
    refine ⟨_, rfl, _, _, _, _, rfl, rfl, SqT.of pO3, at0, _, rfl, _, rfl, _, rfl, D, _, _, _, rfl, rfl, SqL.of hD3, lst, _, _, rfl, rfl, ⟨by lia, by lia⟩, _, rfl, _, _, rfl, rfl, .inr ⟨by lia, by lia⟩, _, _, rfl, rfl,
      _, rfl, _, _, _, _, rfl, rfl, SqT.of pO3, at1, _, rfl, _, rfl, _, rfl, D, _, _, _, rfl, rfl, SqL.of hD3, lst, _, _, rfl, rfl, ⟨by lia, by lia⟩, _, rfl, _, _, rfl, rfl, .inr ⟨by lia, by lia⟩, _, _, rfl, rfl, by show 2 ≤ sizeLine; decide, fun t ht => ?_⟩
    have s4 := same_upd ht (.tup [.int ((at' cs (pv_ cs.length a)).1 + ((at' cs a).1 - (at' cs (pv_ cs.length a)).1) / g * (1 + c / 12 % (g - 1))), .int ((at' cs (pv_ cs.length a)).2 + ((at' cs a).2 - (at' cs (pv_ cs.length a)).2) / g * (1 + c / 12 % (g - 1)))])
    have hT : PtA (upd H3 t (.tup [.int ((at' cs (pv_ cs.length a)).1 + ((at' cs a).1 - (at' cs (pv_ cs.length a)).1) / g * (1 + c / 12 % (g - 1))), .int ((at' cs (pv_ cs.length a)).2 + ((at' cs a).2 - (at' cs (pv_ cs.length a)).2) / g * (1 + c / 12 % (g - 1)))])) t ((at' cs (pv_ cs.length a)).1 + ((at' cs a).1 - (at' cs (pv_ cs.length a)).1) / g * (1 + c / 12 % (g - 1)), (at' cs (pv_ cs.length a)).2 + ((at' cs a).2 - (at' cs (pv_ cs.length a)).2) / g * (1 + c / 12 % (g - 1))) := upd_same
    generalize upd H3 t (.tup [.int ((at' cs (pv_ cs.length a)).1 + ((at' cs a).1 - (at' cs (pv_ cs.length a)).1) / g * (1 + c / 12 % (g - 1))), .int ((at' cs (pv_ cs.length a)).2 + ((at' cs a).2 - (at' cs (pv_ cs.length a)).2) / g * (1 + c / 12 % (g - 1)))]) = H4 at *
    refine ⟨by show 1 ≤ sizeLine; decide, fun p2 hp2 => ?_⟩
    have s5 := same_upd hp2 (.lst [.ref t])
    have hP2 : (upd H4 p2 (.lst [.ref t])) p2 = some (.lst [.ref t]) := upd_same
    generalize upd H4 p2 (.lst [.ref t]) = H5 at *
    have s45 := s4.trans s5
    have lT : (cs.take a).length = a := by rw [List.length_take]; lia
    have q1 : PLs H5 p1 rf (cs.take a) := hpA.at_upd (s3.trans s45) (by rw [lT]; exact s45 _ _ hP1) fun i hi => ⟨i, by lia, rfl, at_take (by lia)⟩
    have q2 : PLs H5 p2 (fun _ => t) [((at' cs (pv_ cs.length a)).1 + ((at' cs a).1 - (at' cs (pv_ cs.length a)).1) / g * (1 + c / 12 % (g - 1)), (at' cs (pv_ cs.length a)).2 + ((at' cs a).2 - (at' cs (pv_ cs.length a)).2) / g * (1 + c / 12 % (g - 1)))] := ⟨hP2, fun i hi => by
      have : i = 0 := by simp at hi; exact hi
      subst this
      exact s5 _ _ hT⟩
    refine ⟨p1, p2, _, _, rfl, rfl, q1.1, q2.1, by rw [refs_len, refs_len, lT]; show a + 1 ≤ _; exact small (by lia), fun p3 hp3 => ?_⟩
    have s6 := same_upd hp3 (.lst (refs (cs.take a).length rf ++ refs 1 (fun _ => t)))
    have q3 := pls_app q1 q2 s6 upd_same
    have hp6 := hpA.mono ((s3.trans s45).trans s6)
    have sB := (sA.trans (s3.trans s45)).trans s6
    have e36 : upd H5 p3 (.lst (refs (cs.take a).length rf ++ refs 1 (fun _ => t))) = upd H5 p3 (.lst (refs (cs.take a).length rf ++ refs [((at' cs (pv_ cs.length a)).1 + ((at' cs a).1 - (at' cs (pv_ cs.length a)).1) / g * (1 + c / 12 % (g - 1)), (at' cs (pv_ cs.length a)).2 + ((at' cs a).2 - (at' cs (pv_ cs.length a)).2) / g * (1 + c / 12 % (g - 1)))].length (fun _ => t))) := rfl
    refine ⟨_, rfl, _, rfl, c % (cs.length : Int), rfl, l, _, rfl, SqL.of hp6.1, fun p4 hp4 => ?_⟩
    have s7 := same_upd hp4 (.lst (cutV (refs cs.length rf) (some (c % (cs.length : Int))) none))
    have q4 : PLs (upd (upd H5 p3 (.lst (refs (cs.take a).length rf ++ refs 1 (fun _ => t)))) p4 (.lst (cutV (refs cs.length rf) (some (c % (cs.length : Int))) none))) p4 (fun j => rf (a + j)) (cs.drop a) := by
      refine hp6.at_upd s7 (by rw [upd_same, ha, cut_from, List.length_drop]) fun i hi => ⟨a + i, ?_, rfl, at_drop⟩
      rw [List.length_drop] at hi; lia
    have q5 := q3.mono s7
    refine ⟨p3, p4, _, _, rfl, rfl, q5.1, q4.1, ?_, fun r hr' => ?_⟩
    · rw [refs_len, refs_len, List.length_append, lT, List.length_drop]; show a + 1 + (cs.length - a) ≤ _; exact small (by lia)
    have s8 := same_upd hr' (.lst (refs (cs.take a ++ [((at' cs (pv_ cs.length a)).1 + ((at' cs a).1 - (at' cs (pv_ cs.length a)).1) / g * (1 + c / 12 % (g - 1)), (at' cs (pv_ cs.length a)).2 + ((at' cs a).2 - (at' cs (pv_ cs.length a)).2) / g * (1 + c / 12 % (g - 1)))]).length (fun i => if i < (cs.take a).length then rf i else (fun _ => t) (i - (cs.take a).length)) ++ refs (cs.drop a).length (fun j => rf (a + j))))
    have q6 := pls_app q5 q4 s8 upd_same
    rw [← fs g hds (by lia)] at q6
    exact q r _ _ ((sB.trans s7).trans s8) q6
end
end FD
end
section
set_option linter.all false
namespace FF
/-! sums of quotients -/
end FF
end
section
set_option maxRecDepth 100000
set_option linter.all false
namespace L2
open PySem PySem.Spec PyProof.Rows
section
variable {X : Cx}
/-! blocks with the state written anew behind each statement -/
def tSeqN (t u : TS) : TS := fun D σ H => t { D with nx := fun σ' H' => ∃ σ'', σ'' = σ' ∧ u D σ'' H' } σ H
theorem pss_consN {st : Stmt} {rest : List Stmt} {t u : TS} (h1 : PS X st t) (h2 : PSs X rest u) : PSs X (st :: rest) (tSeqN t u) := by
  intro pins s σ H D I h
  refine wpAny_execs_cons (thn (h1 pins s σ H { D with nx := fun σ' H' => ∃ σ'', σ'' = σ' ∧ u D σ'' H' } I h) fun f s1 q => ?_)
  cases f with
  | next =>
    obtain ⟨σ', H', I', σ'', rfl, q⟩ := q
    exact h2 pins s1 σ'' H' D I' q
  | ret v => exact q
  | brk => exact q
  | cont => exact q
/-! the operations, their answers written plain -/
def qAdd : R2 := fun x y H Q => ∃ i j, x = .int i ∧ y = .int j ∧ Q (.int (i + j)) H
def qSub : R2 := fun x y H Q => ∃ i j, x = .int i ∧ y = .int j ∧ Q (.int (i - j)) H
def qMul : R2 := fun x y H Q => ∃ i j, x = .int i ∧ y = .int j ∧ CMul i j ∧ Q (.int (i * j)) H
def qMulB : R2 := fun x y H Q => ∃ i j, x = .int i ∧ y = .int j ∧ CBig i j ∧ Q (.int (i * j)) H
def qMod : R2 := fun x y H Q => ∃ i j, x = .int i ∧ y = .int j ∧ 0 < j ∧ Q (.int (i % j)) H
def qFdiv : R2 := fun x y H Q => ∃ i j, x = .int i ∧ y = .int j ∧ CDiv i j ∧ Q (.int (i / j)) H
def qPow : R2 := fun x y H Q => ∃ i j, x = .int i ∧ y = .int j ∧ CPow i j ∧ Q (.int (i ^ j.toNat)) H
theorem op_addR : OpR X (binaryOp .Add) qAdd := op_add
theorem op_subR : OpR X (binaryOp .Sub) qSub := op_sub
theorem op_mulR : OpR X (binaryOp .Mult) qMul := op_mul
theorem op_mulBR : OpR X (binaryOp .Mult) qMulB := op_mulB
theorem op_modR : OpR X (binaryOp .Mod) qMod := op_mod
theorem op_fdivR : OpR X (binaryOp .FloorDiv) qFdiv := op_fdiv
theorem op_powR : OpR X (binaryOp .Pow) qPow := op_pow
end
end L2
namespace FD
open PySem L2 FF
def Sm (B i : Int) : Prop := -B ≤ i ∧ i ≤ B
theorem sm_mul {A B x y : Int} (h1 : Sm A x) (h2 : Sm B y) : Sm (A * B) (x * y) := by
  obtain ⟨x1, x2⟩ := h1
  obtain ⟨y1, y2⟩ := h2
  have k1 := Int.mul_nonneg (show 0 ≤ A - x by lia) (show 0 ≤ B - y by lia)
  have k2 := Int.mul_nonneg (show 0 ≤ A + x by lia) (show 0 ≤ B + y by lia)
  have k3 := Int.mul_nonneg (show 0 ≤ A - x by lia) (show 0 ≤ B + y by lia)
  have k4 := Int.mul_nonneg (show 0 ≤ A + x by lia) (show 0 ≤ B - y by lia)
  have e1 : (A - x) * (B - y) = A * B - A * y - x * B + x * y := by grind
  have e2 : (A + x) * (B + y) = A * B + A * y + x * B + x * y := by grind
  have e3 : (A - x) * (B + y) = A * B + A * y - x * B - x * y := by grind
  have e4 : (A + x) * (B - y) = A * B - A * y + x * B - x * y := by grind
  constructor <;> lia
end FD
end
section
set_option maxRecDepth 100000
set_option linter.all false
namespace L2
open PySem PySem.Spec PyProof.Rows
theorem pe_weak {X : Cx} {e : Expr} {t t' : TE} (h : PE X e t) (w : ∀ σ H Q, t' σ H Q → t σ H Q) : PE X e t' := fun pins s σ H Q I q => h pins s σ H Q I (w σ H Q q)
theorem ps_weak {X : Cx} {e : Stmt} {t t' : TS} (h : PS X e t) (w : ∀ D σ H, t' D σ H → t D σ H) : PS X e t' := fun pins s σ H D I q => h pins s σ H D I (w D σ H q)
theorem CallR.weak {X : Cx} {f : Value} {r r' : List V → Hp → VK → Prop} (h : CallR X f r) (w : ∀ xs H Q, r' xs H Q → r xs H Q) : CallR X f r' := fun pins s σ H xs us Q I v q => h pins s σ H xs us Q I v (w xs H Q q)
end L2
namespace FD
open PySem PySem.Spec PyProof.Rows L2 FF
/-! list(x) of points -/
theorem call_copy {X : Cx} : CallR X (.type "list") (fun xs H Q => ∃ r rf cs, xs = [.ref r] ∧ PLs H r rf cs ∧ ∀ h H', Same H H' → PLs H' h rf cs → Q (.ref h) H') := by
  refine CallR.weak call_list_of ?_
  rintro xs H Q ⟨r, rf, cs, rfl, hP, q⟩
  exact ⟨r, _, rfl, .inl (SqL.of hP.1), fun l hl => q l _ (same_upd hl _) (pls_copy hP (same_upd hl _) upd_same)⟩
/-! list(reversed(x)) of points -/
def tRevP (i : Nat) : TE := fun σ H Q => ∃ r rf cs, σ[i]? = some (some (.ref r)) ∧ PLs H r rf cs ∧ ∀ l rg H', Same H H' → PLs H' l rg cs.reverse → Q (.ref l) H'
theorem revP_weak {K : PySem.W.Frag} {i : Nat} (σ : L2.St) (H : Hp) (Q : VK) (h : tRevP i σ H Q) : tListRev K (tCons (tVar i) tNil) σ H Q := by
  obtain ⟨r, rf, cs, e, hP, q⟩ := h
  exact ⟨_, e, r, _, rfl, SqL.of hP.1, fun l hl => q l _ _ (same_upd hl _) (pls_rev hP (same_upd hl _) upd_same)⟩
/-! x[t:] + x[:t] of points -/
def tRot (i j : Nat) : TE := fun σ H Q => ∃ r rf cs t, σ[i]? = some (some (.ref r)) ∧ σ[j]? = some (some (.int ((t : Nat) : Int))) ∧ PLs H r rf cs ∧ t ≤ cs.length ∧ cs.length ≤ 400 ∧ ∀ r3 rg H', Same H H' → PLs H' r3 rg (cs.drop t ++ cs.take t) → Q (.ref r3) H'
theorem pe_rot {X : Cx} {a b a' b' : Expr} {p2 p3 pos pos' pos'' : Pos} {i j : Nat} (h1 : PE X a (tVar i)) (h2 : PE X b (tVar j)) (h3 : PE X a' (tVar i)) (h4 : PE X b' (tVar j)) :
    PE X (.BinOp (.Subscript a (.Slice (some b) none none p2) pos) .Add (.Subscript a' (.Slice none (some b') none p3) pos') pos'') (tRot i j) := by
  refine pe_weak (pe_op op_cat (pe_slice sl_list h1 (po_some h2) po_none) (pe_slice sl_list h3 po_none (po_some h4))) ?_
  rintro σ H Q ⟨r, rf, cs, t, e1, e2, hP, ht, n4, q⟩
  refine ⟨_, e1, _, e2, _, rfl, r, _, rfl, SqL.of hP.1, fun p1 hp1 => ?_⟩
  have s5 := same_upd hp1 (.lst (cutV (refs cs.length rf) (some ((t : Nat) : Int)) none))
  have hQ1 : (upd H p1 (.lst (cutV (refs cs.length rf) (some ((t : Nat) : Int)) none))) p1 = some (.lst (cutV (refs cs.length rf) (some ((t : Nat) : Int)) none)) := upd_same
  generalize upd H p1 (.lst (cutV (refs cs.length rf) (some ((t : Nat) : Int)) none)) = H5 at *
  have hP5 := hP.mono s5
  refine ⟨_, e1, _, e2, _, rfl, r, _, rfl, SqL.of hP5.1, fun p2 hp2 => ?_⟩
  have s6 := same_upd hp2 (.lst (cutV (refs cs.length rf) none (some ((t : Nat) : Int))))
  have hQ2 : (upd H5 p2 (.lst (cutV (refs cs.length rf) none (some ((t : Nat) : Int))))) p2 = some (.lst (cutV (refs cs.length rf) none (some ((t : Nat) : Int)))) := upd_same
  generalize upd H5 p2 (.lst (cutV (refs cs.length rf) none (some ((t : Nat) : Int)))) = H6 at *
  rw [cut_from] at hQ1
  rw [cut_to ht] at hQ2
  have s56 := s5.trans s6
  have lD : (cs.drop t).length = cs.length - t := List.length_drop
  have lT : (cs.take t).length = t := by rw [List.length_take]; lia
  have q1 : PLs H6 p1 (fun j => rf (t + j)) (cs.drop t) := hP.at_upd s56 (by rw [lD]; exact s6 _ _ hQ1) fun i hi => ⟨t + i, by lia, rfl, at_drop⟩
  have q2 : PLs H6 p2 rf (cs.take t) := hP.at_upd s56 (by rw [lT]; exact hQ2) fun i hi => ⟨i, by lia, rfl, at_take (by lia)⟩
  refine ⟨p1, p2, _, _, rfl, rfl, q1.1, q2.1, by rw [refs_len, refs_len, lT, lD]; exact small (by lia), fun r3 hr3 => ?_⟩
  have s7 := same_upd hr3 (.lst (refs (cs.drop t).length (fun j => rf (t + j)) ++ refs (cs.take t).length rf))
  exact q r3 _ _ (s56.trans s7) (pls_app q1 q2 s7 upd_same)
/-! (a, b), a point -/
def tPtT (t : TA) : TE := fun σ H Q => t σ H fun xs H2 => ∃ i j, xs = [.int i, .int j] ∧ ∀ t H', Same H2 H' → PtA H' t (i, j) → Q (.ref t) H'
theorem pe_pt {X : Cx} {es : List Expr} {t : TA} {x1} {pos : Pos} (h : PA X es t) : PE X (.Tuple es x1 pos) (tPtT t) := by
  intro pins s σ H Q I hq
  refine wpAny_Tuple_spliced (thn (h pos pins s σ H _ I hq) fun us s1 zz => ?_)
  obtain ⟨xs, H1, I1, r, i, j, e, q⟩ := zz
  subst e
  have z : ([V.int i, V.int j] : List V).length ≤ sizeLine := by show 2 ≤ sizeLine; decide
  refine ⟨by rw [← r.length]; exact z, ?_⟩
  have hn : H1 s1.heap.objs.size = none := I1.hok.fresh (Nat.le_refl _)
  refine ⟨.ref s1.heap.objs.size, upd H1 s1.heap.objs.size (.tup [.int i, .int j]), I1.laid (t' := s1.toks) (fun b o e => Heap.get?_push_of_some _ e) (Nat.le_refl _) ?_, rfl, q _ _ (same_upd hn _) upd_same⟩
  exact ⟨z, us, r, ⟨_, Heap.get?_push_size _ rfl, rfl, _, rfl⟩⟩
/-! [.. for .. in points], points -/
def tPts (i own : Nat) (caps : List Nat) (g : TG) (te : TE) : TE := fun σ H Q => ∃ (a : Addr) (rf : Nat → Addr) (cs : List Pt) (gf : Pt → Pt), σ[i]? = some (some (.ref a)) ∧ PLs H a rf cs ∧ cs.length ≤ 400 ∧
  (∀ k, k < cs.length → ∀ H', Same H H' → ∀ Q' : VK, (∀ t H4, Same H' H4 → PtA H4 t (gf (at' cs k)) → Q' (.ref t) H4) → g (.ref (rf k)) (compσ own caps σ) H' fun σ2 H2 => KeepsCaps own caps σ σ2 ∧ te σ2 H2 Q') ∧
  ∀ D rg H', Same H H' → PLs H' D rg (cs.map gf) → Q (.ref D) H'
theorem pts_weak {K : PySem.W.Frag} {i own : Nat} {caps : List Nat} {g : TG} {te : TE} (gm : ∀ x σ H Q Q', (∀ s h, Q s h → Q' s h) → g x σ H Q → g x σ H Q') (σ : L2.St) (H : Hp) (Q : VK) (h : tPts i own caps g te σ H Q) : tComp (iList K (tVar i)) own caps g (fun _ H Q => Q true H) te σ H Q := by
  obtain ⟨a, rf, cs, gf, e, hP, n4, el, q⟩ := h
  refine ⟨_, e, a, rfl, ⟨_, SqL.of hP.1⟩, cs.length, fun i ys H' => Same H H' ∧ ∃ ts, ys = refs i ts ∧ ∀ j, j < i → PtA H' (ts j) (gf (at' cs j)), small (by lia), ⟨Same.refl _, fun _ => a, rfl, fun j hj => absurd hj (by lia)⟩,
    fun ys H' hW => ⟨⟨refs cs.length rf, SqL.of (hW.1 _ _ hP.1), by rw [refs_len]; exact Nat.le_refl _⟩, fun D hD => ?_⟩, fun i ys H' hi hW => ⟨⟨refs cs.length rf, _, SqL.of (hW.1 _ _ hP.1), refs_get hi⟩, fun x H3 hy => ?_⟩⟩
  · obtain ⟨sW, ts, rfl, hts⟩ := hW
    have s9 := same_upd hD (.lst (refs cs.length ts))
    refine q D ts _ (sW.trans s9) ⟨by rw [upd_same, List.length_map], fun j hj => ?_⟩
    rw [List.length_map] at hj
    rw [at_map hj]
    exact s9 _ _ (hts j hj)
  · obtain ⟨sW, ts, rfl, hts⟩ := hW
    obtain ⟨rfl, hy⟩ := hy
    obtain ⟨_, rfl⟩ := refs_get' (hy _ (SqL.of (sW _ _ hP.1)))
    refine gm _ _ _ _ _ (fun σ2 H2 z => ⟨z.1, iteT z.2⟩) (el i hi _ sW (fun v H4 => Same H H4 ∧ ∃ ts', refs i ts ++ [v] = refs (i + 1) ts' ∧ ∀ j, j < i + 1 → PtA H4 (ts' j) (gf (at' cs j))) fun t H4 s4 hp4 => ?_)
    refine ⟨sW.trans s4, fun j => if j < i then ts j else t, refs_snoc, fun j hj => ?_⟩
    by_cases e : j < i
    · dsimp only; rw [if_pos e]; exact s4 _ _ (hts j e)
    · have ej : j = i := by lia
      subst ej
      dsimp only; rw [if_neg e]; exact hp4
theorem gm_name {i : Nat} (x : V) (σ : L2.St) (H : Hp) (Q Q' : L2.St → Hp → Prop) (w : ∀ s h, Q s h → Q' s h) (h : gName i x σ H Q) : gName i x σ H Q' := w _ _ h
theorem gm_two {K : PySem.W.Frag} {n i j : Nat} (x : V) (σ : L2.St) (H : Hp) (Q Q' : L2.St → Hp → Prop) (w : ∀ s h, Q s h → Q' s h) (h : gTup K n (gCons (gName i) (gCons (gName j) gNil)) x σ H Q) : gTup K n (gCons (gName i) (gCons (gName j) gNil)) x σ H Q' := by
  obtain ⟨a, xs, e, s, l, v, r, e1, v2, r2, e2, e3, q⟩ := h
  exact ⟨a, xs, e, s, l, v, r, e1, v2, r2, e2, e3, w _ _ q⟩
theorem asg_pts {K : PySem.W.Frag} {i k own : Nat} {caps : List Nat} {g : TG} {te : TE} (gm : ∀ x σ H Q Q', (∀ s h, Q s h → Q' s h) → g x σ H Q → g x σ H Q') (D : Ends) (σ : L2.St) (H : Hp) (h : tAsg (tPts i own caps g te) (gName k) D σ H) : tAsg (tComp (iList K (tVar i)) own caps g (fun _ H Q => Q true H) te) (gName k) D σ H := pts_weak gm _ _ _ h
end FD
end
section
set_option linter.all false
namespace FF
/-! how far drawn corners lie -/
def Nr (p : Pt) : Prop := (-100 ≤ p.1 ∧ p.1 ≤ 100) ∧ -100 ≤ p.2 ∧ p.2 ≤ 100
theorem at_mem : ∀ {cs : List Pt} {i : Nat}, i < cs.length → at' cs i ∈ cs
  | c :: r, 0, _ => List.mem_cons_self
  | c :: r, i + 1, h => List.mem_cons_of_mem _ (at_mem (by simpa using h))
theorem xAt_bd (c : Int) : ∀ k : Nat, 0 ≤ xAt c k ∧ xAt c k ≤ 3 * k
  | 0 => ⟨Int.le_refl 0, Int.le_refl 0⟩
  | k + 1 => by
    have := xAt_bd c k
    have := draw_range c k (show (0 : Int) < 3 by decide)
    unfold xAt
    lia
theorem nr_loL {m : Nat} {x l : Nat → Int} (hm : m ≤ 6) (hx : ∀ k, k < m → 0 ≤ x k ∧ x k ≤ 3 * k) (hl : ∀ k, -100 ≤ l k ∧ l k ≤ 100) : ∀ p ∈ loL m x l, Nr p := by
  intro p hp
  unfold loL at hp
  obtain ⟨k, hk, rfl⟩ := List.mem_map.mp hp
  have hk := List.mem_range.mp hk
  have := hx k hk
  exact ⟨by simp only; lia, hl k⟩
theorem nr_joined {L H : List Pt} {t : Int} (hL : ∀ p ∈ L, Nr p) (hH : ∀ p ∈ H, Nr p) : ∀ p ∈ joined L H t, Nr p := by
  intro p hp
  unfold joined at hp
  simp only at hp
  rcases List.mem_append.mp hp with h | h
  · exact hL p h
  · refine hH p ?_
    rw [List.mem_reverse] at h
    have e1 : ∀ {A : List Pt} {q}, q ∈ A.dropLast → q ∈ A := fun z => List.dropLast_subset _ z
    have e2 : ∀ {q}, q ∈ (if t % 2 = 1 then H.eraseIdx 0 else H) → q ∈ H := by
      intro q hq
      split at hq
      · exact List.mem_of_mem_eraseIdx hq
      · exact hq
    generalize (if t % 2 = 1 then H.eraseIdx 0 else H) = T at *
    split at h
    · exact e2 (e1 h)
    · exact e2 h
theorem nr_spiral {c : Int} : ∀ p ∈ spiral c, Nr p := by
  have h1 := Int.emod_nonneg c (show (3 : Int) ≠ 0 by decide)
  have h2 := Int.emod_lt_of_pos c (show (0 : Int) < 3 by decide)
  have h3 := Int.emod_nonneg (c / 3) (show (3 : Int) ≠ 0 by decide)
  have h4 := Int.emod_lt_of_pos (c / 3) (show (0 : Int) < 3 by decide)
  unfold spiral
  simp only
  generalize c % 3 = a at *
  generalize c / 3 % 3 = b at *
  intro p hp
  simp only [List.cons_append, List.nil_append, List.mem_cons, List.not_mem_nil, or_false] at hp
  unfold Nr
  rcases hp with rfl | rfl | rfl | rfl | rfl | rfl | rfl | rfl | rfl | rfl | rfl | rfl <;> simp only <;> lia
theorem btw_bd {p q c u v b : Int} (hu : 0 < u) (hv : 0 < v) (e : u * p + v * q = (u + v) * c) (h1 : -b ≤ p ∧ p ≤ b) (h2 : -b ≤ q ∧ q ≤ b) : -b ≤ c ∧ c ≤ b := by
  have e2 : (u + v) * c = u * c + v * c := Int.add_mul _ _ _
  constructor
  · apply Classical.byContradiction
    intro h
    have a1 : u * c < u * p := Int.mul_lt_mul_of_pos_left (by lia) hu
    have a2 : v * c < v * q := Int.mul_lt_mul_of_pos_left (by lia) hv
    lia
  · apply Classical.byContradiction
    intro h
    have a1 : u * p < u * c := Int.mul_lt_mul_of_pos_left (by lia) hu
    have a2 : v * q < v * c := Int.mul_lt_mul_of_pos_left (by lia) hv
    lia
theorem nr_strict {p q c : Pt} (h : Strict p q c) (hp : Nr p) (hq : Nr q) : Nr c := by
  obtain ⟨u, v, hu, hv, e1, e2⟩ := h
  exact ⟨btw_bd hu hv e1 hp.1 hq.1, btw_bd hu hv e2 hp.2 hq.2⟩
theorem nr_flat {cs : List Pt} {c : Int} (h : ∀ p ∈ cs, Nr p) (h1 : 1 ≤ cs.length) : ∀ p ∈ flat cs c, Nr p := by
  intro p hp
  unfold flat at hp
  simp only at hp
  have t1 := Int.emod_nonneg c (show (cs.length : Int) ≠ 0 by lia)
  have t2 := Int.emod_lt_of_pos c (show (0 : Int) < cs.length by lia)
  have ht : (c % (cs.length : Int)).toNat < cs.length := by lia
  generalize (c % (cs.length : Int)).toNat = t at *
  split at hp
  · exact h p hp
  · rename_i g hg
    split at hp
    · exact h p hp
    · have hm := divs_mem (List.mem_of_getLast? hg)
      have k1 := Int.emod_nonneg (c / 12) (show g - 1 ≠ 0 by lia)
      have k2 := Int.emod_lt_of_pos (c / 12) (show 0 < g - 1 by lia)
      have st := strict_flat hm.1 hm.2.1 hm.2.2 (k := 1 + c / 12 % (g - 1)) (by lia) (by lia)
      rcases List.mem_append.mp hp with q | q
      · rcases List.mem_append.mp q with q | q
        · exact h p (List.mem_of_mem_take q)
        · rw [List.mem_singleton] at q
          rw [q]
          exact nr_strict st (h _ (at_mem (by split <;> lia))) (h _ (at_mem ht))
      · exact h p (List.mem_of_mem_drop q)
theorem nr_fenceBy (ns : List Int) (f : Nat) : ∀ p ∈ fenceBy ns f, Nr p := by
  have hm : 2 ≤ colM (cell ns f) ∧ colM (cell ns f) ≤ 6 := by unfold colM; lia
  have b1 : ∀ k, -100 ≤ lowAt (cell ns (f + 1)) k ∧ lowAt (cell ns (f + 1)) k ≤ 4 := fun k => by
    have := draw_range (cell ns (f + 1)) k (show (0 : Int) < 9 by decide)
    unfold lowAt; lia
  have b2 : ∀ k, -100 ≤ highAt (cell ns (f + 1)) (cell ns (f + 2)) k ∧ highAt (cell ns (f + 1)) (cell ns (f + 2)) k ≤ 100 := fun k => by
    have := b1 k
    have := draw_range (cell ns (f + 2)) k (show (0 : Int) < 5 by decide)
    unfold highAt; lia
  have g0 : ∀ p ∈ joined (lowsOf ns f) (highsOf ns f) (cell ns f / 5 % 4), Nr p :=
    nr_joined (nr_loL hm.2 (fun k _ => xAt_bd _ k) fun k => by have := b1 k; lia) (nr_loL hm.2 (fun k _ => xAt_bd _ k) b2)
  have G0 : Good (joined (lowsOf ns f) (highsOf ns f) (cell ns f / 5 % 4)) := by
    refine good_joined hm.1 hm.2 (fun i j h _ => xAt_lt _ h) (fun i _ => ?_)
    have := draw_range (cell ns (f + 2)) i (show (0 : Int) < 5 by decide)
    unfold highAt; lia
  unfold fenceBy
  simp only
  generalize joined (lowsOf ns f) (highsOf ns f) (cell ns f / 5 % 4) = c0 at *
  generalize cell ns f / 20 = c
  have g1 : ∀ p ∈ stepS c0 c (cell ns (f + 1)), Nr p := by unfold stepS; split; exact nr_spiral; exact g0
  have G1 : Good (stepS c0 c (cell ns (f + 1))) := by unfold stepS; split; exact good_spiral _; exact G0
  generalize stepS c0 c (cell ns (f + 1)) = c1 at *
  have g2 : ∀ p ∈ stepF c1 c (cell ns (f + 2)), Nr p := by unfold stepF; split; exact nr_flat g1 (by have := G1.fe.lo; lia); exact g1
  generalize stepF c1 c (cell ns (f + 2)) = c2 at *
  have g3 : ∀ p ∈ turnL c2 c, Nr p := by
    intro p hp
    unfold turnL at hp
    rcases List.mem_append.mp hp with q | q
    · exact g2 p (List.mem_of_mem_drop q)
    · exact g2 p (List.mem_of_mem_take q)
  generalize turnL c2 c = c3 at *
  have g4 : ∀ p ∈ stepR c3 c, Nr p := by
    intro p hp
    unfold stepR at hp
    split at hp
    · exact g3 p (List.mem_reverse.mp hp)
    · exact g3 p hp
  generalize stepR c3 c = c4 at *
  intro p hp
  unfold stepX at hp
  split at hp
  · obtain ⟨z, hz, rfl⟩ := List.mem_map.mp hp
    exact ⟨(g4 z hz).2, (g4 z hz).1⟩
  · exact g4 p hp
/-! the law's own sum -/
end FF
end
section
set_option linter.all false
namespace FF
/-! how many corners are drawn -/
structure LF (cs : List Pt) : Prop where
  lo : 3 ≤ cs.length
  hi : cs.length ≤ 12
structure LG (cs : List Pt) : Prop where
  fe : LF cs
theorem len_joined_by (ns : List Int) (f : Nat) : LG (joined (lowsOf ns f) (highsOf ns f) (cell ns f / 5 % 4)) := by
  have hm : 2 ≤ colM (cell ns f) ∧ colM (cell ns f) ≤ 6 := by unfold colM; lia
  have lL : (lowsOf ns f).length = colM (cell ns f) := loL_len
  have lH : (highsOf ns f).length = colM (cell ns f) := loL_len
  generalize lowsOf ns f = L at *
  generalize highsOf ns f = H at *
  generalize cell ns f / 5 % 4 = t
  have key : 3 ≤ (joined L H t).length ∧ (joined L H t).length ≤ 12 := by
    unfold joined
    simp only [List.length_append, List.length_reverse]
    have e : (if t % 2 = 1 then H.eraseIdx 0 else H).length + 1 ≥ H.length ∧ (if t % 2 = 1 then H.eraseIdx 0 else H).length ≤ H.length := by
      split
      · rw [List.eraseIdx_zero, List.length_tail]; lia
      · lia
    generalize (if t % 2 = 1 then H.eraseIdx 0 else H) = T at *
    split
    · rw [List.length_dropLast]; lia
    · lia
  exact ⟨⟨key.1, key.2⟩⟩
theorem len_stepS {cs : List Pt} {c d : Int} (G : LG cs) : LG (stepS cs c d) := by
  unfold stepS
  split
  · exact ⟨⟨by show 3 ≤ 12; decide, by show 12 ≤ 12; decide⟩⟩
  · exact G
theorem len_stepF {cs : List Pt} {c d : Int} (G : LG cs) : LG (stepF cs c d) := by
  unfold stepF
  split
  · unfold flat
    simp only
    have lo := G.fe.lo
    have hi := G.fe.hi
    split
    · exact G
    · split
      · exact G
      · refine ⟨⟨?_, ?_⟩⟩ <;> simp only [List.length_append, List.length_take, List.length_drop, List.length_cons, List.length_nil] <;> lia
  · exact G
theorem LG.turn {cs : List Pt} {c : Int} (G : LG cs) : LG (turnL cs c) := by
  have lo := G.fe.lo
  have hi := G.fe.hi
  unfold turnL
  refine ⟨⟨?_, ?_⟩⟩ <;> simp only [List.length_append, List.length_take, List.length_drop] <;> lia
theorem len_stepR {cs : List Pt} {c : Int} (G : LG cs) : LG (stepR cs c) := by
  unfold stepR
  split
  · exact ⟨⟨by rw [List.length_reverse]; exact G.fe.lo, by rw [List.length_reverse]; exact G.fe.hi⟩⟩
  · exact G
end FF
end
section
set_option maxRecDepth 100000
set_option linter.all false
namespace FD
open PySem L2 FF
abbrev sFenceBy : Stmt := top 38
theorem via2 {G : Prop} {K Pm : Addr → Hp → Prop} (main : (∀ r H1, Pm r H1 → K r H1) → G) (rest : ∀ r H1, Pm r H1 → K r H1) : G := main rest
def spFenceBy (K : PySem.W.Frag) : Sp := fun vs H Q _ => ∃ a ns f, vs = [.ref a, .int ((f : Nat) : Int)] ∧ Scr K H a ns ∧ ∀ r rf H', Same H H' → PLs H' r rf (fenceBy ns f) → Q (.ref r) H'
section
variable {P : Program} {w : World} {K : PySem.W.Frag} {mg : Str → Option Value} {base : Heap} {f : Addr} {fd : FuncData}
theorem nd_xy : (["x", "y"] : List Str).Nodup := by decide +kernel
theorem scFenceBy : FnScope ["script", "first", "rows", "corners", "cell", "turn_v"] ["script", "first"] (defScope sFenceBy) := ⟨rfl, rfl, rfl, by decide +kernel, rfl, by decide +kernel, by decide +kernel⟩
theorem ok_fence_by (F : Fun K "_law_fence_by" "_law_fence_by" sFenceBy f fd) (cC : Cal P w K mg base 1 "_law_cell_at" ["script", "k"] (spCell K)) (cR : Cal P w K mg base 2 "_law_rows_by" ["script", "first"] (spRows K)) (cJ : Cal P w K mg base 1 "_law_joined" ["lows", "highs", "tips"] spJoined)
    (cS : Cal P w K mg base 1 "_law_spiral" ["cell"] spSpiral) (cF : Cal P w K mg base 1 "_law_flat" ["corners", "cell"] spFlat) (ml : mg "len" = none) (mls : mg "list" = none) (mrv : mg "reversed" = none) : FnOk P w K mg base CX0 3 f fd ["script", "first"] (spFenceBy K) := by
  refine F.ok scFenceBy (fun vs H Q E h => ?_) (fun cdv A outer s H vs Q E hr h => ?_)
  · obtain ⟨a, ns, m, rfl, _⟩ := h
    rfl
  obtain ⟨a, ns, m, rfl, hS, q⟩ := h
  refine ⟨_, pss_consN (ps_set (i := 2) scFenceBy.nd rfl (Or.inl rfl) (pe_cal cR hr (by decide) rfl (pa_cons (pv 0) (pa_cons (pv 1) pa_nil))))
    (pss_consN (ps_set (i := 3) scFenceBy.nd rfl (Or.inl rfl) (pe_cal cJ hr (by decide) rfl (pa_cons (pe_ix ix_list (pv 2) pe_int (fun _ _ => rfl)) (pa_cons (pe_ix ix_list (pv 2) pe_int (fun _ _ => rfl)) (pa_cons (pe_ix ix_list (pv 2) pe_int (fun _ _ => rfl)) pa_nil)))))
    (pss_consN (ps_set (i := 4) scFenceBy.nd rfl (Or.inl rfl) (pe_op op_fdivR (pe_cal cC hr (by decide) rfl (pa_cons (pv 0) (pa_cons (pv 1) pa_nil))) pe_int))
    (pss_consN (ps_if (pt_cmpR op_eq (pe_op op_modR (pe_op op_fdivR (pv 4) pe_int) pe_int) pe_int (nomark _)) (pss_one (ps_set (i := 3) scFenceBy.nd rfl (Or.inl rfl) (pe_cal cS hr (by decide) rfl (pa_cons (pe_cal cC hr (by decide) rfl (pa_cons (pv 0) (pa_cons (pe_op op_addR (pv 1) pe_int) pa_nil))) pa_nil)))) pss_nil)
    (pss_consN (ps_if (pt_cmpR op_eq (pe_op op_modR (pe_op op_fdivR (pv 4) pe_int) pe_int) pe_int (nomark _)) (pss_one (ps_set (i := 3) scFenceBy.nd rfl (Or.inl rfl) (pe_cal cF hr (by decide) rfl (pa_cons (pv 3) (pa_cons (pe_cal cC hr (by decide) rfl (pa_cons (pv 0) (pa_cons (pe_op op_addR (pv 1) pe_int) pa_nil))) pa_nil))))) pss_nil)
    (pss_consN (ps_set (i := 5) scFenceBy.nd rfl (Or.inl rfl) (pe_op op_modR (pv 4) (pe_callB call_len_seq rfl ml PySem.boot_len (pa_cons (pv 3) pa_nil))))
    (pss_consN (ps_set (i := 3) scFenceBy.nd rfl (Or.inl rfl) (pe_rot (pv 3) (pv 5) (pv 3) (pv 5)))
    (pss_consN (ps_if (pt_cmpR op_eq (pe_op op_modR (pe_op op_fdivR (pv 4) pe_int) pe_int) pe_int (nomark _)) (pss_one (ps_set (i := 3) scFenceBy.nd rfl (Or.inl rfl) (pe_weak (pe_listrev rfl rfl mls rfl mrv (pa_cons (pv 3) pa_nil)) revP_weak))) pss_nil)
    (pss_consN (ps_if (pt_cmpR op_eq (pe_op op_modR (pe_op op_fdivR (pv 4) pe_int) pe_int) pe_int (nomark _)) (pss_one (ps_weak (ps_setCompS (i := 3) (N' := ["x", "y"]) (own := 2) (caps := []) rfl (CompScope.of (sc := defScope sFenceBy) (N0 := ["script", "first", "rows", "corners", "cell", "turn_v"]) rfl rfl (by decide +kernel)) scFenceBy.nd rfl (Or.inl rfl) (pi_list (pv 3))
      (fun C cl fp pins s₂ H₂ => pgC_tup (n := 2) rfl (pgs_cons (pg_name (i := 0) nd_xy rfl (Or.inl rfl)) (pgs_cons (pg_name (i := 1) nd_xy rfl (Or.inl rfl)) pgs_nil))) (fun C cl fp pins s₂ H₂ => pfs_nil) (fun C cl fp pins s₂ H₂ => pe_pt (pa_cons (pv 1) (pa_cons (pv 0) pa_nil)))) (asg_pts gm_two))) pss_nil)
    (pss_one (ps_ret (pv 3))))))))))), ?_⟩
  have e1 : ∀ j : Nat, ((m : Nat) : Int) + ((j : Nat) : Int) = ((m + j : Nat) : Int) := fun j => by lia
  have hm : 2 ≤ colM (cell ns m) ∧ colM (cell ns m) ≤ 6 := by unfold colM; lia
  have lL : (lowsOf ns m).length = colM (cell ns m) := loL_len
  have lH : (highsOf ns m).length = colM (cell ns m) := loL_len
  unfold fenceBy at q
  simp only at q
  have G0 := len_joined_by ns m
  refine ⟨_, rfl, _, rfl, a, ns, m, rfl, hS, fun rw lo hi rl rh H1 s1 hrw hL hR => ⟨[_, _, _, _, _, _], rfl, ?_⟩⟩
  refine ⟨_, rfl, rw, _, _, _, rfl, rfl, SqL.of hrw, rfl, _, rfl, rw, _, _, _, rfl, rfl, SqL.of hrw, rfl, _, rfl, rw, _, _, _, rfl, rfl, SqL.of hrw, rfl, lo, hi, _, rl, rh, _, _, rfl, hL, hR, by rw [lL]; exact hm.1, by lia, by rw [lH]; exact hm.1, by lia, fun r0 rf0 H2 s2 hP0 => ⟨[_, _, _, _, _, _], rfl, ?_⟩⟩
  have sA := s1.trans s2
  clear hL hR hrw s1 s2 lL lH hm
  generalize joined (lowsOf ns m) (highsOf ns m) (cell ns m / 5 % 4) = c0 at *
  refine ⟨_, rfl, _, rfl, a, ns, m, rfl, hS.mono sA, _, _, rfl, rfl, ⟨by decide, by decide⟩, [_, _, _, _, _, _], rfl, ?_⟩
  refine ⟨_, rfl, _, _, rfl, rfl, ⟨by decide, by decide⟩, _, _, rfl, rfl, (show (0 : Int) < 5 by decide), rfl, _, rfl, ?_⟩
  rw [dec_int]
  apply via2 (Pm := fun r H3 => Same H H3 ∧ ∃ rf, PLs H3 r rf (stepS c0 (cell ns m / 20) (cell ns (m + 1))))
  · intro rest
    refine ite2 (fun c => ?_) (fun c => ?_)
    · have c' : cell ns m / 20 / 48 % 5 = 1 := by simpa using c
      refine ⟨_, rfl, _, rfl, _, _, rfl, rfl, a, ns, m + 1, by rw [← e1 1]; rfl, hS.mono sA, _, rfl, fun r1 rf1 H3 s3 hP1 => ?_⟩
      exact rest r1 H3 ⟨sA.trans s3, rf1, by unfold stepS; rw [if_pos c']; exact hP1⟩
    · have c' : ¬ cell ns m / 20 / 48 % 5 = 1 := by simpa using c
      exact rest r0 H2 ⟨sA, rf0, by unfold stepS; rw [if_neg c']; exact hP0⟩
  rintro r1 H3 ⟨s3, rf1, hP1⟩
  have G1 : LG (stepS c0 (cell ns m / 20) (cell ns (m + 1))) := len_stepS G0
  clear hP0 sA G0
  generalize stepS c0 (cell ns m / 20) (cell ns (m + 1)) = c1 at *
  refine ⟨[_, _, _, _, _, _], rfl, ?_⟩
  refine ⟨_, rfl, _, _, rfl, rfl, ⟨by decide, by decide⟩, _, _, rfl, rfl, (show (0 : Int) < 2 by decide), rfl, _, rfl, ?_⟩
  rw [dec_int]
  apply via2 (Pm := fun r H3 => Same H H3 ∧ ∃ rf, PLs H3 r rf (stepF c1 (cell ns m / 20) (cell ns (m + 2))))
  · intro rest
    refine ite2 (fun c => ?_) (fun c => ?_)
    · have c' : cell ns m / 20 / 240 % 2 = 1 := by simpa using c
      refine ⟨_, rfl, _, rfl, _, rfl, _, _, rfl, rfl, a, ns, m + 2, by rw [← e1 2]; rfl, hS.mono s3, r1, rf1, c1, _, rfl, hP1, by have := G1.fe.lo; lia, by have := G1.fe.hi; lia, fun r2 rf2 H4 s4 hP2 => ?_⟩
      exact rest r2 H4 ⟨s3.trans s4, rf2, by unfold stepF; rw [if_pos c']; exact hP2⟩
    · have c' : ¬ cell ns m / 20 / 240 % 2 = 1 := by simpa using c
      exact rest r1 H3 ⟨s3, rf1, by unfold stepF; rw [if_neg c']; exact hP1⟩
  rintro r2 H4 ⟨s4, rf2, hP2⟩
  have G2 : LG (stepF c1 (cell ns m / 20) (cell ns (m + 2))) := len_stepF G1
  clear hP1 s3 G1
  generalize stepF c1 (cell ns m / 20) (cell ns (m + 2)) = c2 at *
  have l3 := G2.fe.lo
  have l12 := G2.fe.hi
  have hn0 : (0 : Int) < (c2.length : Int) := by lia
  have hm1 := Int.emod_nonneg (cell ns m / 20) (show (c2.length : Int) ≠ 0 by lia)
  have hm2 := Int.emod_lt_of_pos (cell ns m / 20) hn0
  obtain ⟨t, ht⟩ : ∃ t : Nat, cell ns m / 20 % (c2.length : Int) = (t : Int) := ⟨(cell ns m / 20 % (c2.length : Int)).toNat, by lia⟩
  have ht' : (cell ns m / 20 % (c2.length : Int)).toNat = t := by lia
  refine ⟨[_, _, _, _, _, _], rfl, ?_⟩
  refine ⟨_, rfl, _, rfl, r2, _, rfl, .inl (SqL.of hP2.1), _, _, rfl, rfl, by rw [refs_len]; exact hn0, [_, _, _, _, _, _], rfl, ?_⟩
  rw [refs_len, ht]
  refine ⟨r2, rf2, c2, t, rfl, rfl, hP2, by lia, by lia, fun r3 rf3 H7 s7 q3 => ⟨[_, _, _, _, _, _], rfl, ?_⟩⟩
  have G3 : LG (turnL c2 (cell ns m / 20)) := LG.turn G2
  have e3 : turnL c2 (cell ns m / 20) = c2.drop t ++ c2.take t := by unfold turnL; rw [ht']
  rw [← e3] at q3
  have sB := s4.trans s7
  clear hP2 s4 s7 G2 e3 ht ht' hm1 hm2 hn0 l3 l12
  generalize turnL c2 (cell ns m / 20) = c3 at *
  refine ⟨_, rfl, _, _, rfl, rfl, ⟨by decide, by decide⟩, _, _, rfl, rfl, (show (0 : Int) < 2 by decide), rfl, _, rfl, ?_⟩
  rw [dec_int]
  apply via2 (Pm := fun r H3 => Same H H3 ∧ ∃ rf, PLs H3 r rf (stepR c3 (cell ns m / 20)))
  · intro rest
    refine ite2 (fun c => ?_) (fun c => ?_)
    · have c' : cell ns m / 20 / 12 % 2 = 1 := by simpa using c
      exact ⟨r3, rf3, c3, rfl, q3, fun r4 rf4 H8 s8 q4 => rest r4 H8 ⟨sB.trans s8, rf4, by unfold stepR; rw [if_pos c']; exact q4⟩⟩
    · have c' : ¬ cell ns m / 20 / 12 % 2 = 1 := by simpa using c
      exact rest r3 H7 ⟨sB, _, by unfold stepR; rw [if_neg c']; exact q3⟩
  rintro r4 H8 ⟨s8, rf4, hP4⟩
  have G4 : LG (stepR c3 (cell ns m / 20)) := len_stepR G3
  clear q3 sB G3
  generalize stepR c3 (cell ns m / 20) = c4 at *
  have k12 := G4.fe.hi
  refine ⟨[_, _, _, _, _, _], rfl, ?_⟩
  refine ⟨_, rfl, _, _, rfl, rfl, ⟨by decide, by decide⟩, _, _, rfl, rfl, (show (0 : Int) < 2 by decide), rfl, _, rfl, ?_⟩
  rw [dec_int]
  refine ite2 (fun c => ?_) (fun c => ?_)
  · have c' : cell ns m / 20 / 24 % 2 = 1 := by simpa using c
    refine ⟨r4, rf4, c4, swp, rfl, hP4, by lia, (fun k hk H' s' Q' hq => ?_), fun D rg H' s' hP' => ⟨[_, _, _, _, _, _], rfl, _, rfl, q D rg H' (s8.trans s') (by unfold stepX; rw [if_pos c']; exact hP')⟩⟩
    refine ⟨_, _, rfl, SqT.of (s' _ _ (hP4.2 k hk)), rfl, _, _, rfl, _, _, rfl, rfl, keeps2 (by decide) (by decide), ?_⟩
    exact ⟨_, rfl, _, rfl, _, _, rfl, fun t H4 s4 p4 => hq t H4 s4 p4⟩
  · have c' : ¬ cell ns m / 20 / 24 % 2 = 1 := by simpa using c
    exact ⟨[_, _, _, _, _, _], rfl, _, rfl, q r4 rf4 H8 s8 (by unfold stepX; rw [if_neg c']; exact hP4)⟩
end
end FD
end
section
set_option maxRecDepth 100000
set_option linter.all false
namespace FD
open PySem L2 FF
abbrev sTurning : Stmt := top 39
abbrev sLed : Stmt := top 40

abbrev sWhole : Stmt := top 41
def turningBy (ns : List Int) (f : Nat) (far : Int) : Tn :=
  ⟨1 + (cell ns f % far - far / 2) * (cell ns (f + 1) % far - far / 2), cell ns f % far - far / 2, (1 - 2 * (cell ns (f + 2) % 2)) * (cell ns (f + 1) % far - far / 2), 1 - 2 * (cell ns (f + 2) % 2), cell ns (f + 3) % 10 ^ 30 - 10 ^ 29, cell ns (f + 2) / 2 % 10 ^ 30 - 10 ^ 29⟩
def TnA (H : Hp) (t : Addr) (T : Tn) : Prop := H t = some (.tup [.int T.a, .int T.b, .int T.c, .int T.d, .int T.e, .int T.f])
def TnB (T : Tn) : Prop := (-(10 ^ 30) ≤ T.a ∧ T.a ≤ 10 ^ 30) ∧ (-(10 ^ 30) ≤ T.b ∧ T.b ≤ 10 ^ 30) ∧ (-(10 ^ 30) ≤ T.c ∧ T.c ≤ 10 ^ 30) ∧ (-(10 ^ 30) ≤ T.d ∧ T.d ≤ 10 ^ 30) ∧ (-(10 ^ 30) ≤ T.e ∧ T.e ≤ 10 ^ 30) ∧ (-(10 ^ 30) ≤ T.f ∧ T.f ≤ 10 ^ 30)
theorem nr_co {p : Pt} (h : Nr p) : Co p := by
  obtain ⟨h1, h2⟩ := h
  unfold Co
  lia
def spTurning (K : PySem.W.Frag) : Sp := fun vs H Q _ => ∃ a ns f far, vs = [.ref a, .int ((f : Nat) : Int), .int far] ∧ Scr K H a ns ∧ 0 < far ∧ far ≤ 10 ^ 40 ∧ ∀ t H', Same H H' → TnA H' t (turningBy ns f far) → Q (.ref t) H'
def spWhole : Sp := fun vs H Q _ => ∃ i : Int, vs = [.int i] ∧ Q (.bl true) H
section
variable {P : Program} {w : World} {K : PySem.W.Frag} {mg : Str → Option Value} {base : Heap} {f : Addr} {fd : FuncData}
theorem scTurning : FnScope ["script", "first", "far", "s", "t", "sign", "e", "f"] ["script", "first", "far"] (defScope sTurning) := ⟨rfl, rfl, rfl, by decide +kernel, rfl, by decide +kernel, by decide +kernel⟩
theorem ok_turning (F : Fun K "_law_turning_by" "_law_turning_by" sTurning f fd) (cC : Cal P w K mg base 1 "_law_cell_at" ["script", "k"] (spCell K)) : FnOk P w K mg base CX0 2 f fd ["script", "first", "far"] (spTurning K) := by
  refine F.ok scTurning (fun vs H Q E h => ?_) (fun cdv A outer s H vs Q E hr h => ?_)
  · obtain ⟨a, ns, m, far, rfl, _⟩ := h
    rfl
  obtain ⟨a, ns, m, far, rfl, hS, f0, f40, q⟩ := h
  refine ⟨_, pss_cons (ps_set (i := 3) scTurning.nd rfl (Or.inl rfl) (pe_op op_sub (pe_op op_mod (pe_cal cC hr (by decide) rfl (pa_cons (pv 0) (pa_cons (pv 1) pa_nil))) (pv 2)) (pe_op op_fdiv (pv 2) pe_int)))
    (pss_cons (ps_set (i := 4) scTurning.nd rfl (Or.inl rfl) (pe_op op_sub (pe_op op_mod (pe_cal cC hr (by decide) rfl (pa_cons (pv 0) (pa_cons (pe_op op_add (pv 1) pe_int) pa_nil))) (pv 2)) (pe_op op_fdiv (pv 2) pe_int)))
    (pss_cons (ps_set (i := 5) scTurning.nd rfl (Or.inl rfl) (pe_op op_sub pe_int (pe_op op_mul pe_int (pe_op op_mod (pe_cal cC hr (by decide) rfl (pa_cons (pv 0) (pa_cons (pe_op op_add (pv 1) pe_int) pa_nil))) pe_int))))
    (pss_cons (ps_set (i := 6) scTurning.nd rfl (Or.inl rfl) (pe_op op_sub (pe_op op_mod (pe_cal cC hr (by decide) rfl (pa_cons (pv 0) (pa_cons (pe_op op_add (pv 1) pe_int) pa_nil))) (pe_op op_pow pe_int pe_int)) (pe_op op_pow pe_int pe_int)))
    (pss_cons (ps_set (i := 7) scTurning.nd rfl (Or.inl rfl) (pe_op op_sub (pe_op op_mod (pe_op op_fdiv (pe_cal cC hr (by decide) rfl (pa_cons (pv 0) (pa_cons (pe_op op_add (pv 1) pe_int) pa_nil))) pe_int) (pe_op op_pow pe_int pe_int)) (pe_op op_pow pe_int pe_int)))
    (pss_one (ps_ret (pe_tup (pa_cons (pe_op op_add pe_int (pe_op op_mulB (pv 3) (pv 4))) (pa_cons (pv 3) (pa_cons (pe_op op_mul (pv 5) (pv 4)) (pa_cons (pv 5) (pa_cons (pv 6) (pa_cons (pv 7) pa_nil))))))))))))), ?_⟩
  have e1 : ∀ j : Nat, ((m : Nat) : Int) + ((j : Nat) : Int) = ((m + j : Nat) : Int) := fun j => by lia
  have a1 := Int.emod_nonneg (cell ns m) (show far ≠ 0 by lia)
  have a2 := Int.emod_lt_of_pos (cell ns m) f0
  have b1 := Int.emod_nonneg (cell ns (m + 1)) (show far ≠ 0 by lia)
  have b2 := Int.emod_lt_of_pos (cell ns (m + 1)) f0
  have c1 := Int.emod_nonneg (cell ns (m + 2)) (show (2 : Int) ≠ 0 by decide)
  have c2 := Int.emod_lt_of_pos (cell ns (m + 2)) (show (0 : Int) < 2 by decide)
  refine ⟨_, rfl, _, rfl, a, ns, m, rfl, hS, _, rfl, _, _, rfl, rfl, f0, _, rfl, _, _, rfl, rfl, ⟨by decide, by decide⟩, _, _, rfl, rfl, ?_⟩
  refine ⟨_, rfl, _, rfl, _, _, rfl, rfl, a, ns, m + 1, by rw [← e1 1]; rfl, hS, _, rfl, _, _, rfl, rfl, f0, _, rfl, _, _, rfl, rfl, ⟨by decide, by decide⟩, _, _, rfl, rfl, ?_⟩
  refine ⟨_, rfl, _, rfl, _, _, rfl, rfl, a, ns, m + 2, by rw [← e1 2]; rfl, hS, _, _, rfl, rfl, (show (0 : Int) < 2 by decide), _, _, rfl, rfl, .inl ⟨by decide, by decide⟩, _, _, rfl, rfl, ?_⟩
  refine ⟨_, rfl, _, rfl, _, _, rfl, rfl, a, ns, m + 3, by rw [← e1 3]; rfl, hS, _, _, rfl, rfl, ⟨by decide, by decide, by decide⟩, _, _, rfl, rfl, (show (0 : Int) < 10 ^ 30 by decide), _, _, rfl, rfl, ⟨by decide, by decide, by decide⟩, _, _, rfl, rfl, ?_⟩
  refine ⟨_, rfl, _, rfl, _, _, rfl, rfl, a, ns, m + 2, by rw [← e1 2]; rfl, hS, _, _, rfl, rfl, ⟨by decide, by decide⟩, _, _, rfl, rfl, ⟨by decide, by decide, by decide⟩, _, _, rfl, rfl, (show (0 : Int) < 10 ^ 30 by decide), _, _, rfl, rfl, ⟨by decide, by decide, by decide⟩, _, _, rfl, rfl, ?_⟩
  have B1 : Big (cell ns m % far - far / 2) := big_of (by lia) (by lia)
  have B2 : Big (cell ns (m + 1) % far - far / 2) := big_of (by lia) (by lia)
  refine ⟨_, rfl, _, rfl, _, _, rfl, rfl, ⟨B1, B2⟩, _, _, rfl, rfl, _, rfl, _, rfl, _, rfl, _, _, rfl, rfl, .inl ⟨by lia, by lia⟩, _, rfl, _, rfl, _, rfl, by show 6 ≤ sizeLine; decide, fun t ht => ?_⟩
  exact q t _ (same_upd ht _) upd_same
theorem scLed : FnScope ["turning", "point", "a", "b", "c", "d", "e", "f"] ["turning", "point"] (defScope sLed) := ⟨rfl, rfl, rfl, by decide +kernel, rfl, by decide +kernel, by decide +kernel⟩
theorem scWhole : FnScope ["found"] ["found"] (defScope sWhole) := ⟨rfl, rfl, rfl, by decide +kernel, rfl, by decide +kernel, by decide +kernel⟩
theorem kit_int_int : PySem.W.kitOne K (.type "int") (.type "int") = some true := by unfold PySem.W.kitOne; exact if_pos (by decide)
theorem kit_int_bool : PySem.W.kitOne K (.type "int") (.type "bool") = some false := by unfold PySem.W.kitOne; rfl
theorem ok_whole {n : Nat} (F : Fun K "_law_whole" "_law_whole" sWhole f fd) (m1 : mg "isinstance" = none) (m2 : mg "int" = none) (m3 : mg "bool" = none) : FnOk P w K mg base CX0 (n + 1) f fd ["found"] spWhole := by
  refine F.ok scWhole (fun vs H Q E h => ?_) (fun cdv A outer s H vs Q E hr h => ?_)
  · obtain ⟨i, rfl, _⟩ := h
    rfl
  obtain ⟨i, rfl, q⟩ := h
  refine ⟨_, pss_one (ps_ret (pe_and (pe_callB (call_isinst (T := "int")) rfl m1 PyProof.Rows.boot_isinstance (pa_cons (pv 0) (pa_cons (pe_bltn (v := .ty "int") rfl m2 PyProof.Rows.boot_int rfl) pa_nil)))
    (pe_one (pe_not (pe_callB (call_isinst (T := "bool")) rfl m1 PyProof.Rows.boot_isinstance (pa_cons (pv 0) (pa_cons (pe_bltn (v := .ty "bool") rfl m3 PyProof.Rows.boot_bool rfl) pa_nil))))))), ?_⟩
  refine ⟨_, rfl, _, _, true, rfl, .int i, kit_int_int, _, rfl, iteT ?_⟩
  exact ⟨_, rfl, _, _, false, rfl, .int i, kit_int_bool, _, rfl, q⟩
end
end FD
end
section
set_option linter.all false
namespace FF
/-! the steps of a side, and of a rim -/
def gd (p q : Pt) : Int := (Int.gcd (q.1 - p.1) (q.2 - p.2) : Nat)
def pg (p : Pt) : List Pt → Pt → Int
  | [], f => gd p f
  | q :: r, f => gd p q + pg q r f
def rimS : List Pt → Int
  | [] => 0
  | c :: r => pg c r c
/-- a turning keeps the steps -/
theorem gcd_led {a b c d x y : Int} (h : a * d - b * c = 1 ∨ a * d - b * c = -1) : Int.gcd (a * x + b * y) (c * x + d * y) = Int.gcd x y := by
  apply Nat.dvd_antisymm
  · apply Int.dvd_gcd
    · have h1 : ((Int.gcd (a * x + b * y) (c * x + d * y) : Nat) : Int) ∣ (a * x + b * y) := Int.gcd_dvd_left ..
      have h2 : ((Int.gcd (a * x + b * y) (c * x + d * y) : Nat) : Int) ∣ (c * x + d * y) := Int.gcd_dvd_right ..
      have k1 : ((Int.gcd (a * x + b * y) (c * x + d * y) : Nat) : Int) ∣ d * (a * x + b * y) := Int.dvd_mul_of_dvd_right h1
      have k2 : ((Int.gcd (a * x + b * y) (c * x + d * y) : Nat) : Int) ∣ b * (c * x + d * y) := Int.dvd_mul_of_dvd_right h2
      have k := Int.dvd_sub k1 k2
      have e : d * (a * x + b * y) - b * (c * x + d * y) = (a * d - b * c) * x := by grind
      rw [e] at k
      rcases h with h | h
      · rw [h, Int.one_mul] at k; exact k
      · rw [h] at k
        have := Int.dvd_neg.mpr k
        rwa [show -(-1 * x) = x by lia] at this
    · have h1 : ((Int.gcd (a * x + b * y) (c * x + d * y) : Nat) : Int) ∣ (a * x + b * y) := Int.gcd_dvd_left ..
      have h2 : ((Int.gcd (a * x + b * y) (c * x + d * y) : Nat) : Int) ∣ (c * x + d * y) := Int.gcd_dvd_right ..
      have k1 : ((Int.gcd (a * x + b * y) (c * x + d * y) : Nat) : Int) ∣ a * (c * x + d * y) := Int.dvd_mul_of_dvd_right h2
      have k2 : ((Int.gcd (a * x + b * y) (c * x + d * y) : Nat) : Int) ∣ c * (a * x + b * y) := Int.dvd_mul_of_dvd_right h1
      have k := Int.dvd_sub k1 k2
      have e : a * (c * x + d * y) - c * (a * x + b * y) = (a * d - b * c) * y := by grind
      rw [e] at k
      rcases h with h | h
      · rw [h, Int.one_mul] at k; exact k
      · rw [h] at k
        have := Int.dvd_neg.mpr k
        rwa [show -(-1 * y) = y by lia] at this
  · have h1 : ((Int.gcd x y : Nat) : Int) ∣ x := Int.gcd_dvd_left ..
    have h2 : ((Int.gcd x y : Nat) : Int) ∣ y := Int.gcd_dvd_right ..
    apply Int.dvd_gcd
    · exact Int.dvd_add (Int.dvd_mul_of_dvd_right h1) (Int.dvd_mul_of_dvd_right h2)
    · exact Int.dvd_add (Int.dvd_mul_of_dvd_right h1) (Int.dvd_mul_of_dvd_right h2)
theorem gd_led {T : Tn} (h : T.det = 1 ∨ T.det = -1) (p q : Pt) : gd (T.led p) (T.led q) = gd p q := by
  unfold gd
  have e1 : (T.led q).1 - (T.led p).1 = T.a * (q.1 - p.1) + T.b * (q.2 - p.2) := by simp only [Tn.led]; grind
  have e2 : (T.led q).2 - (T.led p).2 = T.c * (q.1 - p.1) + T.d * (q.2 - p.2) := by simp only [Tn.led]; grind
  rw [e1, e2, gcd_led h]
theorem pg_map {g : Pt → Pt} {k : Int} (h : ∀ p q, gd (g p) (g q) = k * gd p q) : ∀ (r : List Pt) (p f : Pt), pg (g p) (r.map g) (g f) = k * pg p r f
  | [], p, f => h p f
  | x :: r, p, f => by
    show gd (g p) (g x) + pg (g x) (r.map g) (g f) = k * (gd p x + pg x r f)
    rw [h, pg_map h r x f, Int.mul_add]
theorem rim_map {g : Pt → Pt} {k : Int} (h : ∀ p q, gd (g p) (g q) = k * gd p q) : ∀ A : List Pt, rimS (A.map g) = k * rimS A
  | [] => by show (0 : Int) = k * 0; lia
  | a :: A => pg_map h A a a
theorem rim_led {T : Tn} (h : T.det = 1 ∨ T.det = -1) (A : List Pt) : rimS (A.map T.led) = rimS A := by
  rw [rim_map (k := 1) (fun p q => by rw [gd_led h, Int.one_mul]), Int.one_mul]
/-! the area and the rim are both even or both odd -/
end FF
end
section
set_option linter.all false
namespace FF
/-! sums by exclusive or -/
end FF
end
section
set_option linter.all false
namespace FF
/-! on a side, by numbers -/
/-! the sides that are met -/
end FF
end
section
set_option linter.all false
namespace FF
/-! a sum over the sides of a ring -/
def pc (F : Pt → Pt → Int) (p : Pt) : List Pt → Pt → Int
  | [], f => F p f
  | q :: r, f => F p q + pc F q r f
def cyc (F : Pt → Pt → Int) : List Pt → Int
  | [] => 0
  | c :: r => pc F c r c
theorem pc_gd : ∀ (r : List Pt) (p f : Pt), pc gd p r f = pg p r f
  | [], _, _ => rfl
  | x :: r, p, f => by show gd p x + pc gd x r f = gd p x + pg x r f; rw [pc_gd r x f]
theorem cyc_gd : ∀ A : List Pt, cyc gd A = rimS A
  | [] => rfl
  | c :: r => pc_gd r c c
end FF
end
section
set_option maxRecDepth 100000
set_option linter.all false
namespace FD
open PySem L2 FF
abbrev sWP : Stmt := top 12
abbrev sRim : Stmt := top 24
abbrev sInside : Stmt := top 25
theorem pc_sum (F : Pt → Pt → Int) : ∀ (r : List Pt) (p f : Pt), sumI ((List.range (r.length + 1)).map fun i => F (at' (p :: r) i) (if i = r.length then f else at' (p :: r) (i + 1))) = pc F p r f
  | [], p, f => by
    show F p f + 0 = F p f
    lia
  | x :: r, p, f => by
    have ih := pc_sum F r x f
    rw [List.length_cons, List.range_succ_eq_map, List.map_cons, List.map_map]
    show F (at' (p :: x :: r) 0) (if 0 = r.length + 1 then f else at' (p :: x :: r) (0 + 1)) + sumI _ = F p x + pc F x r f
    rw [if_neg (by lia), ← ih]
    congr 2
    apply List.map_congr_left
    intro i _
    show F (at' (x :: r) i) (if i + 1 = r.length + 1 then f else at' (x :: r) (i + 1)) = _
    by_cases c : i = r.length
    · rw [if_pos (by lia), if_pos c]
    · rw [if_neg (by lia), if_neg c]
theorem cyc_sum (F : Pt → Pt → Int) {cs : List Pt} (h : 1 ≤ cs.length) : sumI ((List.range cs.length).map fun i => F (at' cs i) (at' cs (nx cs.length i))) = cyc F cs := by
  match cs, h with
  | c :: r, _ =>
    have := pc_sum F r c c
    rw [show cyc F (c :: r) = pc F c r c from rfl, ← this, List.length_cons]
    congr 1
    apply List.map_congr_left
    intro i hi
    have hi := List.mem_range.mp hi
    unfold nx
    by_cases e : i = r.length
    · rw [if_pos (by lia), if_pos e]; rfl
    · rw [if_neg (by lia), if_neg e]
def spWP : Sp := fun vs H Q _ => ∃ a b pa pb, vs = [.ref a, .ref b] ∧ PtA H a pa ∧ PtA H b pb ∧ Q (.int (gd pa pb)) H
def spRim : Sp := fun vs H Q _ => ∃ l rf cs, vs = [.ref l] ∧ PLs H l rf cs ∧ AllCo cs ∧ Fence cs ∧ ∀ H', Same H H' → Q (.int (rimS cs)) H'
def inN (cs : List Pt) : Int := ((if area cs < 0 then - area cs else area cs) + 2 - rimS cs) / 2
def spInside : Sp := fun vs H Q _ => ∃ l rf cs, vs = [.ref l] ∧ PLs H l rf cs ∧ AllCo cs ∧ Fence cs ∧ ∀ H', Same H H' → Q (.int (inN cs)) H'
theorem gcd_abs (x y : Int) : Int.gcd (if x < 0 then -x else x) (if y < 0 then -y else y) = Int.gcd x y := by
  show Nat.gcd _ _ = Nat.gcd _ _
  have e1 : (if x < 0 then -x else x).natAbs = x.natAbs := by split <;> lia
  have e2 : (if y < 0 then -y else y).natAbs = y.natAbs := by split <;> lia
  rw [e1, e2]
theorem gcd_turn {x y : Int} (hx : 0 ≤ x) (hy : 0 < y) : Int.gcd y (x % y) = Int.gcd x y := by
  obtain ⟨a, rfl⟩ := Int.eq_ofNat_of_zero_le hx
  obtain ⟨b, rfl⟩ := Int.eq_ofNat_of_zero_le (Int.le_of_lt hy)
  show Nat.gcd b ((a : Int) % (b : Int)).natAbs = Nat.gcd a b
  rw [← Int.natCast_emod, Int.natAbs_natCast, Nat.gcd_comm b, Nat.gcd_comm a, ← Nat.gcd_rec]
section
variable {P : Program} {w : World} {K : PySem.W.Frag} {mg : Str → Option Value} {base : Heap} {f : Addr} {fd : FuncData}
theorem scWP : FnScope ["start", "end", "one", "other", "rest"] ["start", "end"] (defScope sWP) := ⟨rfl, rfl, rfl, by decide +kernel, rfl, by decide +kernel, by decide +kernel⟩
theorem ok_wp {n : Nat} (F : Fun K "whole_points" "whole_points" sWP f fd) (m_abs : mg "abs" = none) : FnOk P w K mg base CX0 (n + 1) f fd ["start", "end"] spWP := by
  refine F.ok scWP (fun vs H Q E h => ?_) (fun cdv A outer s H vs Q E hr h => ?_)
  · obtain ⟨_, _, _, _, rfl, _⟩ := h; rfl
  obtain ⟨a, b, pa, pb, rfl, ha, hb, q⟩ := h
  refine ⟨_, pss_cons (ps_set (i := 2) scWP.nd rfl (Or.inl rfl) (pe_callB call_abs rfl m_abs PyProof.Rows.boot_abs (pa_cons (pe_op op_sub (pe_ix ix_tup (pv 1) pe_int (fun _ _ => rfl)) (pe_ix ix_tup (pv 0) pe_int (fun _ _ => rfl))) pa_nil)))
    (pss_cons (ps_set (i := 3) scWP.nd rfl (Or.inl rfl) (pe_callB call_abs rfl m_abs PyProof.Rows.boot_abs (pa_cons (pe_op op_sub (pe_ix ix_tup (pv 1) pe_int (fun _ _ => rfl)) (pe_ix ix_tup (pv 0) pe_int (fun _ _ => rfl))) pa_nil)))
    (pss_cons (ps_while PassesOwn.never (pt_cmpR op_gt (pv 3) pe_int (nomark _)) (pss_cons (ps_set (i := 4) scWP.nd rfl (Or.inl rfl) (pe_op op_mod (pv 2) (pv 3)))
      (pss_cons (ps_set (i := 2) scWP.nd rfl (Or.inl rfl) (pv 3))
      (pss_one (ps_set (i := 3) scWP.nd rfl (Or.inl rfl) (pv 4))))))
    (pss_one (ps_ret (pv 2))))), ?_⟩
  refine ⟨_, rfl, b, _, _, _, rfl, rfl, SqT.of hb, at0, _, rfl, a, _, _, _, rfl, rfl, SqT.of ha, at0, _, _, rfl, rfl, _, rfl, ?_⟩
  refine ⟨_, rfl, b, _, _, _, rfl, rfl, SqT.of hb, at1, _, rfl, a, _, _, _, rfl, rfl, SqT.of ha, at1, _, _, rfl, rfl, _, rfl, ?_⟩
  refine while_by (fun σ H' => H' = H ∧ ∃ (x y : Int) (x4 : Option V), σ = [some (.ref a), some (.ref b), some (.int x), some (.int y), x4] ∧ 0 ≤ x ∧ 0 ≤ y ∧ ((Int.gcd x y : Nat) : Int) = gd pa pb)
    (fun σ _ => match σ with | [_, _, _, some (.int y), _] => y.toNat | _ => 0) ⟨rfl, _, _, none, rfl, by split <;> lia, by split <;> lia, ?_⟩ ?_ (fun σ H Q Q' hQ hc => ?_)
  · rw [gcd_abs]; rfl
  · rintro σ H' ⟨rfl, x, y, x4, rfl, hx, hy, e⟩
    refine ⟨_, rfl, _, _, rfl, rfl, _, rfl, ?_⟩
    refine ite2 (fun c => ?_) (fun c => ?_)
    · have c' := of_decide_eq_true c
      have hy0 : 0 < y := c'
      refine ⟨_, rfl, _, rfl, _, _, rfl, rfl, hy0, ?_⟩
      refine ⟨_, rfl, ?_⟩
      refine ⟨_, rfl, ?_⟩
      have m0 := Int.emod_nonneg x (show y ≠ 0 by lia)
      have m1 := Int.emod_lt_of_pos x hy0
      refine ⟨⟨rfl, y, x % y, _, rfl, hy, m0, by rw [gcd_turn hx hy0]; exact e⟩, ?_⟩
      show (x % y).toNat < y.toNat
      lia
    · have c' : ¬ _ := fun z => c (decide_eq_true z)
      have y0 : y = 0 := by lia
      subst y0
      have e0 : gd pa pb = x := by
        rw [← e, Int.gcd_zero_right]; lia
      rw [e0] at q
      exact ⟨_, rfl, q⟩
  · obtain ⟨x, e, i, j, e1, e2, k, e3, h⟩ := hc
    exact ⟨x, e, i, j, e1, e2, k, e3, hQ _ _ h⟩
theorem scRim : FnScope ["corners"] ["corners"] (defScope sRim) := ⟨rfl, rfl, rfl, by decide +kernel, rfl, by decide +kernel, by decide +kernel⟩
theorem ok_rim (F : Fun K "rim" "rim" sRim f fd) (c_refuse_no_fence : Cal P w K mg base 6 "refuse_no_fence" ["corners"] spRefuse) (c_sides_of : Cal P w K mg base 1 "sides_of" ["corners"] spSides) (c_whole_points : Cal P w K mg base 1 "whole_points" ["start", "end"] spWP) (m_sum : mg "sum" = none) : FnOk P w K mg base CX0 7 f fd ["corners"] spRim := by
  refine F.ok scRim (fun vs H Q E h => ?_) (fun cdv A outer s H vs Q E hr h => ?_)
  · obtain ⟨_, _, _, rfl, _⟩ := h; rfl
  obtain ⟨l, rf, cs, rfl, hp, co, fe, q⟩ := h
  refine ⟨_, pss_cons (ps_expr (pe_cal c_refuse_no_fence hr (by decide) rfl (pa_cons (pv 0) pa_nil)))
    (pss_one (ps_ret (pe_callB (call_sum_ints rfl) rfl m_sum PyProof.Rows.boot_sum (pa_cons (pe_compS (N' := ["start", "end"]) (own := 2) (caps := []) rfl (CompScope.of (sc := defScope sRim) (N0 := ["corners"]) rfl rfl (by decide +kernel)) (pi_list (pe_cal c_sides_of hr (by decide) rfl (pa_cons (pv 0) pa_nil))) (fun C cl fp pins s₂ H₂ => (pgC_tup (n := 2) rfl (pgs_cons (pg_name (i := 0) nd_se rfl (Or.inl rfl)) (pgs_cons (pg_name (i := 1) nd_se rfl (Or.inl rfl)) pgs_nil)))) (fun C cl fp pins s₂ H₂ => pfs_nil) (fun C cl fp pins s₂ H₂ => (pe_cal c_whole_points hr (by decide) rfl (pa_cons (pv 0) (pa_cons (pv 1) pa_nil))))) pa_nil)))), ?_⟩
  have l3 := fe.lo
  have l12 := fe.hi
  refine ⟨_, rfl, l, rf, cs, rfl, hp, co, fe, fun H0 s0 => ?_⟩
  refine ⟨_, rfl, l, rf, cs, rfl, hp.mono s0, by lia, by lia, fun r ts H1 s1 hS1 => ?_⟩
  refine ⟨r, rfl, ⟨_, SqL.of hS1.1⟩, ?_⟩
  have pP : ∀ k, k < cs.length → PtA H1 (rf k) (at' cs k) := fun k hk => s1 _ _ (s0 _ _ (hp.2 k hk))
  refine ⟨cs.length, fun i ys H' => H' = H1 ∧ ys = (List.range i).map fun i => V.int (gd (at' cs i) (at' cs (nx cs.length i))), small (by lia), ⟨rfl, rfl⟩, fun ys H' hW => ⟨⟨refs cs.length ts, by rw [hW.1]; exact SqL.of hS1.1, by rw [refs_len]; exact Nat.le_refl _⟩, fun D hD => ?_⟩,
    fun i ys H' hi hW => ⟨⟨refs cs.length ts, _, by rw [hW.1]; exact SqL.of hS1.1, refs_get hi⟩, fun x H2 hy => ?_⟩⟩
  · obtain ⟨rfl, rfl⟩ := hW
    refine ⟨D, (List.range cs.length).map fun i => gd (at' cs i) (at' cs (nx cs.length i)), rfl, ?_, ?_⟩
    · rw [List.map_map]; exact SqL.of upd_same
    · rw [cyc_sum gd (by lia), cyc_gd]
      exact q _ ((s0.trans s1).trans (same_upd hD _))
  · obtain ⟨rfl, rfl⟩ := hW
    obtain ⟨rfl, hy⟩ := hy
    obtain ⟨_, rfl⟩ := refs_get' (hy _ (SqL.of hS1.1))
    have t1 := hS1.2 i hi
    refine ⟨_, _, rfl, SqT.of t1, rfl, _, _, rfl, _, _, rfl, rfl, keeps2 (by decide) (by decide), ?_⟩
    refine iteT ?_
    refine ⟨_, rfl, _, rfl, _, _, _, _, rfl, pP _ hi, pP _ (nx_lt hi), rfl, ?_⟩
    rw [List.range_succ, List.map_append]; rfl
theorem scInside : FnScope ["corners"] ["corners"] (defScope sInside) := ⟨rfl, rfl, rfl, by decide +kernel, rfl, by decide +kernel, by decide +kernel⟩
theorem ok_inside (F : Fun K "inside" "inside" sInside f fd) (c_double_area : Cal P w K mg base 7 "double_area" ["corners"] spArea) (c_rim : Cal P w K mg base 7 "rim" ["corners"] spRim) : FnOk P w K mg base CX0 8 f fd ["corners"] spInside := by
  refine F.ok scInside (fun vs H Q E h => ?_) (fun cdv A outer s H vs Q E hr h => ?_)
  · obtain ⟨_, _, _, rfl, _⟩ := h; rfl
  obtain ⟨l, rf, cs, rfl, hp, co, fe, q⟩ := h
  refine ⟨_, pss_one (ps_ret (pe_op op_fdiv (pe_op op_sub (pe_op op_add (pe_cal c_double_area hr (by decide) rfl (pa_cons (pv 0) pa_nil)) pe_int) (pe_cal c_rim hr (by decide) rfl (pa_cons (pv 0) pa_nil))) pe_int)), ?_⟩
  refine ⟨_, rfl, l, rf, cs, rfl, hp, co, fe, fun H1 s1 => ⟨_, _, rfl, rfl, ?_⟩⟩
  refine ⟨_, rfl, l, rf, cs, rfl, hp.mono s1, co, fe, fun H2 s2 => ⟨_, _, rfl, rfl, _, _, rfl, rfl, ⟨by decide, by decide⟩, ?_⟩⟩
  exact q H2 (s1.trans s2)
end
end FD
end
section
set_option linter.all false
namespace FF
/-! on a side, under a side -/
/-! columns -/
end FF
end
section
set_option linter.all false
namespace FF
/-! how many whole points on a side -/
/-! one strip -/
variable {c d : Col} {x y : Int}
end FF
end
section
set_option linter.all false
namespace FF
variable {c d : Col} {x y : Int}
/-! column after column -/
end FF
end
section
set_option linter.all false
namespace FF
/-! the points of any ring in a field -/
variable {c d : Col}
end FF
end
section
set_option linter.all false
namespace FF
end FF
end
section
set_option linter.all false
namespace FF
end FF
end
section
set_option linter.all false
namespace FF
end FF
end
section
set_option linter.all false
namespace FF
/-! the spiral -/
end FF
end
section
set_option linter.all false
namespace FF
end FF
end
section
set_option linter.all false
namespace FF
/-! a row of a fence -/
/-! the sides by places -/
end FF
end
section
set_option linter.all false
namespace FF
/-! made wider, made higher -/
end FF
end
section
set_option linter.all false
namespace FF
/-! the sum over a row -/
end FF
end
section
set_option maxRecDepth 100000
set_option linter.all false
namespace L2
open PySem PySem.Spec PyProof.Rows
section
variable {X : Cx}
/-! ### a point in a list of points -/
/-! ### a point != a point -/
/-! ### the least and the greatest of a list of ints -/
/-! ### list.insert at a place within -/
end
end L2
end
section
set_option linter.all false
set_option maxRecDepth 100000
namespace L2
open PySem PySem.Spec PyProof.Rows

end L2

namespace L2
open PySem PySem.Spec PyProof.Rows

section
variable (P : Program) (w : World)
end

section
variable {P : Program} {w : World} {H H' : Hp} {h h' : Heap} {a : Addr} {o : HO}
end

section
variable {P : Program} {w : World} {H : Hp} {h h' : Heap} {x e : Addr} {o' : HO}
end

section
variable {fs fs' ex ex' : List Addr} {H H1 H2 : Hp} {h h1 h2 h' : Heap} {a x e : Addr} {o : HO}
end

end L2

namespace L2
open PySem PySem.Spec PyProof.Rows

section
variable {X : Cx} {pins : List (Addr × Obj)} {σ : List (Option V)} {H H' : Hp} {s : Shared} {h' : Heap}

end

end L2

namespace L2
open PySem PySem.Spec PyProof.Rows
section
variable {X : Cx}

variable {a b : Expr} {ta tb : TE} {pos : Pos}
variable {tA tB' : TT} {rest : List Expr}
end
end L2

namespace L2
open PySem PySem.Spec PyProof.Rows

section
variable {X : Cx} {pins : List (Addr × Obj)} {σ : St} {H : Hp} {s : Shared} {a : Addr} {xs ys : List V}
end

section
variable {X : Cx} {pins : List (Addr × Obj)} {σ : St} {H : Hp} {s : Shared} {E : Value → Shared → Prop}
end

section
variable {X : Cx} {st : Stmt} {rest : List Stmt} {t u : TS} {e : Expr} {te : TE} {pos : Pos}
end

section
variable {X : Cx} {pos : Pos}
end

section
variable {X : Cx} {pos : Pos}
end

end L2

namespace L2
open PySem PySem.Spec PyProof.Rows
section
variable {X : Cx} {tg : Expr}
end

end L2

namespace L2
open PySem PySem.Spec PyProof.Rows

section
variable {X : Cx} {a b c : Expr} {ta tb tc : TE} {pos : Pos}

end

section
variable {X : Cx} {a b c : Expr} {ta tb tc : TE} {pos : Pos}
end
end L2

namespace L2
open PySem PySem.Spec PyProof.Rows

section
variable {prog : Program} {w : World} {A : Around} {E : Value → Shared → Prop} {s : Shared} {K : PySem.W.Frag} {x dx C f : Addr} {mA : Str → Option Value} {name : Str} {v : Value}

end

section
variable {P : Program} {w : World} {H H' : Hp} {h h' : Heap} {a C dx : Addr} {fs fs' : List (Str × V)}
end

section
variable {X : Cx} {pins : List (Addr × Obj)} {σ : St} {H : Hp} {s : Shared} {a C dx : Addr} {fs : List (Str × V)} {f : Str} {v : V} {A : Around} {E : Value → Shared → Prop}

end

section
variable {X : Cx} {o e value : Expr} {f : Str} {pos pos' tpos : Pos} {ta tv : TE}
end

section
variable {X : Cx} {pins : List (Addr × Obj)} {σ : St} {H : Hp} {s : Shared} {A : Around} {E : Value → Shared → Prop} {Q : Value → Shared → Prop} {c : Value} {b : Bool}
end
end L2

namespace L2
open PySem PySem.Spec PyProof.Rows

section
variable {X : Cx} {e : Expr} {es : List Expr} {te : TE} {t : TA} {pos : Pos}
end

section
variable {X : Cx} {pins : List (Addr × Obj)} {σ : St} {H : Hp} {s s' : Shared}
end

section
variable {X : Cx} {CX : CXT} {k : Nat} {f C : Addr} {fd : FuncData} {ps : List Str} {sp : Sp} {dvs : List V} {ds : List Value} {E : XK} {x m : Str} {p pos apos : Pos} {e o : Expr} {es : List Expr} {ta : TE} {t : TA}

end

section
variable {X : Cx} {CX : CXT} {k : Nat} {f C : Addr} {fd : FuncData} {ps ks : List Str} {sp : Sp} {E : XK} {x m : Str} {p pos apos kpos : Pos} {e o : Expr} {es : List Expr} {kws : List Keyword} {te ta : TE} {t tk : TA} {nm : Option Str}
variable {g : List Value → List Value → List Value} {gV : List V → List V → List V}
end

end L2

namespace L2
open PySem PySem.Spec PyProof.Rows
section
variable {X : Cx} {x : Str} {p pos : Pos} {e : Expr} {es : List Expr} {t : TA} {id T : String} {r : List V → Hp → VK → Prop}

end
end L2

namespace L2
open PySem PySem.Spec PyProof.Rows

section
variable {κ : Type} [DecidableEq κ]
end


section
variable {P : Program} {w : World} {H : Hp} {h : Heap} {a : Addr}
end

section
variable {X : Cx} {pins : List (Addr × Obj)} {σ : St} {H : Hp} {s : Shared} {a : Addr} {y v : V} {u r : Value} {o : Option V} {A : Around} {E : Value → Shared → Prop}

end

section
variable {X : Cx} {pins : List (Addr × Obj)} {σ : St} {H : Hp} {s : Shared} {a : Addr} {kvs : List (Key × V)} {k : Key} {u : Value} {A : Around} {E : Value → Shared → Prop}
end


section
variable {X : Cx} {o i e value : Expr} {pos pos' tpos : Pos} {td ty tv : TE}
end


section
variable {X : Cx} {pos : Pos}
end

section
variable {X : Cx} {pins : List (Addr × Obj)} {σ : St} {H : Hp} {s : Shared} {a : Addr} {y d : V} {u r : Value} {o : Option V} {A : Around} {E : Value → Shared → Prop}
end

section
variable {X : Cx} {o e f : Expr} {apos cpos : Pos} {td ty tx : TE}
end

section
variable {X : Cx} {pins : List (Addr × Obj)} {σ : St} {H : Hp} {s : Shared} {a : Addr} {kvs : List (Key × V)} {A : Around} {E : Value → Shared → Prop}
end


section
variable {X : Cx} {pins : List (Addr × Obj)} {σ : St} {H : Hp} {s : Shared} {a : Addr} {y : V} {u : Value} {A : Around} {E : Value → Shared → Prop}
end
end L2

namespace Att
open PySem PySem.W PySem.Calls PyProof.Rows

section
variable {prog : Program} {w : World} {A : Around} {E : Value → Shared → Prop} {s : Shared} {K : Frag}

end
end Att

namespace L2
open PySem PySem.Spec PyProof.Rows

end L2

namespace L2
open PySem PySem.Spec PyProof.Rows

end L2

/- THE LAST THEOREM (shape; LID, My.* are yours):
   My.Adr: a structure of the addresses that your layer names (classes, functions); My.Txt K t: a structure (Prop) of the equations over K;
   My.txt_mk : {K} {implicit addresses ..} (e1 : nsIn K mainGlobals "law" = some (some (.ref f))) (e2 : K.lookup f = some ⟨oc, od, .func (fnOf "law" "law" params body scope dV kV doc pm an cdv ct), sl⟩) (e3 : codeIn K cdv "law" = true) .. : ∃ t, My.Txt K t

(the tactic k_is has no namespace: write k_is) -/

namespace L2
open PySem PySem.Spec PyProof.Rows

section
variable {P : Program} {w : World} {K : PySem.W.Frag} {mg : Str → Option Value} {base : Heap}
end
section
variable {X : Cx}
end

section
variable {κ : Type} [DecidableEq κ]
end
end L2
end
section
set_option maxRecDepth 100000
set_option linter.all false
namespace FD
open PySem L2 FF


section
variable {P : Program} {w : World} {K : PySem.W.Frag} {mg : Str → Option Value} {base : Heap} {f : Addr} {fd : FuncData}
end
/-! [.. for .. in points], ints -/
/-! min([one[c] for one in corners]) and max -/
/-! the counts by places -/
end FD
end
section
set_option linter.all false
namespace FF
/-! ### rows of the same corners, from another corner on -/
/-! ### the turning that leads three points -/
/-! ### a fence bends -/
end FF
end
section
set_option maxRecDepth 100000
set_option linter.all false
namespace L2
open PySem PySem.Spec PyProof.Rows
section
variable {X : Cx}
/-! ### None in a list of tuples -/
/-! ### a, b, .. = a list -/
end
end L2
end
section
set_option maxRecDepth 100000
set_option linter.all false
namespace L2
open PySem PySem.Spec PyProof.Rows
end L2
end
section
set_option maxRecDepth 100000
set_option linter.all false
namespace L2
open PySem PySem.Spec PyProof.Rows
end L2
namespace FD
open PySem L2 FF




abbrev sIsT : Stmt := top 28
abbrev sLedPt : Stmt := top 30
abbrev sLedL : Stmt := top 29

/-! ### a list of rows of points -/
def TnBig (T : Tn) : Prop := Sm (10 ^ 200) T.a ∧ Sm (10 ^ 200) T.b ∧ Sm (10 ^ 200) T.c ∧ Sm (10 ^ 200) T.d ∧ Sm (10 ^ 200) T.e ∧ Sm (10 ^ 200) T.f
def isT (T : Tn) : Bool := decide (T.det = 1 ∨ T.det = -1)
def spIsT : Sp := fun vs H Q _ => ∃ t T, vs = [.ref t] ∧ TnA H t T ∧ TnBig T ∧ Q (.bl (isT T)) H
def spLedPt : Sp := fun vs H Q _ => ∃ tu pt T p, vs = [.ref pt, .ref tu] ∧ TnA H tu T ∧ PtA H pt p ∧ TnBig T ∧ Co p ∧ ∀ t H', Same H H' → PtA H' t (T.led p) → Q (.ref t) H'
def spLedL : Sp := fun vs H Q _ => ∃ l rf cs tu T, vs = [.ref l, .ref tu] ∧ PLs H l rf cs ∧ AllCo cs ∧ cs.length ≤ 400 ∧ TnA H tu T ∧ TnBig T ∧ ∀ r rg H', Same H H' → PLs H' r rg (cs.map T.led) → Q (.ref r) H'
theorem sm_big {i : Int} (h : Sm (10 ^ 200) i) : Big i := by unfold Sm at h; unfold Big; constructor <;> (have e : (10 : Int) ^ 200 < 2 ^ 1000 := by decide +kernel); all_goals (generalize (10 : Int) ^ 200 = a at *; generalize (2 : Int) ^ 1000 = b at *; lia)
section
variable {P : Program} {w : World} {K : PySem.W.Frag} {mg : Str → Option Value} {base : Heap} {f : Addr} {fd : FuncData}
end
end FD
end
section
set_option maxRecDepth 100000
set_option linter.all false
namespace FD
open PySem L2 FF
theorem t6_0 {a b c d e g : V} : atI [a, b, c, d, e, g] 0 = some a := rfl
theorem t6_1 {a b c d e g : V} : atI [a, b, c, d, e, g] 1 = some b := rfl
theorem t6_2 {a b c d e g : V} : atI [a, b, c, d, e, g] 2 = some c := rfl
theorem t6_3 {a b c d e g : V} : atI [a, b, c, d, e, g] 3 = some d := rfl
theorem t6_4 {a b c d e g : V} : atI [a, b, c, d, e, g] 4 = some e := rfl
theorem t6_5 {a b c d e g : V} : atI [a, b, c, d, e, g] 5 = some g := rfl
theorem abs_one {x : Int} : ((if x < 0 then -x else x) = 1) ↔ (x = 1 ∨ x = -1) := by split <;> lia
section
variable {P : Program} {w : World} {K : PySem.W.Frag} {mg : Str → Option Value} {base : Heap} {f : Addr} {fd : FuncData}
theorem scIsT : FnScope ["turning"] ["turning"] (defScope sIsT) := ⟨rfl, rfl, rfl, by decide +kernel, rfl, by decide +kernel, by decide +kernel⟩
theorem ok_isT {n : Nat} (F : Fun K "is_turning" "is_turning" sIsT f fd) (m_abs : mg "abs" = none) : FnOk P w K mg base CX0 (n + 1) f fd ["turning"] spIsT := by
  refine F.ok scIsT (fun vs H Q E h => ?_) (fun cdv A outer s H vs Q E hr h => ?_)
  · obtain ⟨_, _, rfl, _⟩ := h; rfl
  obtain ⟨t, T, rfl, hT, bT, q⟩ := h
  refine ⟨_, pss_one (ps_ret (pe_cmpR op_eq (pe_callB call_abs rfl m_abs PyProof.Rows.boot_abs (pa_cons (pe_op op_subR (pe_op op_mulBR (pe_ix ix_tup (pv 0) pe_int (fun _ _ => rfl)) (pe_ix ix_tup (pv 0) pe_int (fun _ _ => rfl))) (pe_op op_mulBR (pe_ix ix_tup (pv 0) pe_int (fun _ _ => rfl)) (pe_ix ix_tup (pv 0) pe_int (fun _ _ => rfl)))) pa_nil)) pe_int (nomark _))), ?_⟩
  obtain ⟨h1, h2, h3, h4, h5, h6⟩ := bT
  refine ⟨_, rfl, _, _, _, _, rfl, rfl, SqT.of hT, t6_0, _, rfl, _, _, _, _, rfl, rfl, SqT.of hT, t6_3, _, _, rfl, rfl, ⟨sm_big h1, sm_big h4⟩, _, rfl, _, _, _, _, rfl, rfl, SqT.of hT, t6_1, _, rfl, _, _, _, _, rfl, rfl, SqT.of hT, t6_2, _, _, rfl, rfl, ⟨sm_big h2, sm_big h3⟩, _, _, rfl, rfl, _, rfl, rfl, ?_⟩
  have e : decide (V.int (if T.a * T.d - T.b * T.c < 0 then -(T.a * T.d - T.b * T.c) else T.a * T.d - T.b * T.c) = V.int 1) = isT T := by
    unfold isT Tn.det
    rw [decide_eq_decide, ← abs_one]
    constructor
    · intro h; injection h
    · intro h; rw [h]
  rw [e]
  exact q
theorem scLedPt : FnScope ["point", "turning", "x", "y"] ["point", "turning"] (defScope sLedPt) := ⟨rfl, rfl, rfl, by decide +kernel, rfl, by decide +kernel, by decide +kernel⟩
theorem ok_ledPt {n : Nat} (F : Fun K "led_point" "led_point" sLedPt f fd) : FnOk P w K mg base CX0 (n + 1) f fd ["point", "turning"] spLedPt := by
  refine F.ok scLedPt (fun vs H Q E h => ?_) (fun cdv A outer s H vs Q E hr h => ?_)
  · obtain ⟨_, _, _, _, rfl, _⟩ := h; rfl
  obtain ⟨tu, pt, T, p, rfl, hT, hP, bT, cP, q⟩ := h
  refine ⟨_, pss_consN (ps_set (i := 2) scLedPt.nd rfl (Or.inl rfl) (pe_op op_addR (pe_op op_addR (pe_op op_mulBR (pe_ix ix_tup (pv 1) pe_int (fun _ _ => rfl)) (pe_ix ix_tup (pv 0) pe_int (fun _ _ => rfl))) (pe_op op_mulBR (pe_ix ix_tup (pv 1) pe_int (fun _ _ => rfl)) (pe_ix ix_tup (pv 0) pe_int (fun _ _ => rfl)))) (pe_ix ix_tup (pv 1) pe_int (fun _ _ => rfl))))
    (pss_consN (ps_set (i := 3) scLedPt.nd rfl (Or.inl rfl) (pe_op op_addR (pe_op op_addR (pe_op op_mulBR (pe_ix ix_tup (pv 1) pe_int (fun _ _ => rfl)) (pe_ix ix_tup (pv 0) pe_int (fun _ _ => rfl))) (pe_op op_mulBR (pe_ix ix_tup (pv 1) pe_int (fun _ _ => rfl)) (pe_ix ix_tup (pv 0) pe_int (fun _ _ => rfl)))) (pe_ix ix_tup (pv 1) pe_int (fun _ _ => rfl))))
    (pss_one (ps_ret (pe_pt (pa_cons (pv 2) (pa_cons (pv 3) pa_nil)))))), ?_⟩
  obtain ⟨h1, h2, h3, h4, h5, h6⟩ := bT
  have x1 : Big p.1 := big_of (by have := cP.1; lia) (by have := cP.1; lia)
  have x2 : Big p.2 := big_of (by have := cP.2; lia) (by have := cP.2; lia)
  refine ⟨_, rfl, _, _, _, _, rfl, rfl, SqT.of hT, t6_0, _, rfl, _, _, _, _, rfl, rfl, SqT.of hP, at0, _, _, rfl, rfl, ⟨sm_big h1, x1⟩, _, rfl, _, _, _, _, rfl, rfl, SqT.of hT, t6_1, _, rfl, _, _, _, _, rfl, rfl, SqT.of hP, at1, _, _, rfl, rfl, ⟨sm_big h2, x2⟩, _, _, rfl, rfl, _, rfl, _, _, _, _, rfl, rfl, SqT.of hT, t6_4, _, _, rfl, rfl, [_, _, _, _], rfl, ?_⟩
  refine ⟨_, rfl, _, _, _, _, rfl, rfl, SqT.of hT, t6_2, _, rfl, _, _, _, _, rfl, rfl, SqT.of hP, at0, _, _, rfl, rfl, ⟨sm_big h3, x1⟩, _, rfl, _, _, _, _, rfl, rfl, SqT.of hT, t6_3, _, rfl, _, _, _, _, rfl, rfl, SqT.of hP, at1, _, _, rfl, rfl, ⟨sm_big h4, x2⟩, _, _, rfl, rfl, _, rfl, _, _, _, _, rfl, rfl, SqT.of hT, t6_5, _, _, rfl, rfl, [_, _, _, _], rfl, ?_⟩
  exact ⟨_, rfl, _, rfl, _, _, rfl, fun t H' s' h' => q t H' s' h'⟩
theorem scLedL : FnScope ["points", "turning"] ["points", "turning"] (defScope sLedL) := ⟨rfl, rfl, rfl, by decide +kernel, rfl, by decide +kernel, by decide +kernel⟩
theorem nd_point_turning : (["point", "turning"] : List Str).Nodup := by decide +kernel
theorem ok_ledL (F : Fun K "led" "led" sLedL f fd) (cL : Cal P w K mg base 1 "led_point" ["point", "turning"] spLedPt) : FnOk P w K mg base CX0 2 f fd ["points", "turning"] spLedL := by
  refine F.ok scLedL (fun vs H Q E h => ?_) (fun cdv A outer s H vs Q E hr h => ?_)
  · obtain ⟨_, _, _, _, _, rfl, _⟩ := h; rfl
  obtain ⟨l, rf, cs, tu, T, rfl, hp, co, n4, hT, bT, q⟩ := h
  refine ⟨_, pss_one (ps_ret (pe_weak (pe_compS (N' := ["point", "turning"]) (own := 1) (caps := [1]) rfl (CompScope.of (sc := defScope sLedL) (N0 := ["points", "turning"]) rfl rfl (by decide +kernel)) (pi_list (pv 0)) (fun C cl fp pins s₂ H₂ => (pg_name (i := 0) nd_point_turning rfl (Or.inl rfl))) (fun C cl fp pins s₂ H₂ => pfs_nil) (fun C cl fp pins s₂ H₂ => (pe_cal cL hr (by decide) rfl (pa_cons (pv 0) (pa_cons (pv 1) pa_nil))))) (pts_weak gm_name))), ?_⟩
  exact ⟨l, rf, cs, T.led, rfl, hp, n4, (fun k hk H' s' Q' hq => ⟨keeps1 (by decide), _, rfl, _, rfl, tu, _, T, _, rfl, s' _ _ hT, s' _ _ (hp.2 k hk), bT, co k hk, fun t H4 s4 h4 => hq t H4 s4 h4⟩), fun D rg H' s' h' => q D rg H' s' h'⟩
end
end FD
end
section
set_option maxRecDepth 100000
set_option linter.all false
namespace FD
open PySem L2 FF



/-- the law's rows -/
def spLedB : Sp := fun vs H Q _ => ∃ tu pt T p, vs = [.ref tu, .ref pt] ∧ TnA H tu T ∧ PtA H pt p ∧ TnBig T ∧ Co p ∧ ∀ t H', Same H H' → PtA H' t (T.led p) → Q (.ref t) H'
section
variable {P : Program} {w : World} {K : PySem.W.Frag} {mg : Str → Option Value} {base : Heap} {f : Addr} {fd : FuncData}
theorem ok_ledB {n : Nat} (F : Fun K "_law_led" "_law_led" sLed f fd) : FnOk P w K mg base CX0 (n + 1) f fd ["turning", "point"] spLedB := by
  refine F.ok scLed (fun vs H Q E h => ?_) (fun cdv A outer s H vs Q E hr h => ?_)
  · obtain ⟨tu, pt, T, p, rfl, _⟩ := h
    rfl
  obtain ⟨tu, pt, T, p, rfl, hT, hP, bT, cP, q⟩ := h
  refine ⟨_, pss_consN (ps_asg (pv 0) (pg_tup (n := 6) rfl (pgs_cons (pg_name (i := 2) scLed.nd rfl (Or.inl rfl)) (pgs_cons (pg_name (i := 3) scLed.nd rfl (Or.inl rfl)) (pgs_cons (pg_name (i := 4) scLed.nd rfl (Or.inl rfl)) (pgs_cons (pg_name (i := 5) scLed.nd rfl (Or.inl rfl)) (pgs_cons (pg_name (i := 6) scLed.nd rfl (Or.inl rfl)) (pgs_cons (pg_name (i := 7) scLed.nd rfl (Or.inl rfl)) pgs_nil))))))))
    (pss_one (ps_ret (pe_pt (pa_cons (pe_op op_addR (pe_op op_addR (pe_op op_mulBR (pv 2) (pe_ix ix_tup (pv 1) pe_int (fun _ _ => rfl))) (pe_op op_mulBR (pv 3) (pe_ix ix_tup (pv 1) pe_int (fun _ _ => rfl)))) (pv 6)) (pa_cons (pe_op op_addR (pe_op op_addR (pe_op op_mulBR (pv 4) (pe_ix ix_tup (pv 1) pe_int (fun _ _ => rfl))) (pe_op op_mulBR (pv 5) (pe_ix ix_tup (pv 1) pe_int (fun _ _ => rfl)))) (pv 7)) pa_nil))))), ?_⟩
  obtain ⟨h1, h2, h3, h4, h5, h6⟩ := bT
  have x1 : Big p.1 := big_of (by have := cP.1; lia) (by have := cP.1; lia)
  have x2 : Big p.2 := big_of (by have := cP.2; lia) (by have := cP.2; lia)
  refine ⟨_, rfl, _, _, rfl, SqT.of hT, rfl, _, _, rfl, _, _, rfl, _, _, rfl, _, _, rfl, _, _, rfl, _, _, rfl, rfl, [_, _, _, _, _, _, _, _], rfl, ?_⟩
  exact ⟨_, rfl, _, rfl, _, _, _, _, rfl, rfl, SqT.of hP, at0, _, _, rfl, rfl, ⟨sm_big h1, x1⟩, _, rfl, _, rfl, _, _, _, _, rfl, rfl, SqT.of hP, at1, _, _, rfl, rfl, ⟨sm_big h2, x2⟩, _, _, rfl, rfl, _, rfl, _, _, rfl, rfl, _, rfl, _, rfl, _, _, _, _, rfl, rfl, SqT.of hP, at0, _, _, rfl, rfl, ⟨sm_big h3, x1⟩, _, rfl, _, rfl, _, _, _, _, rfl, rfl, SqT.of hP, at1, _, _, rfl, rfl, ⟨sm_big h4, x2⟩, _, _, rfl, rfl, _, rfl, _, _, rfl, rfl, _, _, rfl, fun t H' s' h' => q t H' s' h'⟩
end
end FD
end
section
set_option maxRecDepth 100000
set_option linter.all false
namespace L2
open PySem PySem.Spec PyProof.Rows
section
variable {X : Cx}
/-! ### a point == a point -/
end
end L2
end
section
set_option maxRecDepth 100000
set_option linter.all false
namespace FD
open PySem L2 FF
abbrev sPtsAre : Stmt := top 42

def spPtsAre : Sp := fun vs H Q _ => ∃ r d rf rg cs, vs = [.ref r, .ref d] ∧ PLs H r rf cs ∧ PLs H d rg cs ∧ cs.length ≤ 400 ∧ Q (.bl true) H
section
variable {P : Program} {w : World} {K : PySem.W.Frag} {mg : Str → Option Value} {base : Heap} {f : Addr} {fd : FuncData}
theorem kit_tuple : PySem.W.kitOne K (.type "tuple") (.type "tuple") = some true := by unfold PySem.W.kitOne; exact if_pos (by decide)
theorem kit_list : PySem.W.kitOne K (.type "list") (.type "list") = some true := by unfold PySem.W.kitOne; exact if_pos (by decide)
theorem scPtsAre : FnScope ["found", "due", "point"] ["found", "due"] (defScope sPtsAre) := ⟨rfl, rfl, rfl, by decide +kernel, rfl, by decide +kernel, by decide +kernel⟩
theorem ok_pts_are (F : Fun K "_law_points_are" "_law_points_are" sPtsAre f fd) (c__law_whole : Cal P w K mg base 1 "_law_whole" ["found"] spWhole) (m_isinstance : mg "isinstance" = none) (m_list : mg "list" = none) (m_len : mg "len" = none) (m_tuple : mg "tuple" = none) : FnOk P w K mg base CX0 2 f fd ["found", "due"] spPtsAre := by
  refine F.ok scPtsAre (fun vs H Q E h => ?_) (fun cdv A outer s H vs Q E hr h => ?_)
  · obtain ⟨_, _, _, _, _, rfl, _⟩ := h; rfl
  obtain ⟨r, d, rf, rg, cs, rfl, hr', hd, n4, q⟩ := h
  have hu := hr.un
  have hu2 : A.units + 3 + 5 < cLine := by have : A.units + 3 + 16 * 1 + 200 < cLine := hu; lia
  refine ⟨_, pss_consN (ps_if (PW.pt (pw_or (pt_not (pt_val (pe_callB (call_isinst (T := "list")) rfl m_isinstance PyProof.Rows.boot_isinstance (pa_cons (pv 0) (pa_cons (pe_bltn (v := .ty "list") rfl m_list PyProof.Rows.boot_list rfl) pa_nil))))) (pw_or1 (pt_cmpR op_ne (pe_callB call_len_seq rfl m_len PySem.boot_len (pa_cons (pv 0) pa_nil)) (pe_callB call_len_seq rfl m_len PySem.boot_len (pa_cons (pv 1) pa_nil)) (nomark _))))) (pss_one (ps_ret pe_bl)) pss_nil)
    (pss_consN (ps_for PassesOwn.never rfl (pi_list (pv 0)) (pg_name (i := 2) scPtsAre.nd rfl (Or.inl rfl)) (pss_one (ps_if (PW.pt (pw_or (pt_not (pt_val (pe_callB (call_isinst (T := "tuple")) rfl m_isinstance PyProof.Rows.boot_isinstance (pa_cons (pv 2) (pa_cons (pe_bltn (v := .ty "tuple") rfl m_tuple PyProof.Rows.boot_tuple rfl) pa_nil))))) (pw_or (pt_cmpR op_ne (pe_callB call_len_seq rfl m_len PySem.boot_len (pa_cons (pv 2) pa_nil)) pe_int (nomark _)) (pw_or (pt_not (pt_val (pe_cal c__law_whole hr (by decide) rfl (pa_cons (pe_ix ix_tup (pv 2) pe_int (fun _ _ => rfl)) pa_nil)))) (pw_or1 (pt_not (pt_val (pe_cal c__law_whole hr (by decide) rfl (pa_cons (pe_ix ix_tup (pv 2) pe_int (fun _ _ => rfl)) pa_nil))))))))) (pss_one (ps_ret pe_bl)) pss_nil)))
    (pss_one (ps_ret (pe_cmpR (op_eqL hu2) (pv 0) (pv 1) (nomark _))))), ?_⟩
  refine ⟨_, rfl, _, _, true, rfl, .lst hr'.1, kit_list, _, rfl, iteF ?_⟩
  refine ⟨_, rfl, r, _, rfl, .inl (SqL.of hr'.1), _, rfl, d, _, rfl, .inl (SqL.of hd.1), rfl, _, rfl, ?_⟩
  refine ite2 (fun c => absurd c (by rw [refs_len, refs_len]; simp)) (fun _ => ⟨[_, _, _], rfl, ?_⟩)
  refine ⟨_, rfl, r, rfl, ⟨_, SqL.of hr'.1⟩, ?_⟩
  refine for_list (xs := refs cs.length rf) (fun (i : Nat) (σ : St) (H' : Hp) => (∃ x2, σ = [some (.ref r), some (.ref d), x2]) ∧ H' = H) ⟨⟨none, rfl⟩, rfl⟩ (fun i σ H' _ hI => by rw [hI.2]; exact SqL.of hr'.1) ?_ ?_
  · rintro i x σ H' hx ⟨⟨x2, rfl⟩, rfl⟩
    obtain ⟨hi, rfl⟩ := refs_get' hx
    have hT := hr'.2 i hi
    refine ⟨_, rfl, _, _, true, rfl, .tup hT, kit_tuple, _, rfl, iteF ?_⟩
    refine ⟨_, rfl, _, _, rfl, .inr (SqT.of hT), rfl, _, rfl, ?_⟩
    refine ite2 (fun c => absurd c (by simp)) (fun _ => ?_)
    refine ⟨_, rfl, _, _, _, _, rfl, rfl, SqT.of hT, at0, _, rfl, _, rfl, iteF ?_⟩
    refine ⟨_, rfl, _, _, _, _, rfl, rfl, SqT.of hT, at1, _, rfl, _, rfl, iteF ?_⟩
    exact ⟨⟨_, rfl⟩, rfl⟩
  · rintro σ H' ⟨⟨x2, rfl⟩, rfl⟩
    refine ⟨[_, _, _], rfl, ?_⟩
    refine ⟨_, rfl, _, rfl, r, d, _, _, rfl, rfl, SqL.of hr'.1, SqL.of hd.1, .inr ⟨by rw [refs_len, refs_len], fun _ => true, fun j x y hx hy => ?_, ?_⟩⟩
    · obtain ⟨hj, rfl⟩ := refs_get' hx
      obtain ⟨_, rfl⟩ := refs_get' hy
      have := Cmp.pt (SqT.of (hr'.2 j hj)) (SqT.of (hd.2 j hj)) (K := K)
      rwa [decide_eq_true ⟨rfl, rfl⟩] at this
    · have e : ((List.range (refs cs.length rf).length).all fun _ => true) = true := by simp
      show Q (.bl ((List.range (refs cs.length rf).length).all fun _ => true)) H'
      rw [e]; exact q
end
end FD
end
section
set_option maxRecDepth 100000
set_option linter.all false
namespace L2
open PySem PySem.W PySem.Spec PyProof.Rows
/-- an error flies: its class, and the abstract heap behind it -/
def CX1 (P : Program) (w : World) (base : Heap) : CXT := fun outer H s E e s' => ∃ (ea : Addr) (cls a0 : Value) (H' : Hp), e = .ref ea ∧ s'.os = s.os ∧ AllBare s'.gens ∧ Un (frs outer) [] H H' s.heap s'.heap ∧ HOk P w H' s'.heap ∧ (∃ B : Heap, base.StaysIn B ∧ Heap.FlyingW B outer ea cls a0 s'.heap ∧ (∀ b o, s.heap.get? b = some o → b ∉ frs outer → ∃ o', B.get? b = some o') ∧ ∀ b u, H' b = some u → ∃ o', B.get? b = some o') ∧ s.heap.get? ea = none ∧ H' ea = none ∧ E cls none H'
theorem ObjOk.there {P : Program} {w : World} {H : Hp} {h : Heap} {a : Addr} {o : HO} (x : ObjOk P w H h a o) : ∃ ob, h.get? a = some ob := by
  cases o with
  | lst xs => obtain ⟨_, _, _, _, e⟩ := x; exact ⟨_, e⟩
  | tup xs => obtain ⟨_, _, _, ob, e, _⟩ := x; exact ⟨_, e⟩
  | dK kvs => obtain ⟨_, _, _, _, o, _, _, e, _⟩ := x; exact ⟨_, e⟩
  | dT kvs => obtain ⟨_, _, _, _, o, _, _, e, _⟩ := x; exact ⟨_, e⟩
  | set S n => obtain ⟨o, _, _, _, e, _⟩ := x; exact ⟨_, e⟩
  | ins C dx fs => obtain ⟨_, _, _, e, _⟩ := x; exact ⟨_, e⟩
  | own y => obtain ⟨_, e⟩ := x; exact ⟨_, e⟩
  | xd fs => obtain ⟨_, ⟨_, _, _, e, _⟩, _⟩ := x; exact ⟨_, e⟩
  | rng lo hi => obtain ⟨_, _, _, e⟩ := x; exact ⟨_, e⟩
  | frz ob u => obtain ⟨e, _⟩ := x; exact ⟨_, e⟩
  | tbl ps => exact ⟨_, (show h.get? a = some _ from x)⟩
  | met f y => exact ⟨_, (show h.get? a = some _ from x)⟩
  | ext φ => obtain ⟨_, ⟨_, e⟩, _⟩ := x; exact ⟨_, e⟩
section
variable {P : Program} {w : World} {K : PySem.W.Frag} {mg : Str → Option Value} {base : Heap} {N : List Str} {qual : Str} {scope : Scope} {f : Addr} {cd : Value} {A : Around} {outer : List Env} {s₀ : Shared} {H₀ : Hp} {E : XK}
theorem raise_leaves {pins : List (Addr × Obj)} {σ : St} {H : Hp} {s : Shared} {h1 : Heap} {e : Addr} {cls : Value} {args : List Value} (I : Inv (cxOf (CX1 P w base) P w K mg base N qual scope f cd A outer s₀ H₀ E) pins σ H s)
    (hx : Heap.MadeExcOf s.heap h1 e cls args) (q : E cls none H) : (cxOf (CX1 P w base) P w K mg base N qual scope f cd A outer s₀ H₀ E).xe (.ref e) { s with heap := h1 } := by
  have stk : s.heap.FunFrames base (envOfC qual scope s₀.heap.objs.size f cd :: outer) := I.stack
  refine wpAny_leaves_madeW (base := hideAll s.heap (frs (envOfC qual scope s₀.heap.objs.size f cd :: outer))) (h := s.heap) (L := s₀.heap.objs.size) I.ok.frames rfl (fun b o e => of_hideAll _ e) (funFrames_hide stk fun env he a ea => List.mem_filterMap.mpr ⟨env, he, ea⟩) hx fun h' t fl tup tn ups => ?_
  have out : ∀ b o, s.heap.get? b = some o → b ∉ frs (envOfC qual scope s₀.heap.objs.size f cd :: outer) → h'.get? b = some o := fun b o e hb => fl.1 b o (hideAll_get _ e hb)
  have Lfr : ∀ b o, s₀.heap.get? b = some o → b ∉ frs outer → b ∉ frs (envOfC qual scope s₀.heap.objs.size f cd :: outer) := fun b o e hb hm => by
    have hm : b ∈ s₀.heap.objs.size :: frs outer := hm
    rcases List.mem_cons.mp hm with z | z
    · exact absurd (Heap.lt_size e) (by rw [z]; exact Nat.lt_irrefl _)
    · exact hb z
  have slots : ∀ b o, s.heap.get? b = some o → b ∈ frs (envOfC qual scope s₀.heap.objs.size f cd :: outer) → ∃ sl, h'.get? b = some { o with slots := sl } := fun b o e hm => by
    obtain ⟨_, o', ho', nf⟩ := stk.mem hm
    rw [e] at ho'
    cases ho'
    exact ups b o (hx.keeps b o e) nf
  have ub : Un (frs outer) [] H₀ H s₀.heap s.heap := I.base
  have nfr : ∀ b u, H b = some u → b ∉ frs (envOfC qual scope s₀.heap.objs.size f cd :: outer) := fun b u e hm => by
    have := I.stkFree b hm
    rw [e] at this; cases this
  refine ⟨e, cls, .ref t, H, rfl, I.os, I.bare, ⟨fun b o eb n hb hx' => ?_, fun b o eb n hb hx' => ?_, ub.free, fun b o eb hx' => ?_, ub.tups, ub.frzs, ub.tbls⟩, fun a o ea => ?_, ⟨_, fun b o eb => ?_, fl, fun b o eb hb => ?_, fun b u eb => ?_⟩, ?_, ?_, q⟩
  · exact out b o (ub.keep b o eb n hb hx') (Lfr b o eb hb)
  · obtain ⟨sl, h2⟩ := ub.slot b o eb n hb hx'
    obtain ⟨sl', h3⟩ := slots b _ h2 (List.mem_cons_of_mem _ hb)
    exact ⟨sl', h3⟩
  · obtain ⟨o', h2⟩ := ub.there b o eb hx'
    by_cases hb : b ∈ frs (envOfC qual scope s₀.heap.objs.size f cd :: outer)
    · obtain ⟨sl, h3⟩ := slots b o' h2 hb
      exact ⟨_, h3⟩
    · exact ⟨_, out b o' h2 hb⟩
  · refine (I.hok a o ea).stay (fun b u hb eb => out b u eb ?_) (fun _ z => z) fun _ _ z => z
    rcases hb with z | z
    · rw [z]; exact nfr a o ea
    · exact nfr b _ z
  · refine hideAll_get _ (I.bs b o eb).1 fun hm => ?_
    have := (stk.mem hm).1
    rw [eb] at this; cases this
  · obtain ⟨o', h2⟩ := ub.there b o eb (by simp)
    exact ⟨o', hideAll_get _ h2 (Lfr b o eb hb)⟩
  · obtain ⟨o', h2⟩ := (I.hok b u eb).there
    exact ⟨o', hideAll_get _ h2 (nfr b u eb)⟩
  · cases z : s₀.heap.get? e with
    | none => rfl
    | some o =>
      obtain ⟨o', h2⟩ := ub.there e o z (by simp)
      rw [hx.new] at h2; cases h2
  · cases z : H e with
    | none => rfl
    | some u =>
      obtain ⟨o', h2⟩ := (I.hok e u z).there
      rw [hx.new] at h2; cases h2
end
end L2
end
section
set_option maxRecDepth 100000
set_option linter.all false
namespace L2
open PySem PySem.W PySem.Spec PyProof.Rows
/-- an own error's class at C, as it lies in the part K of every heap; mro: its classes behind it; B, Bn: the built-in ones -/
structure OwnX (base : Heap) (C : Addr) (bm bmB : List Value) (newId : String) : Prop where
  at_ : ∃ (nm q : Str) (N : Addr) (bs : List Value) (hdct : Bool) (sn : List Str) (sub : List Value) (ab : Bool) (col : Option Bool) (dd : Option Addr) (k0 k1 k2 k3 k5 : Option Value) (mN : Str → Option Value),
    base.get? C = some (excClassObj nm q C N bs bm hdct sn sub ab col dd k0 k1 k2 k3 k5 newId) ∧ base.Ns N mN ∧ mN "__init__" = none
  tail : OwnTail base bmB bm
/-- what a raise asks of the wish -/
def RaisesTo (X : Cx) (R : Value → Hp → Prop) : Prop := ∀ (pins : List (Addr × Obj)) (σ : St) (H : Hp) (s : Shared) (h1 : Heap) (e : Addr) (cls : Value) (args : List Value), Inv X pins σ H s → Heap.MadeExcOf s.heap h1 e cls args → R cls H → X.xe (.ref e) { s with heap := h1 }
def tRaise (t : TA) (C : Addr) (R : Value → Hp → Prop) : TS := fun _ σ H => t σ H fun vs H1 => vs.length ≤ sizeLine ∧ R (.ref C) H1
section
variable {X : Cx}
theorem ps_raise {x : Str} {C : Addr} {bm bmB bmN : List Value} {B Bn newId nid initId inN : String} {e₀ : Expr} {es : List Expr} {np cpos pos : Pos} {t : TA} {R : Value → Hp → Prop} (hc : X.calm = true) (hg : Gl X x) (hm : X.mg x = some (.ref C)) (O : OwnX X.base C bm bmB newId)
    (Fn : ExcBaseFacts Bn newId inN bmN) (hBn : bmB.contains (.type Bn) = true) (F : ExcBaseFacts B nid initId bmB) (hR : RaisesTo X R) (ha : PA X (e₀ :: es) t) (hdb : (x == ("__debug__" : Str)) = false := by decide)
    (he : starEach (e₀ :: es) X.env = (false, eval e₀ X.env) :: starEach es X.env := by rfl) (hpl : (backTo cpos (starEach es X.env)).any (·.1) = false := by rfl) :
    PS X (.Raise (some (.Call (.Name x np) (e₀ :: es) [] cpos)) none pos) (tRaise t C R) := by
  intro pins s σ H D I h
  obtain ⟨nm, q, N, bs, hdct, sn, sub, ab, col, dd, k0, k1, k2, k3, k5, mN, hC, hN, hni⟩ := O.at_
  refine wpAny_Raise_call_subU (C := C) (nm := nm) (q := q) (N := N) (bs := bs) (bm := bm) (hdct := hdct) (sn := sn) (sub := sub) (ab := ab) (col := col) (dd := dd) (k0 := k0) (k1 := k1) (k2 := k2) (k3 := k3) (k5 := k5)
    Fn hBn F (mN := mN) (O.tail.hasType F.hasBase) (I.ok.hd hc) (by rw [he]; show (false || (backTo cpos (starEach es X.env)).any (·.1)) = false; rw [hpl]; rfl) hni (ld_glob I hg hm ⟨rfl, ?_⟩ hdb)
  have hA := ha cpos pins s σ H _ I h
  rw [he] at hA ⊢
  exact Calls.evalArgs_plain (wpAny_mono hA (fun us s1 ⟨vs, H1, I1, r, z, q⟩ => ⟨rfl, by rw [← r.length]; exact z, I1.bk _ _ hC, hN.keeps I1.bk, O.tail.keeps I1.bk, fun h' e hm => hR pins σ H1 s1 h' e _ _ I1 hm q⟩) fun _ _ y => y)
end
theorem raisesTo_cx {P : Program} {w : World} {K : PySem.W.Frag} {mg : Str → Option Value} {base : Heap} {N : List Str} {qual : Str} {scope : Scope} {f : Addr} {cd : Value} {A : Around} {outer : List Env} {s₀ : Shared} {H₀ : Hp} {E : XK} :
    RaisesTo (cxOf (CX1 P w base) P w K mg base N qual scope f cd A outer s₀ H₀ E) fun cls H => E cls none H := fun _ _ _ _ _ _ _ _ I hx q => raise_leaves I hx q
end L2
end
section
set_option maxRecDepth 100000
set_option linter.all false
namespace L2
open PySem PySem.W PySem.Spec PyProof.Rows
section
variable {X : Cx} {pins : List (Addr × Obj)} {σ : List (Option V)} {H H' : Hp} {s : Shared} {h' : Heap}
theorem Inv.stepN {g' : Array GenState} {t' : Nat} {d' : Drawn} {ch : List Addr} (I : Inv X pins σ H s)
    (hch : ∀ b ∈ ch, X.s₀.heap.get? b = none ∧ b ≠ X.env.locals ∧ (∀ x c, X.env.cells.lookup x = some c → c ≠ b) ∧ ∀ p ∈ X.pn ++ pins, p.1 ≠ b)
    (keep : ∀ b o, b ≠ X.env.locals → b ∉ X.fs → b ∉ ch → s.heap.get? b = some o → H b = none → h'.get? b = some o)
    (slot : ∀ b o, b ≠ X.env.locals → b ∈ X.fs → b ∉ ch → s.heap.get? b = some o → H b = none → ∃ sl, h'.get? b = some { o with slots := sl }) (free : ∀ b o, b ∉ ch → s.heap.get? b = some o → H b = none → H' b = none)
    (there : ∀ b o, b ∉ ch → s.heap.get? b = some o → ∃ o', h'.get? b = some o')
    (tups : ∀ b xs, H b = some (.tup xs) → H' b = some (.tup xs)) (frzs : ∀ b o u, H b = some (.frz o u) → H' b = some (.frz o u)) (tbls : ∀ b ps, H b = some (.tbl ps) → ∃ more, H' b = some (.tbl (ps ++ more)))
    (ns : ∀ m, s.heap.Ns X.env.locals m → h'.Ns X.env.locals m) (hok : HOk X.prog X.w H' h') (hg : AllBare g') :
    Inv X pins σ H' { s with heap := h', gens := g', drawn := d', toks := t' } := by
  have neL : ∀ b o, X.s₀.heap.get? b = some o → b ≠ X.env.locals := fun b o e => Nat.ne_of_lt (Nat.lt_of_lt_of_le (Heap.lt_size e) I.ok.above)
  have neC : ∀ b o, X.s₀.heap.get? b = some o → b ∉ X.ex → b ∉ ch := fun b o e hx hb => by
    have z := (hch b hb).1
    rw [e] at z; cases z
  have cellK : ∀ x c, X.env.cells.lookup x = some c → ∀ v, s.heap.IsCell c v → h'.IsCell c v := fun x c e v ⟨o, ho, hd⟩ => by
    have nch : c ∉ ch := fun z => (hch c z).2.2.1 x c e rfl
    by_cases hc : c ∈ X.fs
    · obtain ⟨sl, q⟩ := slot c o (I.cne x c e) hc nch ho (I.freeC x c e)
      exact ⟨_, q, hd⟩
    · exact ⟨o, keep c o (I.cne x c e) hc nch ho (I.freeC x c e), hd⟩
  refine ⟨I.ok, I.os, hg, ⟨fun b o e n hb hx => ?_, fun b o e n hb hx => ?_, fun b o e n hx => ?_, fun b o e hx => ?_, fun b xs e => tups b xs (I.base.tups b xs e), fun b o xs e => frzs b o xs (I.base.frzs b o xs e), fun b ps e => ?_⟩, ?_, fun x c e => ?_, ?_, fun x c e => ?_, fun p hp => ?_, hok, I.len⟩
  · exact keep b o (neL b o e) hb (neC b o e hx) (I.base.keep b o e n hb hx) (I.base.free b o e n hx)
  · obtain ⟨sl, e1⟩ := I.base.slot b o e n hb hx
    obtain ⟨sl', e2⟩ := slot b _ (neL b o e) hb (neC b o e hx) e1 (I.base.free b o e n hx)
    exact ⟨sl', e2⟩
  · obtain ⟨o', e1⟩ := I.base.there b o e hx
    exact free b o' (neC b o e hx) e1 (I.base.free b o e n hx)
  · obtain ⟨o', e1⟩ := I.base.there b o e hx
    exact there b o' (neC b o e hx) e1
  · obtain ⟨m1, e1⟩ := I.base.tbls b ps e
    obtain ⟨m2, e2⟩ := tbls b _ e1
    exact ⟨m1 ++ m2, by rw [e2, Array.append_assoc]⟩
  · obtain ⟨m, hn, hl⟩ := I.loc
    refine ⟨m, ns m hn, fun i x v e1 e2 e3 => ?_⟩
    obtain ⟨u, r, l⟩ := hl i x v e1 e2 e3
    refine ⟨u, r, ?_⟩
    rcases l with l | ⟨k, c, e, z⟩
    · exact .inl l
    · exact .inr ⟨k, c, e, cellK x c e _ z⟩
  · obtain ⟨v, z⟩ := I.cell x c e
    exact ⟨v, cellK x c e v z⟩
  · obtain ⟨m, ⟨o, _, _, ho, _⟩, _⟩ := I.loc
    exact free _ o (fun z => (hch _ z).2.1 rfl) ho I.free
  · obtain ⟨v, o, ho, hd⟩ := I.cell x c e
    exact free c o (fun z => (hch c z).2.2.1 x c e rfl) ho (I.freeC x c e)
  · obtain ⟨e, n, ne, nf, d⟩ := I.pin p hp
    have nch : p.1 ∉ ch := fun z => (hch p.1 z).2.2.2 p hp rfl
    exact ⟨keep p.1 p.2 ne nf nch e n, free p.1 p.2 nch e n, ne, nf, d⟩
end
end L2
end
section
set_option maxRecDepth 100000
set_option linter.all false
namespace L2
open PySem PySem.W PySem.Spec PyProof.Rows
section
variable {X : Cx} {pins : List (Addr × Obj)} {σ : St} {H : Hp} {s : Shared}
end
end L2
end
section
set_option maxRecDepth 100000
set_option linter.all false
namespace L2
open PySem PySem.W PySem.Spec PyProof.Rows
/-- an error, tracked: its class -/
def ErrO (ea : Addr) (cls : Value) : HO := .ext fun h => ∃ oe, h.get? ea = some oe ∧ oe.cls = cls
section
variable {X : Cx} {pins : List (Addr × Obj)} {σ : St} {H : Hp} {s s' : Shared}
theorem came_hide {B h : Heap} {l : List Env} {ea : Addr} {cls a0 : Value} (f : Heap.FlyingW B l ea cls a0 h) : ∃ T oT ts, h.get? T = some oT ∧ oT.data = .fields ts ∧ B.get? T = none ∧ T ≠ ea ∧ Heap.FlyingW (hideAll h (ea :: T :: frs l)) l ea cls a0 h := by
  obtain ⟨f1, f2, f3, oe, vs, T, oT, ts, he, hc, hd, h1, hT0, hTe, hT, hdT, h3⟩ := f
  refine ⟨T, oT, ts, hT, hdT, hT0, hTe, fun b o e => of_hideAll _ e, hideAll_none _ (by simp), funFrames_hide f3 fun env he a ea' => List.mem_cons_of_mem _ (List.mem_cons_of_mem _ (List.mem_filterMap.mpr ⟨env, he, ea'⟩)), oe, vs, T, oT, ts, he, hc, hd, h1, hideAll_none _ (by simp), hTe, hT, hdT, h3⟩
/-- an address that no name of the frame holds -/
def NewAt (X : Cx) (pins : List (Addr × Obj)) (b : Addr) : Prop := X.s₀.heap.get? b = none ∧ b ≠ X.env.locals ∧ (∀ x c, X.env.cells.lookup x = some c → c ≠ b) ∧ ∀ p ∈ X.pn ++ pins, p.1 ≠ b
/-- an error comes into this frame: noted, its flight ended; it is tracked from here on -/
theorem lands {E : XK} {e : Value} {Q : Unit → Shared → Prop} {E' : Value → Shared → Prop} (I : Inv X pins σ H s) (hex : X.ex = []) (hst : frs X.stack = X.env.locals :: X.fs) (hs : X.stack = X.env :: X.outer) (hf : X.env.frame = some X.env.locals) (hcx : CX1 X.prog X.w X.base X.stack H s E e s')
    (k : ∀ ea cls a0 H' h3 B, e = .ref ea → E cls none H' → H' ea = none → Inv X pins σ (upd H' ea (ErrO ea cls)) { s' with heap := h3 } → Heap.FlyingW B X.stack ea cls a0 h3 → NewAt X pins ea → (∀ T oT ts, h3.get? T = some oT → oT.data = .fields ts → B.get? T = none → T ≠ ea → NewAt X pins T ∧ upd H' ea (ErrO ea cls) T = none) → Q () { s' with heap := h3 }) :
    wpAny (model X.prog X.w) X.A (noteFrame e X.env) (fun _ s₂ => wpAny (model X.prog X.w) X.A (setFlight e none) Q E' s₂) E' s' := by
  obtain ⟨ea, cls, a0, H', rfl, hos, hbare, un, hok, ⟨B, hB, fl, hsub, htr⟩, hnew, hH, hE⟩ := hcx
  have I1 : Inv X pins σ H' s' := I.call' (ch := []) hos un hok hbare (fun b hb => absurd hb (by simp))
  obtain ⟨T, oT, ts, hT, hdT, hBT, hTe, flB⟩ := came_hide fl
  have sT : s.heap.get? T = none := by
    cases z : s.heap.get? T with
    | none => rfl
    | some o =>
      by_cases hm : T ∈ frs X.stack
      · obtain ⟨_, o', ho', nf⟩ := I1.stack.mem hm
        rw [hT] at ho'
        cases ho'
        exact absurd hdT (nf ts)
      · obtain ⟨o', z'⟩ := hsub T o z hm
        rw [hBT] at z'; cases z'
  have new : ∀ b, s.heap.get? b = none → X.s₀.heap.get? b = none ∧ b ≠ X.env.locals ∧ (∀ x c, X.env.cells.lookup x = some c → c ≠ b) ∧ ∀ p ∈ X.pn ++ pins, p.1 ≠ b := fun b hb => by
    refine ⟨?_, fun z => ?_, fun x c ec z => ?_, fun p hp z => ?_⟩
    · cases z : X.s₀.heap.get? b with
      | none => rfl
      | some o =>
        obtain ⟨o', z'⟩ := I.base.there b o z (by rw [hex]; simp)
        rw [hb] at z'; cases z'
    · obtain ⟨m, ⟨o, es, ep, ho, _⟩, _⟩ := I.loc
      rw [← z, hb] at ho; cases ho
    · obtain ⟨v, o, ho, _⟩ := I.cell x c ec
      rw [z, hb] at ho; cases ho
    · have := (I.pin p hp).1
      rw [z, hb] at this; cases this
  have frames : X.A.frames = some (X.env :: X.outer) := by rw [← hs]; exact I.ok.frames
  rw [hs] at flB
  refine wpAny_looks_onW frames hf flB fun h2 held ups => wpAny_landsW held fun h3 fl3 ups3 => ?_
  have ups := ups.trans ups3
  rw [← hs] at fl3
  have out : ∀ b o, s'.heap.get? b = some o → b ∉ frs X.stack → b ∉ [ea, T] → h3.get? b = some o := fun b o eb h1 h2 => fl3.1 b o (hideAll_get _ eb (by
    intro z
    simp only [List.mem_cons, List.not_mem_nil, or_false, not_or] at z h2
    rcases z with z | z | z
    · exact h2.1 z
    · exact h2.2 z
    · exact h1 z))
  have slots : ∀ b o, s'.heap.get? b = some o → b ∈ frs X.stack → ∃ sl, h3.get? b = some { o with slots := sl } := fun b o eb hm => by
    obtain ⟨_, o', ho', nf⟩ := I1.stack.mem hm
    rw [eb] at ho'
    cases ho'
    exact ups b o eb nf
  have nfr : ∀ b u, H' b = some u → b ∉ frs X.stack := fun b u eb hm => by
    have := I1.stkFree b hm
    rw [eb] at this; cases this
  have tn : H' T = none := by
    cases z : H' T with
    | none => rfl
    | some u =>
      obtain ⟨o', z'⟩ := htr T u z
      rw [hBT] at z'; cases z'
  have nch : ∀ b u, H' b = some u → b ∉ [ea, T] := fun b u eb hm => by
    simp only [List.mem_cons, List.not_mem_nil, or_false] at hm
    rcases hm with z | z
    · rw [z, hH] at eb; cases eb
    · rw [z, tn] at eb; cases eb
  have une : ∀ b u, H' b = some u → upd H' ea (ErrO ea cls) b = some u := fun b u eb => by
    rw [upd_ne (fun z => by rw [z, hH] at eb; cases eb)]; exact eb
  refine k ea cls a0 H' h3 _ rfl hE hH ?_ fl3 (new ea hnew) fun T2 oT2 ts2 h2T hd2 hB2 hne2 => ?_
  rotate_left
  · have s2 : s.heap.get? T2 = none ∧ H' T2 = none := by
      by_cases hTT : T2 = T
      · rw [hTT]; exact ⟨sT, tn⟩
      · have z : s'.heap.get? T2 = none := by
          cases z : s'.heap.get? T2 with
          | none => rfl
          | some o =>
            by_cases hm : T2 ∈ frs X.stack
            · obtain ⟨sl, z2⟩ := slots T2 o z hm
              obtain ⟨_, o', ho', nf⟩ := I1.stack.mem hm
              rw [z] at ho'
              cases ho'
              rw [h2T] at z2
              cases z2
              exact absurd hd2 (nf ts2)
            · have := hideAll_get (ea :: T :: frs X.stack) z (by
                intro zz
                simp only [List.mem_cons] at zz
                rcases zz with zz | zz | zz
                · exact hne2 zz
                · exact hTT zz
                · exact hm zz)
              first
                | (rw [hB2] at this; cases this)
                | (rw [hs] at this; rw [hB2] at this; cases this)
        refine ⟨?_, ?_⟩
        · cases z3 : s.heap.get? T2 with
          | none => rfl
          | some o =>
            obtain ⟨o', z4⟩ := un.there T2 o z3 (by simp)
            rw [z] at z4; cases z4
        · cases z3 : H' T2 with
          | none => rfl
          | some u =>
            obtain ⟨o', z4⟩ := (I1.hok T2 u z3).there
            rw [z] at z4; cases z4
    exact ⟨new T2 s2.1, by rw [upd_ne hne2]; exact s2.2⟩
  refine I1.stepN (g' := s'.gens) (t' := s'.toks) (d' := s'.drawn) (ch := [ea, T]) (fun b hb => ?_) (fun b o h1 h2 h3' eb _ => out b o eb (fun hm => ?_) h3') (fun b o h1 h2 h3' eb _ => slots b o eb (by rw [hst]; exact List.mem_cons_of_mem _ h2)) (fun b o hb eb n => ?_)
    (fun b o hb eb => ?_) (fun b xs eb => une b _ eb) (fun b o u eb => une b _ eb) (fun b ps eb => ⟨#[], by rw [une b _ eb]; simp⟩) (fun m hm => ?_) (fun b o eb => ?_) I1.bare
  · simp only [List.mem_cons, List.not_mem_nil, or_false] at hb
    rcases hb with z | z
    · rw [z]; exact new ea hnew
    · rw [z]; exact new T sT
  · rw [hst] at hm
    rcases List.mem_cons.mp hm with z | z
    · exact h1 z
    · exact h2 z
  · rw [upd_ne (fun z => hb (by simp [z]))]; exact n
  · by_cases hm : b ∈ frs X.stack
    · obtain ⟨sl, z⟩ := slots b o eb hm
      exact ⟨_, z⟩
    · exact ⟨_, out b o eb hm hb⟩
  · obtain ⟨o, es, ep, ho, hd, r⟩ := hm
    obtain ⟨sl, z⟩ := slots _ o ho (by rw [hst]; exact List.mem_cons_self)
    exact ⟨_, es, ep, z, hd, r⟩
  · by_cases hb : b = ea
    · subst hb
      rw [upd_same] at eb
      cases eb
      obtain ⟨ob, h1, h2⟩ := fl3.there
      exact ⟨⟨ob, h1, h2⟩, ⟨ob, h1⟩, fun h1 h2 ⟨o, z1, z2⟩ kk => ⟨o, kk o z1, z2⟩⟩
    · rw [upd_ne hb] at eb
      refine (I1.hok b o eb).stay (fun c u hc ec => out c u ec ?_ ?_) (fun c z => une c _ z) fun c xs z => une c _ z
      · rcases hc with z | z
        · rw [z]; exact nfr b o eb
        · exact nfr c _ z
      · rcases hc with z | z
        · rw [z]; exact nch b o eb
        · exact nch c _ z
end
end L2
end
section
set_option maxRecDepth 100000
set_option linter.all false
namespace L2
open PySem PySem.W PySem.Spec PyProof.Rows
/-- the frame while an error is handled -/
abbrev Cx.marked (X : Cx) (e : Value) (E : Value → Shared → Prop) : Cx := { X with A := X.A.mark (some e), calm := false, xe := E }
theorem Cx.Ok.marked {X : Cx} (ok : X.Ok) (e : Value) (E : Value → Shared → Prop) : (X.marked e E).Ok :=
  ⟨ok.mod, ok.kind, ok.glob, ok.blt, ok.above, ok.inj, ok.has, ok.cab, (fun h => by cases h), ok.frames, ok.stk, ok.exf, ok.bs, ok.bsz, ok.noex, ok.exfs, ok.funs, ok.frf⟩
section
variable {X : Cx} {pins : List (Addr × Obj)} {σ : St} {H : Hp} {s : Shared} {e : Value} {E : Value → Shared → Prop}
theorem Inv.marked (I : Inv X pins σ H s) (e : Value) (E : Value → Shared → Prop) : Inv (X.marked e E) pins σ H s := ⟨I.ok.marked e E, I.os, I.bare, I.base, I.loc, I.cell, I.free, I.freeC, I.pin, I.hok, I.len⟩
theorem Inv.unmark {E : Value → Shared → Prop} (ok : X.Ok) (I : Inv (X.marked e E) pins σ H s) : Inv X pins σ H s := ⟨ok, I.os, I.bare, I.base, I.loc, I.cell, I.free, I.freeC, I.pin, I.hok, I.len⟩
/-- an except's test of an own class: C, at the error's class cls -/
theorem test_own {cn : Str} {C : Addr} {ea : Addr} {cls : Value} {b : Bool} {np pos : Pos} {R : Result → Shared → Prop} (I : Inv X pins σ H s) (hg : Gl X cn) (hm : X.mg cn = some (.ref C)) (he : ∃ oe, s.heap.get? ea = some oe ∧ oe.cls = cls) (hx : exmOne X.K cls (.ref C) = some b)
    (h : R (.ok (if b then .brk else .next)) s) (hdb : (cn == ("__debug__" : Str)) = false := by decide) :
    codeAny (model X.prog X.w) (X.A.mark (some (.ref ea))) (.handlers (.ref ea) [.ExceptHandler (some (.Name cn np)) none [] pos] X.env) R s := by
  refine codeAny_handlers_test ?_
  have I' := I.marked (.ref ea) (fun _ _ => True)
  refine ld_glob (X := X.marked (.ref ea) (fun _ _ => True)) I' hg hm ?_ hdb
  obtain ⟨oe, h1, h2⟩ := he
  have LT : Looks (model X.prog X.w) s.heap (typeOf (.ref ea)) cls := by
    rw [← h2]
    exact (Looks.ld h1).andThen .now
  exact (exm_one (M := model X.prog X.w) I.kIn LT hx).here h
end
end L2
end
section
set_option maxRecDepth 100000
set_option linter.all false
namespace L2
open PySem PySem.W PySem.Spec PyProof.Rows
section
variable {X : Cx} {pins : List (Addr × Obj)} {σ : St} {H : Hp} {s : Shared}
/-- the flight is ended once more, ahead of the suite -/
theorem flight_again {B : Heap} {ea : Addr} {cls a0 : Value} {A : Around} {Q : Unit → Shared → Prop} {E' : Value → Shared → Prop} (I : Inv X pins σ H s) (hex : X.ex = []) (hea : H ea = some (ErrO ea cls)) (fl : Heap.FlyingW B X.stack ea cls a0 s.heap)
    (hnew : ∀ T oT ts, s.heap.get? T = some oT → oT.data = .fields ts → B.get? T = none → T ≠ ea → (X.s₀.heap.get? T = none ∧ T ≠ X.env.locals ∧ (∀ x c, X.env.cells.lookup x = some c → c ≠ T) ∧ ∀ p ∈ X.pn ++ pins, p.1 ≠ T) ∧ H T = none)
    (hne : X.s₀.heap.get? ea = none ∧ ea ≠ X.env.locals ∧ (∀ x c, X.env.cells.lookup x = some c → c ≠ ea) ∧ ∀ p ∈ X.pn ++ pins, p.1 ≠ ea)
    (k : ∀ h', Inv X pins σ H { s with heap := h' } → Q () { s with heap := h' }) : wpAny (model X.prog X.w) A (setFlight (.ref ea) none) Q E' s := by
  obtain ⟨T, oT, ts, hT, hdT, hBT, hTe, flB⟩ := came_hide fl
  obtain ⟨nT, tn⟩ := hnew T oT ts hT hdT hBT hTe
  refine wpAny_setFlight_noneW flB.1 flB.2.2.1 (fl := .none) flB.2.2.2 fun h' k1 k2 k3 k4 => k h' ?_
  have out : ∀ b o, s.heap.get? b = some o → b ∉ [ea, T] → h'.get? b = some o := fun b o eb hb => by
    by_cases hm : b ∈ frs X.stack
    · obtain ⟨_, o', ho', nf⟩ := I.stack.mem hm
      rw [eb] at ho'
      cases ho'
      exact k4 b o eb nf
    · refine k1 b o (hideAll_get _ eb fun z => ?_)
      simp only [List.mem_cons, List.not_mem_nil, or_false, not_or] at z hb
      rcases z with z | z | z
      · exact hb.1 z
      · exact hb.2 z
      · exact hm z
  have nch : ∀ b u, H b = some u → b ≠ ea → b ∉ [ea, T] := fun b u eb hb hm => by
    simp only [List.mem_cons, List.not_mem_nil, or_false] at hm
    rcases hm with z | z
    · exact hb z
    · rw [z, tn] at eb; cases eb
  have neO : ∀ c, H c = some (.own ea) → c ≠ ea := fun c z e => by rw [e, hea] at z; cases z
  refine I.stepN (g' := s.gens) (t' := s.toks) (d' := s.drawn) (ch := [ea, T]) (fun b hb => ?_) (fun b o _ _ h3 eb _ => out b o eb h3) (fun b o _ _ h3 eb _ => ⟨o.slots, out b o eb h3⟩) (fun _ _ _ _ n => n)
    (fun b o hb eb => ⟨_, out b o eb hb⟩) (fun _ _ e => e) (fun _ _ _ e => e) (fun b ps e => ⟨#[], by rw [e]; simp⟩) (fun m hm => ?_) (fun b o eb => ?_) I.bare
  · simp only [List.mem_cons, List.not_mem_nil, or_false] at hb
    rcases hb with z | z
    · rw [z]; exact hne
    · rw [z]; exact nT
  · obtain ⟨o, es, ep, ho, hd, r⟩ := hm
    refine ⟨o, es, ep, out _ o ho ?_, hd, r⟩
    simp only [List.mem_cons, List.not_mem_nil, or_false, not_or]
    exact ⟨fun z => hne.2.1 z.symm, fun z => nT.2.1 z.symm⟩
  · by_cases hb : b = ea
    · subst hb
      rw [hea] at eb
      cases eb
      obtain ⟨oe, vs, T2, oT2, ts2, he2, hc2, _⟩ := k3
      exact ⟨⟨oe, he2, hc2.1⟩, ⟨oe, he2⟩, fun h1 h2 ⟨o, z1, z2⟩ kk => ⟨o, kk o z1, z2⟩⟩
    · refine (I.hok b o eb).stay (fun c u hc ec => out c u ec ?_) (fun _ z => z) fun _ _ z => z
      rcases hc with z | z
      · rw [z]; exact nch b o eb hb
      · refine nch c _ z fun e => ?_
        rw [e, hea] at z; cases z
end
end L2
end
section
set_option maxRecDepth 100000
set_option linter.all false
namespace L2
open PySem PySem.W PySem.Spec PyProof.Rows
section
variable {X : Cx} {CX : CXT} {k : Nat} {f : Addr} {fd : FuncData} {ps : List Str} {sp : Sp} {E : XK}
/-- the callee runs; what becomes of its error is told at this very state -/
theorem run_catch {pins : List (Addr × Obj)} {σ : St} {H : Hp} {s : Shared} {Q : VK} {us : List Value} {vs : List V} {Ex : Value → Shared → Prop} (F : FnOk X.prog X.w X.K X.mg X.base CX k f fd ps sp) (hr : Room k X.A) (hb : Binds X.K fd ps [])
    (I : Inv X pins σ H s) (r : Vals vs us) (h : sp vs H Q E) (herr : ∀ e s', CX X.stack H s E e s' → Ex e s') : wpAny (model X.prog X.w) X.A (call (.ref f) us) (EP X pins σ Q) Ex s := by
  have hl : (us ++ []).length = ps.length := by rw [List.append_nil, ← r.length]; exact F.len _ _ _ _ h
  have hb' := hb s us I.kIn hl
  rw [List.append_nil] at hb'
  refine wpAny_call (codeAny_mono (F.run X.A X.stack s H ⟨us, []⟩ us vs Q E hr I.env0 hb' r h) fun r s' hq => ?_)
  cases r with
  | error e => exact herr e s' hq
  | ok fl =>
    cases fl with
    | ret u => exact I.after hq
    | next => exact False.elim hq
    | brk => exact False.elim hq
    | cont => exact False.elim hq
end
end L2
end
section
set_option maxRecDepth 100000
set_option linter.all false
namespace L2
open PySem PySem.W PySem.Spec PyProof.Rows
/-- try: f(..) except C as n: suite; the call's own answer is dropped -/
def tTryCall (K : PySem.W.Frag) (ta : TA) (sp : Sp) (C : Addr) (i : Nat) (ts : TS) : TS := fun D σ H => ta σ H fun vs H1 => sp vs H1 (fun _ H2 => D.nx σ H2) fun cls _ H2 => exmOne K cls (.ref C) = some true ∧
  ∀ ea, H2 ea = none → ts { nx := fun σ3 H3 => D.nx (σ3.set i none) H3, rt := D.rt } (σ.set i (some (.ref ea))) (upd H2 ea (ErrO ea cls))
section
variable {X : Cx} {pins : List (Addr × Obj)} {σ : St} {H : Hp} {s : Shared} {i : Nat} {x : Str} {M : Model} {A : Around} {E : Value → Shared → Prop}
/-- behind the suite the error's name goes; all else stays -/
theorem name_goes {pos : Pos} {Q : Unit → Shared → Prop} (I : Inv X pins σ H s) (hN : X.N.Nodup) (hi : X.N[i]? = some x) (hk : X.env.kindOf x = some .local)
    (h : ∀ s', Inv X pins (σ.set i none) H s' → Q () s') : wpAny M A (do bindName X.env x .none; unbindBehindTheSuite X.env x pos) Q E s := by
  obtain ⟨m, hn, hl⟩ := id I.loc
  have hcls : (X.env.scope.kind == .class || (X.env.scope.kind == .module && X.env.locals != X.env.globals)) = false := by rw [I.ok.kind]; rfl
  have hiσ : i < σ.length := by rw [I.len]; exact (List.getElem?_eq_some_iff.mp hi).1
  have low : ∀ {b : Addr} {o : Obj}, X.s₀.heap.get? b = some o → b ≠ X.env.locals := fun e => Nat.ne_of_lt (Nat.lt_of_lt_of_le (Heap.lt_size e) I.ok.above)
  refine wpAny_nameGoes_keeps hk hn hcls fun h' v hn' hs => h _ ?_
  obtain ⟨oL, _, _, hoL, _⟩ := id hn
  have B := I.base
  refine { ok := I.ok, os := I.os, bare := I.bare, base := ⟨fun b o e n hb hx => (hs.2 b (low e)).trans (B.keep b o e n hb hx), fun b o e n hb hx => ?_, B.free, fun b o e hx => ?_, B.tups, B.frzs, B.tbls⟩, loc := ⟨_, hn', fun j y v' e1 e2 e3 => ?_⟩, cell := fun y c e => ?_, free := I.free, freeC := I.freeC, pin := fun p hp => ?_, hok := fun b ob e => ?_, len := by simpa using I.len }
  · obtain ⟨sl, e1⟩ := B.slot b o e n hb hx
    exact ⟨sl, (hs.2 b (low e)).trans e1⟩
  · obtain ⟨o', e1⟩ := B.there b o e hx
    exact ⟨o', (hs.2 b (low e)).trans e1⟩
  · have hj : j ≠ i := by
      rintro rfl
      rw [List.getElem?_set_self hiσ] at e2; cases e2
    rw [List.getElem?_set_ne (Ne.symm hj)] at e2
    obtain ⟨u', r', q⟩ := hl j y v' e1 e2 e3
    refine ⟨u', r', ?_⟩
    rcases q with ⟨k, e⟩ | ⟨k, c, e, z⟩
    · have : y ≠ x := fun e => hj (nodup_ix hN e1 (e ▸ hi))
      exact .inl ⟨k, by simp [this, e]⟩
    · exact .inr ⟨k, c, e, z.sameBut hs (I.cne y c e)⟩
  · obtain ⟨w', z⟩ := I.cell y c e
    exact ⟨w', z.sameBut hs (I.cne y c e)⟩
  · obtain ⟨e, n, ne, nf, d⟩ := I.pin p hp
    exact ⟨(hs.2 p.1 ne).trans e, n, ne, nf, d⟩
  · refine (I.hok b ob e).stay (fun c w' hc q => (hs.2 c ?_).trans q) (fun _ q => q) fun _ _ q => q
    rintro rfl
    rcases hc with rfl | hc
    · rw [I.free] at e; cases e
    · rw [I.free] at hc; cases hc
end
section
variable {X : Cx} {k : Nat} {f C : Addr} {fd : FuncData} {ps : List Str} {sp : Sp} {x cn n : Str} {p np cpos epos hpos pos : Pos} {e : Expr} {es : List Expr} {b₀ : Stmt} {suite : List Stmt} {ta : TA} {ts : TS} {i : Nat}
theorem ps_tryCall (hx0 : ∀ e s, X.xe e s → False) (hex : X.ex = []) (hst : frs X.stack = X.env.locals :: X.fs) (hs : X.stack = X.env :: X.outer) (hf : X.env.frame = some X.env.locals)
    (F : FnOk X.prog X.w X.K X.mg X.base (CX1 X.prog X.w X.base) k f fd ps sp) (hr : Room k X.A) (hg : Gl X x) (hm : X.mg x = some (.ref f)) (hk : PySem.W.keepIn X.K (.ref f) = true) (hb : Binds X.K fd ps [])
    (ha : PA X (e :: es) ta) (hgc : Gl X cn) (hmc : X.mg cn = some (.ref C)) (hN : X.N.Nodup) (hi : X.N[i]? = some n) (hn : Loc X.env.scope n) (hfn : X.env.kindOf n = some .local) (hfn' : X.env.scope.names.lookup n = some .local)
    (hsu : ∀ ea, PSs (X.marked (.ref ea) (fun _ _ => False)) (b₀ :: suite) ts)
    (hdb : (x == ("__debug__" : Str)) = false := by decide) (hdc : (cn == ("__debug__" : Str)) = false := by decide) (he : starEach (e :: es) X.env = (false, eval e X.env) :: starEach es X.env := by rfl) (hpl : (backTo cpos (starEach es X.env)).any (·.1) = false := by rfl) (hsw : swapsWith (.Call (.Name x p) (e :: es) [] cpos) none epos.line X.env = pure false := by rfl) :
    PS X (.Try [.Expr (.Call (.Name x p) (e :: es) [] cpos) epos] [.ExceptHandler (some (.Name cn np)) (some n) (b₀ :: suite) hpos] [] [] pos) (tTryCall X.K ta sp C i ts) := by
  intro pins s σ H D I h
  refine wpAny_Try_except (wpAny_execs_cons (wpAny_Expr_any ?_ I.quiet hsw))
  refine wpAny_Call_Name_kw (ld_glob I hg hm ?_ hdb)
  refine PySem.W.callWith_K (h₀ := X.base) I.ok.mod.kin hk (wpAny_mono (ha cpos pins s σ H _ I h) (fun us s1 ⟨vs, H1, I1, r, q⟩ => ⟨I1.kIn, ?_⟩) (fun e s z => (hx0 e s z).elim)) he hpl
  refine wpAny_mono (run_catch (Q := fun _ H2 => D.nx σ H2) F hr hb I1 r q (Ex := fun e s₁ => wpAny (model X.prog X.w) X.A (noteFrame e X.env) (fun _ s₂ => wpAny (model X.prog X.w) X.A (setFlight e none) (fun _ s₃ => wpAny (model X.prog X.w) X.A (handleBy e X.env [.ExceptHandler (some (.Name cn np)) (some n) (b₀ :: suite) hpos]) (SP X pins D) X.xe s₃) X.xe s₂) X.xe s₁) (fun e s' hcx => ?_)) (fun u s2 hu => ?_) (fun _ _ z => z)
  · refine lands I1 hex hst hs hf hcx fun ea cls a0 H' h3 B ee hE hH I3 fl3 nea nT => ?_
    subst ee
    obtain ⟨hxm, hsuite⟩ := hE
    refine wpAny_handleBy_cons (test_own I3 hgc hmc fl3.there hxm ?_ hdc) (by intro q; cases q)
    refine codeAny_handlers_suite_as (flight_again (A := X.A.mark (some (.ref ea))) I3 hex upd_same fl3 (fun T oT ts h1 h2 h3 h4 => nT T oT ts h1 h2 h3 h4) nea fun h4 I4 => ?_)
    refine store_ok I4 hN hi hn (v := .ref ea) rfl (fun s5 I5 => ?_) (.inr hfn')
    have I5' := I5.marked (.ref ea) (fun _ _ => False)
    refine wpAny_mono (hsu ea pins s5 _ _ _ I5' (hsuite ea hH)) (fun fl s6 h6 => ?_) (fun _ _ z => z.elim)
    show wpAny (model X.prog X.w) X.A (do bindName X.env n .none; unbindBehindTheSuite X.env n hpos) (fun _ s₃ => SP X pins D fl s₃) X.xe s6
    cases fl with
    | next =>
      obtain ⟨σ', H'', I6, q6⟩ := h6
      exact name_goes (I6.unmark I3.ok) hN hi hfn fun s7 I7 => ⟨_, _, I7, q6⟩
    | ret u =>
      obtain ⟨v, σ', H'', I6, rv, q6⟩ := h6
      exact name_goes (I6.unmark I3.ok) hN hi hfn fun s7 I7 => ⟨_, _, _, I7, rv, q6⟩
    | brk => obtain ⟨_, _, _, q6⟩ := h6; exact q6.elim
    | cont => obtain ⟨_, _, _, q6⟩ := h6; exact q6.elim
  · obtain ⟨v, H2, I2, rv, q2⟩ := hu
    exact wpAny_execs_nil (wpAny_execs_nil ⟨σ, H2, I2, q2⟩)
end
end L2
end
section
set_option maxRecDepth 100000
set_option linter.all false
namespace L2
open PySem PySem.W PySem.Spec PyProof.Rows PySem.Calls Builtin Builtin.ObjectAttr Builtin.Getset_descriptor
/-- an own error's class, as the part K of every heap has it: how __class__ is found there -/
structure ErrCls (K : PySem.W.Frag) (C : Addr) : Prop where
  ga : findIn K (.ref C) "__getattribute__" = some (some (.builtin "BaseException.__getattribute__"))
  gn : findIn K (.ref C) "__getattr__" = some none
  ca : findIn K (.ref C) "__class__" = some (some (.builtin "object.__class__"))
  mo : mroIn K C (.type "object") = some true
  mb : mroIn K C (.type "BaseException") = some true
  is : (clsIn K C).isSome = true
section
variable {prog : Program} {w : World} {A : Around} {E : Value → Shared → Prop} {h : Heap} {g : Array GenState} {d : Drawn} {t : Nat} {os : OsState} {a C : Addr} {o : Obj} {K : PySem.W.Frag}
theorem ec_type {M : Model} (hx : h.get? a = some o) (hc : o.cls = .ref C) : Looks M h (typeOf (.ref a)) (.ref C) := hc ▸ (Looks.ld hx).andThen .now
theorem ec_get {R : Result → Shared → Prop} {tp : Value} (X : K.In h) (Z : ErrCls K C) (hx : h.get? a = some o) (hc : o.cls = .ref C) (hq : R (.ok (.ret (.ref C))) ⟨h, g, d, t, os⟩) :
    codeAny (model prog w) A (.call (.builtin "getset_descriptor.__get__") ⟨[.builtin "object.__class__", .ref a, tp], []⟩) R ⟨h, g, d, t, os⟩ := by
  have L0 := ec_type (M := model prog w) hx hc
  have L1 := looks_mroIn (M := model prog w) X Z.mo
  refine codeAny_call_builtin KF.slot_gs.plain KF.entry_gs (KF.slot_gs.check _ _ _ _ _ _ _ _ KF.type_class (KF.args_gs _ _ _) ?_)
  unfold Builtin.«getset_descriptor.__get__» descrGet
  rw [dga_obj]
  refine wpAny_bind (wpAny_pure ?_)
  unfold descrGetter descrCheckInstance descrNameAndClass isInstance
  simp only [KF.owner_class]
  repeat lk
  refine ⟨Code.quiet_builtin _ (by decide +kernel), codeAny_builtin KF.entry_class ?_⟩
  unfold Builtin.«object.__class__» shownTypeOf
  repeat lk
  exact hq
theorem ec_entry {tk : Tok} {Q : Fin → Shared → Prop} (X : K.In h) (Z : ErrCls K C) (hx : h.get? a = some o) (hc : o.cls = .ref C) (hq : Q (.done (.ret (.ref C))) ⟨h, g, d, t, os⟩) :
    wpAny (model prog w) A (Builtin.«object.__getattribute__» ⟨[.ref a, .str "__class__" tk], []⟩) Q E ⟨h, g, d, t, os⟩ := by
  have L2 := looks_findIn (M := model prog w) X Z.ca
  have hT5 : (⟨h, g, d, t, os⟩ : Shared).TypeIs (.builtin "object.__class__") "getset_descriptor" := F.typeOf_object_class
  have f5 := F.typeOf_object_class
  have f6 := F.slot_gs_get.lookup
  have f7 := F.slot_gs_set.lookup
  repeat (any_goals (first | assumption | (with_reducible refine wpAny_loadPart_at hx ?_; rw [hc]) | with_reducible refine Looks.at L2 ?_ | wp_step))
  refine ec_get X Z hx hc ?_
  repeat (any_goals (first | assumption | wp_step))
theorem ec_check {M : Model} {nameV : Value} {Q : Unit → Shared → Prop} (X : K.In h) (Z : ErrCls K C) (hx : h.get? a = some o) (hc : o.cls = .ref C) (hq : Q () ⟨h, g, d, t, os⟩) : wpAny M A (checkBuiltinCall "BaseException.__getattribute__" ⟨[.ref a, nameV], []⟩) Q E ⟨h, g, d, t, os⟩ := by
  have hk : builtinKind "BaseException.__getattribute__" = some .slot := by decide +kernel
  have hsplit : splitId "BaseException.__getattribute__" = some ("BaseException", "__getattribute__") := by decide +kernel
  have ha := F.args_bexc_ga (.ref a) nameV
  have L1 := looks_mroIn (M := M) X Z.mb
  simp only [checkBuiltinCall, hk, hsplit]
  refine wpAny_bind ?_
  unfold isInstance
  repeat (first | (with_reducible refine wpAny_loadPart_at hx ?_; rw [hc]) | with_reducible refine Looks.at L1 ?_ | wp_step)
  exact hq
theorem ec_by {tk : Tok} {fill expr : Bool} {Q : Value → Shared → Prop} (X : K.In h) (Z : ErrCls K C) (hx : h.get? a = some o) (hc : o.cls = .ref C) (hq : Q (.ref C) ⟨h, g, d, t, os⟩) :
    wpAny (model prog w) A (getAttrBy (.ref a) (.str "__class__" tk) fill expr) Q E ⟨h, g, d, t, os⟩ := by
  have f3 := F.excAttr_ValueError.ga.bind (.ref a)
  have hx0 : (expr && onTheHeap (Value.builtin "BaseException.__getattribute__")) = false := by cases expr <;> rfl
  have hx2 : (Value.builtin "BaseException.__getattribute__" == Value.builtin "object.__getattribute__") = false := by decide +kernel
  have hx1 : (onTheHeap (Value.ref C) && Value.builtin "BaseException.__getattribute__" == Value.builtin "object.__getattribute__") = false := by rw [hx2]; rfl
  have L1 := looks_findIn (M := model prog w) X Z.ga
  have L2 := looks_findIn (M := model prog w) X Z.gn
  repeat (any_goals (first | assumption | (with_reducible refine wpAny_loadPart_at hx ?_; rw [hc]) | with_reducible refine Looks.at L1 ?_ | with_reducible refine Looks.at L2 ?_ | wp_step))
  refine codeAny_call_builtin F.excAttr_ValueError.ga.plain F.entry_bexc_ga (ec_check X Z hx hc (ec_entry X Z hx hc ?_))
  repeat (any_goals (first | assumption | wp_step))
theorem ec_attr {Q : Option Value → Shared → Prop} (X : K.In h) (Z : ErrCls K C) (hx : h.get? a = some o) (hc : o.cls = .ref C) (hq : Q (some (.ref C)) ⟨h, g, d, t + 1, os⟩) : wpAny (model prog w) A (getAttr? (.ref a) "__class__") Q E ⟨h, g, d, t, os⟩ := by
  unfold getAttr? getAttrBy?
  repeat (any_goals (first | assumption | with_reducible apply ec_by X Z hx hc | wp_step))
/-- isinstance's own look at an error of an own class -/
theorem kitx_err (Z : ErrCls K C) : KitX K (.ref a) (.ref C) (fun h => ∃ o, h.get? a = some o ∧ o.cls = .ref C) where
  ty := fun M h _ ⟨o, hx, hc⟩ => ec_type hx hc
  it := fun M h X _ => by
    obtain ⟨cd, hcD⟩ := Option.isSome_iff_exists.mp Z.is
    unfold clsIn at hcD
    split at hcD
    · rename_i c' d' cd' sl' ho
      intro A' Q' E' s' k q
      unfold isType loadHead
      exact wpAny_bind (wpAny_loadPart (k _ _ (X _ _ ho)) (wpAny_pure q))
    · cases hcD
  ne := fun h tp dd its n sl X htp => by
    obtain ⟨cd, hcD⟩ := Option.isSome_iff_exists.mp Z.is
    refine Bool.eq_false_iff.mpr fun q => ?_
    have e : C = tp := Value.ref.inj (beq_iff_eq.mp q)
    subst e
    unfold clsIn at hcD
    split at hcD
    · rename_i c' d' cd' sl' ho
      have := X _ _ ho
      rw [htp] at this; cases this
    · cases hcD
  ca := fun {prog w A E Q s} X ⟨o, hx, hc⟩ q => by
    obtain ⟨h, g, d, t, os⟩ := s
    exact ec_attr X Z hx hc q
end
section
variable {X : Cx}
/-- isinstance(e, c) of a tracked error, c an own class or a built-in one -/
def qIsErr (b : Bool) (C : Addr) (cv : V) : List V → Hp → VK → Prop := fun xs H Q => ∃ ea, xs = [.ref ea, cv] ∧ H ea = some (ErrO ea (.ref C)) ∧ Q (.bl b) H
theorem call_isErr {b : Bool} {c : Value} {cv : V} {C : Addr} (Z : ErrCls X.K C) (e : PySem.W.kitOne X.K (.ref C) c = some b) (hc : ∀ u, RelV cv u → u = c) : CallR X (.builtin "isinstance") (qIsErr b C cv) := by
  intro pins s σ H xs us Q I r h
  obtain ⟨ea, rfl, eo, q⟩ := h
  obtain ⟨u, v, rfl, ra, rb⟩ := vals2 r
  cases (show u = Value.ref ea from ra)
  rw [hc v rb]
  obtain ⟨φ, _⟩ := (show ObjOk X.prog X.w H s.heap ea (.ext _) from I.hok ea _ eo)
  exact PySem.W.kia_one (kitx_err Z) I.kIn φ e (fun z => nomatch z) fun tk => ⟨.bl b, H, I.tok _, rfl, q⟩
/-- isinstance(e, (C1, C2)) -/
def qIsErr2 (b : Bool) (C c1 c2 : Addr) : List V → Hp → VK → Prop := fun xs H Q => ∃ ea tp, xs = [.ref ea, .ref tp] ∧ H ea = some (ErrO ea (.ref C)) ∧ H tp = some (.tup [.ref c1, .ref c2]) ∧ Q (.bl b) H
theorem call_isErr2 {b : Bool} {c1 c2 : Addr} {C : Addr} (Z : ErrCls X.K C) (e : PySem.W.kitAny X.K (.ref C) [.ref c1, .ref c2] = some b) : CallR X (.builtin "isinstance") (qIsErr2 b C c1 c2) := by
  intro pins s σ H xs us Q I r h
  obtain ⟨ea, tp, rfl, eo, et, q⟩ := h
  obtain ⟨u, v, rfl, ra, rb⟩ := vals2 r
  cases (show u = Value.ref ea from ra)
  cases (show v = Value.ref tp from rb)
  obtain ⟨φ, _⟩ := (show ObjOk X.prog X.w H s.heap ea (.ext _) from I.hok ea _ eo)
  obtain ⟨_, its, rv, o, ho, hcl, n, hd⟩ := (show ObjOk X.prog X.w H s.heap tp (.tup _) from I.hok tp _ et)
  obtain ⟨u1, u2, rfl, r1, r2⟩ := vals2 rv
  cases (show u1 = Value.ref c1 from r1)
  cases (show u2 = Value.ref c2 from r2)
  obtain ⟨oc, od, oda, osl⟩ := o
  dsimp only at hcl hd
  subst hcl hd
  exact PySem.W.kia_tup (kitx_err Z) I.kIn φ ho e (fun z => nomatch z) fun tk => ⟨.bl b, H, I.tok _, rfl, q⟩
end
section
variable {P : Program} {w : World} {K : PySem.W.Frag} {mg : Str → Option Value} {base : Heap}
/-- the rule for a def that may raise -/
theorem Fun.okX {x qual : Str} {st : Stmt} {f : Addr} {fd : FuncData} {N ps : List Str} {k : Nat} {sp : Sp} (F : Fun K x qual st f fd) (S : FnScope N ps (defScope st)) (len : ∀ vs H Q E, sp vs H Q E → vs.length = ps.length)
    (hbody : ∀ (cdv : Value) (A : Around) (outer : List Env) (s : Shared) (H : Hp) (vs : List V) (Q : VK) (E : XK), Room k (A.deeper (envOfC qual (defScope st) s.heap.objs.size f cdv)) → sp vs H Q E →
      ∃ t, PSs (cxOf (CX1 P w base) P w K mg base N qual (defScope st) f cdv A outer s H E) (defBody st) t ∧ t { nx := fun _ H' => Q .non H', rt := Q } (start N vs) H) : FnOk P w K mg base (CX1 P w base) (k + 1) f fd ps sp := by
  obtain ⟨oc, od, kV, doc, pm, an, cdv, ct, osl, rfl, lk, hcd⟩ := F.ex
  exact fn_of lk hcd S len fun A outer s H vs Q E hr hsp => hbody cdv A outer s H vs Q E hr hsp
/-- a def that may raise, as others call it -/
structure CalX (P : Program) (w : World) (K : PySem.W.Frag) (mg : Str → Option Value) (base : Heap) (n : Nat) (x : Str) (ps : List Str) (sp : Sp) : Prop where
  ex : ∃ f fd, FnOk P w K mg base (CX1 P w base) n f fd ps sp ∧ Binds K fd ps [] ∧ PySem.W.keepIn K (.ref f) = true ∧ mg x = some (.ref f)
theorem CalX.of {n : Nat} {x : Str} {ps : List Str} {sp : Sp} {f : Addr} {fd : FuncData} (F : FnOk P w K mg base (CX1 P w base) n f fd ps sp) (b : Binds K fd ps []) (k : PySem.W.keepIn K (.ref f) = true) (m : mg x = some (.ref f)) : CalX P w K mg base n x ps sp := ⟨f, fd, F, b, k, m⟩
end
end L2
end
section
set_option maxRecDepth 100000
set_option linter.all false
namespace L2
open PySem PySem.W PySem.Spec PyProof.Rows
/-- a class' names: texts all, and no __init__ -/
def nsQ (K : PySem.W.Frag) (N : Addr) : Bool := match K.lookup N with
  | some ⟨_, _, .dict es _, _⟩ => es.all (fun e => match e.key with | .str _ _ => true | _ => false) && (nsFind es "__init__").isNone
  | _ => false
def clsQ (K : PySem.W.Frag) (C : Addr) : Bool := match K.lookup C with
  | some ⟨_, _, .cls cd, _⟩ => nsQ K cd.ns
  | _ => false
def ownQ (K : PySem.W.Frag) (C : Addr) (bm : List Value) (newId : String) : Bool := match K.lookup C with
  | some ⟨.type T, _, .cls cd, sl⟩ => T == "type" && cd.mro == .ref C :: bm && !cd.hasDel && (match sl with | ⟨[_, _, _, _, some (.builtin i), _]⟩ => i == newId | _ => false)
  | _ => false
def errQ (K : PySem.W.Frag) (C : Addr) : Bool :=
  findIn K (.ref C) "__getattribute__" == some (some (.builtin "BaseException.__getattribute__")) && findIn K (.ref C) "__getattr__" == some none && findIn K (.ref C) "__class__" == some (some (.builtin "object.__class__")) &&
    mroIn K C (.type "object") == some true && mroIn K C (.type "BaseException") == some true && (clsIn K C).isSome
theorem errCls_of {K : PySem.W.Frag} {C : Addr} (h : errQ K C = true) : ErrCls K C := by
  unfold errQ at h
  simp only [Bool.and_eq_true, beq_iff_eq] at h
  obtain ⟨⟨⟨⟨⟨h1, h2⟩, h3⟩, h4⟩, h5⟩, h6⟩ := h
  exact ⟨h1, h2, h3, h4, h5, h6⟩
theorem ns_of {K : PySem.W.Frag} {N : Addr} {base : Heap} (X : K.In base) (h : nsQ K N = true) : ∃ m, base.Ns N m ∧ m "__init__" = none := by
  unfold nsQ at h
  split at h
  · rename_i c d es ep sl e
    rw [Bool.and_eq_true] at h
    refine ⟨fun n => nsFind es n, ⟨_, es, ep, X _ _ e, rfl, fun x hx => ?_, fun _ => rfl⟩, Option.isNone_iff_eq_none.mp h.2⟩
    have q := (Array.all_eq_true'.mp h.1) x hx
    split at q
    · rename_i a b hk; exact ⟨a, b, hk⟩
    · cases q
  · cases h
theorem ownX_of {K : PySem.W.Frag} {C A : Addr} {bmB : List Value} {newId : String} {base : Heap} (X : K.In base) (h1 : ownQ K C (.ref A :: bmB) newId = true) (h2 : clsQ K C = true) (h3 : clsQ K A = true) : OwnX base C (.ref A :: bmB) bmB newId := by
  refine ⟨?_, ?_⟩
  · unfold clsQ at h2
    unfold ownQ at h1
    split at h1
    · rename_i T d cd sl e
      rw [e] at h2
      dsimp only at h2
      simp only [Bool.and_eq_true, beq_iff_eq, Bool.not_eq_true'] at h1
      obtain ⟨⟨⟨rfl, hm⟩, hd⟩, hs⟩ := h1
      obtain ⟨m, hN, hi⟩ := ns_of X h2
      split at hs
      · rename_i k0 k1 k2 k3 i k5
        obtain rfl := beq_iff_eq.mp hs
        obtain ⟨nm, bs, mro, ns, q, hdct, sn, sub, ab, col, hdl⟩ := cd
        dsimp only at hm hd hN
        subst hm hd
        exact ⟨nm, q, ns, bs, hdct, sn, sub, ab, col, d, k0, k1, k2, k3, k5, m, X _ _ e, hN, hi⟩
      · cases hs
    · cases h1
  · unfold clsQ at h3
    split at h3
    · rename_i c d cd sl e
      obtain ⟨m, hN, hi⟩ := ns_of X h3
      exact .own (X _ _ e) hN hi .base
    · cases h3
/-- the built-in classes behind an own error -/
abbrev bmVE : List Value := [.type "ValueError", .type "Exception", .type "BaseException", .type "object"]
/-- raise C("..") of an own class under an own class under ValueError -/
theorem ps_raiseVE {X : Cx} {x : Str} {C A : Addr} {e₀ : Expr} {es : List Expr} {np cpos pos : Pos} {t : TA} {R : Value → Hp → Prop} (hc : X.calm = true) (hg : Gl X x) (hm : X.mg x = some (.ref C)) (O : OwnX X.base C (.ref A :: bmVE) bmVE "ValueError.__new__")
    (hR : RaisesTo X R) (ha : PA X (e₀ :: es) t) (hdb : (x == ("__debug__" : Str)) = false := by decide)
    (he : starEach (e₀ :: es) X.env = (false, eval e₀ X.env) :: starEach es X.env := by rfl) (hpl : (backTo cpos (starEach es X.env)).any (·.1) = false := by rfl) :
    PS X (.Raise (some (.Call (.Name x np) (e₀ :: es) [] cpos)) none pos) (tRaise t C R) :=
  ps_raise hc hg hm O F.excBase_ValueError (by decide +kernel) F.excBase_ValueError hR ha hdb he hpl
end L2
end
section
set_option maxRecDepth 100000
set_option linter.all false
namespace FD
open PySem L2 FF
abbrev sTurnedF : Stmt := top 27
abbrev sRefT : Stmt := top 43
def spTurnedF (c : Addr) : Sp := fun vs H Q E => ∃ l rf cs tu T, vs = [.ref l, .ref tu] ∧ PLs H l rf cs ∧ AllCo cs ∧ Fence cs ∧ TnA H tu T ∧ TnBig T ∧
  (isT T = false → ∀ H', Same H H' → E (.ref c) none H') ∧ (isT T = true → ∀ r rg H', Same H H' → PLs H' r rg (cs.map T.led) → Q (.ref r) H')
def spRefT : Sp := fun vs H Q _ => ∃ l rf cs tu T, vs = [.ref l, .ref tu] ∧ PLs H l rf cs ∧ AllCo cs ∧ Fence cs ∧ TnA H tu T ∧ TnBig T ∧ isT T = false ∧ ∀ H', Same H H' → Q (.bl true) H'
section
variable {P : Program} {w : World} {K : PySem.W.Frag} {mg : Str → Option Value} {base : Heap} {f : Addr} {fd : FuncData} {cE cF cT cW : Addr}
theorem scTurnedF : FnScope ["corners", "turning"] ["corners", "turning"] (defScope sTurnedF) := ⟨rfl, rfl, rfl, by decide +kernel, rfl, by decide +kernel, by decide +kernel⟩
theorem ok_turnedF (F : Fun K "turned" "turned" sTurnedF f fd) (cR : Cal P w K mg base 6 "refuse_no_fence" ["corners"] spRefuse) (cI : Cal P w K mg base 1 "is_turning" ["turning"] spIsT) (cL : Cal P w K mg base 2 "led" ["points", "turning"] spLedL)
    (m_T : mg "NoTurning" = some (.ref cT)) (O : OwnX base cT (.ref cE :: bmVE) bmVE "ValueError.__new__") : FnOk P w K mg base (CX1 P w base) 7 f fd ["corners", "turning"] (spTurnedF cT) := by
  refine F.okX scTurnedF (fun vs H Q E h => ?_) (fun cdv A outer s H vs Q E hr h => ?_)
  · obtain ⟨l, rf, cs, tu, T, rfl, _⟩ := h
    rfl
  obtain ⟨l, rf, cs, tu, T, rfl, hP, co, fe, hT, bT, qE, q⟩ := h
  refine ⟨_, pss_consN (ps_expr (pe_cal cR hr (by decide) rfl (pa_cons (pv 0) pa_nil)))
    (pss_consN (ps_if (pt_not (pt_val (pe_cal cI hr (by decide) rfl (pa_cons (pv 1) pa_nil)))) (pss_one (ps_raiseVE rfl rfl m_T O raisesTo_cx (pa_cons pe_str pa_nil))) pss_nil)
    (pss_one (ps_ret (pe_cal cL hr (by decide) rfl (pa_cons (pv 0) (pa_cons (pv 1) pa_nil)))))), ?_⟩
  refine ⟨_, rfl, l, rf, cs, rfl, hP, co, fe, fun H1 s1 => ⟨[_, _], rfl, ?_⟩⟩
  refine ⟨_, rfl, tu, T, rfl, s1 _ _ hT, bT, _, rfl, ?_⟩
  cases hb : isT T with
  | false => exact iteT ⟨by decide, qE hb _ s1⟩
  | true => exact iteF ⟨[_, _], rfl, _, rfl, _, rfl, l, rf, cs, tu, T, rfl, hP.mono s1, co, by have := fe.hi; lia, s1 _ _ hT, bT, fun r rg H2 s2 p => q hb r rg H2 (s1.trans s2) p⟩
theorem scRefT : FnScope ["corners", "turning", "name", "e"] ["corners", "turning"] (defScope sRefT) := ⟨rfl, rfl, rfl, by decide +kernel, rfl, by decide +kernel, by decide +kernel⟩
/-- the own classes, as the law's part of the heap has them -/
structure ErrFacts (K : PySem.W.Frag) (mg : Str → Option Value) (cE cF cT cW : Addr) : Prop where
  mE : mg "FenceError" = some (.ref cE)
  mF : mg "NoFence" = some (.ref cF)
  mT : mg "NoTurning" = some (.ref cT)
  mW : mg "TooWide" = some (.ref cW)
theorem ok_refT (F : Fun K "_law_refused" "_law_refused" sRefT f fd) (cT0 : CalX P w K mg base 7 "turned" ["corners", "turning"] (spTurnedF cT)) (m : ErrFacts K mg cE cF cT cW) (m_V : mg "ValueError" = none) (m_isinstance : mg "isinstance" = none) (Z : ErrCls K cT)
    (x1 : PySem.W.exmOne K (.ref cT) (.ref cE) = some true) (k1 : PySem.W.kitOne K (.ref cT) (.type "ValueError") = some true) (k2 : PySem.W.kitOne K (.ref cT) (.ref cT) = some true) (k3 : PySem.W.kitAny K (.ref cT) [.ref cF, .ref cW] = some false) : FnOk P w K mg base CX0 8 f fd ["corners", "turning"] spRefT := by
  refine F.ok scRefT (fun vs H Q E h => ?_) (fun cdv A outer s H vs Q E hr h => ?_)
  · obtain ⟨l, rf, cs, tu, T, rfl, _⟩ := h
    rfl
  obtain ⟨l, rf, cs, tu, T, rfl, hP, co, fe, hT, bT, hI, q⟩ := h
  obtain ⟨ft, fdt, FT, bt, kt, mt⟩ := cT0.ex
  refine ⟨_, pss_consN (ps_set (i := 2) scRefT.nd rfl (Or.inl rfl) pe_str)
    (pss_consN (ps_tryCall (fun _ _ z => z) rfl rfl rfl rfl FT hr rfl mt kt bt (pa_cons (pv 0) (pa_cons (pv 1) pa_nil)) rfl m.mE scRefT.nd (i := 3) rfl (Or.inl rfl) rfl rfl
      (fun ea => pss_one (ps_if (PW.pt (pw_and (pt_val (pe_callB (call_isErr (cv := .ty "ValueError") Z k1 (fun u r => r)) rfl m_isinstance PyProof.Rows.boot_isinstance (pa_cons (pv 3) (pa_cons (pe_bltn (v := .ty "ValueError") (u := .type "ValueError") rfl m_V (by kernel_rfl) rfl) pa_nil))))
        (pw_and (pt_val (pe_callB (call_isErr (cv := .ref cT) Z k2 (fun u r => r)) rfl m_isinstance PyProof.Rows.boot_isinstance (pa_cons (pv 3) (pa_cons (pe_glob (v := .ref cT) rfl m.mT rfl) pa_nil))))
        (pw_and1 (pt_not (pt_val (pe_callB (call_isErr2 Z k3) rfl m_isinstance PyProof.Rows.boot_isinstance (pa_cons (pv 3) (pa_cons (pe_tup (pa_cons (pe_glob (v := .ref cF) rfl m.mF rfl) (pa_cons (pe_glob (v := .ref cW) rfl m.mW rfl) pa_nil))) pa_nil)))))))))
        (pss_one (ps_set (i := 2) scRefT.nd rfl (Or.inl rfl) pe_str)) pss_nil)))
    (pss_one (ps_ret (pe_cmpR op_eq (pv 2) pe_str (nomark _))))), ?_⟩
  refine ⟨[_, _, _, _], rfl, ?_⟩
  refine ⟨_, rfl, _, rfl, l, rf, cs, tu, T, rfl, hP, co, fe, hT, bT, fun _ H1 s1 => ⟨x1, fun ea hea => ?_⟩, fun z => by rw [hI] at z; cases z⟩
  have s2 := s1.trans (same_upd hea (ErrO ea (.ref cT)))
  refine ⟨_, rfl, ea, rfl, upd_same, _, rfl, iteT ⟨_, rfl, ea, rfl, upd_same, _, rfl, iteT ⟨_, rfl, ?_⟩⟩⟩
  refine ⟨small (show 2 ≤ 1000 by decide), fun p hp => ?_⟩
  have s3 := s2.trans (same_upd hp (.tup [.ref cF, .ref cW]))
  refine ⟨ea, p, rfl, same_upd hp _ _ _ upd_same, upd_same, _, rfl, iteT ?_⟩
  refine ⟨_, rfl, _, rfl, rfl, ?_⟩
  rw [decide_eq_true rfl]
  exact q _ s3
end
/-- a def that may raise, where it does not -/
theorem _root_.L2.FnOk.calm {P : Program} {w : World} {K : PySem.W.Frag} {mg : Str → Option Value} {base : Heap} {k : Nat} {f : Addr} {fd : FuncData} {ps : List Str} {sp sp' : Sp} (F : FnOk P w K mg base (CX1 P w base) k f fd ps sp)
    (h : ∀ vs H Q E, sp' vs H Q E → sp vs H Q fun _ _ _ => False) : FnOk P w K mg base CX0 k f fd ps sp' :=
  ⟨fun vs H Q E q => F.len _ _ _ _ (h _ _ _ _ q), fun A outer s H args us vs Q E hr he hb hv hs => codeAny_mono (F.run A outer s H args us vs Q _ hr he hb hv (h _ _ _ _ hs)) fun r s' z => by
    cases r with
    | ok f => cases f <;> exact z
    | error e =>
      obtain ⟨_, _, _, _, _, _, _, _, _, _, _, _, z⟩ := z
      exact z⟩
def spTurnedG : Sp := fun vs H Q _ => ∃ l rf cs tu T, vs = [.ref l, .ref tu] ∧ PLs H l rf cs ∧ AllCo cs ∧ Fence cs ∧ TnA H tu T ∧ TnBig T ∧ isT T = true ∧ ∀ r rg H', Same H H' → PLs H' r rg (cs.map T.led) → Q (.ref r) H'
theorem turnedG {c : Addr} (vs : List V) (H : Hp) (Q : VK) (E : XK) (h : spTurnedG vs H Q E) : spTurnedF c vs H Q fun _ _ _ => False := by
  obtain ⟨l, rf, cs, tu, T, rfl, hP, co, fe, hT, bT, hI, q⟩ := h
  exact ⟨l, rf, cs, tu, T, rfl, hP, co, fe, hT, bT, fun z => (by rw [hI] at z; cases z), fun _ => q⟩
end FD
end
section
set_option maxRecDepth 100000
set_option linter.all false
namespace FD
open PySem L2 FF
theorem inN_led {T : Tn} (h : T.det = 1 ∨ T.det = -1) (cs : List Pt) : inN (cs.map T.led) = inN cs := by
  unfold inN
  rw [rim_led h, area_led]
  rcases h with e | e <;> rw [e] <;> congr 1
  · rw [Int.one_mul]
  · rw [show (-1 : Int) * area cs = - area cs by lia]
    congr 1
    split <;> split <;> lia
end FD
end
section
set_option maxRecDepth 100000
set_option linter.all false
namespace FD
open PySem L2 FF
abbrev sLaw : Stmt := top 44
def spLaw (K : PySem.W.Frag) : Sp := fun vs H Q _ => ∃ (a : Addr) (ns : List Int), vs = [.ref a] ∧ SqL K H a (ns.map V.int) ∧ ns.length ≤ 63 ∧ ∀ H', Q (.bl true) H'
theorem viaSt {α : Type} {G : Prop} {J : L2.St → Hp → Prop} {Pm : α → Hp → Prop} (mk : α → L2.St) (main : (∀ a c, Pm a c → J (mk a) c) → G) (rest : ∀ a c, Pm a c → J (mk a) c) : G := main rest
theorem allCo_of {cs : List Pt} (h : ∀ p ∈ cs, Co p) : AllCo cs := fun i hi => h _ (at_mem hi)
theorem ixN_of {n j : Nat} (hj : j < n) : ixN n (j : Int) = some j := by
  unfold ixN
  rw [if_pos (by lia), if_pos (by lia)]
  simp
theorem atI_of {ms : List Int} {j : Nat} (hj : j < ms.length) : atI (ms.map V.int) (j : Int) = some (.int (ms.getD j 0)) := by
  unfold atI
  rw [List.length_map, ixN_of hj]
  show (ms.map V.int)[j]? = _
  rw [List.getElem?_map, List.getD_eq_getElem?_getD, List.getElem?_eq_getElem hj]
  rfl
theorem same_not {H H1 : Hp} {l : Addr} {o : HO} (s : Same H H1) (hl : H l = none) : Same H (upd H1 l o) := FD.Same.updN s hl
def bd31 (n : Int) : Prop := -(10 ^ 31) ≤ n ∧ n ≤ 10 ^ 31
/-- the list of six numbers, as the law changes it -/
def L6 (B : Int) (H0 H : Hp) (l : Addr) : Prop := Same H0 H ∧ H0 l = none ∧ ∃ ms : List Int, H l = some (.lst (ms.map V.int)) ∧ ms.length = 6 ∧ ∀ m ∈ ms, -B ≤ m ∧ m ≤ B
theorem turningBy_bdF (ns : List Int) (f : Nat) {far : Int} (h0 : 0 < far) (hF : far ≤ 10 ^ 12) : TnB (turningBy ns f far) := by
  have a1 := Int.emod_nonneg (cell ns f) (show far ≠ 0 by lia)
  have a2 := Int.emod_lt_of_pos (cell ns f) h0
  have b1 := Int.emod_nonneg (cell ns (f + 1)) (show far ≠ 0 by lia)
  have b2 := Int.emod_lt_of_pos (cell ns (f + 1)) h0
  have c1 := Int.emod_nonneg (cell ns (f + 2)) (show (2 : Int) ≠ 0 by decide)
  have c2 := Int.emod_lt_of_pos (cell ns (f + 2)) (show (0 : Int) < 2 by decide)
  have d1 := Int.emod_nonneg (cell ns (f + 3)) (show ((10 : Int) ^ 30) ≠ 0 by decide)
  have d2 := Int.emod_lt_of_pos (cell ns (f + 3)) (show (0 : Int) < 10 ^ 30 by decide)
  have e1 := Int.emod_nonneg (cell ns (f + 2) / 2) (show ((10 : Int) ^ 30) ≠ 0 by decide)
  have e2 := Int.emod_lt_of_pos (cell ns (f + 2) / 2) (show (0 : Int) < 10 ^ 30 by decide)
  have k1 := mul_bd (x := cell ns f % far - far / 2) (y := cell ns (f + 1) % far - far / 2) (a := 10 ^ 12) (b := 10 ^ 12) (by lia) (by lia) (by decide) (by decide)
  have k2 := mul_bd (x := 1 - 2 * (cell ns (f + 2) % 2)) (y := cell ns (f + 1) % far - far / 2) (a := 1) (b := 10 ^ 12) (by lia) (by lia) (by decide) (by decide)
  unfold TnB turningBy
  simp only
  generalize (cell ns f % far - far / 2) * (cell ns (f + 1) % far - far / 2) = z1 at *
  generalize (1 - 2 * (cell ns (f + 2) % 2)) * (cell ns (f + 1) % far - far / 2) = z2 at *
  omega
theorem led31 {T : Tn} {p : Pt} (h1 : bd31 T.a) (h2 : bd31 T.b) (h3 : bd31 T.c) (h4 : bd31 T.d) (h5 : bd31 T.e) (h6 : bd31 T.f) (n1 : -1000 ≤ p.1 ∧ p.1 ≤ 1000) (n2 : -1000 ≤ p.2 ∧ p.2 ≤ 1000) : Co (T.led p) := by
  unfold bd31 at *
  have m1 := sm_mul (A := 10 ^ 31) (B := 1000) (x := T.a) (y := p.1) ⟨by omega, by omega⟩ ⟨by omega, by omega⟩
  have m2 := sm_mul (A := 10 ^ 31) (B := 1000) (x := T.b) (y := p.2) ⟨by omega, by omega⟩ ⟨by omega, by omega⟩
  have m3 := sm_mul (A := 10 ^ 31) (B := 1000) (x := T.c) (y := p.1) ⟨by omega, by omega⟩ ⟨by omega, by omega⟩
  have m4 := sm_mul (A := 10 ^ 31) (B := 1000) (x := T.d) (y := p.2) ⟨by omega, by omega⟩ ⟨by omega, by omega⟩
  unfold Sm at *
  show (-(10 ^ 40) ≤ T.a * p.1 + T.b * p.2 + T.e ∧ T.a * p.1 + T.b * p.2 + T.e ≤ 10 ^ 40) ∧ -(10 ^ 40) ≤ T.c * p.1 + T.d * p.2 + T.f ∧ T.c * p.1 + T.d * p.2 + T.f ≤ 10 ^ 40
  omega
theorem big31 {n : Int} (h : bd31 n) : Big n := by unfold bd31 at h; exact big_of (by omega) (by omega)
theorem len6 {l : List Int} (h : l.length = 6) : ∃ a b c d e f, l = [a, b, c, d, e, f] := by
  match l, h with
  | [a, b, c, d, e, f], _ => exact ⟨a, b, c, d, e, f, rfl⟩
section
variable {P : Program} {w : World} {K : PySem.W.Frag} {mg : Str → Option Value} {base : Heap} {f : Addr} {fd : FuncData}
theorem scLaw : FnScope ["script", "corners", "turning", "way", "at", "six", "handed", "found"] ["script"] (defScope sLaw) := ⟨rfl, rfl, rfl, by decide +kernel, rfl, by decide +kernel, by decide +kernel⟩
theorem nd_k_script : (["k", "script"] : List Str).Nodup := by decide +kernel
theorem nd_point_six : (["point", "six"] : List Str).Nodup := by decide +kernel
set_option maxHeartbeats 4000000 in
theorem ok_law (F : Fun K "law" "law" sLaw f fd) (cC : Cal P w K mg base 1 "_law_cell_at" ["script", "k"] (spCell K)) (cB : Cal P w K mg base 3 "_law_fence_by" ["script", "first"] (spFenceBy K)) (cL : Cal P w K mg base 1 "_law_led" ["turning", "point"] spLedB) (cQ : Cal P w K mg base 2 "_law_points_are" ["found", "due"] spPtsAre)
    (cR : Cal P w K mg base 8 "_law_refused" ["corners", "turning"] spRefT) (cT : Cal P w K mg base 2 "_law_turning_by" ["script", "first", "far"] (spTurning K)) (cA : Cal P w K mg base 7 "double_area" ["corners"] spArea) (cI : Cal P w K mg base 8 "inside" ["corners"] spInside) (cM : Cal P w K mg base 7 "rim" ["corners"] spRim) (cG : Cal P w K mg base 7 "turned" ["corners", "turning"] spTurnedG)
    (m_abs : mg "abs" = none) (m_list : mg "list" = none) (m_range : mg "range" = none) : FnOk P w K mg base CX0 9 f fd ["script"] (spLaw K) := by
  refine F.ok scLaw (fun vs H Q E h => ?_) (fun cdv A outer s H vs Q E hr h => ?_)
  · obtain ⟨a, ns, rfl, _⟩ := h
    rfl
  obtain ⟨a, ns, rfl, hS0, h63, q⟩ := h
  have hS : Scr K H a ns := ⟨hS0, h63⟩
  have hu := hr.un
  have hu2 : A.units + 3 + 5 < cLine := by have : A.units + 3 + 16 * 8 + 200 < cLine := hu; omega
  refine ⟨_, pss_consN (ps_set (i := 1) scLaw.nd rfl (Or.inl rfl) (pe_cal cB hr (by decide) rfl (pa_cons (pv 0) (pa_cons pe_int pa_nil))))
    (pss_consN (ps_set (i := 2) scLaw.nd rfl (Or.inl rfl) (pe_callTy call_list_of rfl m_list PyProof.Rows.boot_list (pa_cons (pe_cal cT hr (by decide) rfl (pa_cons (pv 0) (pa_cons pe_int (pa_cons (pe_op op_powR pe_int pe_int) pa_nil)))) pa_nil)))
    (pss_consN (ps_set (i := 3) scLaw.nd rfl (Or.inl rfl) (pe_op op_modR (pe_cal cC hr (by decide) rfl (pa_cons (pv 0) (pa_cons pe_int pa_nil))) pe_int))
    (pss_consN (ps_if (pt_cmpR op_eq (pv 3) pe_int (nomark _)) (pss_consN (ps_set (i := 4) scLaw.nd rfl (Or.inl rfl) (pe_op op_modR (pe_cal cC hr (by decide) rfl (pa_cons (pv 0) (pa_cons pe_int pa_nil))) pe_int))
      (pss_one (ps_asg (pe_op op_subR (pe_op op_addR (pe_ix ix_list (pv 2) (pv 4) (fun _ _ => rfl)) pe_int) (pe_op op_mulR pe_int (pe_op op_modR (pe_op op_fdivR (pe_cal cC hr (by decide) rfl (pa_cons (pv 0) (pa_cons pe_int pa_nil))) pe_int) pe_int))) (pg_sub (pv 2) (pv 4) set_list)))) pss_nil)
    (pss_consN (ps_if (pt_cmpR op_eq (pv 3) pe_int (nomark _)) (pss_one (ps_setCompS (i := 2) (N' := ["k", "script"]) (own := 1) (caps := [0]) rfl (CompScope.of (sc := defScope sLaw) (N0 := ["script", "corners", "turning", "way", "at", "six", "handed", "found"]) rfl rfl (by decide +kernel)) scLaw.nd rfl (Or.inl rfl) (pi_range1 rfl m_range (pa_cons pe_int pa_nil)) (fun C cl fp pins s₂ H₂ => (pg_name (i := 0) nd_k_script rfl (Or.inl rfl))) (fun C cl fp pins s₂ H₂ => pfs_nil) (fun C cl fp pins s₂ H₂ => (pe_op op_subR (pe_op op_modR (pe_cal cC hr (by decide) rfl (pa_cons (pv 1) (pa_cons (pe_op op_addR pe_int (pv 0)) pa_nil))) pe_int) pe_int)))) pss_nil)
    (pss_consN (ps_set (i := 5) scLaw.nd rfl (Or.inr rfl) (pe_tup (pa_cons (pe_ix ix_list (pv 2) pe_int (fun _ _ => rfl)) (pa_cons (pe_ix ix_list (pv 2) pe_int (fun _ _ => rfl)) (pa_cons (pe_ix ix_list (pv 2) pe_int (fun _ _ => rfl)) (pa_cons (pe_ix ix_list (pv 2) pe_int (fun _ _ => rfl)) (pa_cons (pe_ix ix_list (pv 2) pe_int (fun _ _ => rfl)) (pa_cons (pe_ix ix_list (pv 2) pe_int (fun _ _ => rfl)) pa_nil))))))))
    (pss_consN (ps_set (i := 6) scLaw.nd rfl (Or.inl rfl) (pe_callTy call_copy rfl m_list PyProof.Rows.boot_list (pa_cons (pv 1) pa_nil)))
    (pss_consN (ps_if (pt_cmpR op_ne (pe_callB call_abs rfl m_abs PyProof.Rows.boot_abs (pa_cons (pe_op op_subR (pe_op op_mulBR (pe_ix ix_tup (pv 5) pe_int (fun _ _ => rfl)) (pe_ix ix_tup (pv 5) pe_int (fun _ _ => rfl))) (pe_op op_mulBR (pe_ix ix_tup (pv 5) pe_int (fun _ _ => rfl)) (pe_ix ix_tup (pv 5) pe_int (fun _ _ => rfl)))) pa_nil)) pe_int (nomark _)) (pss_one (ps_ret (pe_and (pe_cal cR hr (by decide) rfl (pa_cons (pv 6) (pa_cons (pv 5) pa_nil))) (pe_one (pe_cmpR (op_eqL hu2) (pv 6) (pv 1) (nomark _)))))) pss_nil)
    (pss_consN (ps_set (i := 7) scLaw.nd rfl (Or.inl rfl) (pe_cal cG hr (by decide) rfl (pa_cons (pv 6) (pa_cons (pv 5) pa_nil))))
    (pss_consN (ps_if (PW.pt (pw_or (pt_not (pt_val (pe_cal cQ hr (by decide) rfl (pa_cons (pv 7) (pa_cons (pe_weak (pe_compS (N' := ["point", "six"]) (own := 1) (caps := [5]) rfl (CompScope.of (sc := defScope sLaw) (N0 := ["script", "corners", "turning", "way", "at", "six", "handed", "found"]) rfl rfl (by decide +kernel)) (pi_list (pv 1)) (fun C cl fp pins s₂ H₂ => (pg_name (i := 0) nd_point_six rfl (Or.inl rfl))) (fun C cl fp pins s₂ H₂ => pfs_nil) (fun C cl fp pins s₂ H₂ => (pe_cal cL hr (by decide) rfl (pa_cons (pv 1) (pa_cons (pv 0) pa_nil))))) (pts_weak gm_name)) pa_nil))))) (pw_or1 (pt_cmpR (op_neL hu2) (pv 6) (pv 1) (nomark _))))) (pss_one (ps_ret pe_bl)) pss_nil)
    (pss_one (ps_ret (pe_cmpR (op_eqL hu2) (pe_lst (pa_cons (pe_cal cA hr (by decide) rfl (pa_cons (pv 7) pa_nil)) (pa_cons (pe_cal cI hr (by decide) rfl (pa_cons (pv 7) pa_nil)) (pa_cons (pe_cal cM hr (by decide) rfl (pa_cons (pv 7) pa_nil)) pa_nil)))) (pe_lst (pa_cons (pe_cal cA hr (by decide) rfl (pa_cons (pv 1) pa_nil)) (pa_cons (pe_cal cI hr (by decide) rfl (pa_cons (pv 1) pa_nil)) (pa_cons (pe_cal cM hr (by decide) rfl (pa_cons (pv 1) pa_nil)) pa_nil)))) (nomark _))))))))))))), ?_⟩
  have Gd := good_fenceBy ns 0
  have Nd := nr_fenceBy ns 0
  refine ⟨_, rfl, a, ns, 0, rfl, hS, fun r0 rf0 H1 s1 hP1 => ⟨[_, _, _, _, _, _, _, _], rfl, ?_⟩⟩
  generalize fenceBy ns 0 = c0 at *
  have fe := Gd.fe
  have l3 := fe.lo
  have l12 := fe.hi
  have co0 : AllCo c0 := allCo_of fun p hp => nr_co (Nd p hp)
  have tB := turningBy_bdF ns 4 (far := 10 ^ 7) (by decide) (by decide)
  refine ⟨_, rfl, _, _, rfl, rfl, ⟨by decide, by decide, by decide⟩, a, ns, 4, _, rfl, hS.mono s1, by decide, by decide, fun tu H2 s2 hT => ?_⟩
  have hT : TnA H2 tu (turningBy ns 4 (10 ^ 7)) := hT
  generalize turningBy ns 4 (10 ^ 7) = T at *
  refine ⟨tu, _, rfl, .inr (SqT.of hT), fun l hl => ⟨[_, _, _, _, _, _, _, _], rfl, ?_⟩⟩
  have s12 := s1.trans s2
  have hP2 := hP1.mono s2
  have l6 : L6 (10 ^ 30) H2 (upd H2 l (.lst ([T.a, T.b, T.c, T.d, T.e, T.f].map V.int))) l := ⟨same_upd hl _, hl, _, upd_same, rfl, fun m hm => by
    unfold TnB at tB
    simp only [List.mem_cons, List.not_mem_nil, or_false] at hm
    rcases hm with e | e | e | e | e | e <;> rw [e] <;> omega⟩
  have l6 : L6 (10 ^ 30) H2 (upd H2 l (.lst [.int T.a, .int T.b, .int T.c, .int T.d, .int T.e, .int T.f])) l := l6
  generalize upd H2 l (.lst [.int T.a, .int T.b, .int T.c, .int T.d, .int T.e, .int T.f]) = H3 at *
  clear hT tB hl
  have s13 := s12.trans l6.1
  refine ⟨_, rfl, a, ns, 8, rfl, hS.mono s13, _, _, rfl, rfl, (show (0 : Int) < 4 by decide), [_, _, _, _, _, _, _, _], rfl, ?_⟩
  generalize cell ns 8 % 4 = way at *
  refine ⟨_, rfl, rfl, _, rfl, ?_⟩
  apply viaSt (α := Option V) (Pm := fun _ H4 => L6 (10 ^ 31) H2 H4 l) (mk := fun v => [some (.ref a), some (.ref r0), some (.ref l), some (.int way), v, none, none, none])
  · intro rest
    refine ite2 (fun c => ?_) (fun c => rest none H3 ⟨l6.1, l6.2.1, l6.2.2.elim fun ms z => ⟨ms, z.1, z.2.1, fun m hm => by have := z.2.2 m hm; omega⟩⟩)
    obtain ⟨s3, nl, ms, hl3, l_6, hb⟩ := l6
    refine ⟨_, rfl, a, ns, 9, rfl, hS.mono s13, _, _, rfl, rfl, (show (0 : Int) < 4 by decide), [_, _, _, _, _, _, _, _], rfl, ?_⟩
    obtain ⟨at_, eat, hat⟩ : ∃ k : Nat, (k : Int) = cell ns 9 % 4 ∧ k < 4 := by
      have h1 := Int.emod_nonneg (cell ns 9) (show (4 : Int) ≠ 0 by decide)
      have h2 := Int.emod_lt_of_pos (cell ns 9) (show 0 < (4 : Int) by decide)
      exact ⟨(cell ns 9 % 4).toNat, by lia, by lia⟩
    rw [← eat]
    have hat6 : at_ < ms.length := by lia
    refine ⟨_, rfl, _, rfl, l, _, _, _, rfl, rfl, SqL.of hl3, atI_of hat6, _, _, rfl, rfl, _, rfl, a, ns, 8, rfl, hS.mono s13, _, _, rfl, rfl, ⟨by decide, by decide⟩, _, _, rfl, rfl, (show (0 : Int) < 2 by decide), _, _, rfl, rfl, .inl ⟨by decide, by decide⟩, _, _, rfl, rfl, ?_⟩
    have b2 : -1 ≤ 1 - 2 * (cell ns 8 / 4 % 2) ∧ 1 - 2 * (cell ns 8 / 4 % 2) ≤ 1 := by
      have h1 := Int.emod_nonneg (cell ns 8 / 4) (show (2 : Int) ≠ 0 by decide)
      have h2 := Int.emod_lt_of_pos (cell ns 8 / 4) (show (0 : Int) < 2 by decide)
      lia
    have bn := hb (ms.getD at_ 0) (by rw [List.getD_eq_getElem?_getD, List.getElem?_eq_getElem hat6]; exact List.getElem_mem hat6)
    generalize cell ns 8 / 4 % 2 = u at *
    refine ⟨_, rfl, _, rfl, l, _, _, at_, rfl, rfl, hl3, (by rw [List.length_map]; exact ixN_of hat6), ?_⟩
    refine rest (some (.int at_)) _ ⟨same_not s3 nl, nl, ms.set at_ (ms.getD at_ 0 + 1 - 2 * u), by rw [upd_same, List.map_set], by rw [List.length_set]; exact l_6, fun m hm => ?_⟩
    rcases List.mem_or_eq_of_mem_set hm with z | z
    · have := hb m z; omega
    · rw [z]; omega
  clear l6 s13
  rintro v H4 l6
  refine ⟨[_, _, _, _, _, _, _, _], rfl, ?_⟩
  have s14 := s12.trans l6.1
  refine ⟨_, rfl, rfl, _, rfl, ?_⟩
  apply viaSt (α := Addr) (Pm := fun l H5 => L6 (10 ^ 31) H2 H5 l) (mk := fun l => [some (.ref a), some (.ref r0), some (.ref l), some (.int way), v, none, none, none])
  · intro rest
    refine ite2 (fun c => ?_) (fun c => rest l H4 l6)
    refine ⟨_, rfl, by decide, by decide, 6, fun i ys H' => H' = H4 ∧ ys = ((List.range i).map fun (k : Nat) => cell ns (9 + k) % 5 - 2).map V.int, small (by decide), ⟨rfl, rfl⟩, fun ys H' hW => ⟨by show _ ≤ _; decide, fun D hD => ?_⟩, fun i ys H' hi hW => ⟨by show _ < _; lia, fun x H2 hy => ?_⟩⟩
    · obtain ⟨rfl, rfl⟩ := hW
      obtain ⟨s4, nl, _⟩ := l6
      have nD : H2 D = none := by
        cases z : H2 D with
        | none => rfl
        | some o => rw [s4 _ _ z] at hD; cases hD
      refine rest D _ ⟨s4.trans (same_upd hD _), nD, _, upd_same, by rw [List.length_map, List.length_range], fun m hm => ?_⟩
      obtain ⟨k, _, rfl⟩ := List.mem_map.mp hm
      have h1 := Int.emod_nonneg (cell ns (9 + k)) (show (5 : Int) ≠ 0 by decide)
      have h2 := Int.emod_lt_of_pos (cell ns (9 + k)) (show (0 : Int) < 5 by decide)
      omega
    · obtain ⟨rfl, rfl⟩ := hy
      obtain ⟨rfl, rfl⟩ := hW
      refine ⟨keeps1 (by decide), iteT ?_⟩
      refine ⟨_, rfl, _, rfl, _, _, rfl, rfl, a, ns, 9 + i, ?_, hS.mono s14, _, _, rfl, rfl, (show (0 : Int) < 5 by decide), _, _, rfl, rfl, rfl, ?_⟩
      · show [V.ref a, V.int (9 + (0 + (i : Int)))] = [V.ref a, V.int ((9 + i : Nat) : Int)]
        congr 3
        lia
      · rw [List.range_succ, List.map_append, List.map_append]
        rfl
  clear l6 s14
  rintro l H5 ⟨s5, nl, ms, hl5, l_6, hb⟩
  refine ⟨[_, _, _, _, _, _, _, _], rfl, ?_⟩
  obtain ⟨t0, t1, t2, t3, t4, t5, rfl⟩ := len6 l_6
  have hl5 : H5 l = some (.lst [.int t0, .int t1, .int t2, .int t3, .int t4, .int t5]) := hl5
  refine ⟨_, rfl, l, _, _, _, rfl, rfl, SqL.of hl5, t6_0, _, rfl, l, _, _, _, rfl, rfl, SqL.of hl5, t6_1, _, rfl, l, _, _, _, rfl, rfl, SqL.of hl5, t6_2, _, rfl, l, _, _, _, rfl, rfl, SqL.of hl5, t6_3, _, rfl, l, _, _, _, rfl, rfl, SqL.of hl5, t6_4, _, rfl, l, _, _, _, rfl, rfl, SqL.of hl5, t6_5, small (show 6 ≤ 1000 by decide), fun p hp => ⟨[_, _, _, _, _, _, _, _], rfl, ?_⟩⟩
  have hT : TnA (upd H5 p (.tup [.int t0, .int t1, .int t2, .int t3, .int t4, .int t5])) p ⟨t0, t1, t2, t3, t4, t5⟩ := upd_same
  have s16 := (s12.trans s5).trans (same_upd hp (.tup [.int t0, .int t1, .int t2, .int t3, .int t4, .int t5]))
  have hP6 := hP2.mono (s5.trans (same_upd hp (.tup [.int t0, .int t1, .int t2, .int t3, .int t4, .int t5])))
  generalize upd H5 p (.tup [.int t0, .int t1, .int t2, .int t3, .int t4, .int t5]) = H6 at *
  have b0 : bd31 t0 := hb t0 (by simp)
  have b1 : bd31 t1 := hb t1 (by simp)
  have b2 : bd31 t2 := hb t2 (by simp)
  have b3 : bd31 t3 := hb t3 (by simp)
  have b4 : bd31 t4 := hb t4 (by simp)
  have b5 : bd31 t5 := hb t5 (by simp)
  have bT : TnBig ⟨t0, t1, t2, t3, t4, t5⟩ := by
    unfold bd31 at *
    exact ⟨⟨by show -(10 ^ 200) ≤ t0; omega, by show t0 ≤ 10 ^ 200; omega⟩, ⟨by show -(10 ^ 200) ≤ t1; omega, by show t1 ≤ 10 ^ 200; omega⟩, ⟨by show -(10 ^ 200) ≤ t2; omega, by show t2 ≤ 10 ^ 200; omega⟩, ⟨by show -(10 ^ 200) ≤ t3; omega, by show t3 ≤ 10 ^ 200; omega⟩, ⟨by show -(10 ^ 200) ≤ t4; omega, by show t4 ≤ 10 ^ 200; omega⟩, ⟨by show -(10 ^ 200) ≤ t5; omega, by show t5 ≤ 10 ^ 200; omega⟩⟩
  clear hl5 hb hP2 hP1 l_6
  refine ⟨_, rfl, r0, rf0, c0, rfl, hP6, fun h H7 s7 hC => ⟨[_, _, _, _, _, _, _, _], rfl, ?_⟩⟩
  have hT7 := s7 _ _ hT
  have hP7 := hP6.mono s7
  refine ⟨_, rfl, p, _, _, _, rfl, rfl, SqT.of hT7, t6_0, _, rfl, p, _, _, _, rfl, rfl, SqT.of hT7, t6_3, _, _, rfl, rfl, ⟨big31 b0, big31 b3⟩, _, rfl, p, _, _, _, rfl, rfl, SqT.of hT7, t6_1, _, rfl, p, _, _, _, rfl, rfl, SqT.of hT7, t6_2, _, _, rfl, rfl, ⟨big31 b1, big31 b2⟩, _, _, rfl, rfl, ?_⟩
  refine ⟨_, rfl, rfl, _, rfl, ?_⟩
  have nP : ∀ q, q ∈ c0 → (-1000 ≤ q.1 ∧ q.1 ≤ 1000) ∧ -1000 ≤ q.2 ∧ q.2 ≤ 1000 := fun q hq => by
    have := Nd q hq
    unfold Nr at this
    lia
  have coT : AllCo (c0.map (Tn.led ⟨t0, t1, t2, t3, t4, t5⟩)) := allCo_of fun q hq => by
    obtain ⟨z, hz, rfl⟩ := List.mem_map.mp hq
    exact led31 b0 b1 b2 b3 b4 b5 (nP z hz).1 (nP z hz).2
  have cmp : ∀ {H' : Hp}, PLs H' h rf0 c0 → PLs H' r0 rf0 c0 → ∀ (j : Nat) x y, (refs c0.length rf0)[j]? = some x → (refs c0.length rf0)[j]? = some y → Cmp K H' x y ((fun _ => true : Nat → Bool) j) := fun {H'} p1 p2 j x y hx hy => by
    obtain ⟨hj, rfl⟩ := refs_get' hx
    obtain ⟨_, rfl⟩ := refs_get' hy
    have := Cmp.pt (SqT.of (p1.2 j hj)) (SqT.of (p1.2 j hj)) (K := K)
    rwa [decide_eq_true ⟨rfl, rfl⟩] at this
  have all1 : ((List.range (refs c0.length rf0).length).all fun _ => true) = true := List.all_eq_true.mpr fun _ _ => rfl
  have dt : Tn.det ⟨t0, t1, t2, t3, t4, t5⟩ = t0 * t3 - t1 * t2 := rfl
  refine ite2 (fun c => ?_) (fun c => ⟨[_, _, _, _, _, _, _, _], rfl, ?_⟩)
  · have nI : isT ⟨t0, t1, t2, t3, t4, t5⟩ = false := by
      unfold isT
      rw [dt]
      refine decide_eq_false fun z => ?_
      rw [decide_eq_true (congrArg V.int (abs_one.mpr z))] at c
      cases c
    refine ⟨_, rfl, _, rfl, h, rf0, c0, p, _, rfl, hC, co0, fe, hT7, bT, nI, fun H8 s8 => ⟨_, rfl, iteT ?_⟩⟩
    have hC8 := hC.mono s8
    have hP8 := hP7.mono s8
    refine ⟨_, rfl, _, rfl, h, r0, _, _, rfl, rfl, SqL.of hC8.1, SqL.of hP8.1, .inr ⟨rfl, fun _ => true, cmp hC8 hP8, ?_⟩⟩
    have := q H8
    rwa [← all1] at this
  have iI : isT ⟨t0, t1, t2, t3, t4, t5⟩ = true := by
    unfold isT
    rw [dt]
    refine decide_eq_true ?_
    have c' : decide (V.int (if t0 * t3 - t1 * t2 < 0 then -(t0 * t3 - t1 * t2) else t0 * t3 - t1 * t2) = V.int 1) = true := by
      cases z : decide (V.int (if t0 * t3 - t1 * t2 < 0 then -(t0 * t3 - t1 * t2) else t0 * t3 - t1 * t2) = V.int 1) with
      | true => rfl
      | false => rw [z] at c; exact absurd rfl c
    exact abs_one.mp (V.int.inj (of_decide_eq_true c'))
  have dd : Tn.det ⟨t0, t1, t2, t3, t4, t5⟩ = 1 ∨ Tn.det ⟨t0, t1, t2, t3, t4, t5⟩ = -1 := of_decide_eq_true iI
  generalize (⟨t0, t1, t2, t3, t4, t5⟩ : Tn) = T at *
  have dT : T.det ≠ 0 := by rcases dd with e | e <;> rw [e] <;> decide
  have fT : Fence (c0.map T.led) := (Gd.led dT).fe
  refine ⟨_, rfl, _, rfl, h, rf0, c0, p, T, rfl, hC, co0, fe, hT7, bT, iI, fun r8 rg8 H8 s8 hF8 => ⟨[_, _, _, _, _, _, _, _], rfl, ?_⟩⟩
  have hC8 := hC.mono s8
  have hP8 := hP7.mono s8
  have hT8 := s8 _ _ hT7
  refine ⟨_, rfl, r0, rf0, c0, T.led, rfl, hP8, by lia, (fun k hk H' s' Q' hq => ⟨keeps1 (by decide), _, rfl, _, rfl, p, _, T, _, rfl, s' _ _ hT8, s' _ _ (hP8.2 k hk), bT, co0 k hk, fun t Ht st pt => hq t Ht st pt⟩), fun D rg H9 s9 hD => ?_⟩
  refine ⟨r8, D, rg8, rg, _, rfl, hF8.mono s9, hD, by rw [List.length_map]; lia, _, rfl, iteF ?_⟩
  have hC9 := hC8.mono s9
  have hP9 := hP8.mono s9
  refine ⟨_, rfl, _, rfl, h, r0, _, _, rfl, rfl, SqL.of hC9.1, SqL.of hP9.1, .inr ⟨rfl, fun _ => true, cmp hC9 hP9, _, rfl, ?_⟩⟩
  refine ite2 (fun c1 => absurd c1 ?_) (fun _ => ⟨[_, _, _, _, _, _, _, _], rfl, ?_⟩)
  · simp
  have hF9 := hF8.mono s9
  refine ⟨_, rfl, r8, rg8, _, rfl, hF9, coT, fT, fun Ha sa => ⟨_, rfl, r8, rg8, _, rfl, hF9.mono sa, coT, fT, fun Hb sb => ⟨_, rfl, r8, rg8, _, rfl, hF9.mono (sa.trans sb), coT, fT, fun Hc sc => ?_⟩⟩⟩
  have hP10 := hP9.mono (sa.trans (sb.trans sc))
  have eA : (if area (c0.map T.led) < 0 then - area (c0.map T.led) else area (c0.map T.led)) = if area c0 < 0 then - area c0 else area c0 := by
    rw [area_led]
    rcases dd with e | e <;> rw [e]
    · rw [Int.one_mul]
    · split <;> split <;> lia
  rw [eA, inN_led dd, rim_led dd]
  refine ⟨small (show 3 ≤ 1000 by decide), fun x1 hx1 => ?_⟩
  have t1 := same_upd hx1 (.lst [.int (if area c0 < 0 then - area c0 else area c0), .int (inN c0), .int (rimS c0)])
  refine ⟨_, rfl, r0, rf0, c0, rfl, hP10.mono t1, co0, fe, fun Hd sd => ⟨_, rfl, r0, rf0, c0, rfl, hP10.mono (t1.trans sd), co0, fe, fun He se => ⟨_, rfl, r0, rf0, c0, rfl, hP10.mono (t1.trans (sd.trans se)), co0, fe, fun Hf sf => ?_⟩⟩⟩
  refine ⟨small (show 3 ≤ 1000 by decide), fun x2 hx2 => ?_⟩
  have k1 := (same_upd hx2 (.lst [.int (if area c0 < 0 then - area c0 else area c0), .int (inN c0), .int (rimS c0)])) _ _ ((sd.trans (se.trans sf)) _ _ (upd_same (H := Hc) (a := x1)))
  refine ⟨x1, x2, _, _, rfl, rfl, SqL.of k1, SqL.of upd_same, .inr ⟨rfl, fun _ => true, fun j x y hx hy => ?_, ?_⟩⟩
  · have exy : x = y := by rw [hx] at hy; exact Option.some.inj hy
    subst exy
    have mx := List.mem_of_getElem? hx
    simp only [List.mem_cons, List.not_mem_nil, or_false] at mx
    have fx : flatV x = true := by rcases mx with e | e | e <;> rw [e] <;> rfl
    have ex : eqV x x = true := by rcases mx with e | e | e <;> rw [e] <;> simp [eqV]
    have := Cmp.flat (K := K) (H := upd Hf x2 (.lst [.int (if area c0 < 0 then - area c0 else area c0), .int (inN c0), .int (rimS c0)])) fx fx
    rwa [ex] at this
  exact q _
end
end FD
end
section
set_option maxRecDepth 100000
set_option linter.all false
namespace FD
open PySem L2 FF
theorem len1 {α : Type} {l : List α} (h : l.length = 1) : ∃ a, l = [a] := List.length_eq_one_iff.mp h
theorem lenS {α : Type} {n : Nat} {l : List α} (h : l.length = n + 1) : ∃ a r, l = a :: r ∧ r.length = n := by
  cases l with
  | nil => cases h
  | cons a r => exact ⟨a, r, rfl, Nat.succ.inj h⟩
theorem len2 {α : Type} {l : List α} (h : l.length = 2) : ∃ a b, l = [a, b] := by
  obtain ⟨a, r, rfl, h2⟩ := lenS h
  obtain ⟨b, rfl⟩ := len1 h2
  exact ⟨a, b, rfl⟩
theorem len3 {α : Type} {l : List α} (h : l.length = 3) : ∃ a b c, l = [a, b, c] := by
  obtain ⟨a, r, rfl, h2⟩ := lenS h
  obtain ⟨b, c, rfl⟩ := len2 h2
  exact ⟨a, b, c, rfl⟩
theorem len4 {α : Type} {l : List α} (h : l.length = 4) : ∃ a b c d, l = [a, b, c, d] := by
  obtain ⟨a, r, rfl, h2⟩ := lenS h
  obtain ⟨b, c, d, rfl⟩ := len3 h2
  exact ⟨a, b, c, d, rfl⟩
def fo (n : Str) (st : Stmt) (md : Value) (cd : Addr) : Obj := { cls := .type "function", data := .func (PySem.W.fnOf n n (defArgs st) (defBody st) (defScope st) .none .none .none md none (.ref cd) .none) }
theorem all_mk {l : PySem.W.OpenLaw} {w : World} {K : PySem.W.Frag} {h : Heap} {mg : Str → Option Value} {fa : Addr} (X : K.In h) (G : h.Ns mainGlobals mg) (hfa : mg "law" = some (.ref fa))
    {f1 cd1 : Addr} {md1 : Value}
    (a1 : PySem.W.nsIn K mainGlobals "turn" = some (some (.ref f1))) (l1 : K.lookup f1 = some (fo "turn" sTurn md1 cd1)) (c1 : PySem.W.codeIn K (.ref cd1) "turn" = true) (k1 : PySem.W.keepIn K (.ref f1) = true)
    {f2 cd2 : Addr} {md2 : Value}
    (a2 : PySem.W.nsIn K mainGlobals "between" = some (some (.ref f2))) (l2 : K.lookup f2 = some (fo "between" sBetween md2 cd2)) (c2 : PySem.W.codeIn K (.ref cd2) "between" = true) (k2 : PySem.W.keepIn K (.ref f2) = true)
    {f3 cd3 : Addr} {md3 : Value}
    (a3 : PySem.W.nsIn K mainGlobals "lies_on" = some (some (.ref f3))) (l3 : K.lookup f3 = some (fo "lies_on" sLies md3 cd3)) (c3 : PySem.W.codeIn K (.ref cd3) "lies_on" = true) (k3 : PySem.W.keepIn K (.ref f3) = true)
    {f4 cd4 : Addr} {md4 : Value}
    (a4 : PySem.W.nsIn K mainGlobals "parts" = some (some (.ref f4))) (l4 : K.lookup f4 = some (fo "parts" sParts md4 cd4)) (c4 : PySem.W.codeIn K (.ref cd4) "parts" = true) (k4 : PySem.W.keepIn K (.ref f4) = true)
    {f5 cd5 : Addr} {md5 : Value}
    (a5 : PySem.W.nsIn K mainGlobals "sides_meet" = some (some (.ref f5))) (l5 : K.lookup f5 = some (fo "sides_meet" sMeet md5 cd5)) (c5 : PySem.W.codeIn K (.ref cd5) "sides_meet" = true) (k5 : PySem.W.keepIn K (.ref f5) = true)
    {f6 cd6 : Addr} {md6 : Value}
    (a6 : PySem.W.nsIn K mainGlobals "goes_back" = some (some (.ref f6))) (l6 : K.lookup f6 = some (fo "goes_back" sBack md6 cd6)) (c6 : PySem.W.codeIn K (.ref cd6) "goes_back" = true) (k6 : PySem.W.keepIn K (.ref f6) = true)
    {f7 cd7 : Addr} {md7 : Value}
    (a7 : PySem.W.nsIn K mainGlobals "sides_of" = some (some (.ref f7))) (l7 : K.lookup f7 = some (fo "sides_of" sSides md7 cd7)) (c7 : PySem.W.codeIn K (.ref cd7) "sides_of" = true) (k7 : PySem.W.keepIn K (.ref f7) = true)
    {f8 cd8 : Addr} {md8 : Value}
    (a8 : PySem.W.nsIn K mainGlobals "some_side_goes_back" = some (some (.ref f8))) (l8 : K.lookup f8 = some (fo "some_side_goes_back" sSomeBack md8 cd8)) (c8 : PySem.W.codeIn K (.ref cd8) "some_side_goes_back" = true) (k8 : PySem.W.keepIn K (.ref f8) = true)
    {f9 cd9 : Addr} {md9 : Value}
    (a9 : PySem.W.nsIn K mainGlobals "some_sides_meet" = some (some (.ref f9))) (l9 : K.lookup f9 = some (fo "some_sides_meet" sSomeMeet md9 cd9)) (c9 : PySem.W.codeIn K (.ref cd9) "some_sides_meet" = true) (k9 : PySem.W.keepIn K (.ref f9) = true)
    {f10 cd10 : Addr} {md10 : Value}
    (a10 : PySem.W.nsIn K mainGlobals "is_fence" = some (some (.ref f10))) (l10 : K.lookup f10 = some (fo "is_fence" sFence md10 cd10)) (c10 : PySem.W.codeIn K (.ref cd10) "is_fence" = true) (k10 : PySem.W.keepIn K (.ref f10) = true)
    {f11 cd11 : Addr} {md11 : Value}
    (a11 : PySem.W.nsIn K mainGlobals "refuse_no_fence" = some (some (.ref f11))) (l11 : K.lookup f11 = some (fo "refuse_no_fence" sRefuse md11 cd11)) (c11 : PySem.W.codeIn K (.ref cd11) "refuse_no_fence" = true) (k11 : PySem.W.keepIn K (.ref f11) = true)
    {f12 cd12 : Addr} {md12 : Value}
    (a12 : PySem.W.nsIn K mainGlobals "signed_double_area" = some (some (.ref f12))) (l12 : K.lookup f12 = some (fo "signed_double_area" sSigned md12 cd12)) (c12 : PySem.W.codeIn K (.ref cd12) "signed_double_area" = true) (k12 : PySem.W.keepIn K (.ref f12) = true)
    {f13 cd13 : Addr} {md13 : Value}
    (a13 : PySem.W.nsIn K mainGlobals "double_area" = some (some (.ref f13))) (l13 : K.lookup f13 = some (fo "double_area" sArea md13 cd13)) (c13 : PySem.W.codeIn K (.ref cd13) "double_area" = true) (k13 : PySem.W.keepIn K (.ref f13) = true)
    {f14 cd14 : Addr} {md14 : Value}
    (a14 : PySem.W.nsIn K mainGlobals "whole_points" = some (some (.ref f14))) (l14 : K.lookup f14 = some (fo "whole_points" sWP md14 cd14)) (c14 : PySem.W.codeIn K (.ref cd14) "whole_points" = true) (k14 : PySem.W.keepIn K (.ref f14) = true)
    {f15 cd15 : Addr} {md15 : Value}
    (a15 : PySem.W.nsIn K mainGlobals "rim" = some (some (.ref f15))) (l15 : K.lookup f15 = some (fo "rim" sRim md15 cd15)) (c15 : PySem.W.codeIn K (.ref cd15) "rim" = true) (k15 : PySem.W.keepIn K (.ref f15) = true)
    {f16 cd16 : Addr} {md16 : Value}
    (a16 : PySem.W.nsIn K mainGlobals "inside" = some (some (.ref f16))) (l16 : K.lookup f16 = some (fo "inside" sInside md16 cd16)) (c16 : PySem.W.codeIn K (.ref cd16) "inside" = true) (k16 : PySem.W.keepIn K (.ref f16) = true)
    {f17 cd17 : Addr} {md17 : Value}
    (a17 : PySem.W.nsIn K mainGlobals "is_turning" = some (some (.ref f17))) (l17 : K.lookup f17 = some (fo "is_turning" sIsT md17 cd17)) (c17 : PySem.W.codeIn K (.ref cd17) "is_turning" = true) (k17 : PySem.W.keepIn K (.ref f17) = true)
    {f18 cd18 : Addr} {md18 : Value}
    (a18 : PySem.W.nsIn K mainGlobals "led_point" = some (some (.ref f18))) (l18 : K.lookup f18 = some (fo "led_point" sLedPt md18 cd18)) (c18 : PySem.W.codeIn K (.ref cd18) "led_point" = true) (k18 : PySem.W.keepIn K (.ref f18) = true)
    {f19 cd19 : Addr} {md19 : Value}
    (a19 : PySem.W.nsIn K mainGlobals "led" = some (some (.ref f19))) (l19 : K.lookup f19 = some (fo "led" sLedL md19 cd19)) (c19 : PySem.W.codeIn K (.ref cd19) "led" = true) (k19 : PySem.W.keepIn K (.ref f19) = true)
    {f20 cd20 : Addr} {md20 : Value}
    (a20 : PySem.W.nsIn K mainGlobals "turned" = some (some (.ref f20))) (l20 : K.lookup f20 = some (fo "turned" sTurnedF md20 cd20)) (c20 : PySem.W.codeIn K (.ref cd20) "turned" = true) (k20 : PySem.W.keepIn K (.ref f20) = true)
    {f21 cd21 : Addr} {md21 : Value}
    (a21 : PySem.W.nsIn K mainGlobals "_law_cell_at" = some (some (.ref f21))) (l21 : K.lookup f21 = some (fo "_law_cell_at" sCell md21 cd21)) (c21 : PySem.W.codeIn K (.ref cd21) "_law_cell_at" = true) (k21 : PySem.W.keepIn K (.ref f21) = true)
    {f22 cd22 : Addr} {md22 : Value}
    (a22 : PySem.W.nsIn K mainGlobals "_law_draw" = some (some (.ref f22))) (l22 : K.lookup f22 = some (fo "_law_draw" sDraw md22 cd22)) (c22 : PySem.W.codeIn K (.ref cd22) "_law_draw" = true) (k22 : PySem.W.keepIn K (.ref f22) = true)
    {f23 cd23 : Addr} {md23 : Value}
    (a23 : PySem.W.nsIn K mainGlobals "_law_rows_by" = some (some (.ref f23))) (l23 : K.lookup f23 = some (fo "_law_rows_by" sRows md23 cd23)) (c23 : PySem.W.codeIn K (.ref cd23) "_law_rows_by" = true) (k23 : PySem.W.keepIn K (.ref f23) = true)
    {f24 cd24 : Addr} {md24 : Value}
    (a24 : PySem.W.nsIn K mainGlobals "_law_joined" = some (some (.ref f24))) (l24 : K.lookup f24 = some (fo "_law_joined" sJoined md24 cd24)) (c24 : PySem.W.codeIn K (.ref cd24) "_law_joined" = true) (k24 : PySem.W.keepIn K (.ref f24) = true)
    {f25 cd25 : Addr} {md25 : Value}
    (a25 : PySem.W.nsIn K mainGlobals "_law_spiral" = some (some (.ref f25))) (l25 : K.lookup f25 = some (fo "_law_spiral" sSpiral md25 cd25)) (c25 : PySem.W.codeIn K (.ref cd25) "_law_spiral" = true) (k25 : PySem.W.keepIn K (.ref f25) = true)
    {f26 cd26 : Addr} {md26 : Value}
    (a26 : PySem.W.nsIn K mainGlobals "_law_flat" = some (some (.ref f26))) (l26 : K.lookup f26 = some (fo "_law_flat" sFlat md26 cd26)) (c26 : PySem.W.codeIn K (.ref cd26) "_law_flat" = true) (k26 : PySem.W.keepIn K (.ref f26) = true)
    {f27 cd27 : Addr} {md27 : Value}
    (a27 : PySem.W.nsIn K mainGlobals "_law_fence_by" = some (some (.ref f27))) (l27 : K.lookup f27 = some (fo "_law_fence_by" sFenceBy md27 cd27)) (c27 : PySem.W.codeIn K (.ref cd27) "_law_fence_by" = true) (k27 : PySem.W.keepIn K (.ref f27) = true)
    {f28 cd28 : Addr} {md28 : Value}
    (a28 : PySem.W.nsIn K mainGlobals "_law_turning_by" = some (some (.ref f28))) (l28 : K.lookup f28 = some (fo "_law_turning_by" sTurning md28 cd28)) (c28 : PySem.W.codeIn K (.ref cd28) "_law_turning_by" = true) (k28 : PySem.W.keepIn K (.ref f28) = true)
    {f29 cd29 : Addr} {md29 : Value}
    (a29 : PySem.W.nsIn K mainGlobals "_law_led" = some (some (.ref f29))) (l29 : K.lookup f29 = some (fo "_law_led" sLed md29 cd29)) (c29 : PySem.W.codeIn K (.ref cd29) "_law_led" = true) (k29 : PySem.W.keepIn K (.ref f29) = true)
    {f30 cd30 : Addr} {md30 : Value}
    (a30 : PySem.W.nsIn K mainGlobals "_law_whole" = some (some (.ref f30))) (l30 : K.lookup f30 = some (fo "_law_whole" sWhole md30 cd30)) (c30 : PySem.W.codeIn K (.ref cd30) "_law_whole" = true) (k30 : PySem.W.keepIn K (.ref f30) = true)
    {f31 cd31 : Addr} {md31 : Value}
    (a31 : PySem.W.nsIn K mainGlobals "_law_points_are" = some (some (.ref f31))) (l31 : K.lookup f31 = some (fo "_law_points_are" sPtsAre md31 cd31)) (c31 : PySem.W.codeIn K (.ref cd31) "_law_points_are" = true) (k31 : PySem.W.keepIn K (.ref f31) = true)
    {f32 cd32 : Addr} {md32 : Value}
    (a32 : PySem.W.nsIn K mainGlobals "_law_refused" = some (some (.ref f32))) (l32 : K.lookup f32 = some (fo "_law_refused" sRefT md32 cd32)) (c32 : PySem.W.codeIn K (.ref cd32) "_law_refused" = true) (k32 : PySem.W.keepIn K (.ref f32) = true)
    {f33 cd33 : Addr} {md33 : Value}
    (a33 : PySem.W.nsIn K mainGlobals "law" = some (some (.ref f33))) (l33 : K.lookup f33 = some (fo "law" sLaw md33 cd33)) (c33 : PySem.W.codeIn K (.ref cd33) "law" = true) (k33 : PySem.W.keepIn K (.ref f33) = true)
    (z1 : PySem.W.nsIn K mainGlobals "min" = some none)
    (z2 : PySem.W.nsIn K mainGlobals "max" = some none)
    (z3 : PySem.W.nsIn K mainGlobals "list" = some none)
    (z4 : PySem.W.nsIn K mainGlobals "zip" = some none)
    (z5 : PySem.W.nsIn K mainGlobals "range" = some none)
    (z6 : PySem.W.nsIn K mainGlobals "len" = some none)
    (z7 : PySem.W.nsIn K mainGlobals "enumerate" = some none)
    (z8 : PySem.W.nsIn K mainGlobals "set" = some none)
    (z9 : PySem.W.nsIn K mainGlobals "sum" = some none)
    (z10 : PySem.W.nsIn K mainGlobals "abs" = some none)
    (z11 : PySem.W.nsIn K mainGlobals "reversed" = some none)
    (z12 : PySem.W.nsIn K mainGlobals "isinstance" = some none)
    (z13 : PySem.W.nsIn K mainGlobals "int" = some none)
    (z14 : PySem.W.nsIn K mainGlobals "bool" = some none)
    (z15 : PySem.W.nsIn K mainGlobals "tuple" = some none)
    (z16 : PySem.W.nsIn K mainGlobals "ValueError" = some none)
    {tk1 : Tok} (y1 : PySem.W.nsIn K mainGlobals "FEWEST_CORNERS" = some (some (.int 3 tk1)))
    {tk2 : Tok} (y2 : PySem.W.nsIn K mainGlobals "MOST_CORNERS" = some (some (.int 12 tk2)))
    (eE : PySem.W.nsIn K mainGlobals "FenceError" = some (some (.ref 24)))
    (eF : PySem.W.nsIn K mainGlobals "NoFence" = some (some (.ref 37)))
    (eT : PySem.W.nsIn K mainGlobals "NoTurning" = some (some (.ref 49)))
    (eW : PySem.W.nsIn K mainGlobals "TooWide" = some (some (.ref 61)))
    (xo1 : ownQ K 49 (.ref 24 :: bmVE) "ValueError.__new__" = true)
    (xo2 : clsQ K 49 = true)
    (xo3 : clsQ K 24 = true)
    (xo4 : errQ K 49 = true)
    (xx1 : PySem.W.exmOne K (.ref 49) (.ref 24) = some true)
    (xk1 : PySem.W.kitOne K (.ref 49) (.type "ValueError") = some true)
    (xk2 : PySem.W.kitOne K (.ref 49) (.ref 49) = some true)
    (xk3 : PySem.W.kitAny K (.ref 49) [.ref 37, .ref 61] = some false)
    : ∃ fd : FuncData, (∀ (s : Shared) (v : Value), BindsTo s fd ⟨[v], []⟩ [("script", v)]) ∧ ∀ base : Heap, K.In base → base.Ns mainGlobals mg → FnOk l.prog w K mg base CX0 9 fa fd ["script"] (spLaw K) := by
  have e := hfa.symm.trans (PySem.W.mg_of X G a33)
  cases e
  have m_min := PySem.W.mg_none_of X G z1
  have m_max := PySem.W.mg_none_of X G z2
  have m_list := PySem.W.mg_none_of X G z3
  have m_zip := PySem.W.mg_none_of X G z4
  have m_range := PySem.W.mg_none_of X G z5
  have m_len := PySem.W.mg_none_of X G z6
  have m_enumerate := PySem.W.mg_none_of X G z7
  have m_set := PySem.W.mg_none_of X G z8
  have m_sum := PySem.W.mg_none_of X G z9
  have m_abs := PySem.W.mg_none_of X G z10
  have m_reversed := PySem.W.mg_none_of X G z11
  have m_isinstance := PySem.W.mg_none_of X G z12
  have m_int := PySem.W.mg_none_of X G z13
  have m_bool := PySem.W.mg_none_of X G z14
  have m_tuple := PySem.W.mg_none_of X G z15
  have m_ValueError := PySem.W.mg_none_of X G z16
  have m_FEWEST_CORNERS := PySem.W.mg_of X G y1
  have m_MOST_CORNERS := PySem.W.mg_of X G y2
  have F1 := fun_mk (st := sTurn) l1 c1 k1
  have b1 := F1.binds (ps := ["start", "end", "point"]) fun _ _ _ _ _ _ us hl => by obtain ⟨_, _, _, rfl⟩ := len3 hl; rfl
  have F2 := fun_mk (st := sBetween) l2 c2 k2
  have b2 := F2.binds (ps := ["one", "number", "other"]) fun _ _ _ _ _ _ us hl => by obtain ⟨_, _, _, rfl⟩ := len3 hl; rfl
  have F3 := fun_mk (st := sLies) l3 c3 k3
  have b3 := F3.binds (ps := ["start", "end", "point"]) fun _ _ _ _ _ _ us hl => by obtain ⟨_, _, _, rfl⟩ := len3 hl; rfl
  have F4 := fun_mk (st := sParts) l4 c4 k4
  have b4 := F4.binds (ps := ["start", "end", "one", "other"]) fun _ _ _ _ _ _ us hl => by obtain ⟨_, _, _, _, rfl⟩ := len4 hl; rfl
  have F5 := fun_mk (st := sMeet) l5 c5 k5
  have b5 := F5.binds (ps := ["start", "end", "other_start", "other_end"]) fun _ _ _ _ _ _ us hl => by obtain ⟨_, _, _, _, rfl⟩ := len4 hl; rfl
  have F6 := fun_mk (st := sBack) l6 c6 k6
  have b6 := F6.binds (ps := ["before", "corner", "after"]) fun _ _ _ _ _ _ us hl => by obtain ⟨_, _, _, rfl⟩ := len3 hl; rfl
  have F7 := fun_mk (st := sSides) l7 c7 k7
  have b7 := F7.binds (ps := ["corners"]) fun _ _ _ _ _ _ us hl => by obtain ⟨_, rfl⟩ := len1 hl; rfl
  have F8 := fun_mk (st := sSomeBack) l8 c8 k8
  have b8 := F8.binds (ps := ["corners"]) fun _ _ _ _ _ _ us hl => by obtain ⟨_, rfl⟩ := len1 hl; rfl
  have F9 := fun_mk (st := sSomeMeet) l9 c9 k9
  have b9 := F9.binds (ps := ["corners"]) fun _ _ _ _ _ _ us hl => by obtain ⟨_, rfl⟩ := len1 hl; rfl
  have F10 := fun_mk (st := sFence) l10 c10 k10
  have b10 := F10.binds (ps := ["corners"]) fun _ _ _ _ _ _ us hl => by obtain ⟨_, rfl⟩ := len1 hl; rfl
  have F11 := fun_mk (st := sRefuse) l11 c11 k11
  have b11 := F11.binds (ps := ["corners"]) fun _ _ _ _ _ _ us hl => by obtain ⟨_, rfl⟩ := len1 hl; rfl
  have F12 := fun_mk (st := sSigned) l12 c12 k12
  have b12 := F12.binds (ps := ["corners"]) fun _ _ _ _ _ _ us hl => by obtain ⟨_, rfl⟩ := len1 hl; rfl
  have F13 := fun_mk (st := sArea) l13 c13 k13
  have b13 := F13.binds (ps := ["corners"]) fun _ _ _ _ _ _ us hl => by obtain ⟨_, rfl⟩ := len1 hl; rfl
  have F14 := fun_mk (st := sWP) l14 c14 k14
  have b14 := F14.binds (ps := ["start", "end"]) fun _ _ _ _ _ _ us hl => by obtain ⟨_, _, rfl⟩ := len2 hl; rfl
  have F15 := fun_mk (st := sRim) l15 c15 k15
  have b15 := F15.binds (ps := ["corners"]) fun _ _ _ _ _ _ us hl => by obtain ⟨_, rfl⟩ := len1 hl; rfl
  have F16 := fun_mk (st := sInside) l16 c16 k16
  have b16 := F16.binds (ps := ["corners"]) fun _ _ _ _ _ _ us hl => by obtain ⟨_, rfl⟩ := len1 hl; rfl
  have F17 := fun_mk (st := sIsT) l17 c17 k17
  have b17 := F17.binds (ps := ["turning"]) fun _ _ _ _ _ _ us hl => by obtain ⟨_, rfl⟩ := len1 hl; rfl
  have F18 := fun_mk (st := sLedPt) l18 c18 k18
  have b18 := F18.binds (ps := ["point", "turning"]) fun _ _ _ _ _ _ us hl => by obtain ⟨_, _, rfl⟩ := len2 hl; rfl
  have F19 := fun_mk (st := sLedL) l19 c19 k19
  have b19 := F19.binds (ps := ["points", "turning"]) fun _ _ _ _ _ _ us hl => by obtain ⟨_, _, rfl⟩ := len2 hl; rfl
  have F20 := fun_mk (st := sTurnedF) l20 c20 k20
  have b20 := F20.binds (ps := ["corners", "turning"]) fun _ _ _ _ _ _ us hl => by obtain ⟨_, _, rfl⟩ := len2 hl; rfl
  have F21 := fun_mk (st := sCell) l21 c21 k21
  have b21 := F21.binds (ps := ["script", "k"]) fun _ _ _ _ _ _ us hl => by obtain ⟨_, _, rfl⟩ := len2 hl; rfl
  have F22 := fun_mk (st := sDraw) l22 c22 k22
  have b22 := F22.binds (ps := ["cell", "k", "bound"]) fun _ _ _ _ _ _ us hl => by obtain ⟨_, _, _, rfl⟩ := len3 hl; rfl
  have F23 := fun_mk (st := sRows) l23 c23 k23
  have b23 := F23.binds (ps := ["script", "first"]) fun _ _ _ _ _ _ us hl => by obtain ⟨_, _, rfl⟩ := len2 hl; rfl
  have F24 := fun_mk (st := sJoined) l24 c24 k24
  have b24 := F24.binds (ps := ["lows", "highs", "tips"]) fun _ _ _ _ _ _ us hl => by obtain ⟨_, _, _, rfl⟩ := len3 hl; rfl
  have F25 := fun_mk (st := sSpiral) l25 c25 k25
  have b25 := F25.binds (ps := ["cell"]) fun _ _ _ _ _ _ us hl => by obtain ⟨_, rfl⟩ := len1 hl; rfl
  have F26 := fun_mk (st := sFlat) l26 c26 k26
  have b26 := F26.binds (ps := ["corners", "cell"]) fun _ _ _ _ _ _ us hl => by obtain ⟨_, _, rfl⟩ := len2 hl; rfl
  have F27 := fun_mk (st := sFenceBy) l27 c27 k27
  have b27 := F27.binds (ps := ["script", "first"]) fun _ _ _ _ _ _ us hl => by obtain ⟨_, _, rfl⟩ := len2 hl; rfl
  have F28 := fun_mk (st := sTurning) l28 c28 k28
  have b28 := F28.binds (ps := ["script", "first", "far"]) fun _ _ _ _ _ _ us hl => by obtain ⟨_, _, _, rfl⟩ := len3 hl; rfl
  have F29 := fun_mk (st := sLed) l29 c29 k29
  have b29 := F29.binds (ps := ["turning", "point"]) fun _ _ _ _ _ _ us hl => by obtain ⟨_, _, rfl⟩ := len2 hl; rfl
  have F30 := fun_mk (st := sWhole) l30 c30 k30
  have b30 := F30.binds (ps := ["found"]) fun _ _ _ _ _ _ us hl => by obtain ⟨_, rfl⟩ := len1 hl; rfl
  have F31 := fun_mk (st := sPtsAre) l31 c31 k31
  have b31 := F31.binds (ps := ["found", "due"]) fun _ _ _ _ _ _ us hl => by obtain ⟨_, _, rfl⟩ := len2 hl; rfl
  have F32 := fun_mk (st := sRefT) l32 c32 k32
  have b32 := F32.binds (ps := ["corners", "turning"]) fun _ _ _ _ _ _ us hl => by obtain ⟨_, _, rfl⟩ := len2 hl; rfl
  have F33 := fun_mk (st := sLaw) l33 c33 k33
  refine ⟨PySem.W.fnOf "law" "law" (defArgs sLaw) (defBody sLaw) (defScope sLaw) .none .none .none md33 none (.ref cd33) .none, fun s v => .of_eq rfl, fun base KB _ => ?_⟩
  have e_E := PySem.W.mg_of X G eE
  have e_F := PySem.W.mg_of X G eF
  have e_T := PySem.W.mg_of X G eT
  have e_W := PySem.W.mg_of X G eW
  have O_T := ownX_of KB xo1 xo2 xo3
  have Z_T := errCls_of xo4
  have c_turn := Cal.of (P := l.prog) (w := w) (base := base) (ok_turn (n := 0) F1) b1 k1 (PySem.W.mg_of X G a1)
  have c_between := Cal.of (P := l.prog) (w := w) (base := base) (ok_between (n := 0) F2 m_min m_max) b2 k2 (PySem.W.mg_of X G a2)
  have c_lies_on := Cal.of (P := l.prog) (w := w) (base := base) (ok_lies F3 c_between c_turn) b3 k3 (PySem.W.mg_of X G a3)
  have c_parts := Cal.of (P := l.prog) (w := w) (base := base) (ok_parts F4 c_turn) b4 k4 (PySem.W.mg_of X G a4)
  have c_sides_meet := Cal.of (P := l.prog) (w := w) (base := base) (ok_meet F5 c_lies_on c_parts) b5 k5 (PySem.W.mg_of X G a5)
  have c_goes_back := Cal.of (P := l.prog) (w := w) (base := base) (ok_back F6 c_turn) b6 k6 (PySem.W.mg_of X G a6)
  have c_sides_of := Cal.of (P := l.prog) (w := w) (base := base) (ok_sides (n := 0) F7 m_list m_zip) b7 k7 (PySem.W.mg_of X G a7)
  have c_some_side_goes_back := Cal.of (P := l.prog) (w := w) (base := base) (ok_someBack F8 c_goes_back m_range m_len) b8 k8 (PySem.W.mg_of X G a8)
  have c_some_sides_meet := Cal.of (P := l.prog) (w := w) (base := base) (ok_someMeet F9 c_sides_of c_sides_meet m_enumerate) b9 k9 (PySem.W.mg_of X G a9)
  have c_is_fence := Cal.of (P := l.prog) (w := w) (base := base) (ok_fence F10 c_some_side_goes_back c_some_sides_meet m_len m_set m_FEWEST_CORNERS m_MOST_CORNERS) b10 k10 (PySem.W.mg_of X G a10)
  have c_refuse_no_fence := Cal.of (P := l.prog) (w := w) (base := base) (ok_refuse F11 c_is_fence) b11 k11 (PySem.W.mg_of X G a11)
  have c_signed_double_area := Cal.of (P := l.prog) (w := w) (base := base) (ok_signed F12 c_sides_of m_sum) b12 k12 (PySem.W.mg_of X G a12)
  have c_double_area := Cal.of (P := l.prog) (w := w) (base := base) (ok_area F13 c_refuse_no_fence c_signed_double_area m_abs) b13 k13 (PySem.W.mg_of X G a13)
  have c_whole_points := Cal.of (P := l.prog) (w := w) (base := base) (ok_wp (n := 0) F14 m_abs) b14 k14 (PySem.W.mg_of X G a14)
  have c_rim := Cal.of (P := l.prog) (w := w) (base := base) (ok_rim F15 c_refuse_no_fence c_sides_of c_whole_points m_sum) b15 k15 (PySem.W.mg_of X G a15)
  have c_inside := Cal.of (P := l.prog) (w := w) (base := base) (ok_inside F16 c_double_area c_rim) b16 k16 (PySem.W.mg_of X G a16)
  have c_is_turning := Cal.of (P := l.prog) (w := w) (base := base) (ok_isT (n := 0) F17 m_abs) b17 k17 (PySem.W.mg_of X G a17)
  have c_led_point := Cal.of (P := l.prog) (w := w) (base := base) (ok_ledPt (n := 0) F18) b18 k18 (PySem.W.mg_of X G a18)
  have c_led := Cal.of (P := l.prog) (w := w) (base := base) (ok_ledL F19 c_led_point) b19 k19 (PySem.W.mg_of X G a19)
  have c_turned := Cal.of (P := l.prog) (w := w) (base := base) ((ok_turnedF F20 c_refuse_no_fence c_is_turning c_led e_T O_T).calm turnedG) b20 k20 (PySem.W.mg_of X G a20)
  have c__law_cell_at := Cal.of (P := l.prog) (w := w) (base := base) (ok_cell (n := 0) F21 m_len) b21 k21 (PySem.W.mg_of X G a21)
  have c__law_draw := Cal.of (P := l.prog) (w := w) (base := base) (ok_draw (n := 0) F22) b22 k22 (PySem.W.mg_of X G a22)
  have c__law_rows_by := Cal.of (P := l.prog) (w := w) (base := base) (ok_rows F23 c__law_cell_at c__law_draw m_range) b23 k23 (PySem.W.mg_of X G a23)
  have c__law_joined := Cal.of (P := l.prog) (w := w) (base := base) (ok_joined (n := 0) F24 m_list m_reversed m_len) b24 k24 (PySem.W.mg_of X G a24)
  have c__law_spiral := Cal.of (P := l.prog) (w := w) (base := base) (ok_spiral (n := 0) F25) b25 k25 (PySem.W.mg_of X G a25)
  have c__law_flat := Cal.of (P := l.prog) (w := w) (base := base) (ok_flat (n := 0) F26 m_len m_range) b26 k26 (PySem.W.mg_of X G a26)
  have c__law_fence_by := Cal.of (P := l.prog) (w := w) (base := base) (ok_fence_by F27 c__law_cell_at c__law_rows_by c__law_joined c__law_spiral c__law_flat m_len m_list m_reversed) b27 k27 (PySem.W.mg_of X G a27)
  have c__law_turning_by := Cal.of (P := l.prog) (w := w) (base := base) (ok_turning F28 c__law_cell_at) b28 k28 (PySem.W.mg_of X G a28)
  have c__law_led := Cal.of (P := l.prog) (w := w) (base := base) (ok_ledB (n := 0) F29) b29 k29 (PySem.W.mg_of X G a29)
  have c__law_whole := Cal.of (P := l.prog) (w := w) (base := base) (ok_whole (n := 0) F30 m_isinstance m_int m_bool) b30 k30 (PySem.W.mg_of X G a30)
  have c__law_points_are := Cal.of (P := l.prog) (w := w) (base := base) (ok_pts_are F31 c__law_whole m_isinstance m_list m_len m_tuple) b31 k31 (PySem.W.mg_of X G a31)
  have c__law_refused := Cal.of (P := l.prog) (w := w) (base := base) (ok_refT F32 (CalX.of (P := l.prog) (w := w) (base := base) (ok_turnedF F20 c_refuse_no_fence c_is_turning c_led e_T O_T) b20 k20 (PySem.W.mg_of X G a20)) ⟨e_E, e_F, e_T, e_W⟩ m_ValueError m_isinstance Z_T xx1 xk1 xk2 xk3) b32 k32 (PySem.W.mg_of X G a32)
  exact ok_law F33 c__law_cell_at c__law_fence_by c__law_led c__law_points_are c__law_refused c__law_turning_by c_double_area c_inside c_rim c_turned m_abs m_list m_range
theorem walk {l : PySem.W.OpenLaw} {q : Program} {loose : List Str} {XP : (Str → Option Value) → Heap → Prop} {YP : World → Heap → Prop} {d : DefRec} {K : Params → PySem.W.Frag} (hn : l.most = some 63) (hdf : d.params.defaults = [])
    (hY : ∀ (w : World) (h : Heap), YP w h → (K w.params).In h)
    (F : ∀ (w : World) (mg : Str → Option Value) (fa : Addr) (h : Heap), (K w.params).In h → h.Ns mainGlobals mg → mg d.name = some (.ref fa) →
      ∃ fd : FuncData, (∀ (s : Shared) (u : Value), BindsTo s fd ⟨[u], []⟩ [("script", u)]) ∧ ∀ base : Heap, (K w.params).In base → base.Ns mainGlobals mg → FnOk l.prog w (K w.params) mg base CX0 9 fa fd ["script"] (spLaw (K w.params))) :
    PySem.W.WalkO q loose XP YP l.row.toRowW d [] (fun f vs => PySem.call f vs) :=
  L2.walk_of (n := 63) (k := 9) (x := "script") (CX := fun _ => CX0) (sp := fun w => spLaw (K w.params)) hn (by decide) hdf ⟨rfl, by decide, by decide⟩ hY F (fun _ _ a ns hl _ hS => ⟨a, ns, rfl, hS, hl, fun _ => rfl⟩) fun _ _ _ _ _ z => z
end FD
namespace FD
open PySem PySem.W L2
def vS (x : Str) (t : Tok) : Value := .str x t
def vI (n : Int) : Value := .int n 0
def en (P : Params) (x : Str) (t : Tok) (v : Value) : DictEntry := { hash := PyData.keyHash P x, key := .str x t, val := v }
def co (vs : List Value) : Obj := { cls := .type "code", data := .fields vs.toArray }
noncomputable def KK (P : Params) : PySem.W.Frag := [(3, { cls := .type "dict", data := .dict #[en P "__name__" 165 (vS "law_fencefield_k13_turned" 436), en P "__doc__" 166 (.none), en P "__package__" 167 (.none), en P "__loader__" 168 ((Value.builtin "__main__.__loader__#opaque")), en P "__spec__" 169 (.none), en P "__annotations__" 170 (.ref 6), en P "__builtins__" 171 (.ref 4), en P "__file__" 173 (vS "/claim/cut.py" 172), en P "__cached__" 174 (.none), en P "FenceError" 206 (.ref 24), en P "NoFence" 222 (.ref 37), en P "NoTurning" 238 (.ref 49), en P "TooWide" 254 (.ref 61), en P "turn" 267 (.ref 70), en P "between" 276 (.ref 77), en P "lies_on" 285 (.ref 84), en P "parts" 295 (.ref 91), en P "sides_meet" 305 (.ref 98), en P "goes_back" 316 (.ref 105), en P "whole_points" 327 (.ref 112), en P "FEWEST_CORNERS" 331 ((.int 3 330)), en P "MOST_CORNERS" 333 ((.int 12 332)), en P "is_fence" 340 (.ref 119), en P "double_area" 347 (.ref 126), en P "refuse_no_fence" 354 (.ref 133), en P "sides_of" 361 (.ref 140), en P "some_side_goes_back" 369 (.ref 147), en P "some_sides_meet" 381 (.ref 154), en P "signed_double_area" 387 (.ref 159), en P "rim" 395 (.ref 164), en P "inside" 402 (.ref 171), en P "turned" 412 (.ref 178), en P "is_turning" 419 (.ref 185), en P "led" 425 (.ref 190), en P "led_point" 435 (.ref 197), en P "_law_cell_at" 445 (.ref 204), en P "_law_draw" 455 (.ref 211), en P "_law_rows_by" 470 (.ref 218), en P "_law_joined" 480 (.ref 225), en P "_law_spiral" 490 (.ref 232), en P "_law_flat" 496 (.ref 237), en P "_law_fence_by" 502 (.ref 242), en P "_law_turning_by" 516 (.ref 249), en P "_law_led" 530 (.ref 256), en P "_law_whole" 537 (.ref 263), en P "_law_points_are" 546 (.ref 270), en P "_law_refused" 556 (.ref 277), en P "law" 562 (.ref 282)] 48 }),
  (70, fo "turn" sTurn (vS "fencefield.sides" 255) 69),
  (69, co [vS "turn" 257, vS "turn" 258, vS "/claim/cut.py" 259, vI 11, vI 3, vI 0, vI 0, vI 3, .ref 64, .bool true, vI 181, .ref 65, .none, .ref 66, .ref 67, .ref 68, vI 265, vI 11, vS "/claim/cut.py" 266]),
  (77, fo "between" sBetween (vS "fencefield.sides" 255) 76),
  (76, co [vS "between" 268, vS "between" 269, vS "/claim/cut.py" 270, vI 15, vI 3, vI 0, vI 0, vI 3, .ref 71, .bool true, vI 181, .ref 72, .none, .ref 73, .ref 74, .ref 75, vI 274, vI 15, vS "/claim/cut.py" 275]),
  (84, fo "lies_on" sLies (vS "fencefield.sides" 255) 83),
  (83, co [vS "lies_on" 277, vS "lies_on" 278, vS "/claim/cut.py" 279, vI 17, vI 3, vI 0, vI 0, vI 3, .ref 78, .bool true, vI 181, .ref 79, .none, .ref 80, .ref 81, .ref 82, vI 283, vI 17, vS "/claim/cut.py" 284]),
  (91, fo "parts" sParts (vS "fencefield.sides" 255) 90),
  (90, co [vS "parts" 286, vS "parts" 287, vS "/claim/cut.py" 288, vI 21, vI 4, vI 0, vI 0, vI 3, .ref 85, .bool true, vI 181, .ref 86, .none, .ref 87, .ref 88, .ref 89, vI 293, vI 21, vS "/claim/cut.py" 294]),
  (98, fo "sides_meet" sMeet (vS "fencefield.sides" 255) 97),
  (97, co [vS "sides_meet" 296, vS "sides_meet" 297, vS "/claim/cut.py" 298, vI 23, vI 4, vI 0, vI 0, vI 3, .ref 92, .bool true, vI 181, .ref 93, .none, .ref 94, .ref 95, .ref 96, vI 303, vI 23, vS "/claim/cut.py" 304]),
  (105, fo "goes_back" sBack (vS "fencefield.sides" 255) 104),
  (104, co [vS "goes_back" 306, vS "goes_back" 307, vS "/claim/cut.py" 308, vI 29, vI 3, vI 0, vI 0, vI 3, .ref 99, .bool true, vI 181, .ref 100, .none, .ref 101, .ref 102, .ref 103, vI 314, vI 29, vS "/claim/cut.py" 315]),
  (140, fo "sides_of" sSides (vS "fencefield.fences" 328) 139),
  (139, co [vS "sides_of" 355, vS "sides_of" 356, vS "/claim/cut.py" 357, vI 58, vI 1, vI 0, vI 0, vI 3, .ref 134, .bool true, vI 181, .ref 135, .none, .ref 136, .ref 137, .ref 138, vI 359, vI 58, vS "/claim/cut.py" 360]),
  (147, fo "some_side_goes_back" sSomeBack (vS "fencefield.fences" 328) 146),
  (146, co [vS "some_side_goes_back" 362, vS "some_side_goes_back" 363, vS "/claim/cut.py" 364, vI 60, vI 1, vI 0, vI 0, vI 3, .ref 141, .bool true, vI 181, .ref 142, .none, .ref 143, .ref 144, .ref 145, vI 367, vI 60, vS "/claim/cut.py" 368]),
  (154, fo "some_sides_meet" sSomeMeet (vS "fencefield.fences" 328) 153),
  (153, co [vS "some_sides_meet" 370, vS "some_sides_meet" 371, vS "/claim/cut.py" 372, vI 65, vI 1, vI 0, vI 0, vI 3, .ref 148, .bool true, vI 181, .ref 149, .none, .ref 150, .ref 151, .ref 152, vI 379, vI 65, vS "/claim/cut.py" 380]),
  (119, fo "is_fence" sFence (vS "fencefield.fences" 328) 118),
  (118, co [vS "is_fence" 334, vS "is_fence" 335, vS "/claim/cut.py" 336, vI 46, vI 1, vI 0, vI 0, vI 3, .ref 113, .bool true, vI 181, .ref 114, .none, .ref 115, .ref 116, .ref 117, vI 338, vI 46, vS "/claim/cut.py" 339]),
  (133, fo "refuse_no_fence" sRefuse (vS "fencefield.fences" 328) 132),
  (132, co [vS "refuse_no_fence" 348, vS "refuse_no_fence" 349, vS "/claim/cut.py" 350, vI 55, vI 1, vI 0, vI 0, vI 3, .ref 127, .bool true, vI 181, .ref 128, .none, .ref 129, .ref 130, .ref 131, vI 352, vI 55, vS "/claim/cut.py" 353]),
  (159, fo "signed_double_area" sSigned (vS "fencefield.fences" 328) 158),
  (158, co [vS "signed_double_area" 382, vS "signed_double_area" 383, vS "/claim/cut.py" 384, vI 73, vI 1, vI 0, vI 0, vI 3, .ref 155, .bool true, vI 181, .ref 156, .none, .none, .none, .ref 157, vI 385, vI 73, vS "/claim/cut.py" 386]),
  (126, fo "double_area" sArea (vS "fencefield.fences" 328) 125),
  (125, co [vS "double_area" 341, vS "double_area" 342, vS "/claim/cut.py" 343, vI 52, vI 1, vI 0, vI 0, vI 3, .ref 120, .bool true, vI 181, .ref 121, .none, .ref 122, .ref 123, .ref 124, vI 345, vI 52, vS "/claim/cut.py" 346]),
  (112, fo "whole_points" sWP (vS "fencefield.sides" 255) 111),
  (111, co [vS "whole_points" 317, vS "whole_points" 318, vS "/claim/cut.py" 319, vI 35, vI 2, vI 0, vI 0, vI 3, .ref 106, .bool true, vI 181, .ref 107, .none, .ref 108, .ref 109, .ref 110, vI 325, vI 35, vS "/claim/cut.py" 326]),
  (164, fo "rim" sRim (vS "fencefield.counts" 388) 163),
  (163, co [vS "rim" 390, vS "rim" 391, vS "/claim/cut.py" 392, vI 76, vI 1, vI 0, vI 0, vI 3, .ref 160, .bool true, vI 181, .ref 161, .none, .none, .none, .ref 162, vI 393, vI 76, vS "/claim/cut.py" 394]),
  (171, fo "inside" sInside (vS "fencefield.counts" 388) 170),
  (170, co [vS "inside" 396, vS "inside" 397, vS "/claim/cut.py" 398, vI 79, vI 1, vI 0, vI 0, vI 3, .ref 165, .bool true, vI 181, .ref 166, .none, .ref 167, .ref 168, .ref 169, vI 400, vI 79, vS "/claim/cut.py" 401]),
  (185, fo "is_turning" sIsT (vS "fencefield.turning" 403) 184),
  (184, co [vS "is_turning" 413, vS "is_turning" 414, vS "/claim/cut.py" 415, vI 87, vI 1, vI 0, vI 0, vI 3, .ref 179, .bool true, vI 181, .ref 180, .none, .ref 181, .ref 182, .ref 183, vI 417, vI 87, vS "/claim/cut.py" 418]),
  (197, fo "led_point" sLedPt (vS "fencefield.turning" 403) 196),
  (196, co [vS "led_point" 426, vS "led_point" 427, vS "/claim/cut.py" 428, vI 91, vI 2, vI 0, vI 0, vI 3, .ref 191, .bool true, vI 181, .ref 192, .none, .ref 193, .ref 194, .ref 195, vI 433, vI 91, vS "/claim/cut.py" 434]),
  (190, fo "led" sLedL (vS "fencefield.turning" 403) 189),
  (189, co [vS "led" 420, vS "led" 421, vS "/claim/cut.py" 422, vI 89, vI 2, vI 0, vI 0, vI 3, .ref 186, .bool true, vI 181, .ref 187, .none, .none, .none, .ref 188, vI 423, vI 89, vS "/claim/cut.py" 424]),
  (178, fo "turned" sTurnedF (vS "fencefield.turning" 403) 177),
  (177, co [vS "turned" 405, vS "turned" 406, vS "/claim/cut.py" 407, vI 82, vI 2, vI 0, vI 0, vI 3, .ref 172, .bool true, vI 181, .ref 173, .none, .ref 174, .ref 175, .ref 176, vI 410, vI 82, vS "/claim/cut.py" 411]),
  (204, fo "_law_cell_at" sCell (vS "law_fencefield_k13_turned" 436) 203),
  (203, co [vS "_law_cell_at" 438, vS "_law_cell_at" 439, vS "/claim/cut.py" 440, vI 96, vI 2, vI 0, vI 0, vI 3, .ref 198, .bool true, vI 181, .ref 199, .none, .ref 200, .ref 201, .ref 202, vI 443, vI 96, vS "/claim/cut.py" 444]),
  (211, fo "_law_draw" sDraw (vS "law_fencefield_k13_turned" 436) 210),
  (210, co [vS "_law_draw" 446, vS "_law_draw" 447, vS "/claim/cut.py" 448, vI 100, vI 3, vI 0, vI 0, vI 3, .ref 205, .bool true, vI 181, .ref 206, .none, .ref 207, .ref 208, .ref 209, vI 453, vI 100, vS "/claim/cut.py" 454]),
  (218, fo "_law_rows_by" sRows (vS "law_fencefield_k13_turned" 436) 217),
  (217, co [vS "_law_rows_by" 456, vS "_law_rows_by" 457, vS "/claim/cut.py" 458, vI 104, vI 2, vI 0, vI 0, vI 3, .ref 212, .bool true, vI 181, .ref 213, .none, .ref 214, .ref 215, .ref 216, vI 468, vI 104, vS "/claim/cut.py" 469]),
  (225, fo "_law_joined" sJoined (vS "law_fencefield_k13_turned" 436) 224),
  (224, co [vS "_law_joined" 471, vS "_law_joined" 472, vS "/claim/cut.py" 473, vI 116, vI 3, vI 0, vI 0, vI 3, .ref 219, .bool true, vI 181, .ref 220, .none, .ref 221, .ref 222, .ref 223, vI 478, vI 116, vS "/claim/cut.py" 479]),
  (232, fo "_law_spiral" sSpiral (vS "law_fencefield_k13_turned" 436) 231),
  (231, co [vS "_law_spiral" 481, vS "_law_spiral" 482, vS "/claim/cut.py" 483, vI 123, vI 1, vI 0, vI 0, vI 3, .ref 226, .bool true, vI 181, .ref 227, .none, .ref 228, .ref 229, .ref 230, vI 488, vI 123, vS "/claim/cut.py" 489]),
  (237, fo "_law_flat" sFlat (vS "law_fencefield_k13_turned" 436) 236),
  (236, co [vS "_law_flat" 491, vS "_law_flat" 492, vS "/claim/cut.py" 493, vI 128, vI 2, vI 0, vI 0, vI 3, .ref 233, .bool true, vI 181, .ref 234, .none, .none, .none, .ref 235, vI 494, vI 128, vS "/claim/cut.py" 495]),
  (242, fo "_law_fence_by" sFenceBy (vS "law_fencefield_k13_turned" 436) 241),
  (241, co [vS "_law_fence_by" 497, vS "_law_fence_by" 498, vS "/claim/cut.py" 499, vI 138, vI 2, vI 0, vI 0, vI 3, .ref 238, .bool true, vI 181, .ref 239, .none, .none, .none, .ref 240, vI 500, vI 138, vS "/claim/cut.py" 501]),
  (249, fo "_law_turning_by" sTurning (vS "law_fencefield_k13_turned" 436) 248),
  (248, co [vS "_law_turning_by" 503, vS "_law_turning_by" 504, vS "/claim/cut.py" 505, vI 153, vI 3, vI 0, vI 0, vI 3, .ref 243, .bool true, vI 181, .ref 244, .none, .ref 245, .ref 246, .ref 247, vI 514, vI 153, vS "/claim/cut.py" 515]),
  (256, fo "_law_led" sLed (vS "law_fencefield_k13_turned" 436) 255),
  (255, co [vS "_law_led" 517, vS "_law_led" 518, vS "/claim/cut.py" 519, vI 160, vI 2, vI 0, vI 0, vI 3, .ref 250, .bool true, vI 181, .ref 251, .none, .ref 252, .ref 253, .ref 254, vI 528, vI 160, vS "/claim/cut.py" 529]),
  (263, fo "_law_whole" sWhole (vS "law_fencefield_k13_turned" 436) 262),
  (262, co [vS "_law_whole" 531, vS "_law_whole" 532, vS "/claim/cut.py" 533, vI 163, vI 1, vI 0, vI 0, vI 3, .ref 257, .bool true, vI 181, .ref 258, .none, .ref 259, .ref 260, .ref 261, vI 535, vI 163, vS "/claim/cut.py" 536]),
  (270, fo "_law_points_are" sPtsAre (vS "law_fencefield_k13_turned" 436) 269),
  (269, co [vS "_law_points_are" 538, vS "_law_points_are" 539, vS "/claim/cut.py" 540, vI 165, vI 2, vI 0, vI 0, vI 3, .ref 264, .bool true, vI 181, .ref 265, .none, .ref 266, .ref 267, .ref 268, vI 544, vI 165, vS "/claim/cut.py" 545]),
  (277, fo "_law_refused" sRefT (vS "law_fencefield_k13_turned" 436) 276),
  (276, co [vS "_law_refused" 547, vS "_law_refused" 548, vS "/claim/cut.py" 549, vI 172, vI 2, vI 0, vI 0, vI 3, .ref 271, .bool true, vI 181, .ref 272, .none, .ref 273, .ref 274, .ref 275, vI 554, vI 172, vS "/claim/cut.py" 555]),
  (282, fo "law" sLaw (vS "law_fencefield_k13_turned" 436) 281),
  (281, co [vS "law" 557, vS "law" 558, vS "/claim/cut.py" 559, vI 180, vI 1, vI 0, vI 0, vI 3, .ref 278, .bool true, vI 181, .ref 279, .none, .none, .none, .ref 280, vI 560, vI 180, vS "/claim/cut.py" 561]),
  (24, { cls := .type "type", data := Data.cls   { name := Str.ofString "FenceError", bases := [Value.type "ValueError"],     mro :=       [Value.ref 24, Value.type "ValueError", Value.type "Exception", Value.type "BaseException", Value.type "object"],     ns := 23, qualname := Str.ofString "FenceError", subclasses := [Value.ref 37, Value.ref 49, Value.ref 61] }, slots := #[some (Value.ref 15), none, some (Value.str (Str.ofString "FenceError") 189), some (Value.str (Str.ofString "FenceError") 197), some (Value.builtin "ValueError.__new__"), some (Value.bool true)] }),
  (37, { cls := .type "type", data := Data.cls   { name := Str.ofString "NoFence", bases := [Value.ref 24],     mro :=       [Value.ref 37, Value.ref 24, Value.type "ValueError", Value.type "Exception", Value.type "BaseException",         Value.type "object"],     ns := 36, qualname := Str.ofString "NoFence" }, slots := #[some (Value.ref 28), none, some (Value.str (Str.ofString "NoFence") 207), some (Value.str (Str.ofString "NoFence") 215), some (Value.builtin "ValueError.__new__"), some (Value.bool true)] }),
  (49, { cls := .type "type", data := Data.cls   { name := Str.ofString "NoTurning", bases := [Value.ref 24],     mro :=       [Value.ref 49, Value.ref 24, Value.type "ValueError", Value.type "Exception", Value.type "BaseException",         Value.type "object"],     ns := 48, qualname := Str.ofString "NoTurning" }, slots := #[some (Value.ref 40), none, some (Value.str (Str.ofString "NoTurning") 223), some (Value.str (Str.ofString "NoTurning") 231), some (Value.builtin "ValueError.__new__"), some (Value.bool true)] }),
  (61, { cls := .type "type", data := Data.cls   { name := Str.ofString "TooWide", bases := [Value.ref 24],     mro :=       [Value.ref 61, Value.ref 24, Value.type "ValueError", Value.type "Exception", Value.type "BaseException",         Value.type "object"],     ns := 60, qualname := Str.ofString "TooWide" }, slots := #[some (Value.ref 52), none, some (Value.str (Str.ofString "TooWide") 239), some (Value.str (Str.ofString "TooWide") 247), some (Value.builtin "ValueError.__new__"), some (Value.bool true)] }),
  (23, { cls := .type "dict", data := .dict #[en P "__module__" 196 (vS "fencefield.errors" 187), en P "__firstlineno__" 200 ((.int 2 199)), en P "__static_attributes__" 201 (.ref 22), en P "__weakref__" 203 (.ref 25), en P "__doc__" 204 (.none)] 3 }),
  (48, { cls := .type "dict", data := .dict #[en P "__module__" 230 (vS "fencefield.errors" 187), en P "__firstlineno__" 234 ((.int 6 233)), en P "__static_attributes__" 235 (.ref 47), en P "__doc__" 236 (.none)] 2 })]
noncomputable def VQ : Program := { PySem.Challenge.pw_fencefield_k13_turned with main := { PySem.Challenge.pw_fencefield_k13_turned.main with body := [1, 2, 3, 4, 6, 7, 8, 9, 10, 11, 12, 14, 15, 16, 17, 18, 19, 20, 21, 22, 24, 25, 27, 28, 29, 30, 32, 33, 34, 35, 36, 37, 38, 39, 40, 41, 42, 43, 44].map top } }
noncomputable abbrev HK : PySem.W.Hook := PySem.W.kHook KK [3, 70, 69, 77, 76, 84, 83, 91, 90, 98, 97, 105, 104, 140, 139, 147, 146, 154, 153, 119, 118, 133, 132, 159, 158, 126, 125, 112, 111, 164, 163, 171, 170, 185, 184, 197, 196, 190, 189, 178, 177, 204, 203, 211, 210, 218, 217, 225, 224, 232, 231, 237, 236, 242, 241, 249, 248, 256, 255, 263, 262, 270, 269, 277, 276, 282, 281, 24, 37, 49, 61, 23, 48] (fun _ => by kernel_rfl)
set_option maxHeartbeats 0 in
theorem left : PySem.W.LeftO PySem.Challenge.rw_fencefield_k13_turned.row.prog VQ [] (fun s => PySem.W.xlAt VQ [] s && PySem.W.recOk (PySem.W.RowW.records PySem.Challenge.rw_fencefield_k13_turned.row.toRowW) s) (PySem.W.Hook.obs HK) (PySem.W.Hook.val HK) 3936 := fun w => by kernel_rfl
end FD
end
open PySem PySem.W PyProof.Rows
set_option maxRecDepth 100000 in
set_option maxHeartbeats 0 in
theorem PySem.Challenge.cw_fencefield_k13_turned_holds : PySem.Challenge.rw_fencefield_k13_turned.Holds := by
  refine PySem.W.holds_law (by kernel_rfl) fun said => ?_
  refine PySem.W.holds_open (q := FD.VQ) (loose := []) (Xt := fun s => PySem.W.xlAt FD.VQ [] s && PySem.W.recOk (PySem.W.RowW.records PySem.Challenge.rw_fencefield_k13_turned.row.toRowW) s) (XP := PySem.W.XL FD.VQ []) (Yf := PySem.W.Hook.obs FD.HK) (Ya := PySem.W.Hook.val FD.HK) (YP := PySem.W.Hook.says FD.HK) (N := 3936) FD.left (PySem.W.Hook.of FD.HK) (PySem.W.Hook.keeps FD.HK) (fun s e => PySem.W.xl_of s (Bool.and_eq_true_iff.mp e).1) PySem.W.XL.keeps (by rfl) (by rfl) (by rfl) (fun s e => PySem.W.recFacts_of (Bool.and_eq_true_iff.mp e).2) (by rfl) said (by decide +kernel) ⟨rfl, rfl, rfl, rfl, rfl, by decide +kernel⟩ ?hw ?hc
  case hw => w_witness2
  case hc =>
    refine FD.walk (l := PySem.Challenge.rw_fencefield_k13_turned) rfl rfl (fun w h Y => PySem.W.kIn_of Y) ?F
    case F =>
      intro w mg fa h KX G hmg
      exact FD.all_mk KX G hmg (f1 := 70) (cd1 := 69) (md1 := FD.vS "fencefield.sides" 255) (by kernel_rfl) (by kernel_rfl) (by kernel_rfl) (by kernel_rfl)
        (f2 := 77) (cd2 := 76) (md2 := FD.vS "fencefield.sides" 255) (by kernel_rfl) (by kernel_rfl) (by kernel_rfl) (by kernel_rfl)
        (f3 := 84) (cd3 := 83) (md3 := FD.vS "fencefield.sides" 255) (by kernel_rfl) (by kernel_rfl) (by kernel_rfl) (by kernel_rfl)
        (f4 := 91) (cd4 := 90) (md4 := FD.vS "fencefield.sides" 255) (by kernel_rfl) (by kernel_rfl) (by kernel_rfl) (by kernel_rfl)
        (f5 := 98) (cd5 := 97) (md5 := FD.vS "fencefield.sides" 255) (by kernel_rfl) (by kernel_rfl) (by kernel_rfl) (by kernel_rfl)
        (f6 := 105) (cd6 := 104) (md6 := FD.vS "fencefield.sides" 255) (by kernel_rfl) (by kernel_rfl) (by kernel_rfl) (by kernel_rfl)
        (f7 := 140) (cd7 := 139) (md7 := FD.vS "fencefield.fences" 328) (by kernel_rfl) (by kernel_rfl) (by kernel_rfl) (by kernel_rfl)
        (f8 := 147) (cd8 := 146) (md8 := FD.vS "fencefield.fences" 328) (by kernel_rfl) (by kernel_rfl) (by kernel_rfl) (by kernel_rfl)
        (f9 := 154) (cd9 := 153) (md9 := FD.vS "fencefield.fences" 328) (by kernel_rfl) (by kernel_rfl) (by kernel_rfl) (by kernel_rfl)
        (f10 := 119) (cd10 := 118) (md10 := FD.vS "fencefield.fences" 328) (by kernel_rfl) (by kernel_rfl) (by kernel_rfl) (by kernel_rfl)
        (f11 := 133) (cd11 := 132) (md11 := FD.vS "fencefield.fences" 328) (by kernel_rfl) (by kernel_rfl) (by kernel_rfl) (by kernel_rfl)
        (f12 := 159) (cd12 := 158) (md12 := FD.vS "fencefield.fences" 328) (by kernel_rfl) (by kernel_rfl) (by kernel_rfl) (by kernel_rfl)
        (f13 := 126) (cd13 := 125) (md13 := FD.vS "fencefield.fences" 328) (by kernel_rfl) (by kernel_rfl) (by kernel_rfl) (by kernel_rfl)
        (f14 := 112) (cd14 := 111) (md14 := FD.vS "fencefield.sides" 255) (by kernel_rfl) (by kernel_rfl) (by kernel_rfl) (by kernel_rfl)
        (f15 := 164) (cd15 := 163) (md15 := FD.vS "fencefield.counts" 388) (by kernel_rfl) (by kernel_rfl) (by kernel_rfl) (by kernel_rfl)
        (f16 := 171) (cd16 := 170) (md16 := FD.vS "fencefield.counts" 388) (by kernel_rfl) (by kernel_rfl) (by kernel_rfl) (by kernel_rfl)
        (f17 := 185) (cd17 := 184) (md17 := FD.vS "fencefield.turning" 403) (by kernel_rfl) (by kernel_rfl) (by kernel_rfl) (by kernel_rfl)
        (f18 := 197) (cd18 := 196) (md18 := FD.vS "fencefield.turning" 403) (by kernel_rfl) (by kernel_rfl) (by kernel_rfl) (by kernel_rfl)
        (f19 := 190) (cd19 := 189) (md19 := FD.vS "fencefield.turning" 403) (by kernel_rfl) (by kernel_rfl) (by kernel_rfl) (by kernel_rfl)
        (f20 := 178) (cd20 := 177) (md20 := FD.vS "fencefield.turning" 403) (by kernel_rfl) (by kernel_rfl) (by kernel_rfl) (by kernel_rfl)
        (f21 := 204) (cd21 := 203) (md21 := FD.vS "law_fencefield_k13_turned" 436) (by kernel_rfl) (by kernel_rfl) (by kernel_rfl) (by kernel_rfl)
        (f22 := 211) (cd22 := 210) (md22 := FD.vS "law_fencefield_k13_turned" 436) (by kernel_rfl) (by kernel_rfl) (by kernel_rfl) (by kernel_rfl)
        (f23 := 218) (cd23 := 217) (md23 := FD.vS "law_fencefield_k13_turned" 436) (by kernel_rfl) (by kernel_rfl) (by kernel_rfl) (by kernel_rfl)
        (f24 := 225) (cd24 := 224) (md24 := FD.vS "law_fencefield_k13_turned" 436) (by kernel_rfl) (by kernel_rfl) (by kernel_rfl) (by kernel_rfl)
        (f25 := 232) (cd25 := 231) (md25 := FD.vS "law_fencefield_k13_turned" 436) (by kernel_rfl) (by kernel_rfl) (by kernel_rfl) (by kernel_rfl)
        (f26 := 237) (cd26 := 236) (md26 := FD.vS "law_fencefield_k13_turned" 436) (by kernel_rfl) (by kernel_rfl) (by kernel_rfl) (by kernel_rfl)
        (f27 := 242) (cd27 := 241) (md27 := FD.vS "law_fencefield_k13_turned" 436) (by kernel_rfl) (by kernel_rfl) (by kernel_rfl) (by kernel_rfl)
        (f28 := 249) (cd28 := 248) (md28 := FD.vS "law_fencefield_k13_turned" 436) (by kernel_rfl) (by kernel_rfl) (by kernel_rfl) (by kernel_rfl)
        (f29 := 256) (cd29 := 255) (md29 := FD.vS "law_fencefield_k13_turned" 436) (by kernel_rfl) (by kernel_rfl) (by kernel_rfl) (by kernel_rfl)
        (f30 := 263) (cd30 := 262) (md30 := FD.vS "law_fencefield_k13_turned" 436) (by kernel_rfl) (by kernel_rfl) (by kernel_rfl) (by kernel_rfl)
        (f31 := 270) (cd31 := 269) (md31 := FD.vS "law_fencefield_k13_turned" 436) (by kernel_rfl) (by kernel_rfl) (by kernel_rfl) (by kernel_rfl)
        (f32 := 277) (cd32 := 276) (md32 := FD.vS "law_fencefield_k13_turned" 436) (by kernel_rfl) (by kernel_rfl) (by kernel_rfl) (by kernel_rfl)
        (f33 := 282) (cd33 := 281) (md33 := FD.vS "law_fencefield_k13_turned" 436) (by kernel_rfl) (by kernel_rfl) (by kernel_rfl) (by kernel_rfl)
        (by kernel_rfl)
        (by kernel_rfl)
        (by kernel_rfl)
        (by kernel_rfl)
        (by kernel_rfl)
        (by kernel_rfl)
        (by kernel_rfl)
        (by kernel_rfl)
        (by kernel_rfl)
        (by kernel_rfl)
        (by kernel_rfl)
        (by kernel_rfl)
        (by kernel_rfl)
        (by kernel_rfl)
        (by kernel_rfl)
        (by kernel_rfl)
        (tk1 := 330) (by kernel_rfl)
        (tk2 := 332) (by kernel_rfl)
        (by kernel_rfl)
        (by kernel_rfl)
        (by kernel_rfl)
        (by kernel_rfl)
        (by kernel_rfl)
        (by kernel_rfl)
        (by kernel_rfl)
        (by kernel_rfl)
        (by kernel_rfl)
        (by kernel_rfl)
        (by kernel_rfl)
        (by kernel_rfl)
