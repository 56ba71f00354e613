import PyProof.Rows.All
import Wide.All
import OpenK.AllK
import Wide.FinOn
import Lean
import PyProof.EqAt
import PyProof.EqKinds
import PyProof.TupleCall
import PySem.Challenge.RW_unseen_k12_whole_exchanged
set_option Elab.async false
set_option linter.all false
set_option maxRecDepth 100000
/-! THE HAND LAYER, for ints, bools, texts, own classes, LISTS and tuples (index, slices, in, append, pop ..), calls, loops. Paste it whole ahead of your own text; what your proof does not reach may be deleted. -/
namespace L2
open PySem PySem.Spec PyProof.Rows

/-- a key: an int or a str -/
abbrev Key := Sum Int Str
def keyIs : Key → Value → Bool
  | .inl k, v => Value.isInt k v
  | .inr x, v => Value.isStrOf x v
def keyH (w : World) : Key → Int
  | .inl k => hashInt k
  | .inr x => hashStr w x
theorem keyIs_shape : ∀ {k : Key} {v : Value}, keyIs k v = true → (∃ i t, k = Sum.inl i ∧ v = Value.int i t) ∨ (∃ x t, k = Sum.inr x ∧ v = Value.str x t)
  | .inl i, v, h => by
    obtain ⟨t, e⟩ := Value.isInt_shape (k := i) (v := v) h
    exact .inl ⟨i, t, rfl, e⟩
  | .inr x, v, h => by
    obtain ⟨t, e⟩ := Value.isStrOf_shape (x := x) (v := v) h
    exact .inr ⟨x, t, rfl, e⟩
theorem key_ll (a b : Int) : decide ((Sum.inl a : Key) = Sum.inl b) = (a == b) := by
  by_cases e : a = b
  · subst e; simp
  · have h : ¬ (Sum.inl a : Key) = Sum.inl b := fun q => e (Sum.inl.inj q)
    rw [decide_eq_false h]
    exact (beq_eq_false_iff_ne.mpr e).symm
theorem key_rr (a b : Str) : decide ((Sum.inr a : Key) = Sum.inr b) = decide (a = b) := by
  by_cases e : a = b
  · subst e; simp
  · have h : ¬ (Sum.inr a : Key) = Sum.inr b := fun q => e (Sum.inr.inj q)
    rw [decide_eq_false h, decide_eq_false e]
theorem key_lr (a : Int) (b : Str) : decide ((Sum.inl a : Key) = Sum.inr b) = false := decide_eq_false (fun q => nomatch q)
theorem key_rl (a : Str) (b : Int) : decide ((Sum.inr a : Key) = Sum.inl b) = false := decide_eq_false (fun q => nomatch q)

def mixKind (prog : Program) (w : World) : PySem.KeyKind prog w Key where
  is := keyIs
  hash := keyH w
  inj := fun v a b ha hb => by
    rcases keyIs_shape ha with ⟨i, t, rfl, rfl⟩ | ⟨x, t, rfl, rfl⟩
    · rcases keyIs_shape hb with ⟨j, u, rfl, e⟩ | ⟨y, u, rfl, e⟩
      · injection e with e1 _; rw [e1]
      · exact nomatch e
    · rcases keyIs_shape hb with ⟨j, u, rfl, e⟩ | ⟨y, u, rfl, e⟩
      · exact nomatch e
      · injection e with e1 _; rw [e1]
  byValue := fun k v h => by
    rcases keyIs_shape h with ⟨i, t, rfl, rfl⟩ | ⟨x, t, rfl, rfl⟩ <;> rfl
  pyHash := fun hv h => by
    rcases keyIs_shape hv with ⟨i, t, rfl, rfl⟩ | ⟨x, t, rfl, rfl⟩
    · exact wpAny_pyHash_int h
    · exact wpAny_pyHash_str h
  eqBool := fun hu hv h => by
    rcases keyIs_shape hu with ⟨i, t, rfl, rfl⟩ | ⟨x, t, rfl, rfl⟩
    · rcases keyIs_shape hv with ⟨j, u, rfl, rfl⟩ | ⟨y, u, rfl, rfl⟩
      · rw [key_ll] at h; exact wpAny_eqBool_int h
      · rw [key_lr] at h; exact SeqAt.EqAt.int_str i t y u _ _ _ _ h
    · rcases keyIs_shape hv with ⟨j, u, rfl, rfl⟩ | ⟨y, u, rfl, rfl⟩
      · rw [key_rl] at h; exact SeqAt.EqAt.str_int x t j u _ _ _ _ h
      · rw [key_rr] at h; exact wpAny_eqBool_str h
  «strs» := fun k x t v h => by
    rcases keyIs_shape h with ⟨i, u, rfl, e⟩ | ⟨y, u, rfl, e⟩
    · exact nomatch e
    · injection e with e1 _
      subst e1
      cases v <;> rfl

end L2

namespace L2
open PySem PySem.Spec PyProof.Rows

/-- a value, without the heap -/
inductive V where
  | non | bl (b : Bool) | int (i : Int) | str (x : Str) | byt (b : Array UInt8) | flt (b : UInt64) | ref (a : Addr) | ty (n : String)
  deriving DecidableEq

def RelV : V → Value → Prop
  | .non, u => u = Value.none
  | .bl b, u => u = Value.bool b
  | .int i, u => ∃ t, u = Value.int i t
  | .str x, u => ∃ t, u = Value.str x t
  | .byt b, u => ∃ t, u = Value.bytes b t
  | .flt b, u => ∃ t, u = Value.float b t
  | .ref a, u => u = Value.ref a
  | .ty n, u => u = Value.type n

abbrev Vals : List V → List Value → Prop := Paired RelV
theorem Vals.length {xs : List V} {us : List Value} (r : Vals xs us) : xs.length = us.length := Paired.length r
theorem Vals.get : ∀ {xs : List V} {us : List Value} {i : Nat} {x : V}, Vals xs us → xs[i]? = some x → ∃ u, us[i]? = some u ∧ RelV x u
  | _, _, _, _, .nil, e => by simp at e
  | _, _, 0, _, .cons r _, e => by simp at e; subst e; exact ⟨_, rfl, r⟩
  | _, _, i + 1, x, .cons _ t, e => by
    obtain ⟨u, h1, h2⟩ := Vals.get (i := i) (x := x) t (by simpa using e)
    exact ⟨u, by simpa using h1, h2⟩
theorem Vals.set {x : V} {u : Value} (r : RelV x u) : ∀ {xs : List V} {us : List Value} (i : Nat), Vals xs us → Vals (xs.set i x) (us.set i u)
  | _, _, _, .nil => .nil
  | _, _, 0, .cons _ t => .cons r t
  | _, _, i + 1, .cons q t => .cons q (Vals.set r i t)
theorem Vals.append : ∀ {xs ys : List V} {us ws : List Value}, Vals xs us → Vals ys ws → Vals (xs ++ ys) (us ++ ws)
  | _, _, _, _, .nil, s => s
  | _, _, _, _, .cons r t, s => .cons r (Vals.append t s)
theorem Vals.take : ∀ {xs : List V} {us : List Value} (n : Nat), Vals xs us → Vals (xs.take n) (us.take n)
  | _, _, 0, _ => .nil
  | _, _, _ + 1, .nil => .nil
  | _, _, n + 1, .cons r t => .cons r (Vals.take n t)
theorem Vals.drop : ∀ {xs : List V} {us : List Value} (n : Nat), Vals xs us → Vals (xs.drop n) (us.drop n)
  | _, _, 0, r => r
  | _, _, _ + 1, .nil => .nil
  | _, _, n + 1, .cons _ t => Vals.drop n t

def RelO : Option V → Option Value → Prop
  | some v, some u => RelV v u
  | none, none => True
  | _, _ => False
def KV {κ : Type} : List (κ × V) → List (κ × Value) → Prop := Paired fun (p : κ × V) (q : κ × Value) => p.1 = q.1 ∧ RelV p.2 q.2

/-- a key of a dict (00_mix): an int or a text -/
def kV : Key → V
  | .inl i => .int i
  | .inr x => .str x

/-- what stands at a tracked address -/
inductive HO where
  /-- a list -/
  | lst (xs : List V)
  /-- a tuple (never changes) -/
  | tup (xs : List V)
  /-- a dict whose keys are ints and texts; one whose keys are tuples of ints and texts (the empty one is both) -/
  | dK (kvs : List (Key × V)) | dT (kvs : List (List Key × V))
  /-- a set of ints: its members, its size -/
  | set (S : Int → Bool) (n : Nat)
  /-- an instance of the class at C, its dict at dx, its attributes -/
  | ins (C dx : Addr) (fs : List (Str × V))
  /-- the dict of the instance at x -/
  | own (x : Addr)
  /-- the dict of an exception -/
  | xd (fs : List (Str × V))
  /-- a bound method, f of x -/
  | met (f x : Addr)
  /-- a range object lo, lo + 1, .. below hi -/
  | rng (lo hi : Int)
  /-- a thing that is known to the object (the script; a dict while a loop walks it): read, never written while it is so -/
  | frz (o : Obj) (u : HO)
  /-- a code object's table -/
  | tbl (ps : Array Value)
  /-- any other thing, by what is true of its one object (a def of one's own: SetO a S n := HO.ext fun h => ..) -/
  | ext (φ : Heap → Prop)

abbrev Hp := Addr → Option HO
def upd (H : Hp) (a : Addr) (o : HO) : Hp := fun b => if b = a then some o else H b
theorem upd_same {H : Hp} {a : Addr} {o : HO} : upd H a o a = some o := by unfold upd; rw [if_pos rfl]
theorem upd_ne {H : Hp} {a b : Addr} {o : HO} (h : b ≠ a) : upd H a o b = H b := by unfold upd; rw [if_neg h]
/-- two objects of different content stand apart -/
theorem ne_of {H : Hp} {a b : Addr} {o u : HO} (h : H a = some o) (h' : H b = some u) (d : o ≠ u) : a ≠ b := by
  intro e; subst e; rw [h] at h'; exact d (Option.some.inj h')
theorem ne_of_none {H : Hp} {a b : Addr} {o : HO} (h : H a = some o) (h' : H b = none) : a ≠ b := by
  intro e; subst e; rw [h] at h'; cases h'

section
variable (P : Program) (w : World)
def ObjOk (H : Hp) (h : Heap) (a : Addr) : HO → Prop
  | .lst xs => xs.length ≤ sizeLine ∧ ∃ (its : List Value) (n : Nat), Vals xs its ∧ h.get? a = some { cls := .type "list", data := .seq its.toArray n }
  | .tup xs => xs.length ≤ sizeLine ∧ ∃ its : List Value, Vals xs its ∧ IsTup h a its.toArray
  | .dK kvs => kvs.length ≤ sizeLine ∧ (a == sysModules) = false ∧ ∃ vs, KV kvs vs ∧ h.DictOf (mixKind P w) a vs
  | .dT kvs => kvs.length ≤ sizeLine ∧ (a == sysModules) = false ∧ ∃ xs : List (List Key × Addr × Value),
      Paired (fun (p : List Key × V) (q : List Key × Addr × Value) => p.1 = q.1 ∧ H q.2.1 = some (.tup (p.1.map kV)) ∧ RelV p.2 q.2.2) kvs xs ∧
      ∃ o es ep, h.get? a = some o ∧ o.ExactDict ∧ o.data = .dict es ep ∧ es.toList = xs.map (entryOfKey (tupleKind (mixKind P w))) ∧ (xs.map (·.1)).Nodup
  | .set S n => h.SetOf (intKind P w) a S n
  | .ins C dx fs => H dx = some (.own a) ∧ fs.length ≤ 1000 ∧ dx ≠ a ∧ h.get? a = some (PySem.W.instObj C dx) ∧
      ∃ mA, h.Ns1 dx mA ∧ (∀ f, RelO (fs.lookup f) (mA f)) ∧ PySem.Within mA (fs.map (·.1))
  | .own _ => ∃ o, h.get? a = some o
  | .xd fs => ∃ mA, h.Ns1 a mA ∧ ∀ f, RelO (fs.lookup f) (mA f)
  | .rng lo hi => ∃ t u v, h.get? a = some { cls := .type "range", data := .fields #[.int lo t, .int hi u, .int 1 v] }
  | .frz o u => h.get? a = some o ∧ ObjOk H h a u
  | .tbl ps => h.get? a = some { cls := .none, data := .fields ps }
  | .met f x => h.get? a = some (PySem.W.methodObj (.ref f) (.ref x))
  | .ext φ => φ h ∧ (∃ o, h.get? a = some o) ∧ ∀ h1 h2 : Heap, φ h1 → (∀ o, h1.get? a = some o → h2.get? a = some o) → φ h2
/-- the abstract heap is held -/
def HOk (H : Hp) (h : Heap) : Prop := ∀ a o, H a = some o → ObjOk P w H h a o
end

section
variable {P : Program} {w : World} {H H' : Hp} {h h' : Heap} {a : Addr} {o : HO}
theorem ObjOk.lt (x : ObjOk P w H h a o) : a < h.objs.size := by
  cases o with
  | lst xs => obtain ⟨_, _, _, _, e⟩ := x; exact Heap.lt_size e
  | tup xs => obtain ⟨_, _, _, p⟩ := x; exact p.lt
  | dK kvs => obtain ⟨_, _, _, _, o, _, _, e, _⟩ := x; exact Heap.lt_size e
  | dT kvs => obtain ⟨_, _, _, _, o, _, _, e, _⟩ := x; exact Heap.lt_size e
  | set S n => obtain ⟨o, _, _, _, e, _⟩ := x; exact Heap.lt_size e
  | ins C dx fs => obtain ⟨_, _, _, e, _⟩ := x; exact Heap.lt_size e
  | own y => obtain ⟨_, e⟩ := x; exact Heap.lt_size e
  | xd fs => obtain ⟨_, ⟨_, _, _, e, _⟩, _⟩ := x; exact Heap.lt_size e
  | rng lo hi => obtain ⟨_, _, _, e⟩ := x; exact Heap.lt_size e
  | frz ob u => obtain ⟨e, _⟩ := x; exact Heap.lt_size e
  | tbl ps => exact Heap.lt_size (show h.get? a = some _ from x)
  | met f y => exact Heap.lt_size (show h.get? a = some _ from x)
  | ext φ => obtain ⟨_, ⟨_, e⟩, _⟩ := x; exact Heap.lt_size e
theorem Paired.mapP {α β : Type} {F G : α → β → Prop} : ∀ {l₁ : List α} {l₂ : List β}, Paired F l₁ l₂ → (∀ a b, F a b → G a b) → Paired G l₁ l₂
  | _, _, .nil, _ => .nil
  | _, _, .cons r t, f => .cons (f _ _ r) (Paired.mapP t f)
/-- what an object's description leans on: its own object, its own dict, the tuples -/
theorem ObjOk.stay (x : ObjOk P w H h a o) (k : ∀ b u, (b = a ∨ H b = some (.own a)) → h.get? b = some u → h'.get? b = some u)
    (ho : ∀ b, H b = some (.own a) → H' b = some (.own a)) (ht : ∀ b xs, H b = some (.tup xs) → H' b = some (.tup xs)) : ObjOk P w H' h' a o := by
  induction o with
  | lst xs => obtain ⟨z, its, n, r, e⟩ := x; exact ⟨z, its, n, r, k _ _ (.inl rfl) e⟩
  | tup xs => obtain ⟨z, its, r, ob, e, c⟩ := x; exact ⟨z, its, r, ob, k _ _ (.inl rfl) e, c⟩
  | dK kvs => obtain ⟨z, y, vs, r, ob, es, ep, e, c⟩ := x; exact ⟨z, y, vs, r, ob, es, ep, k _ _ (.inl rfl) e, c⟩
  | dT kvs =>
    obtain ⟨z, y, xs, r, ob, es, ep, e, c⟩ := x
    exact ⟨z, y, xs, Paired.mapP r fun p q z => ⟨z.1, ht _ _ z.2.1, z.2.2⟩, ob, es, ep, k _ _ (.inl rfl) e, c⟩
  | set S n => obtain ⟨ob, es, ep, t, e, c⟩ := x; exact ⟨ob, es, ep, t, k _ _ (.inl rfl) e, c⟩
  | ins C dx fs =>
    obtain ⟨d, z, ne, e, mA, ⟨od, es, ep, e2, c⟩, r⟩ := x
    exact ⟨ho _ d, z, ne, k _ _ (.inl rfl) e, mA, ⟨od, es, ep, k _ _ (.inr d) e2, c⟩, r⟩
  | own y => obtain ⟨ob, e⟩ := x; exact ⟨ob, k _ _ (.inl rfl) e⟩
  | xd fs => obtain ⟨mA, ⟨od, es, ep, e, c⟩, r⟩ := x; exact ⟨mA, ⟨od, es, ep, k _ _ (.inl rfl) e, c⟩, r⟩
  | rng lo hi => obtain ⟨t, u, v, e⟩ := x; exact ⟨t, u, v, k _ _ (.inl rfl) e⟩
  | frz ob u ih => obtain ⟨e, q⟩ := x; exact ⟨k _ _ (.inl rfl) e, ih q⟩
  | tbl ps =>
    have e : h.get? a = some { cls := .none, data := .fields ps } := x
    show h'.get? a = some { cls := .none, data := .fields ps }
    exact k a _ (.inl rfl) e
  | met f y =>
    have e : h.get? a = some (PySem.W.methodObj (.ref f) (.ref y)) := x
    show h'.get? a = some (PySem.W.methodObj (.ref f) (.ref y))
    exact k a _ (.inl rfl) e
  | ext φ => obtain ⟨p, ⟨o, e⟩, st⟩ := x; exact ⟨st _ _ p fun o q => k _ _ (.inl rfl) q, ⟨o, k _ _ (.inl rfl) e⟩, st⟩
theorem HOk.lt (x : HOk P w H h) (e : H a = some o) : a < h.objs.size := (x a o e).lt
theorem HOk.fresh (x : HOk P w H h) (e : h.objs.size ≤ a) : H a = none := by
  cases q : H a with
  | none => rfl
  | some u => exact absurd (Nat.lt_of_lt_of_le (x.lt q) e) (Nat.lt_irrefl _)
/-- every object of the heap is kept -/
theorem HOk.kept (x : HOk P w H h) (k : ∀ b u, h.get? b = some u → h'.get? b = some u) : HOk P w H h' := fun a o e =>
  (x a o e).stay (fun b u _ q => k b u q) (fun _ q => q) fun _ _ q => q
/-- a new object is laid and tracked -/
theorem HOk.laid (x : HOk P w H h) (k : ∀ b u, h.get? b = some u → h'.get? b = some u) (hp : h.objs.size ≤ a) (new : ObjOk P w (upd H a o) h' a o) : HOk P w (upd H a o) h' := fun b u e => by
  have hn := x.fresh hp
  by_cases hb : b = a
  · subst hb; rw [upd_same] at e; cases e; exact new
  · rw [upd_ne hb] at e
    exact (x b u e).stay (fun c v _ q => k c v q) (fun c q => by rw [upd_ne (ne_of_none q hn)]; exact q) fun c xs q => by rw [upd_ne (ne_of_none q hn)]; exact q
end

/-- what may be read as u: it is u, or a known u -/
def Rd (H : Hp) (a : Addr) (u : HO) : Prop := H a = some u ∨ ∃ o, H a = some (.frz o u)
theorem Rd.ok {P : Program} {w : World} {H : Hp} {h : Heap} {a : Addr} {u : HO} (r : Rd H a u) (x : HOk P w H h) : ObjOk P w H h a u := by
  rcases r with r | ⟨o, r⟩
  · exact x a u r
  · obtain ⟨_, q⟩ := x a _ r
    exact q
/-- what may be written -/
def Mut : Option HO → Prop
  | some (.lst _) => True
  | some (.dK _) => True
  | some (.dT _) => True
  | some (.set _ _) => True
  | some (.ins _ _ _) => True
  | some (.ext _) => True
  | _ => False
section
variable {P : Program} {w : World} {H : Hp} {h h' : Heap} {x e : Addr} {o' : HO}
/-- the object at e is changed: x itself, or the dict of the instance x -/
theorem HOk.write (ok : HOk P w H h) (mu : Mut (H x)) (he : e = x ∨ H e = some (.own x)) (k : ∀ b u, b ≠ e → h.get? b = some u → h'.get? b = some u) (heo : ∃ u, h'.get? e = some u)
    (new : ObjOk P w (upd H x o') h' x o') : HOk P w (upd H x o') h' := fun b u q => by
  have nown : ∀ c y, H c = some (.own y) → c ≠ x := fun c y r z => by subst z; rw [r] at mu; exact mu
  have ntup : ∀ c xs, H c = some (.tup xs) → c ≠ x := fun c xs r z => by subst z; rw [r] at mu; exact mu
  by_cases hb : b = x
  · subst hb; rw [upd_same] at q; cases q; exact new
  · rw [upd_ne hb] at q
    by_cases hbe : b = e
    · have q' : H b = some (.own x) := by
        rcases he with z | z
        · exact absurd (hbe.trans z) hb
        · rw [hbe]; exact z
      rw [q] at q'; cases q'
      obtain ⟨v, hv⟩ := heo
      exact ⟨v, by rw [hbe]; exact hv⟩
    · refine (ok b u q).stay (fun c v hc r => k c v ?_ r) (fun c r => by rw [upd_ne (nown c b r)]; exact r) fun c xs r => by rw [upd_ne (ntup c xs r)]; exact r
      rcases hc with rfl | hc
      · exact hbe
      · rintro rfl
        rcases he with z | z
        · exact nown c b hc z
        · rw [hc] at z; cases z; exact hb rfl
end

/-! ### kept unless tracked; of the frames at fs (the callers') the slots may change (an exception that passes writes there); of the records at ex (iterators) nothing is said -/
structure Un (fs ex : List Addr) (H H' : Hp) (h h' : Heap) : Prop where
  keep : ∀ b o, h.get? b = some o → H b = none → b ∉ fs → b ∉ ex → h'.get? b = some o
  slot : ∀ b o, h.get? b = some o → H b = none → b ∈ fs → b ∉ ex → ∃ sl, h'.get? b = some { o with slots := sl }
  free : ∀ b o, h.get? b = some o → H b = none → b ∉ ex → H' b = none
  there : ∀ b o, h.get? b = some o → b ∉ ex → ∃ o', h'.get? b = some o'
  tups : ∀ b xs, H b = some (.tup xs) → H' b = some (.tup xs)
  frzs : ∀ b o u, H b = some (.frz o u) → H' b = some (.frz o u)
  tbls : ∀ b ps, H b = some (.tbl ps) → ∃ more, H' b = some (.tbl (ps ++ more))
section
variable {fs fs' ex ex' : List Addr} {H H1 H2 : Hp} {h h1 h2 h' : Heap} {a x e : Addr} {o : HO}
theorem Un.any (u : Un fs ex H H1 h h1) {b : Addr} {ob : Obj} (q : h.get? b = some ob) (n : H b = none) (hx : b ∉ ex) : ∃ sl, h1.get? b = some { ob with slots := sl } := by
  by_cases hb : b ∈ fs
  · exact u.slot b ob q n hb hx
  · exact ⟨ob.slots, u.keep b ob q n hb hx⟩
theorem Un.kept (k : ∀ b u, h.get? b = some u → h'.get? b = some u) : Un fs ex H H h h' :=
  ⟨fun b ob q _ _ _ => k b ob q, fun b ob q _ _ _ => ⟨ob.slots, k b ob q⟩, fun _ _ _ n _ => n, fun b ob q _ => ⟨ob, k b ob q⟩, fun _ _ q => q, fun _ _ _ q => q, fun _ ps q => ⟨#[], by rw [q]; simp⟩⟩
theorem Un.refl : Un fs ex H H h h := Un.kept fun _ _ q => q
theorem Un.laid (k : ∀ b u, h.get? b = some u → h'.get? b = some u) (hp : h.objs.size ≤ a) (hn : H a = none) : Un fs ex H (upd H a o) h h' where
  keep := fun b u q _ _ _ => k b u q
  slot := fun b u q _ _ _ => ⟨u.slots, k b u q⟩
  free := fun b u q n _ => by rw [upd_ne (Nat.ne_of_lt (Nat.lt_of_lt_of_le (Heap.lt_size q) hp))]; exact n
  there := fun b u q _ => ⟨u, k b u q⟩
  tups := fun b xs q => by rw [upd_ne (ne_of_none q hn)]; exact q
  frzs := fun b u xs q => by rw [upd_ne (ne_of_none q hn)]; exact q
  tbls := fun b ps q => ⟨#[], by rw [upd_ne (ne_of_none q hn), q]; simp⟩
theorem Un.write (mu : Mut (H x)) (he : e = x ∨ H e = some (.own x)) (k : ∀ b u, b ≠ e → h.get? b = some u → h'.get? b = some u) (heo : ∃ u, h'.get? e = some u) : Un fs ex H (upd H x o) h h' := by
  have hx : ∀ b, H b = none → b ≠ x := fun b n z => by subst z; rw [n] at mu; exact mu
  have hb : ∀ b, H b = none → b ≠ e := fun b n z => by
    subst z
    rcases he with r | r
    · exact hx b n r
    · rw [n] at r; cases r
  have hm : ∀ b u, H b = some u → ¬ Mut (some u) → b ≠ x := fun b u q nm z => by subst z; rw [q] at mu; exact nm mu
  refine ⟨fun b u q n _ _ => k b u (hb b n) q, fun b u q n _ _ => ⟨u.slots, k b u (hb b n) q⟩, fun b u q n _ => by rw [upd_ne (hx b n)]; exact n, fun b u q _ => ?_,
    fun b xs q => by rw [upd_ne (hm b _ q fun z => z)]; exact q, fun b u xs q => by rw [upd_ne (hm b _ q fun z => z)]; exact q, fun b ps q => ⟨#[], by rw [upd_ne (hm b _ q fun z => z), q]; simp⟩⟩
  by_cases hbe : b = e
  · subst hbe; exact heo
  · exact ⟨u, k b u hbe q⟩
end

/-! ### the heap without what is tracked -/
def trk (h : Heap) (H : Hp) : List Addr := (List.range h.objs.size).filter fun a => (H a).isSome
def hidT (h : Heap) (H : Hp) : Heap := PySem.W.hideAll h (trk h H)
theorem hidT_size (h : Heap) (H : Hp) : (hidT h H).objs.size = h.objs.size := PySem.W.hideAll_size _ _
theorem hidT_get {h : Heap} {H : Hp} {b : Addr} {o : Obj} (e : h.get? b = some o) (n : H b = none) : (hidT h H).get? b = some o :=
  PySem.W.hideAll_get _ e fun hm => by
    have q : (H b).isSome = true := (List.mem_filter.mp hm).2
    rw [n] at q; simp at q
theorem of_hidT {h : Heap} {H : Hp} {b : Addr} {o : Obj} (e : (hidT h H).get? b = some o) : h.get? b = some o ∧ H b = none := by
  have e' : h.get? b = some o := PySem.W.of_hideAll (trk h H) e
  refine ⟨e', ?_⟩
  cases q : H b with
  | none => rfl
  | some x =>
    have hm : b ∈ trk h H := List.mem_filter.mpr ⟨List.mem_range.mpr (Heap.lt_size e'), by simp [q]⟩
    have z : (hidT h H).get? b = none := PySem.W.hideAll_none (trk h H) hm
    rw [z] at e; cases e

/-! ### OpenK's ledger, filled with every new object but one -/
def allNews (g h : Heap) (L : Addr) : List (Addr × Obj) := (List.range h.objs.size).filterMap fun a => if a = L ∨ (g.get? a).isSome = true then none else (h.get? a).map fun o => (a, o)
def rest (g h : Heap) (L d : Addr) : List (Addr × Obj) := (allNews g h L).filter fun p => decide (p.1 ≠ d)
end L2

namespace L2
open PySem PySem.Spec PyProof.Rows

/-- the module's facts, over the base: the heap at the law's entry without what is tracked there -/
structure Mod (K : PySem.W.Frag) (mg : Str → Option Value) (base : Heap) : Prop where
  kin : K.In base
  glob : base.Ns mainGlobals mg
  blt : ∃ mb, base.Ns builtinsNs mb ∧ ∀ x : Str, x ≠ "__name__" → mb x = bootBuiltins x
  nolimit : base.NoLimit

/-- the context: a def's body (or a comprehension's block) running. base: fixed through the whole law; s₀, H₀: the entry; outer: the frames whose slots others may change (a def's callers); stack: all frames that run;
   ex: iterators that were made ahead of the entry and are walked here (a comprehension's); fn: the names whose cells were made at the entry (a def: all; a comprehension's block: its own); calm: not within an except suite; pn: pins that every state bears; xe: what is wanted of an exception that leaves the code -/
structure Cx where
  prog : Program
  w : World
  K : PySem.W.Frag
  mg : Str → Option Value
  base : Heap
  A : Around
  N : List Str
  s₀ : Shared
  H₀ : Hp
  env : Env
  outer : List Env
  stack : List Env
  ex : List Addr
  fn : Str → Bool
  calm : Bool
  pn : List (Addr × Obj)
  xe : Value → Shared → Prop
/-- the callers' frames -/
def frs (l : List Env) : List Addr := l.filterMap (·.frame)
abbrev Cx.fs (X : Cx) : List Addr := frs X.outer

def Vis (sc : Scope) (x : Str) : Prop := sc.names.lookup x = some .local ∨ sc.names.lookup x = some .cell ∨ sc.names.lookup x = some .free
def Loc (sc : Scope) (x : Str) : Prop := sc.names.lookup x = some .local ∨ sc.names.lookup x = some .cell
def Look (env : Env) (h : Heap) (m : Str → Option Value) (x : Str) (u : Value) : Prop :=
  (env.kindOf x = some .local ∧ m x = some u) ∨ ((env.kindOf x = some .cell ∨ env.kindOf x = some .free) ∧ ∃ c, env.cells.lookup x = some c ∧ h.IsCell c (some u))

structure Cx.Ok (X : Cx) : Prop where
  mod : Mod X.K X.mg X.base
  kind : X.env.scope.kind = .function
  glob : X.env.globals = mainGlobals
  blt : X.env.builtins = builtinsNs
  above : X.s₀.heap.objs.size ≤ X.env.locals
  inj : ∀ x y c, X.env.cells.lookup x = some c → X.env.cells.lookup y = some c → x = y
  has : ∀ x, (X.env.kindOf x = some .cell ∨ X.env.kindOf x = some .free) → ∃ c, X.env.cells.lookup x = some c
  cab : ∀ x c, X.fn x = true → X.env.cells.lookup x = some c → X.s₀.heap.objs.size ≤ c
  hd : X.calm = true → X.A.handled = none
  frames : X.A.frames = some X.stack
  stk : X.stack = X.outer ∨ (X.stack = X.env :: X.outer ∧ X.env.frame = some X.env.locals)
  exf : ∀ b ∈ X.ex, b ≠ X.env.locals ∧ ∀ x c, X.env.cells.lookup x = some c → c ≠ b
  bs : ∀ b o, X.base.get? b = some o → X.s₀.heap.get? b = some o ∧ X.H₀ b = none
  bsz : X.base.objs.size ≤ X.s₀.heap.objs.size
  noex : ∀ b o, X.base.get? b = some o → b ∉ X.ex
  exfs : ∀ b ∈ X.ex, b ∉ X.fs
  funs : X.s₀.heap.FunFrames X.base X.outer
  frf : ∀ b ∈ X.fs, X.H₀ b = none

structure Inv (X : Cx) (pins : List (Addr × Obj)) (σ : List (Option V)) (H : Hp) (s : Shared) : Prop where
  ok : X.Ok
  os : s.os = X.s₀.os
  bare : AllBare s.gens
  base : Un X.fs X.ex X.H₀ H X.s₀.heap s.heap
  loc : ∃ m, s.heap.Ns X.env.locals m ∧ ∀ (i : Nat) (x : Str) (v : V), X.N[i]? = some x → σ[i]? = some (some v) → Vis X.env.scope x → ∃ u, RelV v u ∧ Look X.env s.heap m x u
  cell : ∀ x c, X.env.cells.lookup x = some c → ∃ v, s.heap.IsCell c v
  free : H X.env.locals = none
  freeC : ∀ x c, X.env.cells.lookup x = some c → H c = none
  pin : ∀ p ∈ X.pn ++ pins, s.heap.get? p.1 = some p.2 ∧ H p.1 = none ∧ p.1 ≠ X.env.locals ∧ p.1 ∉ X.fs ∧ ∀ v, p.2.data ≠ .cell v
  hok : HOk X.prog X.w H s.heap
  len : σ.length = X.N.length

section
variable {X : Cx} {pins : List (Addr × Obj)} {σ : List (Option V)} {H H' : Hp} {s : Shared} {h' : Heap}

theorem Cx.Ok.nofr (ok : X.Ok) {b : Addr} {o : Obj} (e : X.base.get? b = some o) : b ∉ X.fs := fun hb => by
  have := (ok.funs.mem hb).1
  rw [e] at this; cases this
theorem Inv.bs (I : Inv X pins σ H s) : ∀ b o, X.base.get? b = some o → s.heap.get? b = some o ∧ H b = none := fun b o e =>
  ⟨I.base.keep b o (I.ok.bs b o e).1 (I.ok.bs b o e).2 (I.ok.nofr e) (I.ok.noex b o e), I.base.free b o (I.ok.bs b o e).1 (I.ok.bs b o e).2 (I.ok.noex b o e)⟩
theorem Inv.bk (I : Inv X pins σ H s) : ∀ b o, X.base.get? b = some o → s.heap.get? b = some o := fun b o e => (I.bs b o e).1
theorem Inv.mod (I : Inv X pins σ H s) : Mod X.K X.mg X.base := I.ok.mod
theorem Inv.kIn (I : Inv X pins σ H s) : X.K.In s.heap := I.ok.mod.kin.keeps I.bk
theorem Inv.lt (I : Inv X pins σ H s) : X.env.locals < s.heap.objs.size := let ⟨_, hn, _⟩ := I.loc; hn.lt
theorem Inv.sz (I : Inv X pins σ H s) : X.s₀.heap.objs.size ≤ s.heap.objs.size := Nat.le_trans I.ok.above (Nat.le_of_lt I.lt)
theorem Inv.nofs (I : Inv X pins σ H s) {a : Addr} (h : s.heap.objs.size ≤ a) : a ∉ X.fs := fun hb => by
  obtain ⟨_, o, ho, _⟩ := I.ok.funs.mem hb
  exact absurd (Nat.lt_of_lt_of_le (Heap.lt_size ho) (Nat.le_trans I.sz h)) (Nat.lt_irrefl _)
theorem Inv.cne (I : Inv X pins σ H s) : ∀ x c, X.env.cells.lookup x = some c → c ≠ X.env.locals := fun x c e z => by
  obtain ⟨v, o, ho, hd⟩ := I.cell x c e
  obtain ⟨m, ⟨o', es, ep, ho', hd', _⟩, _⟩ := I.loc
  rw [z, ho'] at ho; cases ho; rw [hd'] at hd; cases hd
theorem Inv.funs (I : Inv X pins σ H s) : s.heap.FunFrames X.base X.outer := by
  have all : ∀ (l : List Env), (∀ b ∈ frs l, b ∈ X.fs) → X.s₀.heap.FunFrames X.base l → s.heap.FunFrames X.base l := by
    intro l
    induction l with
    | nil => intro _ _; trivial
    | cons env r ih =>
      intro hs hl
      obtain ⟨hk, ⟨L, o, hf, hn, ho, hd⟩, hr⟩ := hl
      have hL : L ∈ X.fs := hs L (by unfold frs; rw [List.filterMap_cons, hf]; exact List.mem_cons_self)
      obtain ⟨sl, e⟩ := I.base.slot L o ho (I.ok.frf L hL) hL fun z => I.ok.exfs L z hL
      exact ⟨hk, ⟨L, _, hf, hn, e, hd⟩, ih (fun b hb => hs b (by unfold frs; rw [List.filterMap_cons, hf]; exact List.mem_cons_of_mem _ hb)) hr⟩
  exact all X.outer (fun _ hb => hb) I.ok.funs

/-- the frames that run, for a call -/
theorem Inv.stack (I : Inv X pins σ H s) : s.heap.FunFrames X.base X.stack := by
  rcases I.ok.stk with e | ⟨e, hf⟩
  · rw [e]; exact I.funs
  · rw [e]
    obtain ⟨m, hn, _⟩ := I.loc
    refine .cons (by rw [I.ok.kind]; decide) hf hn ?_ I.funs
    exact Heap.get?_none_of_le (Nat.le_trans I.ok.bsz I.ok.above)
theorem Inv.stkSub (I : Inv X pins σ H s) : ∀ b ∈ frs X.stack, b ∈ X.env.locals :: X.fs := fun b hb => by
  rcases I.ok.stk with e | ⟨e, hf⟩
  · rw [e] at hb; exact List.mem_cons_of_mem _ hb
  · rw [e] at hb
    unfold frs at hb
    rw [List.filterMap_cons, hf] at hb
    exact hb
theorem Inv.stkFree (I : Inv X pins σ H s) : ∀ b ∈ frs X.stack, H b = none := fun b hb => by
  rcases List.mem_cons.mp (I.stkSub b hb) with e | hb
  · rw [e]; exact I.free
  · obtain ⟨_, o, ho, _⟩ := I.ok.funs.mem hb
    exact I.base.free b o ho (I.ok.frf b hb) fun z => I.ok.exfs b z hb

/-- THE STEP: the untracked objects but the frame and the records at ch are kept (the callers' frames up to slots), the frame's map is kept, the new abstract heap is held -/
theorem Inv.step {g' : Array GenState} {t' : Nat} {d' : Drawn} {ch : List Addr} (I : Inv X pins σ H s)
    (hch : ∀ b ∈ ch, (b ∈ X.ex ∨ X.s₀.heap.objs.size ≤ b) ∧ b ≠ X.env.locals ∧ (∀ x c, X.env.cells.lookup x = some c → c ≠ b) ∧ ∀ p ∈ X.pn ++ pins, p.1 ≠ b)
    (keep : ∀ b o, b ≠ X.env.locals → b ∉ X.fs → b ∉ ch → s.heap.get? b = some o → H b = none → h'.get? b = some o)
    (slot : ∀ b o, b ≠ X.env.locals → b ∈ X.fs → b ∉ ch → s.heap.get? b = some o → H b = none → ∃ sl, h'.get? b = some { o with slots := sl }) (free : ∀ b o, b ∉ ch → s.heap.get? b = some o → H b = none → H' b = none)
    (there : ∀ b o, b ∉ ch → s.heap.get? b = some o → ∃ o', h'.get? b = some o')
    (tups : ∀ b xs, H b = some (.tup xs) → H' b = some (.tup xs)) (frzs : ∀ b o u, H b = some (.frz o u) → H' b = some (.frz o u)) (tbls : ∀ b ps, H b = some (.tbl ps) → ∃ more, H' b = some (.tbl (ps ++ more)))
    (ns : ∀ m, s.heap.Ns X.env.locals m → h'.Ns X.env.locals m) (hok : HOk X.prog X.w H' h') (hg : AllBare g') :
    Inv X pins σ H' { s with heap := h', gens := g', drawn := d', toks := t' } := by
  have neL : ∀ b o, X.s₀.heap.get? b = some o → b ≠ X.env.locals := fun b o e => Nat.ne_of_lt (Nat.lt_of_lt_of_le (Heap.lt_size e) I.ok.above)
  have neC : ∀ b o, X.s₀.heap.get? b = some o → b ∉ X.ex → b ∉ ch := fun b o e hx hb => by
    rcases (hch b hb).1 with z | z
    · exact hx z
    · exact absurd (Nat.lt_of_lt_of_le (Heap.lt_size e) z) (Nat.lt_irrefl _)
  have cellK : ∀ x c, X.env.cells.lookup x = some c → ∀ v, s.heap.IsCell c v → h'.IsCell c v := fun x c e v ⟨o, ho, hd⟩ => by
    have nch : c ∉ ch := fun z => (hch c z).2.2.1 x c e rfl
    by_cases hc : c ∈ X.fs
    · obtain ⟨sl, q⟩ := slot c o (I.cne x c e) hc nch ho (I.freeC x c e)
      exact ⟨_, q, hd⟩
    · exact ⟨o, keep c o (I.cne x c e) hc nch ho (I.freeC x c e), hd⟩
  refine ⟨I.ok, I.os, hg, ⟨fun b o e n hb hx => ?_, fun b o e n hb hx => ?_, fun b o e n hx => ?_, fun b o e hx => ?_, fun b xs e => tups b xs (I.base.tups b xs e), fun b o xs e => frzs b o xs (I.base.frzs b o xs e), fun b ps e => ?_⟩, ?_, fun x c e => ?_, ?_, fun x c e => ?_, fun p hp => ?_, hok, I.len⟩
  · exact keep b o (neL b o e) hb (neC b o e hx) (I.base.keep b o e n hb hx) (I.base.free b o e n hx)
  · obtain ⟨sl, e1⟩ := I.base.slot b o e n hb hx
    obtain ⟨sl', e2⟩ := slot b _ (neL b o e) hb (neC b o e hx) e1 (I.base.free b o e n hx)
    exact ⟨sl', e2⟩
  · obtain ⟨o', e1⟩ := I.base.there b o e hx
    exact free b o' (neC b o e hx) e1 (I.base.free b o e n hx)
  · obtain ⟨o', e1⟩ := I.base.there b o e hx
    exact there b o' (neC b o e hx) e1
  · obtain ⟨m1, e1⟩ := I.base.tbls b ps e
    obtain ⟨m2, e2⟩ := tbls b _ e1
    exact ⟨m1 ++ m2, by rw [e2, Array.append_assoc]⟩
  · obtain ⟨m, hn, hl⟩ := I.loc
    refine ⟨m, ns m hn, fun i x v e1 e2 e3 => ?_⟩
    obtain ⟨u, r, l⟩ := hl i x v e1 e2 e3
    refine ⟨u, r, ?_⟩
    rcases l with l | ⟨k, c, e, z⟩
    · exact .inl l
    · exact .inr ⟨k, c, e, cellK x c e _ z⟩
  · obtain ⟨v, z⟩ := I.cell x c e
    exact ⟨v, cellK x c e v z⟩
  · obtain ⟨m, ⟨o, _, _, ho, _⟩, _⟩ := I.loc
    exact free _ o (fun z => (hch _ z).2.1 rfl) ho I.free
  · obtain ⟨v, o, ho, hd⟩ := I.cell x c e
    exact free c o (fun z => (hch c z).2.2.1 x c e rfl) ho (I.freeC x c e)
  · obtain ⟨e, n, ne, nf, d⟩ := I.pin p hp
    have nch : p.1 ∉ ch := fun z => (hch p.1 z).2.2.2 p hp rfl
    exact ⟨keep p.1 p.2 ne nf nch e n, free p.1 p.2 nch e n, ne, nf, d⟩
/-- .. where the frame's own object is kept too -/
theorem Inv.un {t' : Nat} (I : Inv X pins σ H s) (u : Un X.fs [] H H' s.heap h') (hok : HOk X.prog X.w H' h') : Inv X pins σ H' { s with heap := h', toks := t' } := by
  obtain ⟨m, ⟨o, es, ep, ho, r⟩, _⟩ := id I.loc
  obtain ⟨sl, hL⟩ := u.any ho I.free (by simp)
  exact I.step (g' := s.gens) (d' := s.drawn) (ch := []) (fun _ z => nomatch z) (fun b o _ hb _ e n => u.keep b o e n hb (by simp)) (fun b o _ hb _ e n => u.slot b o e n hb (by simp)) (fun b o _ e n => u.free b o e n (by simp)) (fun b o _ e => u.there b o e (by simp)) u.tups u.frzs u.tbls (fun m' hm => by
    obtain ⟨o', es', ep', ho', r'⟩ := hm
    rw [ho] at ho'; cases ho'
    exact ⟨_, es', ep', hL, r'⟩) hok I.bare
/-- behind a call (or a comprehension's block): the slots of this frame may have changed too, the records at ch may have turned -/
theorem Inv.call {g' : Array GenState} {t' : Nat} {d' : Drawn} {ch : List Addr} (I : Inv X pins σ H s) (u : Un (frs X.stack) ch H H' s.heap h') (hok : HOk X.prog X.w H' h') (hg : AllBare g')
    (hch : ∀ b ∈ ch, (b ∈ X.ex ∨ X.s₀.heap.objs.size ≤ b) ∧ b ≠ X.env.locals ∧ (∀ x c, X.env.cells.lookup x = some c → c ≠ b) ∧ ∀ p ∈ X.pn ++ pins, p.1 ≠ b) :
    Inv X pins σ H' { s with heap := h', gens := g', drawn := d', toks := t' } := by
  obtain ⟨m, ⟨o, es, ep, ho, r⟩, _⟩ := id I.loc
  obtain ⟨sl, hL⟩ := u.any ho I.free fun z => (hch _ z).2.1 rfl
  exact I.step (ch := ch) hch (fun b o hL hb hc e n => u.keep b o e n (fun z => (List.mem_cons.mp (I.stkSub b z)).elim hL hb) hc) (fun b o _ _ hc e n => u.any e n hc) (fun b o hc e n => u.free b o e n hc) (fun b o hc e => u.there b o e hc) u.tups u.frzs u.tbls (fun m' hm => by
    obtain ⟨o', es', ep', ho', r'⟩ := hm
    rw [ho] at ho'; cases ho'
    exact ⟨_, es', ep', hL, r'⟩) hok hg
/-- an untracked record of ours (an iterator) has turned -/
theorem Inv.turned {t' : Nat} {it : Addr} (I : Inv X pins σ H s) (k : ∀ b o, b ≠ it → s.heap.get? b = some o → h'.get? b = some o) (hn : H it = none) (hL : it ≠ X.env.locals)
    (h1 : it ∈ X.ex ∨ X.s₀.heap.objs.size ≤ it) (h2 : ∀ x c, X.env.cells.lookup x = some c → c ≠ it) (h3 : ∀ p ∈ X.pn ++ pins, p.1 ≠ it) : Inv X pins σ H { s with heap := h', toks := t' } := by
  have nit : ∀ b u, H b = some u → b ≠ it := fun b u e z => by rw [z, hn] at e; cases e
  refine I.step (g' := s.gens) (d' := s.drawn) (ch := [it]) (fun b hb => ?_) (fun b o _ _ hc e _ => k b o (fun z => hc (by simp [z])) e) (fun b o _ _ hc e _ => ⟨o.slots, k b o (fun z => hc (by simp [z])) e⟩) (fun _ _ _ _ n => n)
    (fun b o hc e => ⟨o, k b o (fun z => hc (by simp [z])) e⟩) (fun _ _ e => e) (fun _ _ _ e => e) (fun b ps e => ⟨#[], by rw [e]; simp⟩) (fun m hm => ?_) (fun b u e => ?_) I.bare
  · have e : b = it := by simpa using hb
    subst e
    exact ⟨h1, hL, h2, h3⟩
  · obtain ⟨o, es, ep, ho, r⟩ := hm
    exact ⟨o, es, ep, k _ o (Ne.symm hL) ho, r⟩
  · refine (I.hok b u e).stay (fun c v hc q => k c v ?_ q) (fun _ q => q) fun _ _ q => q
    rcases hc with z | z
    · rw [z]; exact nit b u e
    · exact nit c _ z
theorem Inv.tok (I : Inv X pins σ H s) (t : Nat) : Inv X pins σ H { s with toks := t } := I.un (h' := s.heap) (t' := t) Un.refl I.hok
/-- all objects kept -/
theorem Inv.kept {t' : Nat} (I : Inv X pins σ H s) (k : ∀ b u, s.heap.get? b = some u → h'.get? b = some u) : Inv X pins σ H { s with heap := h', toks := t' } := I.un (Un.kept k) (I.hok.kept k)
/-- a new object laid and tracked -/
theorem Inv.laid {a : Addr} {o : HO} {t' : Nat} (I : Inv X pins σ H s) (k : ∀ b u, s.heap.get? b = some u → h'.get? b = some u) (hp : s.heap.objs.size ≤ a) (new : ObjOk X.prog X.w (upd H a o) h' a o) :
    Inv X pins σ (upd H a o) { s with heap := h', toks := t' } := I.un (Un.laid k hp (I.hok.fresh hp)) (I.hok.laid k hp new)
/-- an object written -/
theorem Inv.write {x e : Addr} {o : HO} {t' : Nat} (I : Inv X pins σ H s) (mu : Mut (H x)) (he : e = x ∨ H e = some (.own x)) (k : ∀ b u, b ≠ e → s.heap.get? b = some u → h'.get? b = some u) (heo : ∃ u, h'.get? e = some u)
    (new : ObjOk X.prog X.w (upd H x o) h' x o) : Inv X pins σ (upd H x o) { s with heap := h', toks := t' } := I.un (Un.write mu he k heo) (I.hok.write mu he k heo new)
theorem Inv.pins_of {pins' : List (Addr × Obj)} (I : Inv X pins σ H s) (h : ∀ p ∈ pins', s.heap.get? p.1 = some p.2 ∧ H p.1 = none ∧ p.1 ≠ X.env.locals ∧ p.1 ∉ X.fs ∧ ∀ v, p.2.data ≠ .cell v) : Inv X pins' σ H s :=
  ⟨I.ok, I.os, I.bare, I.base, I.loc, I.cell, I.free, I.freeC, fun p hp => (List.mem_append.mp hp).elim (fun z => I.pin p (List.mem_append_left _ z)) (h p), I.hok, I.len⟩

theorem nodup_ix {N : List Str} (hN : N.Nodup) {i j : Nat} {x : Str} (a : N[i]? = some x) (b : N[j]? = some x) : i = j := by
  obtain ⟨h1, e1⟩ := List.getElem?_eq_some_iff.mp a
  obtain ⟨h2, e2⟩ := List.getElem?_eq_some_iff.mp b
  exact (List.getElem_inj hN).mp (e1.trans e2.symm)

/-- a name is stored; what changed -/
theorem store_ok2 {M : Model} {A : Around} {E : Value → Shared → Prop} {i : Nat} {x : Str} {v : V} {u : Value} {Q : Unit → Shared → Prop} (I : Inv X pins σ H s) (hN : X.N.Nodup) (hi : X.N[i]? = some x) (hx : Loc X.env.scope x) (r : RelV v u)
    (h : ∀ s', Inv X pins (σ.set i (some v)) H s' → (∃ a, Heap.SameBut a s.heap s'.heap ∧ (a = X.env.locals ∨ X.env.cells.lookup x = some a)) → Q () s') (hf : X.fn x = true ∨ X.env.scope.names.lookup x = some .local := by first | exact .inl rfl | exact .inr rfl | assumption) : wpAny M A (storeName X.env x u) Q E s := by
  obtain ⟨m, hn, hl⟩ := id I.loc
  have hcls : (X.env.scope.kind == .class || (X.env.scope.kind == .module && X.env.locals != X.env.globals)) = false := by rw [I.ok.kind]; rfl
  have hiσ : i < σ.length := by rw [I.len]; exact (List.getElem?_eq_some_iff.mp hi).1
  have cne := I.cne
  have tracked : ∀ {a : Addr} {h' : Heap}, (∃ o, s.heap.get? a = some o ∧ H a = none) → Heap.SameBut a s.heap h' → HOk X.prog X.w H h' := fun {a h'} ha hs b ob e => by
    obtain ⟨_, _, hfree⟩ := ha
    refine (I.hok b ob e).stay (fun c w' hc q => (hs.2 c ?_).trans q) (fun _ q => q) fun _ _ q => q
    rintro rfl
    rcases hc with rfl | hc
    · rw [hfree] at e; cases e
    · rw [hfree] at hc; cases hc
  rcases hx with hk | hk
  · refine wpAny_storeName_local hk hn (fun h' hn' hs => ?_) hcls
    obtain ⟨oL, _, _, hoL, _⟩ := id hn
    refine h _ ⟨I.ok, I.os, I.bare, ⟨fun b o e n hb hx => ?_, fun b o e n hb hx => ?_, I.base.free, fun b o e hx => ?_, I.base.tups, I.base.frzs, I.base.tbls⟩, ⟨_, hn', fun j y v' e1 e2 e3 => ?_⟩, fun y c e => ?_, I.free, I.freeC, fun p hp => ?_, tracked ⟨oL, hoL, I.free⟩ hs, by simpa using I.len⟩ ⟨_, hs, .inl rfl⟩
    · exact (hs.2 b (Nat.ne_of_lt (Nat.lt_of_lt_of_le (Heap.lt_size e) I.ok.above))).trans (I.base.keep b o e n hb hx)
    · obtain ⟨sl, e1⟩ := I.base.slot b o e n hb hx
      exact ⟨sl, (hs.2 b (Nat.ne_of_lt (Nat.lt_of_lt_of_le (Heap.lt_size e) I.ok.above))).trans e1⟩
    · obtain ⟨o', e1⟩ := I.base.there b o e hx
      exact ⟨o', (hs.2 b (Nat.ne_of_lt (Nat.lt_of_lt_of_le (Heap.lt_size e) I.ok.above))).trans e1⟩
    · by_cases hj : j = i
      · subst hj
        rw [hi] at e1; cases e1
        rw [List.getElem?_set_self hiσ] at e2
        cases e2
        exact ⟨u, r, .inl ⟨hk, by simp⟩⟩
      · rw [List.getElem?_set_ne (Ne.symm hj)] at e2
        obtain ⟨u', r', q⟩ := hl j y v' e1 e2 e3
        refine ⟨u', r', ?_⟩
        rcases q with ⟨k, e⟩ | ⟨k, c, e, z⟩
        · refine .inl ⟨k, ?_⟩
          have : y ≠ x := fun e => hj (nodup_ix hN e1 (e ▸ hi))
          simp [this, e]
        · exact .inr ⟨k, c, e, z.sameBut hs (cne y c e)⟩
    · obtain ⟨w', z⟩ := I.cell y c e
      exact ⟨w', z.sameBut hs (cne y c e)⟩
    · obtain ⟨e, n, ne, nf, d⟩ := I.pin p hp
      exact ⟨(hs.2 p.1 ne).trans e, n, ne, nf, d⟩
  · have hfn : X.fn x = true := by
      rcases hf with z | z
      · exact z
      · rw [z] at hk; cases hk
    obtain ⟨c, hc⟩ := I.ok.has x (.inl hk)
    obtain ⟨w', z⟩ := I.cell x c hc
    refine wpAny_storeName_cell I.ok.kind hk hc z (fun h' hc' hs => ?_)
    obtain ⟨oc, hoc, hocd⟩ := id z
    refine h { s with heap := h' } ⟨I.ok, I.os, I.bare, ⟨fun b o e n hb hx => ?_, fun b o e n hb hx => ?_, I.base.free, fun b o e hx => ?_, I.base.tups, I.base.frzs, I.base.tbls⟩, ⟨m, hn.sameBut hs (Ne.symm (cne x c hc)), fun j y v' e1 e2 e3 => ?_⟩, fun y c' e => ?_, I.free, I.freeC, fun p hp => ?_, tracked ⟨oc, hoc, I.freeC x c hc⟩ hs, by simpa using I.len⟩ ⟨c, hs, .inr hc⟩
    · exact (hs.2 b (Nat.ne_of_lt (Nat.lt_of_lt_of_le (Heap.lt_size e) (I.ok.cab x c hfn hc)))).trans (I.base.keep b o e n hb hx)
    · obtain ⟨sl, e1⟩ := I.base.slot b o e n hb hx
      exact ⟨sl, (hs.2 b (Nat.ne_of_lt (Nat.lt_of_lt_of_le (Heap.lt_size e) (I.ok.cab x c hfn hc)))).trans e1⟩
    · obtain ⟨o', e1⟩ := I.base.there b o e hx
      exact ⟨o', (hs.2 b (Nat.ne_of_lt (Nat.lt_of_lt_of_le (Heap.lt_size e) (I.ok.cab x c hfn hc)))).trans e1⟩
    · by_cases hj : j = i
      · subst hj
        rw [hi] at e1; cases e1
        rw [List.getElem?_set_self hiσ] at e2
        cases e2
        exact ⟨u, r, .inr ⟨.inl hk, c, hc, hc'⟩⟩
      · rw [List.getElem?_set_ne (Ne.symm hj)] at e2
        obtain ⟨u', r', q⟩ := hl j y v' e1 e2 e3
        refine ⟨u', r', ?_⟩
        rcases q with q | ⟨k, c', e, z'⟩
        · exact .inl q
        · refine .inr ⟨k, c', e, z'.sameBut hs ?_⟩
          rintro rfl
          exact hj (nodup_ix hN e1 (I.ok.inj _ _ _ e hc ▸ hi))
    · by_cases hcc : c' = c
      · subst hcc; exact ⟨_, hc'⟩
      · obtain ⟨w2, z2⟩ := I.cell y c' e
        exact ⟨w2, z2.sameBut hs hcc⟩
    · obtain ⟨e, n, ne, nf, d⟩ := I.pin p hp
      refine ⟨(hs.2 p.1 ?_).trans e, n, ne, nf, d⟩
      intro q
      rw [q, hoc] at e
      have q' : oc = p.2 := Option.some.inj e
      exact d w' (by rw [← q']; exact hocd)
theorem store_ok {M : Model} {A : Around} {E : Value → Shared → Prop} {i : Nat} {x : Str} {v : V} {u : Value} {Q : Unit → Shared → Prop} (I : Inv X pins σ H s) (hN : X.N.Nodup) (hi : X.N[i]? = some x) (hx : Loc X.env.scope x) (r : RelV v u)
    (h : ∀ s', Inv X pins (σ.set i (some v)) H s' → Q () s') (hf : X.fn x = true ∨ X.env.scope.names.lookup x = some .local := by first | exact .inl rfl | exact .inr rfl | assumption) : wpAny M A (storeName X.env x u) Q E s :=
  store_ok2 I hN hi hx r (fun s' I' _ => h s' I') hf
/-- behind a call or a block, the state as it is -/
theorem Inv.call' {s' : Shared} {ch : List Addr} (I : Inv X pins σ H s) (ho : s'.os = s.os) (u : Un (frs X.stack) ch H H' s.heap s'.heap) (hok : HOk X.prog X.w H' s'.heap) (hg : AllBare s'.gens)
    (hch : ∀ b ∈ ch, (b ∈ X.ex ∨ X.s₀.heap.objs.size ≤ b) ∧ b ≠ X.env.locals ∧ (∀ x c, X.env.cells.lookup x = some c → c ≠ b) ∧ ∀ p ∈ X.pn ++ pins, p.1 ≠ b) : Inv X pins σ H' s' := by
  obtain ⟨h', g', d', t', o'⟩ := s'
  have e : o' = s.os := ho
  subst e
  exact I.call (g' := g') (t' := t') (d' := d') u hok hg hch
end

/-! ### the judgements -/
/-- an exception: its class, its own dict's address (where it has one), the abstract heap behind it -/
abbrev XK := Value → Option Addr → Hp → Prop
abbrev St := List (Option V)
abbrev VK := V → Hp → Prop
/-- an expression's reading; a test's; an argument list's -/
abbrev TE := St → Hp → VK → Prop
abbrev TT := St → Hp → (Bool → Hp → Prop) → Prop
abbrev TA := St → Hp → (List V → Hp → Prop) → Prop
/-- what is wanted behind a statement -/
structure Ends where
  nx : St → Hp → Prop
  rt : VK
  bk : St → Hp → Prop := fun _ _ => False
  ct : St → Hp → Prop := fun _ _ => False
abbrev TS := Ends → St → Hp → Prop

def EP (X : Cx) (pins : List (Addr × Obj)) (σ : St) (Q : VK) (u : Value) (s' : Shared) : Prop := ∃ v H', Inv X pins σ H' s' ∧ RelV v u ∧ Q v H'
def TP (X : Cx) (pins : List (Addr × Obj)) (σ : St) (Q : Bool → Hp → Prop) (b : Bool) (s' : Shared) : Prop := ∃ H', Inv X pins σ H' s' ∧ Q b H'
def AP (X : Cx) (pins : List (Addr × Obj)) (σ : St) (Q : List V → Hp → Prop) (us : List Value) (s' : Shared) : Prop := ∃ vs H', Inv X pins σ H' s' ∧ Vals vs us ∧ Q vs H'
def SP (X : Cx) (pins : List (Addr × Obj)) (D : Ends) (f : Flow) (s' : Shared) : Prop :=
  match f with
  | .next => ∃ σ' H', Inv X pins σ' H' s' ∧ D.nx σ' H'
  | .brk => ∃ σ' H', Inv X pins σ' H' s' ∧ D.bk σ' H'
  | .cont => ∃ σ' H', Inv X pins σ' H' s' ∧ D.ct σ' H'
  | .ret u => ∃ v σ' H', Inv X pins σ' H' s' ∧ RelV v u ∧ D.rt v H'

def PE (X : Cx) (e : Expr) (t : TE) : Prop :=
  ∀ (pins : List (Addr × Obj)) (s : Shared) (σ : St) (H : Hp) (Q : VK), Inv X pins σ H s → t σ H Q → wpAny (model X.prog X.w) X.A (eval e X.env) (EP X pins σ Q) X.xe s
def PT (X : Cx) (e : Expr) (t : TT) : Prop :=
  ∀ (pins : List (Addr × Obj)) (s : Shared) (σ : St) (H : Hp) (Q : Bool → Hp → Prop), Inv X pins σ H s → t σ H Q → wpAny (model X.prog X.w) X.A (isTrue e X.env (eval e X.env)) (TP X pins σ Q) X.xe s
/-- a test whatever its 'whole' is (and, or) -/
def PW (X : Cx) (e : Expr) (t : TT) : Prop :=
  ∀ (whole : Sem Value) (pins : List (Addr × Obj)) (s : Shared) (σ : St) (H : Hp) (Q : Bool → Hp → Prop), Inv X pins σ H s → t σ H Q → wpAny (model X.prog X.w) X.A (isTrue e X.env whole) (TP X pins σ Q) X.xe s
theorem PW.pt {X : Cx} {e : Expr} {t : TT} (h : PW X e t) : PT X e t := h _
/-- an argument list (no star), from the left -/
def PA (X : Cx) (es : List Expr) (t : TA) : Prop :=
  ∀ (pos : Pos) (pins : List (Addr × Obj)) (s : Shared) (σ : St) (H : Hp) (Q : List V → Hp → Prop), Inv X pins σ H s → t σ H Q → wpAny (model X.prog X.w) X.A (spliced (backTo pos (starEach es X.env))) (AP X pins σ Q) X.xe s
def PS (X : Cx) (st : Stmt) (t : TS) : Prop :=
  ∀ (pins : List (Addr × Obj)) (s : Shared) (σ : St) (H : Hp) (D : Ends), Inv X pins σ H s → t D σ H → wpAny (model X.prog X.w) X.A (exec st X.env) (SP X pins D) X.xe s
def PSs (X : Cx) (st : List Stmt) (t : TS) : Prop :=
  ∀ (pins : List (Addr × Obj)) (s : Shared) (σ : St) (H : Hp) (D : Ends), Inv X pins σ H s → t D σ H → wpAny (model X.prog X.w) X.A (execs st X.env) (SP X pins D) X.xe s
/-- weaken the end -/
theorem thn {α : Type} {t : Sem α} {Q Q' : α → Shared → Prop} {M : Model} {A : Around} {E : Value → Shared → Prop} {s : Shared} (h : wpAny M A t Q E s) (hQ : ∀ a s, Q a s → Q' a s) : wpAny M A t Q' E s := wpAny_mono h hQ fun _ _ x => x
end L2

namespace L2
open PySem PySem.Spec PyProof.Rows
section
variable {X : Cx}


/-! ### names and constants -/
def tVar (i : Nat) : TE := fun σ H Q => ∃ v, σ[i]? = some (some v) ∧ Q v H
def tC (v : V) : TE := fun _ H Q => Q v H
theorem pe_var {i : Nat} {x : Str} {pos : Pos} (hN : X.N[i]? = some x) (hv : Vis X.env.scope x) (hd : (x == ("__debug__" : Str)) = false := by decide) (hcd : (x == ("__classdict__" : Str)) = false := by decide) : PE X (.Name x pos) (tVar i) := by
  intro pins s σ H Q I h
  obtain ⟨v, e, h⟩ := h
  obtain ⟨m, hn, hl⟩ := I.loc
  obtain ⟨u, r, l⟩ := hl i x v hN e hv
  have fin : EP X pins σ Q u s := ⟨v, H, I, r, h⟩
  rcases l with ⟨hk, hm⟩ | ⟨hk, c, hc, hcell⟩
  · exact wpAny_Name (wpAny_loadName_local I.ok.kind hk hn hm fin) hd
  · rcases hk with hk | hk
    · exact wpAny_Name (wpAny_loadName_cell I.ok.kind hk hc hcell fin) hd
    · exact wpAny_Name (wpAny_loadName_free I.ok.kind hk hc hcell fin hcd) hd
theorem pe_int {i j pos} : PE X (.Constant (.int i) j pos) (tC (.int i)) := fun _ _ _ H _ I h => wpAny_Constant_int ⟨.int i, H, I.tok _, ⟨_, rfl⟩, h⟩
theorem pe_bl {b j pos} : PE X (.Constant (.bool b) j pos) (tC (.bl b)) := fun _ _ _ H _ I h => Constant_bool ⟨.bl b, H, I, rfl, h⟩
theorem pe_non {j pos} : PE X (.Constant .none j pos) (tC .non) := fun _ _ _ H _ I h => Constant_none ⟨.non, H, I, rfl, h⟩

/-- a global name of the def -/
def Gl (X : Cx) (x : Str) : Prop := X.env.kindOf x = some .globalImplicit
theorem ld_glob {E : Value → Shared → Prop} {pins : List (Addr × Obj)} {s : Shared} {σ : St} {H : Hp} {x : Str} {u : Value} {pos : Pos} {Q : Value → Shared → Prop} (I : Inv X pins σ H s) (hg : Gl X x) (hm : X.mg x = some u) (h : Q u s)
    (hd : (x == ("__debug__" : Str)) = false := by decide) : wpAny (model X.prog X.w) X.A (eval (.Name x pos) X.env) Q E s :=
  Calls.Name_function_global I.ok.kind hg (Calls.loadGlobal_global (by rw [I.ok.glob]; exact I.mod.glob.keeps I.bk) hm h) hd
theorem ld_blt {E : Value → Shared → Prop} {pins : List (Addr × Obj)} {s : Shared} {σ : St} {H : Hp} {x : Str} {u : Value} {pos : Pos} {Q : Value → Shared → Prop} (I : Inv X pins σ H s) (hg : Gl X x) (hm : X.mg x = none) (hv : bootBuiltins x = some u) (h : Q u s)
    (hn : x ≠ "__name__" := by decide) (hd : (x == ("__debug__" : Str)) = false := by decide) : wpAny (model X.prog X.w) X.A (eval (.Name x pos) X.env) Q E s := by
  obtain ⟨mb, h1, h2⟩ := I.mod.blt
  exact Calls.Name_function_global I.ok.kind hg (Calls.loadGlobal_builtin (by rw [I.ok.glob]; exact I.mod.glob.keeps I.bk) hm (by rw [I.ok.blt]; exact h1.keeps I.bk) ((h2 x hn).trans hv) h) hd
/-- a module's constant, a class, a function, as a value -/
theorem pe_glob {x : Str} {v : V} {u : Value} {pos : Pos} (hg : Gl X x) (hm : X.mg x = some u) (r : RelV v u) (hd : (x == ("__debug__" : Str)) = false := by decide) : PE X (.Name x pos) (tC v) :=
  fun _ _ _ H _ I h => ld_glob I hg hm ⟨v, H, I, r, h⟩ hd
theorem pe_bltn {x : Str} {v : V} {u : Value} {pos : Pos} (hg : Gl X x) (hm : X.mg x = none) (hv : bootBuiltins x = some u) (r : RelV v u) (hn : x ≠ "__name__" := by decide) (hd : (x == ("__debug__" : Str)) = false := by decide) : PE X (.Name x pos) (tC v) :=
  fun _ _ _ H _ I h => ld_blt I hg hm hv ⟨v, H, I, r, h⟩ hn hd

/-! ### arithmetic -/
/-- two ints -/
def t2I (ta tb : TE) (k : Int → Int → Hp → Prop) : St → Hp → Prop := fun σ H => ta σ H fun x H1 => tb σ H1 fun y H2 => ∃ i j, x = .int i ∧ y = .int j ∧ k i j H2
def tAdd (ta tb : TE) : TE := fun σ H Q => t2I ta tb (fun i j H2 => Q (.int (i + j)) H2) σ H
def tSub (ta tb : TE) : TE := fun σ H Q => t2I ta tb (fun i j H2 => Q (.int (i - j)) H2) σ H
/-- the left factor below 2^64 -/
def tMul (ta tb : TE) : TE := fun σ H Q => t2I ta tb (fun i j H2 => (-(2 ^ 64) < i ∧ i < 2 ^ 64) ∧ Q (.int (i * j)) H2) σ H
variable {a b : Expr} {ta tb : TE} {pos : Pos}

/-! ### comparisons -/
def PC (X : Cx) (op : CmpOp) (a b : Expr) (t : TE) : Prop :=
  ∀ (pins : List (Addr × Obj)) (s : Shared) (σ : St) (H : Hp) (Q : VK), Inv X pins σ H s → t σ H Q →
    wpAny (model X.prog X.w) X.A (eval a X.env) (fun v s₁ => wpAny (model X.prog X.w) X.A (eval b X.env) (fun u s₂ => wpAny (model X.prog X.w) X.A (compareOp op v u) (EP X pins σ Q) X.xe s₂) X.xe s₁) X.xe s
def tCmp (p : Int → Int → Bool) (ta tb : TE) : TE := fun σ H Q => t2I ta tb (fun i j H2 => Q (.bl (p i j)) H2) σ H
abbrev tLt : TE → TE → TE := tCmp fun i j => decide (i < j)
abbrev tLe : TE → TE → TE := tCmp fun i j => decide (i ≤ j)
abbrev tGt : TE → TE → TE := tCmp fun i j => decide (j < i)
abbrev tGe : TE → TE → TE := tCmp fun i j => decide (j ≤ i)
abbrev tEqI : TE → TE → TE := tCmp fun i j => decide (i = j)
abbrev tNeI : TE → TE → TE := tCmp fun i j => !decide (i = j)
/-- is None -/
def tIsN (ta : TE) : TE := fun σ H Q => ta σ H fun x H1 => Q (.bl (decide (x = .non))) H1
def tNotN (ta : TE) : TE := fun σ H Q => ta σ H fun x H1 => Q (.bl (!decide (x = .non))) H1
/-- a comparison as a value, as a test -/
def tB (t : TE) : TT := fun σ H Q => t σ H fun x H1 => ∃ c, x = .bl c ∧ Q c H1
/-- an expression whose value is a bool, as a test -/
theorem pt_val {e : Expr} {t : TE} (h : PE X e t) (he : ∀ whole, isTrue e X.env whole = (do let v ← whole; standAt e.pos; holding [v] (truthy v)) := by intro _; rfl) : PT X e (tB t) := by
  intro pins s σ H Q I hw
  refine isTrue_plain (thn (h pins s σ H _ I hw) fun v s1 ⟨x, H1, I1, r1, q1⟩ => ?_) (he _)
  obtain ⟨d, rfl, q⟩ := q1
  cases r1
  exact wpAny_truthy_bool ⟨H1, I1, q⟩

/-! ### and, or, not -/
variable {tA tB' : TT} {rest : List Expr}
def tAnd (t u : TT) : TT := fun σ H Q => t σ H fun c H1 => if c = true then u σ H1 Q else Q false H1
def tOr (t u : TT) : TT := fun σ H Q => t σ H fun c H1 => if c = true then Q true H1 else u σ H1 Q
def tNot (t : TT) : TT := fun σ H Q => t σ H fun c H1 => Q (!c) H1
theorem pw_and1 (ha : PT X a tA) : PW X (.BoolOp .And [a] pos) tA := by
  intro wh pins s σ H Q I h
  refine isTrue_and (thn (ha pins s σ H Q I h) fun c s1 e => ?_)
  cases c with
  | true => exact isTrue_and_nil e
  | false => exact e
theorem pw_or1 (ha : PT X a tA) : PW X (.BoolOp .Or [a] pos) tA := by
  intro wh pins s σ H Q I h
  refine isTrue_or (thn (ha pins s σ H Q I h) fun c s1 e => ?_)
  cases c with
  | false => exact isTrue_or_nil e
  | true => exact e
theorem pw_and (ha : PT X a tA) (hb : PW X (.BoolOp .And (b :: rest) pos) tB') : PW X (.BoolOp .And (a :: b :: rest) pos) (tAnd tA tB') := by
  intro wh pins s σ H Q I h
  refine isTrue_and (thn (ha pins s σ H _ I h) fun c s1 ⟨H1, I1, q1⟩ => ?_)
  cases c with
  | true => exact hb wh pins s1 σ H1 Q I1 q1
  | false => exact ⟨H1, I1, q1⟩
theorem pw_or (ha : PT X a tA) (hb : PW X (.BoolOp .Or (b :: rest) pos) tB') : PW X (.BoolOp .Or (a :: b :: rest) pos) (tOr tA tB') := by
  intro wh pins s σ H Q I h
  refine isTrue_or (thn (ha pins s σ H _ I h) fun c s1 ⟨H1, I1, q1⟩ => ?_)
  cases c with
  | true => exact ⟨H1, I1, q1⟩
  | false => exact hb wh pins s1 σ H1 Q I1 q1
theorem pt_not (ha : PT X a tA) : PT X (.UnaryOp .Not a pos) (tNot tA) := by
  intro pins s σ H Q I h
  exact isTrue_not (ha pins s σ H (fun c H1 => Q (!c) H1) I h)
/-- .. as values (bools) -/
def tAndV (ta tb : TE) : TE := fun σ H Q => ta σ H fun x H1 => ∃ c, x = .bl c ∧ if c = true then tb σ H1 Q else Q (.bl false) H1
def tOrV (ta tb : TE) : TE := fun σ H Q => ta σ H fun x H1 => ∃ c, x = .bl c ∧ if c = true then Q (.bl true) H1 else tb σ H1 Q
def tNotV (ta : TE) : TE := fun σ H Q => ta σ H fun x H1 => ∃ c, x = .bl c ∧ Q (.bl (!c)) H1
theorem pe_one {op} {t : TE} (h : PE X a t) : PE X (.BoolOp op [a] pos) t := fun pins s σ H Q I hw => BoolOp_one (h pins s σ H Q I hw)
theorem pe_and (ha : PE X a ta) (hb : PE X (.BoolOp .And (b :: rest) pos) tb) : PE X (.BoolOp .And (a :: b :: rest) pos) (tAndV ta tb) := by
  intro pins s σ H Q I h
  refine BoolOp_and (thn (ha pins s σ H _ I h) fun v s1 ⟨x, H1, I1, r1, q1⟩ => ?_)
  obtain ⟨c, rfl, q1⟩ := q1
  cases r1
  refine wpAny_truthy_bool ?_
  cases c with
  | true => exact hb pins s1 σ H1 Q I1 q1
  | false => exact ⟨.bl false, H1, I1, rfl, q1⟩
theorem pe_or (ha : PE X a ta) (hb : PE X (.BoolOp .Or (b :: rest) pos) tb) : PE X (.BoolOp .Or (a :: b :: rest) pos) (tOrV ta tb) := by
  intro pins s σ H Q I h
  refine BoolOp_or (thn (ha pins s σ H _ I h) fun v s1 ⟨x, H1, I1, r1, q1⟩ => ?_)
  obtain ⟨c, rfl, q1⟩ := q1
  cases r1
  refine wpAny_truthy_bool ?_
  cases c with
  | false => exact hb pins s1 σ H1 Q I1 q1
  | true => exact ⟨.bl true, H1, I1, rfl, q1⟩
theorem pe_not (ha : PE X a ta) : PE X (.UnaryOp .Not a pos) (tNotV ta) := by
  intro pins s σ H Q I h
  refine UnaryOp_ (thn (ha pins s σ H _ I h) fun v s1 ⟨x, H1, I1, r1, q1⟩ => ?_)
  obtain ⟨c, rfl, q1⟩ := q1
  cases r1
  exact not_of (wpAny_truthy_bool ⟨.bl (!c), H1, I1, rfl, q1⟩)
/-- a if t else b -/
def tIf (t : TT) (ta tb : TE) : TE := fun σ H Q => t σ H fun c H1 => if c = true then ta σ H1 Q else tb σ H1 Q
theorem pe_ifExp {c : Expr} (hc : PT X c tA) (ha : PE X a ta) (hb : PE X b tb) : PE X (.IfExp c a b pos) (tIf tA ta tb) := by
  intro pins s σ H Q I h
  refine wpAny_IfExp (thn (hc pins s σ H _ I h) fun d s1 ⟨H1, I1, q1⟩ => ?_)
  cases d with
  | true => exact ha pins s1 σ H1 Q I1 q1
  | false => exact hb pins s1 σ H1 Q I1 q1
end
end L2

namespace L2
open PySem PySem.Spec PyProof.Rows

/-! ### a list, a tuple that is read: tracked, frozen, or an object of the module -/
def SqL (K : PySem.W.Frag) (H : Hp) (a : Addr) (xs : List V) : Prop :=
  Rd H a (.lst xs) ∨
    ∃ (o : Obj) (its : Array Value) (n : Nat), K.lookup a = some o ∧ o.cls = .type "list" ∧ o.dict = none ∧ o.data = .seq its n ∧ its.size ≤ sizeLine ∧ Vals xs its.toList
def SqT (K : PySem.W.Frag) (H : Hp) (a : Addr) (xs : List V) : Prop :=
  Rd H a (.tup xs) ∨
    ∃ (o : Obj) (its : Array Value) (n : Nat), K.lookup a = some o ∧ o.cls = .type "tuple" ∧ o.data = .seq its n ∧ its.size ≤ sizeLine ∧ Vals xs its.toList
def absV : Value → Option V
  | .none => some .non
  | .bool b => some (.bl b)
  | .int i _ => some (.int i)
  | .str x _ => some (.str x)
  | .bytes b _ => some (.byt b)
  | .float b _ => some (.flt b)
  | .ref a => some (.ref a)
  | .type n => some (.ty n)
  | _ => none
theorem RelV.abs {x : V} {u : Value} (r : RelV x u) : absV u = some x := by
  cases x with
  | non => cases r; rfl
  | bl _ => cases r; rfl
  | int _ => obtain ⟨t, rfl⟩ := r; rfl
  | str _ => obtain ⟨t, rfl⟩ := r; rfl
  | byt _ => obtain ⟨t, rfl⟩ := r; rfl
  | flt _ => obtain ⟨t, rfl⟩ := r; rfl
  | ref _ => cases r; rfl
  | ty _ => cases r; rfl
theorem RelV.inj {x y : V} {u : Value} (r : RelV x u) (q : RelV y u) : x = y := Option.some.inj (r.abs.symm.trans q.abs)
theorem Vals.inj : ∀ {xs ys : List V} {us : List Value}, Vals xs us → Vals ys us → xs = ys
  | _, _, _, .nil, .nil => rfl
  | _, _, _, .cons r t, .cons r' t' => by rw [r.inj r', Vals.inj t t']
section
variable {X : Cx} {pins : List (Addr × Obj)} {σ : St} {H : Hp} {s : Shared} {a : Addr} {xs ys : List V}
theorem SqL.of {K : PySem.W.Frag} (h : H a = some (.lst xs)) : SqL K H a xs := .inl (.inl h)
theorem SqT.of {K : PySem.W.Frag} (h : H a = some (.tup xs)) : SqT K H a xs := .inl (.inl h)
theorem Inv.list (I : Inv X pins σ H s) (h : SqL X.K H a xs) : ∃ its : List Value, Vals xs its ∧ PlainL s.heap a its.toArray ∧ xs.length ≤ sizeLine := by
  rcases h with h | ⟨o, its, n, hk, hc, hd, hs, hz, r⟩
  · obtain ⟨z, its, n, r, e⟩ := h.ok I.hok
    exact ⟨its, r, ⟨_, n, e, rfl, rfl, rfl⟩, z⟩
  · refine ⟨its.toList, r, ⟨o, n, I.kIn a o hk, hc, hd, by simpa using hs⟩, ?_⟩
    have e := r.length
    simp only [Array.length_toList] at e
    omega
theorem Inv.tuple (I : Inv X pins σ H s) (h : SqT X.K H a xs) : ∃ its : List Value, Vals xs its ∧ IsTup s.heap a its.toArray ∧ xs.length ≤ sizeLine := by
  rcases h with h | ⟨o, its, n, hk, hc, hs, hz, r⟩
  · obtain ⟨z, its, r, p⟩ := h.ok I.hok
    exact ⟨its, r, p, z⟩
  · refine ⟨its.toList, r, ⟨o, I.kIn a o hk, hc, n, by simpa using hs⟩, ?_⟩
    have e := r.length
    simp only [Array.length_toList] at e
    omega
theorem Inv.list_inj (I : Inv X pins σ H s) (h : SqL X.K H a xs) (h' : SqL X.K H a ys) : xs = ys := by
  obtain ⟨its, r, ⟨o, n, e, _, _, d⟩, _⟩ := I.list h
  obtain ⟨its', r', ⟨o', n', e', _, _, d'⟩, _⟩ := I.list h'
  rw [e] at e'; cases e'
  rw [d] at d'
  injection d' with d1 _
  have : its = its' := by simpa using congrArg Array.toList d1
  subst this
  exact r.inj r'
theorem Inv.tuple_inj (I : Inv X pins σ H s) (h : SqT X.K H a xs) (h' : SqT X.K H a ys) : xs = ys := by
  obtain ⟨its, r, ⟨o, e, _, n, d⟩, _⟩ := I.tuple h
  obtain ⟨its', r', ⟨o', e', _, n', d'⟩, _⟩ := I.tuple h'
  rw [e] at e'; cases e'
  rw [d] at d'
  injection d' with d1 _
  have : its = its' := by simpa using congrArg Array.toList d1
  subst this
  exact r.inj r'
end

/-! ### another wish about exceptions -/
abbrev Cx.wish (X : Cx) (E : Value → Shared → Prop) : Cx := { X with xe := E }
/-- no exception leaves -/
abbrev Cx.nox (X : Cx) : Cx := X.wish fun _ _ => False
theorem Cx.Ok.wish {X : Cx} (ok : X.Ok) (E : Value → Shared → Prop) : (X.wish E).Ok :=
  ⟨ok.mod, ok.kind, ok.glob, ok.blt, ok.above, ok.inj, ok.has, ok.cab, ok.hd, ok.frames, ok.stk, ok.exf, ok.bs, ok.bsz, ok.noex, ok.exfs, ok.funs, ok.frf⟩
theorem Cx.Ok.unwish {X : Cx} {E : Value → Shared → Prop} (ok : (X.wish E).Ok) : X.Ok :=
  ⟨ok.mod, ok.kind, ok.glob, ok.blt, ok.above, ok.inj, ok.has, ok.cab, ok.hd, ok.frames, ok.stk, ok.exf, ok.bs, ok.bsz, ok.noex, ok.exfs, ok.funs, ok.frf⟩
section
variable {X : Cx} {pins : List (Addr × Obj)} {σ : St} {H : Hp} {s : Shared} {E : Value → Shared → Prop}
theorem Inv.wish (I : Inv X pins σ H s) (E : Value → Shared → Prop) : Inv (X.wish E) pins σ H s := ⟨I.ok.wish E, I.os, I.bare, I.base, I.loc, I.cell, I.free, I.freeC, I.pin, I.hok, I.len⟩
theorem Inv.unwish (I : Inv (X.wish E) pins σ H s) : Inv X pins σ H s := ⟨I.ok.unwish, I.os, I.bare, I.base, I.loc, I.cell, I.free, I.freeC, I.pin, I.hok, I.len⟩
theorem SP.unwish {D : Ends} {f : Flow} {s' : Shared} (h : SP (X.wish E) pins D f s') : SP X pins D f s' := by
  cases f with
  | next => obtain ⟨σ', H', I, q⟩ := h; exact ⟨σ', H', I.unwish, q⟩
  | brk => obtain ⟨σ', H', I, q⟩ := h; exact ⟨σ', H', I.unwish, q⟩
  | cont => obtain ⟨σ', H', I, q⟩ := h; exact ⟨σ', H', I.unwish, q⟩
  | ret u => obtain ⟨v, σ', H', I, r, q⟩ := h; exact ⟨v, σ', H', I.unwish, r, q⟩
theorem PSs.nox {st : List Stmt} {t : TS} (h : PSs X.nox st t) : PSs X st t := fun pins s σ H D I hw =>
  wpAny_mono (h pins s σ H D (I.wish _) hw) (fun _ _ q => q.unwish) fun _ _ z => False.elim z
end

/-! ### blocks and small statements -/
section
variable {X : Cx} {st : Stmt} {rest : List Stmt} {t u : TS} {e : Expr} {te : TE} {pos : Pos}
def tNext : TS := fun D σ H => D.nx σ H
def tSeq (t u : TS) : TS := fun D σ H => t { D with nx := u D } σ H
theorem pss_nil : PSs X [] tNext := fun _ _ σ H _ I h => wpAny_execs_nil ⟨σ, H, I, h⟩
theorem pss_cons (h1 : PS X st t) (h2 : PSs X rest u) : PSs X (st :: rest) (tSeq t u) := by
  intro pins s σ H D I h
  refine wpAny_execs_cons (thn (h1 pins s σ H { D with nx := u D } I h) fun f s1 q => ?_)
  cases f with
  | next =>
    obtain ⟨σ', H', I', q⟩ := q
    exact h2 pins s1 σ' H' D I' q
  | ret v => exact q
  | brk => exact q
  | cont => exact q
theorem pss_one (h1 : PS X st t) : PSs X [st] t := by
  intro pins s σ H D I h
  refine wpAny_execs_cons (thn (h1 pins s σ H D I h) fun f s1 q => ?_)
  cases f with
  | next => exact wpAny_execs_nil q
  | ret v => exact q
  | brk => exact q
  | cont => exact q
def tBreak : TS := fun D σ H => D.bk σ H
def tCont : TS := fun D σ H => D.ct σ H
/-- in a def's body nothing is shown -/
theorem Inv.quiet {pins : List (Addr × Obj)} {σ : St} {H : Hp} {s : Shared} (I : Inv X pins σ H s) : interactive X.env = false := by simp [interactive, I.ok.kind]
/-- an expression whose value is dropped -/
def tDrop (te : TE) : TS := fun D σ H => te σ H fun _ H1 => D.nx σ H1
theorem ps_expr (he : PE X e te) (hs : swapsWith e none pos.line X.env = pure false := by rfl) : PS X (.Expr e pos) (tDrop te) := by
  intro pins s σ H D I h
  exact wpAny_Expr_any (thn (he pins s σ H _ I h) fun v s1 ⟨x, H1, I1, r1, q1⟩ => ⟨σ, H1, I1, q1⟩) I.quiet hs
def tRet (te : TE) : TS := fun D σ H => te σ H D.rt
theorem ps_ret (he : PE X e te) : PS X (.Return (some e) pos) (tRet te) := by
  intro pins s σ H D I h
  exact wpAny_Return_some (thn (he pins s σ H _ I h) fun v s1 ⟨x, H1, I1, r1, q1⟩ => ⟨x, σ, H1, I1, r1, q1⟩)
def tRetN : TS := fun D _ H => D.rt .non H
def tIfS (c : TT) (t u : TS) : TS := fun D σ H => c σ H fun b H1 => if b = true then t D σ H1 else u D σ H1
theorem ps_if {c : Expr} {a b : List Stmt} {tc : TT} (hc : PT X c tc) (ha : PSs X a t) (hb : PSs X b u) : PS X (.If c a b pos) (tIfS tc t u) := by
  intro pins s σ H D I h
  refine wpAny_If (thn (hc pins s σ H _ I h) fun d s1 ⟨H1, I1, q1⟩ => ?_)
  cases d with
  | true => exact ha pins s1 σ H1 D I1 q1
  | false => exact hb pins s1 σ H1 D I1 q1
/-- code that the proof never comes to -/
def tNever : TS := fun _ _ _ => False
theorem ps_never : PS X st tNever := fun _ _ _ _ _ _ h => h.elim
end

/-! ### targets -/
abbrev TG := V → St → Hp → (St → Hp → Prop) → Prop
abbrev TGs := List V → St → Hp → (St → Hp → Prop) → Prop
def PG (X : Cx) (target : Expr) (t : TG) : Prop :=
  ∀ (pins : List (Addr × Obj)) (s : Shared) (σ : St) (H : Hp) (v : V) (u : Value) (Q : St → Hp → Prop), Inv X pins σ H s → RelV v u → t v σ H Q →
    wpAny (model X.prog X.w) X.A (assign target X.env u) (fun _ s' => ∃ σ' H', Inv X pins σ' H' s' ∧ Q σ' H') X.xe s
/-- several targets, one after another -/
def PGs (X : Cx) (ts : List Expr) (t : TGs) : Prop :=
  ∀ (pins : List (Addr × Obj)) (s : Shared) (σ : St) (H : Hp) (vs : List V) (us : List Value) (Q : St → Hp → Prop), Inv X pins σ H s → Vals vs us → t vs σ H Q →
    wpAny (model X.prog X.w) X.A (assignInOrder ((assignEach ts X.env).map (·.2)) us) (fun _ s' => ∃ σ' H', Inv X pins σ' H' s' ∧ Q σ' H') X.xe s
/-- o[i] = v, by values -/
abbrev TSet := V → V → V → Hp → (Hp → Prop) → Prop
def PSet (X : Cx) (t : TSet) : Prop :=
  ∀ (pins : List (Addr × Obj)) (s : Shared) (σ : St) (H : Hp) (o i v : V) (ov iv u : Value) (Q : Hp → Prop), Inv X pins σ H s → RelV o ov → RelV i iv → RelV v u → t o i v H Q →
    wpAny (model X.prog X.w) X.A (setItem ov iv u) (fun _ s' => ∃ H', Inv X pins σ H' s' ∧ Q H') X.xe s
/-- a op= b, by values -/
abbrev TIp := V → V → Hp → VK → Prop
def PIp (X : Cx) (op : Operator) (t : TIp) : Prop :=
  ∀ (pins : List (Addr × Obj)) (s : Shared) (σ : St) (H : Hp) (x y : V) (v u : Value) (Q : VK), Inv X pins σ H s → RelV x v → RelV y u → t x y H Q →
    wpAny (model X.prog X.w) X.A (inplaceOp op v u) (EP X pins σ Q) X.xe s
section
variable {X : Cx} {pos : Pos}
def gName (i : Nat) : TG := fun v σ H Q => Q (σ.set i (some v)) H
theorem pg_name {i : Nat} {x : Str} (hN : X.N.Nodup) (hi : X.N[i]? = some x) (hx : Loc X.env.scope x) (hf : X.fn x = true ∨ X.env.scope.names.lookup x = some .local := by first | exact .inl rfl | exact .inr rfl | assumption) : PG X (.Name x pos) (gName i) := by
  intro pins s σ H v u Q I r h
  exact wpAny_assign_Name (store_ok I hN hi hx r (fun s' I' => ⟨_, H, I', h⟩) hf)
def gNil : TGs := fun vs σ H Q => vs = [] ∧ Q σ H
def gCons (t : TG) (u : TGs) : TGs := fun vs σ H Q => ∃ v r, vs = v :: r ∧ t v σ H fun σ' H' => u r σ' H' Q
theorem pgs_nil : PGs X [] gNil := by
  intro pins s σ H vs us Q I r h
  obtain ⟨e, h⟩ := h
  subst e
  cases r
  exact assignInOrder_nil ⟨σ, H, I, h⟩
theorem pgs_cons {e : Expr} {es : List Expr} {t : TG} {u : TGs} (h1 : PG X e t) (h2 : PGs X es u)
    (hs : (assignEach (e :: es) X.env).map (·.2) = assign e X.env :: (assignEach es X.env).map (·.2) := by rfl) : PGs X (e :: es) (gCons t u) := by
  intro pins s σ H vs us Q I r h
  obtain ⟨v, vr, e1, h⟩ := h
  subst e1
  cases r with
  | cons r rr =>
    rw [hs]
    refine assignInOrder_cons (thn (h1 pins s σ H _ _ _ I r h) fun _ s1 ⟨σ1, H1, I1, q1⟩ => ?_)
    exact h2 pins s1 σ1 H1 _ _ Q I1 rr q1
/-- (a, b, ..) = a tuple of that length -/
def gTup (K : PySem.W.Frag) (n : Nat) (t : TGs) : TG := fun v σ H Q => ∃ a xs, v = .ref a ∧ SqT K H a xs ∧ xs.length = n ∧ t xs σ H Q
theorem pg_tup {es : List Expr} {k : Nat} {t : TGs} {n : Nat} (hc : X.calm = true) (h : PGs X es t)
    (hn : (assignEach es X.env).length = n := by rfl) (hst : (assignEach es X.env).findIdx? (·.1) = none := by rfl) : PG X (.Tuple es k pos) (gTup X.K n t) := by
  intro pins s σ H v u Q I r hw
  obtain ⟨a, xs, e1, hq, hl, hw⟩ := hw
  subst e1
  cases r
  obtain ⟨its, rv, ht, hz⟩ := I.tuple hq
  refine assign_Tuple_tuple (I.ok.hd hc) ht (by simp [hn, ← hl, rv.length]) hst fun h' hx => ?_
  have I1 : Inv X pins σ H { s with heap := h' } := I.kept (t' := s.toks) fun b o e => hx b o (Nat.ne_of_lt (Heap.lt_size e)) e
  exact h pins _ σ H xs _ Q I1 (by simpa using rv) hw
/-- o[i] = .. -/
def gSub (to ti : TE) (t : TSet) : TG := fun v σ H Q => to σ H fun o H1 => ti σ H1 fun i H2 => t o i v H2 fun H3 => Q σ H3
theorem pg_sub {o i : Expr} {to ti : TE} {t : TSet} (ho : PE X o to) (hi : PE X i ti) (hs : PSet X t)
    (ha : ∀ v, assign (.Subscript o i pos) X.env v = (do
      let ov ← holding [v] (eval o X.env)
      let iv ← holding [v, ov] (eval i X.env)
      standAt pos
      holding [v, ov, iv] (setItem ov iv v)
      release [v, ov, iv] []) := by intro _; rfl) : PG X (.Subscript o i pos) (gSub to ti t) := by
  intro pins s σ H v u Q I r h
  rw [ha]
  refine wpAny_bind (wpAny_holding (thn (ho pins s σ H _ I h) fun ov s1 ⟨x, H1, I1, r1, q1⟩ => ?_))
  refine wpAny_bind (wpAny_holding (thn (hi pins s1 σ H1 _ I1 q1) fun iv s2 ⟨y, H2, I2, r2, q2⟩ => ?_))
  refine wpAny_bind (wpAny_standAt (wpAny_bind (wpAny_holding (thn (hs pins s2 σ H2 x y v ov iv u _ I2 r1 r2 r q2) fun _ s3 ⟨H3, I3, q3⟩ => ?_))))
  exact wpAny_release ⟨σ, H3, I3, q3⟩
/-- target = value -/
def tAsg (te : TE) (g : TG) : TS := fun D σ H => te σ H fun x H1 => g x σ H1 D.nx
theorem ps_asg {tg e : Expr} {te : TE} {g : TG} (he : PE X e te) (hg : PG X tg g) (hs : swapsWithSole [tg] e pos.line X.env = pure false := by rfl) (hw : swappedStores [tg] e X.env = pure none := by rfl)
    (h1 : (assignEach [tg] X.env).map (·.2) = [assign tg X.env] := by rfl) : PS X (.Assign [tg] e pos) (tAsg te g) := by
  intro pins s σ H D I h
  refine wpAny_Assign_stores (thn (he pins s σ H _ I h) fun v s1 ⟨x, H1, I1, r1, q1⟩ => ?_) hs hw
  rw [h1]
  exact thn (hg pins s1 σ H1 x v _ I1 r1 q1) fun _ s2 q => q
/-- name = value -/
theorem ps_set {i : Nat} {x : Str} {e : Expr} {te : TE} {pos' : Pos} (hN : X.N.Nodup) (hi : X.N[i]? = some x) (hx : Loc X.env.scope x) (he : PE X e te) (hs : swapsWith e (some (.Name x pos')) pos.line X.env = pure false := by rfl) (hf : X.fn x = true ∨ X.env.scope.names.lookup x = some .local := by first | exact .inl rfl | exact .inr rfl | assumption) :
    PS X (.Assign [.Name x pos'] e pos) (tAsg te (gName i)) := by
  intro pins s σ H D I h
  refine wpAny_Assign_Name (thn (he pins s σ H _ I h) fun v s1 ⟨y, H1, I1, r1, q1⟩ => ?_) hs
  exact store_ok I1 hN hi hx r1 (fun s2 I2 => ⟨_, H1, I2, q1⟩) hf
/-- a, b = x, y with plain local names: stored from the right; the pair itself is not tracked (the opening rows as in PyProof/Rows/TupAssign.lean:23) -/
def tPar (i j : Nat) (ta : TA) : TS := fun D σ H => ta σ H fun vs H1 => ∃ v w, vs = [v, w] ∧ D.nx ((σ.set i (some v)).set j (some w)) H1
theorem ps_par {i j : Nat} {x y : Str} {a b : Expr} {ta : TA} {px py pt : Pos} {kt k2 pt2} (hc : X.calm = true) (hN : X.N.Nodup) (hi : X.N[i]? = some x) (hj : X.N[j]? = some y) (hij : i ≠ j)
    (hx : X.env.scope.names.lookup x = some .local) (hy : X.env.scope.names.lookup y = some .local) (ha : PA X [a, b] ta)
    (hw : swappedStores [.Tuple [.Name x px, .Name y py] kt pt] (.Tuple [a, b] k2 pt2) X.env = pure (some [x, y]))
    (hs : swapsWithSole [.Tuple [.Name x px, .Name y py] kt pt] (.Tuple [a, b] k2 pt2) pos.line X.env = pure false := by rfl) :
    PS X (.Assign [.Tuple [.Name x px, .Name y py] kt pt] (.Tuple [a, b] k2 pt2) pos) (tPar i j ta) := by
  intro pins s σ H D I h
  rw [exec_Assign_arm]
  refine wpAny_bind (wpAny_standAt ?_)
  rw [hs]
  refine wpAny_bind (wpAny_pure ?_)
  rw [if_neg (by decide)]
  refine wpAny_bind (Tuple_ (thn (ha _ pins s σ H _ I h) fun us s1 ⟨vs, H1, I1, r1, q1⟩ => ?_))
  obtain ⟨v, w, e1, q1⟩ := q1
  subst e1
  obtain ⟨u1, u2, rfl, rv, rw'⟩ : ∃ u1 u2, us = [u1, u2] ∧ RelV v u1 ∧ RelV w u2 := by
    cases r1 with
    | cons p q =>
      cases q with
      | cons p' q' =>
        cases q'
        exact ⟨_, _, rfl, p, p'⟩
  refine wpAny_newObj_type ?_ (by show 2 ≤ sizeLine; decide)
  have I2 : Inv X pins σ H1 { s1 with heap := s1.heap.push { cls := .type "tuple", data := .seq [u1, u2].toArray } } := I1.kept (t' := s1.toks) fun b o e => Heap.get?_push_of_some _ e
  rw [hw]
  refine wpAny_bind (wpAny_pure ?_)
  show wpAny (model X.prog X.w) X.A (do rule "assign.swapped-stores"; let items ← unpackItems (.ref s1.heap.objs.size) 2 none; assignInOrder [fun v => bindName X.env y v, fun v => bindName X.env x v] items.reverse; pure Flow.next) _ _ _
  refine wpAny_bind (wpAny_rule (wpAny_bind (unpackItems_tuple (items := #[u1, u2]) (I.ok.hd hc) (IsTup.new s1.heap _) fun h' hx' => ?_)))
  have I3 := I2.kept (h' := h') (t' := s1.toks) fun b o e => hx' b o (Nat.ne_of_lt (Heap.lt_size e)) e
  show wpAny _ _ (assignInOrder [fun v => bindName X.env y v, fun v => bindName X.env x v] [u2, u1] >>= fun _ => pure Flow.next) _ _ _
  refine wpAny_bind (assignInOrder_cons (wpAny_bindName (store_ok I3 hN hj (.inl hy) rw' (fun s2 I4 => ?_) (.inr hy))))
  refine assignInOrder_cons (wpAny_bindName (store_ok I4 hN hi (.inl hx) rv (fun s3 I5 => assignInOrder_nil (wpAny_pure ?_)) (.inr hx)))
  rw [List.set_comm _ _ (Ne.symm hij)] at I5
  exact ⟨_, H1, I5, q1⟩
/-- name op= e -/
def tAug (i : Nat) (te : TE) (ti : TIp) : TS := fun D σ H => ∃ x, σ[i]? = some (some x) ∧ te σ H fun y H1 => ti x y H1 fun z H2 => D.nx (σ.set i (some z)) H2
/-- o[i] op= e -/
def tAugS (to ti te : TE) (tget : V → V → Hp → VK → Prop) (tip : TIp) (tset : TSet) : TS := fun D σ H => to σ H fun o H1 => ti σ H1 fun i H2 => tget o i H2 fun x H3 => te σ H3 fun y H4 => tip x y H4 fun z H5 => tset o i z H5 fun H6 => D.nx σ H6
/-- o[i], by values -/
def PGet (X : Cx) (t : V → V → Hp → VK → Prop) : Prop :=
  ∀ (pins : List (Addr × Obj)) (s : Shared) (σ : St) (H : Hp) (o i : V) (ov iv : Value) (Q : VK), Inv X pins σ H s → RelV o ov → RelV i iv → t o i H Q →
    wpAny (model X.prog X.w) X.A (getItem ov iv) (EP X pins σ Q) X.xe s
/-- ints -/
def ipI (f : Int → Int → Int) : TIp := fun x y H Q => ∃ i j, x = .int i ∧ y = .int j ∧ Q (.int (f i j)) H
end

/-! ### while -/
section
variable {X : Cx} {pos : Pos}
/-- the invariant W with its measure -/
def tWhile (c : TT) (tb : TS) : TS := fun D σ H => ∃ W : Nat → St → Hp → Prop, (∃ m, W m σ H) ∧ ∀ m σ H, W m σ H →
  c σ H fun b H1 => if b = true then ∃ N : St → Hp → Prop, (∀ σ' H', N σ' H' → ∃ m', m' < m ∧ W m' σ' H') ∧ tb { D with nx := N, ct := N, bk := D.nx } σ H1 else D.nx σ H1
theorem ps_while {c : Expr} {body : List Stmt} {tc : TT} {tb : TS} (hp : PassesOwn (model X.prog X.w) X.A X.env X.xe) (hc : PT X c tc) (hb : PSs X body tb) : PS X (.While c body [] pos) (tWhile tc tb) := by
  intro pins s σ H D I h
  obtain ⟨W, ⟨m0, w0⟩, turn⟩ := h
  refine wpAny_While (codeAny_whileLoop (fun n s' => ∃ σ' H', Inv X pins σ' H' s' ∧ W n σ' H') ?_ m0 ⟨σ, H, I, w0⟩)
  rintro n s1 ⟨σ1, H1, I1, w1⟩
  refine wpAny_passesOwn hp (thn (hc pins s1 σ1 H1 _ I1 (turn n σ1 H1 w1)) fun b s2 ⟨H2, I2, q2⟩ => ?_)
  cases b with
  | true =>
    obtain ⟨N, hN, q2⟩ := q2
    rw [if_pos rfl]
    refine wpAny_passesOwn hp (thn (hb pins s2 σ1 H2 _ I2 q2) fun f s3 q3 => ?_)
    cases f with
    | next =>
      obtain ⟨σ3, H3, I3, n3⟩ := q3
      obtain ⟨m', hm, w3⟩ := hN σ3 H3 n3
      exact ⟨m', hm, σ3, H3, I3, w3⟩
    | cont =>
      obtain ⟨σ3, H3, I3, n3⟩ := q3
      obtain ⟨m', hm, w3⟩ := hN σ3 H3 n3
      exact ⟨m', hm, σ3, H3, I3, w3⟩
    | brk => exact q3
    | ret v => exact q3
  | false =>
    rw [if_neg Bool.false_ne_true]
    exact wpAny_execs_nil ⟨σ1, H2, I2, q2⟩
end

/-! ### what a loop or a comprehension walks -/
/-- at turn i: it yields x (the heap may grow), or it stops -/
structure It where
  go : Nat → Hp → Prop
  yld : Nat → Hp → V → Hp → Prop
  stop : Nat → Hp → Prop
/-- the iterator's own objects may turn: they are not the frame's, not pinned, younger than the entry (or a comprehension's own) -/
def FpOk (X : Cx) (pins : List (Addr × Obj)) (H : Hp) (b : Addr) : Prop :=
  H b = none ∧ b ≠ X.env.locals ∧ b ∉ X.fs ∧ (b ∈ X.ex ∨ X.s₀.heap.objs.size ≤ b) ∧ (∀ x c, X.env.cells.lookup x = some c → c ≠ b) ∧ ∀ p ∈ X.pn ++ pins, p.1 ≠ b
theorem Inv.fpOk {X : Cx} {pins : List (Addr × Obj)} {σ : St} {H H' : Hp} {s : Shared} {b : Addr} (I : Inv X pins σ H s) (hb : s.heap.objs.size ≤ b) (hn : H' b = none) : FpOk X pins H' b := by
  refine ⟨hn, Nat.ne_of_gt (Nat.lt_of_lt_of_le I.lt hb), I.nofs hb, .inr (Nat.le_trans I.sz hb), fun x c e z => ?_, fun p hp z => ?_⟩
  · obtain ⟨v, q⟩ := I.cell x c e
    exact absurd (Nat.lt_of_lt_of_le q.lt (by rw [z]; exact hb)) (Nat.lt_irrefl _)
  · exact absurd (Nat.lt_of_lt_of_le (Heap.lt_size (I.pin p hp).1) (by rw [z]; exact hb)) (Nat.lt_irrefl _)
structure Turn (P : Program) (w : World) (K : PySem.W.Frag) (tg : Expr) (J : It) (fp : List Addr) (it : Addr) (tn : Nat → Heap → Prop) : Prop where
  mem : it ∈ fp
  obj : ∀ i h, tn i h → ∀ b ∈ fp, ∃ o, h.get? b = some o ∧ ∀ v, o.data ≠ .cell v
  keep : ∀ i h h', tn i h → (∀ b ∈ fp, ∀ o, h.get? b = some o → h'.get? b = some o) → tn i h'
  item : ∀ (X : Cx), X.prog = P → X.w = w → X.K = K → X.calm = true → ∀ (i : Nat) (pins : List (Addr × Obj)) (s : Shared) (σ : St) (H : Hp) (E : Value → Shared → Prop), Inv X pins σ H s → (∀ b ∈ fp, FpOk X pins H b) → tn i s.heap → J.go i H →
    wpAny (model P w) X.A (pyNext (.ref it)) (fun r s1 => ∃ u, r = some u ∧
      wpAny (model P w) X.A (letOwnedTupleGo tg (.ref it) u) (fun _ s2 => ∃ x H', Inv X pins σ H' s2 ∧ RelV x u ∧ J.yld i H x H' ∧ tn (i + 1) s2.heap ∧ ∀ b ∈ fp, H' b = none) E s1) E s
  done : ∀ (X : Cx), X.prog = P → X.w = w → X.K = K → X.calm = true → ∀ (i : Nat) (pins : List (Addr × Obj)) (s : Shared) (σ : St) (H : Hp) (E : Value → Shared → Prop), Inv X pins σ H s → (∀ b ∈ fp, FpOk X pins H b) → tn i s.heap → J.stop i H →
    wpAny (model P w) X.A (pyNext (.ref it)) (fun r s1 => r = none ∧ Inv X pins σ H s1) E s
  self : ∀ (A : Around) (i : Nat) (s : Shared) (Q : Value → Shared → Prop) (E : Value → Shared → Prop), tn i s.heap → Q (.ref it) s → wpAny (model P w) A (pyIter (.ref it)) Q E s
abbrev TI := St → Hp → (It → Hp → Prop) → Prop
/-- an iterator has come -/
def PIE (X : Cx) (pins : List (Addr × Obj)) (σ : St) (tg : Expr) (R : It → Hp → Prop) (itv : Value) (s2 : Shared) : Prop :=
  ∃ (it : Addr) (fp : List Addr) (tn : Nat → Heap → Prop) (J : It) (H' : Hp), itv = .ref it ∧ Inv X pins σ H' s2 ∧ Turn X.prog X.w X.K tg J fp it tn ∧ tn 0 s2.heap ∧ (∀ b ∈ fp, FpOk X pins H' b) ∧ R J H'
def PI (X : Cx) (tg iter : Expr) (wi : TI) : Prop :=
  ∀ (pins : List (Addr × Obj)) (s : Shared) (σ : St) (H : Hp) (R : It → Hp → Prop), Inv X pins σ H s → wi σ H R →
    wpAny (model X.prog X.w) X.A (eval iter X.env) (fun v s1 => wpAny (model X.prog X.w) X.A (pyIter v) (PIE X pins σ tg R) X.xe s1) X.xe s

/-- the step ahead of the store is nothing for an iterator that keeps no tuple -/
theorem go_of {M : Model} {A : Around} {E : Value → Shared → Prop} {s : Shared} {tg : Expr} {it : Addr} {u : Value} {o : Obj} {n : String} {vs : Array Value} {Q : Unit → Shared → Prop} (ho : s.heap.get? it = some o) (hc : o.cls = .type n) (hd : o.data = .fields vs)
    (hn : ["enumerate", "zip", "dict_itemiterator", "dict_reverseitemiterator", "odict_iterator", "itertools.zip_longest", "itertools.pairwise"].contains n = false) (hQ : Q () s) : wpAny M A (letOwnedTupleGo tg (.ref it) u) Q E s := by
  unfold letOwnedTupleGo
  cases tg <;> first
    | exact wpAny_pure hQ
    | (cases u <;> first
        | exact wpAny_pure hQ
        | (refine wpAny_bind (wpAny_load ho ?_)
           rw [hc, hd]
           show wpAny M A (if (["enumerate", "zip", "dict_itemiterator", "dict_reverseitemiterator", "odict_iterator", "itertools.zip_longest", "itertools.pairwise"].contains n && vs[0]? == some (rawInt _)) = true then _ else _) Q E s
           rw [if_neg (by intro h; rw [hn, Bool.false_and] at h; cases h)]
           exact wpAny_pure hQ))

/-- the list at a, as it stands at each turn (a loop may append to it) -/
def Itl (K : PySem.W.Frag) (a : Addr) : It :=
  ⟨fun i H => ∃ xs x, SqL K H a xs ∧ xs[i]? = some x, fun i H x H' => H' = H ∧ ∀ xs, SqL K H a xs → xs[i]? = some x, fun i H => ∃ xs, SqL K H a xs ∧ xs.length ≤ i⟩
def Itt (K : PySem.W.Frag) (a : Addr) : It :=
  ⟨fun i H => ∃ xs x, SqT K H a xs ∧ xs[i]? = some x, fun i H x H' => H' = H ∧ ∀ xs, SqT K H a xs → xs[i]? = some x, fun i H => ∃ xs, SqT K H a xs ∧ xs.length ≤ i⟩
/-- lo, lo + 1, .. (n of them) -/
def Itr (lo : Int) (n : Nat) : It := ⟨fun i _ => i < n, fun i H x H' => H' = H ∧ x = .int (lo + i), fun i _ => n ≤ i⟩
theorem turn_list {P : Program} {w : World} {K : PySem.W.Frag} {tg : Expr} (a it : Addr) : Turn P w K tg (Itl K a) [it] it (fun i h => h.IsListIter it a i) where
  mem := by simp
  obj := fun i h st b hb => by
    have e : b = it := by simpa using hb
    subst e
    obtain ⟨o, e, c, d⟩ := st
    exact ⟨o, e, fun v z => by rw [d] at z; cases z⟩
  keep := fun i h h' st k => st.at fun o e => k it (by simp) o e
  item := by
    intro X hP hw hK hc i pins s σ H E I hf st hg
    subst hP hw hK
    obtain ⟨xs, x, hq, hx⟩ := hg
    obtain ⟨its, rv, p, hz⟩ := I.list hq
    obtain ⟨u, hu, ru⟩ := rv.get hx
    obtain ⟨f0, f1, f2, f3, f4, f5⟩ := hf it (by simp)
    refine wpAny_pyNext_list_item st p.isList (x := u) (by simpa using hu) fun h' st' sb => ?_
    have I1 : Inv X pins σ H { s with heap := h' } := I.turned (t' := s.toks) (fun b o hb e => (sb.2 b hb).trans e) f0 f1 f3 f4 f5
    obtain ⟨o, e, c, d⟩ := id st'
    exact ⟨u, rfl, go_of (s := { s with heap := h' }) e c d (by decide) ⟨x, H, I1, ru, ⟨rfl, fun ys hy => by rw [I.list_inj hy hq]; exact hx⟩, st', fun b hb => (hf b hb).1⟩⟩
  done := by
    intro X hP hw hK hc i pins s σ H E I hf st hg
    subst hP hw hK
    obtain ⟨xs, hq, hx⟩ := hg
    obtain ⟨its, rv, p, hz⟩ := I.list hq
    obtain ⟨f0, f1, f2, f3, f4, f5⟩ := hf it (by simp)
    have hl := rv.length
    exact wpAny_pyNext_list_end (I.ok.hd hc) st p.isList (by simp; omega) fun h' eb => ⟨rfl, I.turned (t' := s.toks) (fun b o hb e => eb b o hb e) f0 f1 f3 f4 f5⟩
  self := fun _ _ _ _ _ st h => wpAny_pyIter_listiter st h
theorem turn_tuple {P : Program} {w : World} {K : PySem.W.Frag} {tg : Expr} (a it : Addr) : Turn P w K tg (Itt K a) [it] it (fun i h => h.IsTupleIter it a i) where
  mem := by simp
  obj := fun i h st b hb => by
    have e : b = it := by simpa using hb
    subst e
    obtain ⟨o, e, c, d⟩ := st
    exact ⟨o, e, fun v z => by rw [d] at z; cases z⟩
  keep := fun i h h' st k => st.at fun o e => k it (by simp) o e
  item := by
    intro X hP hw hK hc i pins s σ H E I hf st hg
    subst hP hw hK
    obtain ⟨xs, x, hq, hx⟩ := hg
    obtain ⟨its, rv, p, hz⟩ := I.tuple hq
    obtain ⟨u, hu, ru⟩ := rv.get hx
    obtain ⟨f0, f1, f2, f3, f4, f5⟩ := hf it (by simp)
    refine wpAny_pyNext_tuple_item st (show s.heap.IsTuple a its.toArray from p) (x := u) (by simpa using hu) fun h' st' sb => ?_
    have I1 : Inv X pins σ H { s with heap := h' } := I.turned (t' := s.toks) (fun b o hb e => (sb.2 b hb).trans e) f0 f1 f3 f4 f5
    obtain ⟨o, e, c, d⟩ := id st'
    exact ⟨u, rfl, go_of (s := { s with heap := h' }) e c d (by decide) ⟨x, H, I1, ru, ⟨rfl, fun ys hy => by rw [I.tuple_inj hy hq]; exact hx⟩, st', fun b hb => (hf b hb).1⟩⟩
  done := by
    intro X hP hw hK hc i pins s σ H E I hf st hg
    subst hP hw hK
    obtain ⟨xs, hq, hx⟩ := hg
    obtain ⟨its, rv, p, hz⟩ := I.tuple hq
    obtain ⟨f0, f1, f2, f3, f4, f5⟩ := hf it (by simp)
    have hl := rv.length
    exact wpAny_pyNext_tuple_end (I.ok.hd hc) st (show s.heap.IsTuple a its.toArray from p) (by simp; omega) fun h' eb => ⟨rfl, I.turned (t' := s.toks) (fun b o hb e => eb b o hb e) f0 f1 f3 f4 f5⟩
  self := fun _ _ _ _ _ st h => wpAny_pyIter_tupleiter st h
theorem turn_range {P : Program} {w : World} {K : PySem.W.Frag} {tg : Expr} (it : Addr) (lo : Int) (n : Nat) : Turn P w K tg (Itr lo n) [it] it (fun i h => IsRangeIter h it (lo + (i : Nat) * 1) ((n : Int) - (i : Nat)) 1) where
  mem := by simp
  obj := fun i h st b hb => by
    have e : b = it := by simpa using hb
    subst e
    exact ⟨_, st, fun v z => by
      have z' : Data.fields _ = Data.cell v := z
      cases z'⟩
  keep := fun i h h' st k => k it (by simp) _ st
  item := by
    intro X hP hw hK hc i pins s σ H E I hf st hg
    subst hP hw hK
    obtain ⟨f0, f1, f2, f3, f4, f5⟩ := hf it (by simp)
    have W := Walks.range (prog := X.prog) (w := X.w) (I.ok.hd hc) it lo 1 n
    refine W.item i s _ _ hg st fun v h' tk hv st' kk => ?_
    obtain ⟨t, rfl⟩ := hv
    have I1 : Inv X pins σ H { s with heap := h', toks := tk } := I.turned (fun b o hb e => kk b o (by simpa using hb) e) f0 f1 f3 f4 f5
    refine ⟨_, rfl, go_of (s := { s with heap := h', toks := tk }) (n := "range_iterator") st' rfl rfl (by decide) ⟨.int (lo + i), H, I1, ⟨t, ?_⟩, ⟨rfl, rfl⟩, st', fun b hb => (hf b hb).1⟩⟩
    rw [Int.mul_one]
  done := by
    intro X hP hw hK hc i pins s σ H E I hf st hg
    subst hP hw hK
    obtain ⟨f0, f1, f2, f3, f4, f5⟩ := hf it (by simp)
    exact wpAny_pyNext_range_end (I.ok.hd hc) st (by have : n ≤ i := hg; omega) fun h' eb => ⟨rfl, I.turned (t' := s.toks) (fun b o hb e => eb b o hb e) f0 f1 f3 f4 f5⟩
  self := fun _ _ _ _ _ st h => wpAny_pyIter_rangeiter st h
end L2

namespace L2
open PySem PySem.Spec PyProof.Rows
section
variable {X : Cx} {tg : Expr}
def iList (K : PySem.W.Frag) (tl : TE) : TI := fun σ H R => tl σ H fun x H1 => ∃ a, x = .ref a ∧ (∃ xs, SqL K H1 a xs) ∧ R (Itl K a) H1
def iTup (K : PySem.W.Frag) (tl : TE) : TI := fun σ H R => tl σ H fun x H1 => ∃ a, x = .ref a ∧ (∃ xs, SqT K H1 a xs) ∧ R (Itt K a) H1
theorem pi_list {l : Expr} {tl : TE} (hl : PE X l tl) : PI X tg l (iList X.K tl) := by
  intro pins s σ H R I h
  refine thn (hl pins s σ H _ I h) fun v s1 ⟨x, H1, I1, r1, q1⟩ => ?_
  obtain ⟨a, e, ⟨xs, hq⟩, q⟩ := q1
  subst e
  cases r1
  obtain ⟨its, rv, p, hz⟩ := I1.list hq
  refine wpAny_pyIter_list p.isList ?_
  refine ⟨s1.heap.objs.size, [s1.heap.objs.size], _, _, H1, rfl, I1.kept (t' := s1.toks) fun b o e => Heap.get?_push_of_some _ e, turn_list a _, ⟨_, Heap.get?_push_size _ rfl, rfl, rfl⟩, fun b hb => ?_, q⟩
  have e : b = s1.heap.objs.size := by simpa using hb
  subst e
  exact I1.fpOk (Nat.le_refl _) (I1.hok.fresh (Nat.le_refl _))
theorem pi_tup {l : Expr} {tl : TE} (hl : PE X l tl) : PI X tg l (iTup X.K tl) := by
  intro pins s σ H R I h
  refine thn (hl pins s σ H _ I h) fun v s1 ⟨x, H1, I1, r1, q1⟩ => ?_
  obtain ⟨a, e, ⟨xs, hq⟩, q⟩ := q1
  subst e
  cases r1
  obtain ⟨its, rv, p, hz⟩ := I1.tuple hq
  refine wpAny_pyIter_tuple (show s1.heap.IsTuple a its.toArray from p) ?_
  refine ⟨s1.heap.objs.size, [s1.heap.objs.size], _, _, H1, rfl, I1.kept (t' := s1.toks) fun b o e => Heap.get?_push_of_some _ e, turn_tuple a _, ⟨_, Heap.get?_push_size _ rfl, rfl, rfl⟩, fun b hb => ?_, q⟩
  have e : b = s1.heap.objs.size := by simpa using hb
  subst e
  exact I1.fpOk (Nat.le_refl _) (I1.hok.fresh (Nat.le_refl _))
/-- a range object just made, walked -/
theorem range_it {pins : List (Addr × Obj)} {σ : St} {H : Hp} {s : Shared} {R : It → Hp → Prop} {E : Value → Shared → Prop} {lo hi : Int} {t u v : Tok} {tk : Nat} (I : Inv X pins σ H s) (h1 : -(2 ^ 62) ≤ lo) (h2 : lo < 2 ^ 62) (h3 : -(2 ^ 62) ≤ hi) (h4 : hi < 2 ^ 62)
    (q : R (Itr lo (hi - lo).toNat) H) : wpAny (model X.prog X.w) X.A (pyIter (.ref s.heap.objs.size)) (PIE X pins σ tg R) E { s with heap := s.heap.push { cls := .type "range", data := .fields #[.int lo t, .int hi u, .int 1 v] }, toks := tk } := by
  refine wpAny_pyIter_range (IsRange.new ..) (small_one h1 h2 h3 h4) ?_
  have I1 : Inv X pins σ H { s with heap := s.heap.push { cls := .type "range", data := .fields #[.int lo t, .int hi u, .int 1 v] }, toks := tk } := I.kept fun b o e => Heap.get?_push_of_some _ e
  refine ⟨(s.heap.push { cls := .type "range", data := .fields #[.int lo t, .int hi u, .int 1 v] }).objs.size, [(s.heap.push { cls := .type "range", data := .fields #[.int lo t, .int hi u, .int 1 v] }).objs.size], _, _, H, rfl,
    I1.kept (t' := tk) fun b o e => Heap.get?_push_of_some _ e, turn_range _ lo (hi - lo).toNat, ?_, fun b hb => ?_, q⟩
  · have e1 : lo + ((0 : Nat) : Int) * 1 = lo := by simp
    have e2 : (((hi - lo).toNat : Nat) : Int) - ((0 : Nat) : Int) = Builtin.Range.rangeSize lo hi 1 := by rw [rangeSize_one]; split <;> omega
    show IsRangeIter _ _ (lo + ((0 : Nat) : Int) * 1) ((((hi - lo).toNat : Nat) : Int) - ((0 : Nat) : Int)) 1
    rw [e1, e2]
    exact Heap.get?_push_size _ rfl
  · have e : b = (s.heap.push { cls := .type "range", data := .fields #[.int lo t, .int hi u, .int 1 v] }).objs.size := by simpa using hb
    subst e
    exact I1.fpOk (Nat.le_refl _) (I1.hok.fresh (Nat.le_refl _))
def iRng1 (ta : TA) : TI := fun σ H R => ta σ H fun vs H1 => ∃ j : Int, vs = [.int j] ∧ -(2 ^ 62) ≤ j ∧ j < 2 ^ 62 ∧ R (Itr 0 j.toNat) H1
def iRng2 (ta : TA) : TI := fun σ H R => ta σ H fun vs H1 => ∃ i j : Int, vs = [.int i, .int j] ∧ (-(2 ^ 62) ≤ i ∧ i < 2 ^ 62 ∧ -(2 ^ 62) ≤ j ∧ j < 2 ^ 62) ∧ R (Itr i (j - i).toNat) H1
theorem pi_range1 {a : Expr} {ta : TA} {p pos : Pos} (hg : Gl X "range") (hm : X.mg "range" = none) (ha : PA X [a] ta) (hs : starEach [a] X.env = [(false, eval a X.env)] := by rfl) : PI X tg (.Call (.Name "range" p) [a] [] pos) (iRng1 ta) := by
  intro pins s σ H R I h
  refine Call_ (ld_blt I hg hm boot_range (PyProof.Rows.callWith_type1 (thn (ha pos pins s σ H _ I h) fun us s1 ⟨vs, H1, I1, r1, q1⟩ => ?_) hs rfl))
  obtain ⟨j, e, q1, q2, q⟩ := q1
  subst e
  cases r1 with
  | cons r rr =>
    cases rr
    obtain ⟨t, rfl⟩ := r
    exact call_range_1 (range_it I1 (by omega) (by omega) q1 q2 (by simpa using q))

/-! ### for -/
/-- W: the invariant by the turn and a measure; N: what the body is to reach -/
def tFor (wi : TI) (g : TG) (tb : TS) : TS := fun D σ H => wi σ H fun J H1 => ∃ W : Nat → Nat → St → Hp → Prop, (∃ m, W 0 m σ H1) ∧ ∀ i m σ H, W i m σ H →
  (J.stop i H ∧ D.nx σ H) ∨ (J.go i H ∧ ∃ N : St → Hp → Prop, (∀ σ' H', N σ' H' → ∃ m', m' < m ∧ W (i + 1) m' σ' H') ∧ ∀ x H', J.yld i H x H' → g x σ H' fun σ2 H2 => tb { D with nx := N, ct := N, bk := D.nx } σ2 H2)
/-- the records at fp as they stand -/
def pinsAt (fp : List Addr) (h : Heap) : List (Addr × Obj) := fp.filterMap fun b => (h.get? b).map fun o => (b, o)
theorem mem_pinsAt {fp : List Addr} {h : Heap} {b : Addr} {o : Obj} (hb : b ∈ fp) (e : h.get? b = some o) : (b, o) ∈ pinsAt fp h := List.mem_filterMap.mpr ⟨b, hb, by rw [e]; rfl⟩
theorem of_pinsAt {fp : List Addr} {h : Heap} {p : Addr × Obj} (hp : p ∈ pinsAt fp h) : p.1 ∈ fp ∧ h.get? p.1 = some p.2 := by
  obtain ⟨b, hb, e⟩ := List.mem_filterMap.mp hp
  cases q : h.get? b with
  | none => rw [q] at e; cases e
  | some o =>
    rw [q] at e
    have e' : (b, o) = p := Option.some.inj e
    subst e'
    exact ⟨hb, q⟩
theorem Inv.pinned {pins : List (Addr × Obj)} {σ : St} {H : Hp} {s : Shared} {fp : List Addr} (I : Inv X pins σ H s) (hf : ∀ b ∈ fp, FpOk X pins H b) (ho : ∀ b ∈ fp, ∃ o, s.heap.get? b = some o ∧ ∀ v, o.data ≠ .cell v) : Inv X (pins ++ pinsAt fp s.heap) σ H s :=
  I.pins_of fun p hp => (List.mem_append.mp hp).elim (fun z => I.pin p (List.mem_append_right _ z)) fun z => by
    obtain ⟨hb, e⟩ := of_pinsAt z
    obtain ⟨f0, f1, f2, _⟩ := hf p.1 hb
    obtain ⟨o, e', d⟩ := ho p.1 hb
    rw [e] at e'; cases e'
    exact ⟨e, f0, f1, f2, d⟩
theorem Inv.unpinned {pins pl : List (Addr × Obj)} {σ : St} {H : Hp} {s : Shared} (I : Inv X (pins ++ pl) σ H s) : Inv X pins σ H s := I.pins_of fun p hp => I.pin p (List.mem_append_right _ (List.mem_append_left _ hp))
theorem ps_for {iter : Expr} {body : List Stmt} {wi : TI} {g : TG} {tb : TS} {pos : Pos} (hp : PassesOwn (model X.prog X.w) X.A X.env X.xe) (hc : X.calm = true) (hi : PI X tg iter wi) (hg : PG X tg g) (hb : PSs X body tb)
    (hs : ∀ x, foldedSetIterable iter X.env x = pure x := by intro _; rfl) : PS X (.For tg iter body [] pos) (tFor wi g tb) := by
  intro pins s σ H D I h
  refine wpAny_For (thn (hi pins s σ H _ I h) fun v s1 h1 => thn h1 fun itv s2 h2 => ?_) hs
  obtain ⟨it, fp, tn, J, H2, e, I2, T, st2, f2, W, ⟨m0, w0⟩, turn⟩ := h2
  subst e
  -- what stays true of the iterator's objects through the loop
  have stat : ∀ {H' : Hp}, (∀ b ∈ fp, H' b = none) → ∀ b ∈ fp, FpOk X pins H' b := fun hn b hb => ⟨hn b hb, (f2 b hb).2⟩
  refine codeAny_forLoop_any (fun n s' => ∃ i σ' H', Inv X pins σ' H' s' ∧ tn i s'.heap ∧ (∀ b ∈ fp, H' b = none) ∧ W i n σ' H') ?_ m0 ⟨0, σ, H2, I2, st2, fun b hb => (f2 b hb).1, w0⟩
  rintro n s3 ⟨i, σ3, H3, I3, st3, fr3, w3⟩
  rcases turn i n σ3 H3 w3 with ⟨stop, qn⟩ | ⟨go, N, hN, step⟩
  · refine wpAny_passesOwn hp (thn (T.done X rfl rfl rfl hc i pins s3 σ3 H3 X.xe I3 (stat fr3) st3 stop) fun r s4 ⟨hr, I4⟩ => ?_)
    subst hr
    exact wpAny_execs_nil ⟨σ3, H3, I4, qn⟩
  · refine wpAny_passesOwn hp (thn (T.item X rfl rfl rfl hc i pins s3 σ3 H3 X.xe I3 (stat fr3) st3 go) fun r s4 ⟨u, hr, h4⟩ => ?_)
    subst hr
    refine wpAny_passesOwn hp (thn h4 fun _ s5 ⟨x, H5, I5, r5, y5, st5, fr5⟩ => ?_)
    have I5' := I5.pinned (stat fr5) (T.obj _ _ st5)
    refine wpAny_passesOwn hp (thn (hg _ s5 σ3 H5 x u _ I5' r5 (step x H5 y5)) fun _ s6 ⟨σ6, H6, I6, q6⟩ => ?_)
    refine wpAny_passesOwn hp (thn (hb _ s6 σ6 H6 _ I6 q6) fun f s7 q7 => ?_)
    have again : ∀ {σ7 : St} {H7 : Hp}, Inv X (pins ++ pinsAt fp s5.heap) σ7 H7 s7 → N σ7 H7 → ∃ m, m < n ∧ ∃ i σ' H', Inv X pins σ' H' s7 ∧ tn i s7.heap ∧ (∀ b ∈ fp, H' b = none) ∧ W i m σ' H' := fun {σ7 H7} I7 n7 => by
      obtain ⟨m', hm, w7⟩ := hN σ7 H7 n7
      refine ⟨m', hm, i + 1, σ7, H7, I7.unpinned, T.keep _ _ _ st5 fun b hb o e => (I7.pin (b, o) (List.mem_append_right _ (List.mem_append_right _ (mem_pinsAt hb e)))).1, fun b hb => ?_, w7⟩
      obtain ⟨o, e, d⟩ := T.obj _ _ st5 b hb
      exact (I7.pin (b, o) (List.mem_append_right _ (List.mem_append_right _ (mem_pinsAt hb e)))).2.1
    cases f with
    | next => obtain ⟨σ7, H7, I7, n7⟩ := q7; exact again I7 n7
    | cont => obtain ⟨σ7, H7, I7, n7⟩ := q7; exact again I7 n7
    | brk => obtain ⟨σ7, H7, I7, q7⟩ := q7; exact ⟨σ7, H7, I7.unpinned, q7⟩
    | ret v => obtain ⟨x7, σ7, H7, I7, r7, q7⟩ := q7; exact ⟨x7, σ7, H7, I7.unpinned, r7, q7⟩
end

/-! ### the forms one uses -/
/-- over a list that the body leaves as it is -/
theorem for_list {K : PySem.W.Frag} {a : Addr} {xs : List V} {g : TG} {tb : TS} {D : Ends} {σ : St} {H : Hp} (Pv : Nat → St → Hp → Prop) (h0 : Pv 0 σ H) (hl : ∀ i σ H, i ≤ xs.length → Pv i σ H → SqL K H a xs)
    (hs : ∀ i x σ H, xs[i]? = some x → Pv i σ H → g x σ H fun σ2 H2 => tb { D with nx := Pv (i + 1), ct := Pv (i + 1), bk := D.nx } σ2 H2) (hd : ∀ σ H, Pv xs.length σ H → D.nx σ H) :
    ∃ W : Nat → Nat → St → Hp → Prop, (∃ m, W 0 m σ H) ∧ ∀ i m σ H, W i m σ H →
      ((Itl K a).stop i H ∧ D.nx σ H) ∨ ((Itl K a).go i H ∧ ∃ N : St → Hp → Prop, (∀ σ' H', N σ' H' → ∃ m', m' < m ∧ W (i + 1) m' σ' H') ∧ ∀ x H', (Itl K a).yld i H x H' → g x σ H' fun σ2 H2 => tb { D with nx := N, ct := N, bk := D.nx } σ2 H2) := by
  refine ⟨fun i m σ H => m = xs.length - i ∧ i ≤ xs.length ∧ Pv i σ H, ⟨xs.length, by simp, Nat.zero_le _, h0⟩, ?_⟩
  rintro i m σ H ⟨rfl, hi, p⟩
  have q := hl i σ H hi p
  by_cases hlt : i < xs.length
  · refine .inr ⟨⟨xs, xs[i], q, by simp [hlt]⟩, Pv (i + 1), fun σ' H' p' => ⟨xs.length - (i + 1), by omega, rfl, hlt, p'⟩, fun x H' y => ?_⟩
    obtain ⟨e, y⟩ := y
    subst e
    exact hs i x σ _ (y xs q) p
  · have e : i = xs.length := by omega
    subst e
    exact .inl ⟨⟨xs, q, Nat.le_refl _⟩, hd σ H p⟩
theorem for_range {lo : Int} {n : Nat} {g : TG} {tb : TS} {D : Ends} {σ : St} {H : Hp} (Pv : Nat → St → Hp → Prop) (h0 : Pv 0 σ H)
    (hs : ∀ i σ H, i < n → Pv i σ H → g (.int (lo + i)) σ H fun σ2 H2 => tb { D with nx := Pv (i + 1), ct := Pv (i + 1), bk := D.nx } σ2 H2) (hd : ∀ σ H, Pv n σ H → D.nx σ H) :
    ∃ W : Nat → Nat → St → Hp → Prop, (∃ m, W 0 m σ H) ∧ ∀ i m σ H, W i m σ H →
      ((Itr lo n).stop i H ∧ D.nx σ H) ∨ ((Itr lo n).go i H ∧ ∃ N : St → Hp → Prop, (∀ σ' H', N σ' H' → ∃ m', m' < m ∧ W (i + 1) m' σ' H') ∧ ∀ x H', (Itr lo n).yld i H x H' → g x σ H' fun σ2 H2 => tb { D with nx := N, ct := N, bk := D.nx } σ2 H2) := by
  refine ⟨fun i m σ H => m = n - i ∧ i ≤ n ∧ Pv i σ H, ⟨n, by simp, Nat.zero_le _, h0⟩, ?_⟩
  rintro i m σ H ⟨rfl, hi, p⟩
  by_cases hlt : i < n
  · refine .inr ⟨hlt, Pv (i + 1), fun σ' H' p' => ⟨n - (i + 1), by omega, rfl, hlt, p'⟩, fun x H' y => ?_⟩
    obtain ⟨e, y⟩ := y
    subst e y
    exact hs i σ _ hlt p
  · have e : i = n := by omega
    subst e
    exact .inl ⟨Nat.le_refl _, hd σ H p⟩
end L2

namespace L2
open PySem PySem.Spec PyProof.Rows

abbrev R2 := V → V → Hp → VK → Prop
/-- a two-place operation on values: f is binaryOp op, inplaceOp op or compareOp op -/
def OpR (X : Cx) (f : Value → Value → Sem Value) (r : R2) : Prop :=
  ∀ (pins : List (Addr × Obj)) (s : Shared) (σ : St) (H : Hp) (x y : V) (v u : Value) (Q : VK), Inv X pins σ H s → RelV x v → RelV y u → r x y H Q →
    wpAny (model X.prog X.w) X.A (f v u) (EP X pins σ Q) X.xe s
/-- a one-place operation -/
def UnR (X : Cx) (f : Value → Sem Value) (r : V → Hp → VK → Prop) : Prop :=
  ∀ (pins : List (Addr × Obj)) (s : Shared) (σ : St) (H : Hp) (x : V) (v : Value) (Q : VK), Inv X pins σ H s → RelV x v → r x H Q →
    wpAny (model X.prog X.w) X.A (f v) (EP X pins σ Q) X.xe s
/-- a call of a value that is known (a builtin, a type) with values -/
def CallR (X : Cx) (f : Value) (r : List V → Hp → VK → Prop) : Prop :=
  ∀ (pins : List (Addr × Obj)) (s : Shared) (σ : St) (H : Hp) (xs : List V) (us : List Value) (Q : VK), Inv X pins σ H s → Vals xs us → r xs H Q →
    wpAny (model X.prog X.w) X.A (call f us) (EP X pins σ Q) X.xe s
/-- a value's truth -/
def TruR (X : Cx) (r : V → Hp → (Bool → Hp → Prop) → Prop) : Prop :=
  ∀ (pins : List (Addr × Obj)) (s : Shared) (σ : St) (H : Hp) (x : V) (v : Value) (Q : Bool → Hp → Prop), Inv X pins σ H s → RelV x v → r x H Q →
    wpAny (model X.prog X.w) X.A (truthy v) (TP X pins σ Q) X.xe s

def tOp (r : R2) (ta tb : TE) : TE := fun σ H Q => ta σ H fun x H1 => tb σ H1 fun y H2 => r x y H2 Q
def tUn (r : V → Hp → VK → Prop) (ta : TE) : TE := fun σ H Q => ta σ H fun x H1 => r x H1 Q
/-- ints in, under C, and a value out -/
def rI (C : Int → Int → Prop) (g : Int → Int → V) : R2 := fun x y H Q => ∃ i j, x = .int i ∧ y = .int j ∧ C i j ∧ Q (g i j) H
def rI0 (g : Int → Int → V) : R2 := fun x y H Q => ∃ i j, x = .int i ∧ y = .int j ∧ Q (g i j) H
def rU (g : Int → V) : V → Hp → VK → Prop := fun x H Q => ∃ i, x = .int i ∧ Q (g i) H

section
variable {X : Cx} {a b c : Expr} {ta tb tc : TE} {pos : Pos}

theorem binT (ha : PE X a ta) (hb : PE X b tb) {pins : List (Addr × Obj)} {s : Shared} {σ : St} {H : Hp} {R : V → V → Hp → Prop} (I : Inv X pins σ H s)
    (h : ta σ H fun x H1 => tb σ H1 fun y H2 => R x y H2) {Q : Value → Shared → Prop} {f : Value → Value → Sem Value}
    (hf : ∀ v u s2 x y H2, Inv X pins σ H2 s2 → RelV x v → RelV y u → R x y H2 → wpAny (model X.prog X.w) X.A (f v u) Q X.xe s2) :
    wpAny (model X.prog X.w) X.A (eval a X.env) (fun v s₁ => wpAny (model X.prog X.w) X.A (eval b X.env) (fun u s₂ => wpAny (model X.prog X.w) X.A (f v u) Q X.xe s₂) X.xe s₁) X.xe s := by
  refine thn (ha pins s σ H _ I h) fun v s1 ⟨x, H1, I1, r1, q1⟩ => ?_
  refine thn (hb pins s1 σ H1 _ I1 q1) fun u s2 ⟨y, H2, I2, r2, q2⟩ => ?_
  exact hf v u s2 x y H2 I2 r1 r2 q2

theorem pe_op {op : Operator} {r : R2} (ho : OpR X (binaryOp op) r) (ha : PE X a ta) (hb : PE X b tb) : PE X (.BinOp a op b pos) (tOp r ta tb) := by
  intro pins s σ H Q I h
  exact wpAny_BinOp (binT ha hb I h fun v u s2 x y H2 I2 rx ry q => ho pins s2 σ H2 x y v u Q I2 rx ry q)
theorem pe_un {op : UnaryOp} {r : V → Hp → VK → Prop} (ho : UnR X (unaryOp op) r) (ha : PE X a ta) : PE X (.UnaryOp op a pos) (tUn r ta) := by
  intro pins s σ H Q I h
  exact UnaryOp_ (thn (ha pins s σ H _ I h) fun v s1 ⟨x, H1, I1, r1, q1⟩ => ho pins s1 σ H1 x v Q I1 r1 q1)

/-! ### ints -/
theorem opI {f : Value → Value → Sem Value} {C : Int → Int → Prop} {g : Int → Int → Int}
    (rule : ∀ (i j : Int) (t u : Tok) (s : Shared) (Q : Value → Shared → Prop) (E : Value → Shared → Prop), C i j → Q (.int (g i j) s.toks) { s with toks := s.toks + 1 } → wpAny (model X.prog X.w) X.A (f (.int i t) (.int j u)) Q E s) :
    OpR X f (rI C fun i j => .int (g i j)) := by
  intro pins s σ H x y v u Q I rx ry h
  obtain ⟨i, j, rfl, rfl, hc, q⟩ := h
  obtain ⟨t, rfl⟩ := rx
  obtain ⟨t', rfl⟩ := ry
  exact rule i j t t' s _ _ hc ⟨.int (g i j), H, I.tok _, ⟨_, rfl⟩, q⟩
theorem opI0 {f : Value → Value → Sem Value} {g : Int → Int → Int}
    (rule : ∀ (i j : Int) (t u : Tok) (s : Shared) (Q : Value → Shared → Prop) (E : Value → Shared → Prop), Q (.int (g i j) s.toks) { s with toks := s.toks + 1 } → wpAny (model X.prog X.w) X.A (f (.int i t) (.int j u)) Q E s) :
    OpR X f (rI0 fun i j => .int (g i j)) := by
  intro pins s σ H x y v u Q I rx ry h
  obtain ⟨i, j, rfl, rfl, q⟩ := h
  obtain ⟨t, rfl⟩ := rx
  obtain ⟨t', rfl⟩ := ry
  exact rule i j t t' s _ _ ⟨.int (g i j), H, I.tok _, ⟨_, rfl⟩, q⟩
theorem opB0 {f : Value → Value → Sem Value} {g : Int → Int → Bool}
    (rule : ∀ (i j : Int) (t u : Tok) (s : Shared) (Q : Value → Shared → Prop) (E : Value → Shared → Prop), Q (.bool (g i j)) s → wpAny (model X.prog X.w) X.A (f (.int i t) (.int j u)) Q E s) :
    OpR X f (rI0 fun i j => .bl (g i j)) := by
  intro pins s σ H x y v u Q I rx ry h
  obtain ⟨i, j, rfl, rfl, q⟩ := h
  obtain ⟨t, rfl⟩ := rx
  obtain ⟨t', rfl⟩ := ry
  exact rule i j t t' s _ _ ⟨.bl (g i j), H, I, rfl, q⟩

def CDiv (i j : Int) : Prop := 0 < j ∧ j < 1073741824
def CDivN (i j : Int) : Prop := j ≠ 0 ∧ j.natAbs < 1073741824
def CPow (i j : Int) : Prop := 0 ≤ j ∧ j ≤ 1000000 ∧ i.natAbs < 2 ^ 64
def CMul (i j : Int) : Prop := (-(2 ^ 64) < i ∧ i < 2 ^ 64) ∨ (-(2 ^ 64) < j ∧ j < 2 ^ 64)
theorem CMul.ok {i j : Int} (h : CMul i j) : IntMulOk i j := by
  rcases h with ⟨h1, h2⟩ | ⟨h1, h2⟩
  · exact .of_left (intBits_le_64 h1 h2)
  · exact .of_right (intBits_le_64 h1 h2)

theorem op_add : OpR X (binaryOp .Add) (rI0 fun i j => .int (i + j)) := opI0 fun _ _ _ _ _ _ _ q => add_int q
theorem op_sub : OpR X (binaryOp .Sub) (rI0 fun i j => .int (i - j)) := opI0 fun _ _ _ _ _ _ _ q => sub_int q
theorem op_mul : OpR X (binaryOp .Mult) (rI CMul fun i j => .int (i * j)) := opI fun _ _ _ _ _ _ _ hc q => mul_int q hc.ok
/-- // by a positive divisor -/
theorem op_fdiv : OpR X (binaryOp .FloorDiv) (rI CDiv fun i j => .int (i / j)) := opI fun i j _ _ _ _ _ hc q => by
  have h1 : (0 : Int) < j := hc.1
  have h2 : j < 1073741824 := hc.2
  exact floordiv_int (by omega) (by rw [Int.fdiv_eq_ediv_of_nonneg i (by omega)]; exact q) (.inl (PyProof.noPylong_small (by omega)))
/-- % by a positive divisor of any size -/
theorem op_mod : OpR X (binaryOp .Mod) (rI (fun _ j => 0 < j) fun i j => .int (i % j)) := opI fun i j _ _ _ _ _ hc q => by
  have h1 : (0 : Int) < j := hc
  exact mod_int' (by omega) (by rw [Int.fmod_eq_emod_of_nonneg i (by omega)]; exact q)


theorem unI {f : Value → Sem Value} {g : Int → Int}
    (rule : ∀ (i : Int) (t : Tok) (s : Shared) (Q : Value → Shared → Prop) (E : Value → Shared → Prop), Q (.int (g i) s.toks) { s with toks := s.toks + 1 } → wpAny (model X.prog X.w) X.A (f (.int i t)) Q E s) :
    UnR X f (rU fun i => .int (g i)) := by
  intro pins s σ H x v Q I rx h
  obtain ⟨i, rfl, q⟩ := h
  obtain ⟨t, rfl⟩ := rx
  exact rule i t s _ _ ⟨.int (g i), H, I.tok _, ⟨_, rfl⟩, q⟩
theorem un_neg : UnR X (unaryOp .USub) (rU fun i => .int (-i)) := unI fun _ _ _ _ _ q => neg_int q

/-! ### bools among ints: n += (a < b) -/
end

/-! ### comparisons -/
/-- the scalars that == tells apart as data does -/
def scal : V → V → Bool
  | .non, .non => true | .non, .int _ => true | .int _, .non => true | .non, .bl _ => true | .bl _, .non => true | .non, .str _ => true | .str _, .non => true
  | .int _, .int _ => true | .bl _, .bl _ => true | .str _, .str _ => true | .byt _, .byt _ => true
  | .int _, .str _ => true | .str _, .int _ => true | .bl _, .str _ => true | .str _, .bl _ => true
  | _, _ => false
def rEq : R2 := fun x y H Q => scal x y = true ∧ Q (.bl (decide (x = y))) H
def rNe : R2 := fun x y H Q => scal x y = true ∧ Q (.bl (!decide (x = y))) H

theorem dec_int {i j : Int} : decide (V.int i = V.int j) = (i == j) := by
  rw [Bool.eq_iff_iff]
  simp
theorem dec_bl {i j : Bool} : decide (V.bl i = V.bl j) = (i == j) := by
  rw [Bool.eq_iff_iff]
  simp
theorem dec_str {i j : Str} : decide (V.str i = V.str j) = (i == j) := by
  rw [Bool.eq_iff_iff]
  simp
theorem dec_byt {i j : Array UInt8} : decide (V.byt i = V.byt j) = (i.toList == j.toList) := by
  rw [Bool.eq_iff_iff]
  cases i
  cases j
  simp

section
variable {X : Cx} {a b c : Expr} {ta tb tc : TE} {pos : Pos}
theorem fin_bl {pins : List (Addr × Obj)} {σ : St} {H : Hp} {s : Shared} {Q : VK} {k k' : Bool} (I : Inv X pins σ H s) (q : Q (.bl k) H) (e : k = k') : EP X pins σ Q (.bool k') s := by
  subst e
  exact ⟨.bl k, H, I, rfl, q⟩
theorem op_eq : OpR X (compareOp .Eq) rEq := by
  intro pins s σ H x y v u Q I rx ry h
  obtain ⟨hs, q⟩ := h
  cases x with
  | non =>
    cases rx
    cases y with
    | non => cases ry; exact PySem.EqNone.eq_none_none (fin_bl I q (by simp))
    | bl j => cases ry; exact PySem.EqNone.eq_none_bool (fin_bl I q (by simp))
    | int j => obtain ⟨t', rfl⟩ := ry; exact PySem.EqNone.eq_none_int (fin_bl I q (by simp))
    | str j => obtain ⟨t', rfl⟩ := ry; exact PySem.EqNone.eq_none_str (fin_bl I q (by simp))
    | _ => exact absurd (show false = true from hs) Bool.false_ne_true
  | bl i =>
    cases rx
    cases y with
    | non => cases ry; exact PySem.EqNone.eq_bool_none (fin_bl I q (by simp))
    | bl j => cases ry; exact eq_bool (fin_bl I q dec_bl)
    | str j => obtain ⟨t', rfl⟩ := ry; exact PySem.EqMixed.eq_bool_str (fin_bl I q (by simp))
    | _ => exact absurd (show false = true from hs) Bool.false_ne_true
  | int i =>
    obtain ⟨t, rfl⟩ := rx
    cases y with
    | non => cases ry; exact PySem.EqNone.eq_int_none (fin_bl I q (by simp))
    | int j => obtain ⟨t', rfl⟩ := ry; exact eq_int (fin_bl I q dec_int)
    | str j => obtain ⟨t', rfl⟩ := ry; exact PySem.EqMixed.eq_int_str (fin_bl I q (by simp))
    | _ => exact absurd (show false = true from hs) Bool.false_ne_true
  | str i =>
    obtain ⟨t, rfl⟩ := rx
    cases y with
    | non => cases ry; exact PySem.EqNone.eq_str_none (fin_bl I q (by simp))
    | bl j => cases ry; exact PySem.EqMixed.eq_str_bool (fin_bl I q (by simp))
    | int j => obtain ⟨t', rfl⟩ := ry; exact PySem.EqMixed.eq_str_int (fin_bl I q (by simp))
    | str j => obtain ⟨t', rfl⟩ := ry; exact eq_str (fin_bl I q dec_str)
    | _ => exact absurd (show false = true from hs) Bool.false_ne_true
  | byt i =>
    obtain ⟨t, rfl⟩ := rx
    cases y with
    | byt j => obtain ⟨t', rfl⟩ := ry; exact PySem.W.eq_bytes (fin_bl I q dec_byt)
    | _ => exact absurd (show false = true from hs) Bool.false_ne_true
  | _ => cases y <;> exact absurd (show false = true from hs) Bool.false_ne_true
theorem op_ne : OpR X (compareOp .NotEq) rNe := by
  intro pins s σ H x y v u Q I rx ry h
  obtain ⟨hs, q⟩ := h
  cases x with
  | non =>
    cases rx
    cases y with
    | non => cases ry; exact PySem.EqNone.ne_none_none (fin_bl I q (by simp))
    | bl j => cases ry; exact PySem.EqNone.ne_none_bool (fin_bl I q (by simp))
    | int j => obtain ⟨t', rfl⟩ := ry; exact PySem.EqNone.ne_none_int (fin_bl I q (by simp))
    | str j => obtain ⟨t', rfl⟩ := ry; exact PySem.EqNone.ne_none_str (fin_bl I q (by simp))
    | _ => exact absurd (show false = true from hs) Bool.false_ne_true
  | bl i =>
    cases rx
    cases y with
    | non => cases ry; exact PySem.EqNone.ne_bool_none (fin_bl I q (by simp))
    | bl j => cases ry; exact ne_bool (fin_bl I q (congrArg not dec_bl))
    | str j => obtain ⟨t', rfl⟩ := ry; exact PySem.EqMixed.ne_bool_str (fin_bl I q (by simp))
    | _ => exact absurd (show false = true from hs) Bool.false_ne_true
  | int i =>
    obtain ⟨t, rfl⟩ := rx
    cases y with
    | non => cases ry; exact PySem.EqNone.ne_int_none (fin_bl I q (by simp))
    | int j => obtain ⟨t', rfl⟩ := ry; exact ne_int (fin_bl I q (congrArg not dec_int))
    | str j => obtain ⟨t', rfl⟩ := ry; exact PySem.EqMixed.ne_int_str (fin_bl I q (by simp))
    | _ => exact absurd (show false = true from hs) Bool.false_ne_true
  | str i =>
    obtain ⟨t, rfl⟩ := rx
    cases y with
    | non => cases ry; exact PySem.EqNone.ne_str_none (fin_bl I q (by simp))
    | bl j => cases ry; exact PySem.EqMixed.ne_str_bool (fin_bl I q (by simp))
    | int j => obtain ⟨t', rfl⟩ := ry; exact PySem.EqMixed.ne_str_int (fin_bl I q (by simp))
    | str j => obtain ⟨t', rfl⟩ := ry; exact ne_str (fin_bl I q (congrArg not dec_str))
    | _ => exact absurd (show false = true from hs) Bool.false_ne_true
  | byt i =>
    obtain ⟨t, rfl⟩ := rx
    cases y with
    | byt j => obtain ⟨t', rfl⟩ := ry; exact PySem.W.ne_bytes (fin_bl I q (congrArg not dec_byt))
    | _ => exact absurd (show false = true from hs) Bool.false_ne_true
  | _ => cases y <;> exact absurd (show false = true from hs) Bool.false_ne_true

theorem op_lt : OpR X (compareOp .Lt) (rI0 fun i j => .bl (decide (i < j))) := opB0 fun _ _ _ _ _ _ _ q => lt_int q
theorem op_le : OpR X (compareOp .LtE) (rI0 fun i j => .bl (decide (i ≤ j))) := opB0 fun _ _ _ _ _ _ _ q => le_int q
theorem op_gt : OpR X (compareOp .Gt) (rI0 fun i j => .bl (decide (j < i))) := opB0 fun _ _ _ _ _ _ _ q => gt_int q

/-- is None, is not None: the right side a value none -/
theorem op_isN : OpR X (compareOp .Is) (fun x y H Q => y = .non ∧ Q (.bl (decide (x = .non))) H) := by
  intro pins s σ H x y v u Q I rx ry h
  obtain ⟨rfl, q⟩ := h
  cases ry
  refine is_none_gen (fin_bl I q ?_)
  cases x <;> first
    | (cases rx; rfl)
    | (obtain ⟨t, rfl⟩ := rx; rfl)
theorem op_notN : OpR X (compareOp .IsNot) (fun x y H Q => y = .non ∧ Q (.bl (!decide (x = .non))) H) := by
  intro pins s σ H x y v u Q I rx ry h
  obtain ⟨rfl, q⟩ := h
  cases ry
  refine isnot_none_gen (fin_bl I q ?_)
  cases x <;> first
    | (cases rx; rfl)
    | (obtain ⟨t, rfl⟩ := rx; rfl)

/-- is, is not of two objects that are tracked lists or instances -/
def isObj : HO → Bool
  | .lst _ => true
  | .ins _ _ _ => true
  | _ => false


theorem nomark (b : Expr) {op : CmpOp} (h : op ≠ .In := by decide) (h2 : op ≠ .NotIn := by decide) : behindInMarks op b = false := by
  have e1 : (op == CmpOp.In) = false := by cases op <;> first | rfl | exact absurd rfl h
  have e2 : (op == CmpOp.NotIn) = false := by cases op <;> first | rfl | exact absurd rfl h2
  cases b <;> simp [behindInMarks, e1, e2]
/-- a comparison as a value; hm: nomark b, or (for in, not in) by with_unfolding_all rfl -/
theorem pe_cmpR {op : CmpOp} {r : R2} (ho : OpR X (compareOp op) r) (ha : PE X a ta) (hb : PE X b tb) (hm : behindInMarks op b = false) : PE X (.Compare a [op] [b] pos) (tOp r ta tb) := by
  intro pins s σ H Q I h
  exact wpAny_Compare1 (binT ha hb I h fun v u s2 x y H2 I2 rx ry q => ho pins s2 σ H2 x y v u Q I2 rx ry q) hm
/-- a reading of a value as a test -/
def tTest (t : TE) : TT := fun σ H Q => t σ H fun x H' => ∃ k, x = .bl k ∧ Q k H'
theorem pt_cmpR {op : CmpOp} {r : R2} (ho : OpR X (compareOp op) r) (ha : PE X a ta) (hb : PE X b tb) (hm : behindInMarks op b = false) : PT X (.Compare a [op] [b] pos) (tTest (tOp r ta tb)) := by
  intro pins s σ H Q I h
  refine wpAny_isTrue_Compare1 (thn (ha pins s σ H _ I h) fun v s1 ⟨x, H1, I1, r1, q1⟩ => thn (hb pins s1 σ H1 _ I1 q1) fun u s2 ⟨y, H2, I2, r2, q2⟩ =>
    thn (ho pins s2 σ H2 x y v u _ I2 r1 r2 q2) fun c s3 ⟨z, H3, I3, r3, k, e, q3⟩ => ?_) hm
  subst e
  cases r3
  exact wpAny_truthy_bool ⟨H3, I3, q3⟩
/-- a op1 b op2 c -/
def tChain (r r' : R2) (ta tb tc : TE) : TE := fun σ H Q => ta σ H fun x H1 => tb σ H1 fun y H2 => r x y H2 fun z H3 => ∃ k, z = .bl k ∧
  (if k = true then tc σ H3 fun w' H4 => r' y w' H4 Q else Q (.bl false) H3)
theorem pe_chain {op op' : CmpOp} {r r' : R2} (ho : OpR X (compareOp op) r) (ho' : OpR X (compareOp op') r') (ha : PE X a ta) (hb : PE X b tb) (hc : PE X c tc)
    (hm : lastMarks [op, op'] [b, c] = false := by with_unfolding_all rfl) : PE X (.Compare a [op, op'] [b, c] pos) (tChain r r' ta tb tc) := by
  intro pins s σ H Q I h
  refine Compare_chain (thn (ha pins s σ H _ I h) fun v s1 ⟨x, H1, I1, r1, q1⟩ => chain_link (thn (hb pins s1 σ H1 _ I1 q1) fun u s2 ⟨y, H2, I2, r2, q2⟩ =>
    thn (ho pins s2 σ H2 x y v u _ I2 r1 r2 q2) fun d s3 ⟨z, H3, I3, r3, k, e, q3⟩ => ?_)) hm
  subst e
  cases r3
  refine wpAny_truthy_bool ?_
  cases k with
  | false => exact ite_ff ⟨.bl false, H3, I3, rfl, q3⟩
  | true => exact ite_tt (chain_last (thn (hc pins s3 σ H3 _ I3 q3) fun w' s4 ⟨z', H4, I4, r4, q4⟩ => ho' pins s4 σ H4 y z' u w' Q I4 r2 r4 q4))
theorem pt_chain {op op' : CmpOp} {r r' : R2} (ho : OpR X (compareOp op) r) (ho' : OpR X (compareOp op') r') (ha : PE X a ta) (hb : PE X b tb) (hc : PE X c tc)
    (hm : lastMarks [op, op'] [b, c] = false := by with_unfolding_all rfl) : PT X (.Compare a [op, op'] [b, c] pos) (tTest (tChain r r' ta tb tc)) := by
  intro pins s σ H Q I h
  refine isTrue_chain (thn (ha pins s σ H _ I h) fun v s1 ⟨x, H1, I1, r1, q1⟩ => test_link (thn (hb pins s1 σ H1 _ I1 q1) fun u s2 ⟨y, H2, I2, r2, q2⟩ =>
    thn (ho pins s2 σ H2 x y v u _ I2 r1 r2 q2) fun d s3 ⟨z, H3, I3, r3, k, e, q3⟩ => ?_)) hm
  subst e
  cases r3
  refine wpAny_truthy_bool ?_
  cases k with
  | false =>
    obtain ⟨k', e', q'⟩ := q3
    cases e'
    exact ite_ff ⟨H3, I3, q'⟩
  | true =>
    refine ite_tt (test_last (thn (hc pins s3 σ H3 _ I3 q3) fun w' s4 ⟨z', H4, I4, r4, q4⟩ => thn (ho' pins s4 σ H4 y z' u w' _ I4 r2 r4 q4) fun d' s5 ⟨z2, H5, I5, r5, k2, e2, q5⟩ => ?_))
    subst e2
    cases r5
    exact wpAny_truthy_bool ⟨H5, I5, q5⟩

/-! ### truth -/
/-- a value's truth by the abstract heap -/
def TruV (K : PySem.W.Frag) (x : V) (H : Hp) (k : Bool) : Prop :=
  match x with
  | .non => k = false
  | .bl b => k = b
  | .int i => k = (i != 0)
  | .str y => y.length ≤ sizeLine ∧ k = ((y.length : Int) != 0)
  | .byt y => y.size ≤ sizeLine ∧ k = ((y.size : Int) != 0)
  | .ref p => (∃ xs, SqL K H p xs ∧ k = !xs.isEmpty) ∨ (∃ xs, SqT K H p xs ∧ k = !xs.isEmpty) ∨ ∃ kvs, H p = some (.dK kvs) ∧ k = !kvs.isEmpty
  | _ => False
theorem line63 : (sizeLine : Nat) < 2 ^ 63 := by rw [sizeLine_eq]; decide

/-! ### strs and bytes -/

def PlainIxT (b : Expr) : Prop := ∀ o i, subscripted b false o i = operate [o, i] (getItem o i)

/-! ### scalar builtins, by CallR -/
theorem vals1 {x : V} {us : List Value} (r : Vals [x] us) : ∃ u, us = [u] ∧ RelV x u := by
  cases r with
  | cons r1 r2 => cases r2; exact ⟨_, rfl, r1⟩
theorem call_abs : CallR X (.builtin "abs") (fun xs H Q => ∃ i, xs = [.int i] ∧ Q (.int (if i < 0 then -i else i)) H) := by
  intro pins s σ H xs us Q I r h
  obtain ⟨i, rfl, q⟩ := h
  obtain ⟨u, rfl, t, rfl⟩ := vals1 r
  exact call_abs_int fun u tk => ⟨.int (if i < 0 then -i else i), H, I.tok _, ⟨_, rfl⟩, q⟩
/-- len of a str, a bytes, a list, a tuple -/
def LenV (K : PySem.W.Frag) (x : V) (H : Hp) (n : Nat) : Prop :=
  match x with
  | .str y => y.length ≤ sizeLine ∧ n = y.length
  | .byt y => y.size ≤ sizeLine ∧ n = y.size
  | .ref p => (∃ xs, SqL K H p xs ∧ n = xs.length) ∨ ∃ xs, SqT K H p xs ∧ n = xs.length
  | _ => False
end
end L2

namespace L2
open PySem PySem.Spec PyProof.Rows

/-! ### an instance, its attributes a map -/
structure ObjM (h : Heap) (x dx C : Addr) (mA : Str → Option Value) : Prop where
  obj : h.get? x = some (PySem.W.instObj C dx)
  ns : h.Ns1 dx mA
  ne : dx ≠ x

theorem lookIn_ns {h : Heap} {dx : Addr} {mA : Str → Option Value} (n : h.Ns1 dx mA) : ∃ od, h.get? dx = some od ∧ ∀ name, PySem.W.lookIn name od = some (mA name) := by
  obtain ⟨o, es, ep, ho, hd, hk, _, hm⟩ := n
  refine ⟨o, ho, fun name => ?_⟩
  have e := hm name
  unfold nsFind findBy at e
  rw [← Array.find?_toList] at e
  unfold PySem.W.lookIn
  rw [hd]
  dsimp only
  split
  · rename_i y q
    rw [q] at e
    exact congrArg some e
  · rename_i q
    rw [q] at e
    have a : es.toList.any (·.refKey) = false := by
      rw [List.any_eq_false]
      intro y hy
      obtain ⟨z, t, hkey⟩ := hk y (Array.mem_toList_iff.mp hy)
      simp [DictEntry.refKey, hkey]
    have a' : ¬ es.toList.any (·.refKey) = true := by rw [a]; exact Bool.false_ne_true
    rw [if_neg a']
    exact congrArg some e

theorem ObjM.look {h : Heap} {x dx C : Addr} {mA : Str → Option Value} (I : ObjM h x dx C mA) : ∃ od, PySem.W.InstAt h x (PySem.W.instObj C dx) C (some od) ∧ ∀ name, PySem.W.lookIn name od = some (mA name) :=
  let ⟨od, ho, hl⟩ := lookIn_ns I.ns
  ⟨od, ⟨I.obj, rfl, rfl, ho⟩, hl⟩

section
variable {prog : Program} {w : World} {A : Around} {E : Value → Shared → Prop} {s : Shared} {K : PySem.W.Frag} {x dx C f : Addr} {mA : Str → Option Value} {name : Str} {v : Value}

theorem get_map {expr : Bool} {Q : Value → Shared → Prop} (X : K.In s.heap) (I : ObjM s.heap x dx C mA) (hg : PySem.W.plainGet K C name = true) (hh : PySem.W.hasDictIn K C = true)
    (ha : PySem.W.findIn K (.ref C) name = some none) (hv : mA name = some v) (hv' : PySem.W.handedIn v = true) (h : Q v { s with toks := s.toks + 1 }) :
    wpAny (model prog w) A (getAttr (.ref x) name expr) Q E s := by
  obtain ⟨od, J, hl⟩ := I.look
  exact PySem.W.get_value X J (PySem.W.plainGet_of hg).1 (PySem.W.findObj_own hh ha rfl (by rw [hl, hv])) hv' h



theorem set_map {ns : List Str} {Q : Unit → Shared → Prop} (X : K.In s.heap) (I : ObjM s.heap x dx C mA)
    (hs : PySem.W.findIn K (.ref C) "__setattr__" = some (some (.builtin "object.__setattr__"))) (hp : PySem.W.plainOver K C = true) (ht : PySem.W.takerIn K C name = some none) (hh : PySem.W.hasDictIn K C = true)
    (hw : PySem.Within mA ns) (hsz : ns.length ≤ sizeLine)
    (h : ∀ h', ObjM h' x dx C (fun y => if y = name then some v else mA y) → Heap.SameBut dx s.heap h' → Q () { s with heap := h', toks := s.toks + 2 }) :
    wpAny (model prog w) A (setAttr (.ref x) name v) Q E s := by
  obtain ⟨od, J, hl⟩ := I.look
  refine PySem.W.set_plain X J hs (PySem.W.osa_open (s := { s with toks := s.toks + 1 }) (r := none) X J hp ht fun b => ?_)
  obtain ⟨cd, hc, hd'⟩ := PySem.W.any_some hh
  have hx : s.heap.get? x = some ⟨.ref C, some dx, .plain, #[]⟩ := I.obj
  refine wpAny_bind (wpAny_pure (wpAny_bind (wpAny_bind (wpAny_loadPart hx (wpAny_bind (PySem.W.Looks.here (s := { s with toks := s.toks + 1 }) (PySem.W.looks_clsIn X hc) ?_))))))
  rw [hd']
  refine wpAny_pure (a := some dx) (wpAny_bind (wpAny_pure (wpAny_bind ?_)))
  refine wpAny_nsSet1 (s := { s with toks := s.toks + 1 }) I.ns fun h' hn2 hs2 => ?_
  obtain ⟨oD, esD, epD, hoD, hdD, hcD⟩ := hn2.count (PySem.Within.cons name v hw)
  refine wpAny_bind (wpAny_lookBehind hoD (by rw [hdD]; exact pastItsLine_dict (Nat.le_trans hcD (by rw [List.length_cons]; omega))) ?_)
  exact wpAny_pure (h _ ⟨(hs2.2 _ (Ne.symm I.ne)).trans I.obj, hn2, I.ne⟩ hs2)

/-- C(..): the dict at the heap's end, the instance behind it; then its __init__ -/
theorem make_map {R : Result → Shared → Prop} {vs : List Value} {kw : List (Str × Value)} (X : K.In s.heap) (hm : PySem.W.makesIn K C = true)
    (hi : PySem.W.findIn K (.ref C) "__init__" = some (some (.ref f))) (hf : PySem.W.typeIn K (.ref f) = some (.type "function"))
    (h : codeAny (model prog w) (A.under (.builtin "type.__call__" ⟨.ref C :: vs, kw⟩)) (.call (.ref f) ⟨.ref (s.heap.objs.size + 1) :: vs, kw⟩) (PySem.W.InitBack (s.heap.objs.size + 1) R)
      { s with heap := (s.heap.push PySem.W.emptyDict).push (PySem.W.instObj C s.heap.objs.size) }) :
    codeAny (model prog w) A (.call (.ref C) ⟨vs, kw⟩) R s := by
  obtain ⟨hh, g, d, t, os⟩ := s
  exact PySem.W.make_core (PySem.W.makes_of X hm) (PySem.W.looks_findIn X hi) (fun self => PySem.W.bind_fn X self hf) (.inl rfl) h
end

/-! ### the attributes as a list of pairs -/
def putF (f : Str) (v : V) : List (Str × V) → List (Str × V)
  | [] => [(f, v)]
  | (g, x) :: r => if g = f then (g, v) :: r else (g, x) :: putF f v r
theorem lookup_putF (f g : Str) (v : V) : ∀ fs : List (Str × V), (putF f v fs).lookup g = if g = f then some v else fs.lookup g
  | [] => by
    show List.lookup g [(f, v)] = _
    by_cases h : g = f
    · have hb : (g == f) = true := beq_iff_eq.mpr h
      simp only [List.lookup, hb, if_pos h]
    · have hb : (g == f) = false := beq_eq_false_iff_ne.mpr h
      simp only [List.lookup, hb, if_neg h]
  | (k, x) :: r => by
    have ih := lookup_putF f g v r
    rw [show putF f v ((k, x) :: r) = (if k = f then (k, v) :: r else (k, x) :: putF f v r) from rfl]
    by_cases hk : k = f
    · rw [if_pos hk]
      by_cases h : g = k
      · have hb : (g == k) = true := beq_iff_eq.mpr h
        simp only [List.lookup, hb, if_pos (h.trans hk)]
      · have hb : (g == k) = false := beq_eq_false_iff_ne.mpr h
        simp only [List.lookup, hb, if_neg (fun e : g = f => h (e.trans hk.symm))]
    · rw [if_neg hk]
      by_cases h : g = k
      · have hb : (g == k) = true := beq_iff_eq.mpr h
        simp only [List.lookup, hb, if_neg (fun e : g = f => hk (h.symm.trans e))]
      · have hb : (g == k) = false := beq_eq_false_iff_ne.mpr h
        simp only [List.lookup, hb]
        exact ih
theorem keys_putF (f : Str) (v : V) : ∀ fs : List (Str × V), f ∈ (putF f v fs).map (·.1) ∧ ∀ g, g ∈ fs.map (·.1) → g ∈ (putF f v fs).map (·.1)
  | [] => ⟨by simp [putF], fun g h => by simp at h⟩
  | (k, x) :: r => by
    obtain ⟨i1, i2⟩ := keys_putF f v r
    rw [show putF f v ((k, x) :: r) = (if k = f then (k, v) :: r else (k, x) :: putF f v r) from rfl]
    by_cases hk : k = f
    · rw [if_pos hk]
      subst hk
      exact ⟨by simp, fun g h => by simpa using h⟩
    · rw [if_neg hk]
      refine ⟨?_, fun g h => ?_⟩
      · rw [List.map_cons]
        exact List.mem_cons_of_mem _ i1
      · rw [List.map_cons] at h ⊢
        rcases List.mem_cons.mp h with e | e
        · exact List.mem_cons.mpr (.inl e)
        · exact List.mem_cons_of_mem _ (i2 g e)
theorem length_putF (f : Str) (v : V) : ∀ fs : List (Str × V), (putF f v fs).length ≤ fs.length + 1
  | [] => by simp [putF]
  | (k, x) :: r => by
    have ih := length_putF f v r
    rw [show putF f v ((k, x) :: r) = (if k = f then (k, v) :: r else (k, x) :: putF f v r) from rfl]
    by_cases hk : k = f
    · rw [if_pos hk, List.length_cons, List.length_cons]; omega
    · rw [if_neg hk, List.length_cons, List.length_cons]; omega

theorem RelO.some_of {v : V} {o : Option Value} (r : RelO (some v) o) : ∃ u, o = some u ∧ RelV v u := by
  cases o with
  | none => exact (show False from r).elim
  | some u => exact ⟨u, rfl, r⟩
theorem handed_of {v : V} {u : Value} (r : RelV v u) : PySem.W.handedIn u = true := by
  cases v with
  | non => cases (show u = Value.none from r); rfl
  | bl b => cases (show u = Value.bool b from r); rfl
  | int i => obtain ⟨t, e⟩ := (show ∃ t, u = Value.int i t from r); cases e; rfl
  | str x => obtain ⟨t, e⟩ := (show ∃ t, u = Value.str x t from r); cases e; rfl
  | byt b => obtain ⟨t, e⟩ := (show ∃ t, u = Value.bytes b t from r); cases e; rfl
  | flt b => obtain ⟨t, e⟩ := (show ∃ t, u = Value.float b t from r); cases e; rfl
  | ref a => cases (show u = Value.ref a from r); rfl
  | ty n => cases (show u = Value.type n from r); rfl

section
variable {P : Program} {w : World} {H H' : Hp} {h h' : Heap} {a C dx : Addr} {fs fs' : List (Str × V)}
theorem ins_get (hok : HOk P w H h) (e : H a = some (.ins C dx fs)) : ∃ mA, ObjM h a dx C mA ∧ (∀ f, RelO (fs.lookup f) (mA f)) ∧ PySem.Within mA (fs.map (·.1)) ∧ fs.length ≤ 1000 ∧ H dx = some (.own a) := by
  obtain ⟨d, z, ne, ob, mA, n, r, q⟩ := (show ObjOk P w H h a (.ins C dx fs) from hok a _ e)
  exact ⟨mA, ⟨ob, n, ne⟩, r, q, z, d⟩
end

/-! ### what of the text a class must have -/
structure Cls (K : PySem.W.Frag) (C : Addr) : Prop where
  pg : PySem.W.plainGet K C Str.empty = true
  hd : PySem.W.hasDictIn K C = true
  po : PySem.W.plainOver K C = true
  sa : PySem.W.findIn K (.ref C) "__setattr__" = some (some (.builtin "object.__setattr__"))
theorem Cls.get {K : PySem.W.Frag} {C : Addr} (c : Cls K C) (f : Str) : PySem.W.plainGet K C f = true := c.pg
/-- no class of it has the name -/
def NoAttr (K : PySem.W.Frag) (C : Addr) (f : Str) : Prop := PySem.W.findIn K (.ref C) f = some none
theorem NoAttr.taker {K : PySem.W.Frag} {C : Addr} {f : Str} (n : NoAttr K C f) : PySem.W.takerIn K C f = some none := by
  unfold PySem.W.takerIn
  rw [show PySem.W.findIn K (.ref C) f = some none from n]
  rfl
/-- a constant of the class -/
structure Con (K : PySem.W.Frag) (C : Addr) (f : Str) (v : V) (u : Value) : Prop where
  at_ : PySem.W.findIn K (.ref C) f = some (some u)
  rel : RelV v u
  get : PySem.W.specialIn K u "__get__" = some none
  cp : PySem.W.copiedNames.contains f = false
/-- a method: a plain def of the class or of one above it -/
structure Meth (K : PySem.W.Frag) (C : Addr) (m : Str) (f : Addr) : Prop where
  at_ : PySem.W.findIn K (.ref C) m = some (some (.ref f))
  fn : PySem.W.isFn K (.ref f) = true
  kp : PySem.W.keepIn K (.ref f) = true

section
variable {X : Cx} {pins : List (Addr × Obj)} {σ : St} {H : Hp} {s : Shared} {a C dx : Addr} {fs : List (Str × V)} {f : Str} {v : V} {A : Around} {E : Value → Shared → Prop}

theorem getattr_ok {b : Bool} {Q : Value → Shared → Prop} (I : Inv X pins σ H s) (e : H a = some (.ins C dx fs)) (c : Cls X.K C) (n : NoAttr X.K C f) (l : fs.lookup f = some v)
    (h : ∀ u s', Inv X pins σ H s' → RelV v u → Q u s') : wpAny (model X.prog X.w) A (getAttr (.ref a) f b) Q E s := by
  obtain ⟨mA, O, r, _, _, _⟩ := ins_get I.hok e
  obtain ⟨u, hu, ru⟩ := RelO.some_of (v := v) (o := mA f) (by rw [← l]; exact r f)
  exact get_map I.kIn O (c.get f) c.hd n hu (handed_of ru) (h u _ (I.tok _) ru)



theorem setattr_ok {y : V} {u : Value} {Q : Unit → Shared → Prop} (I : Inv X pins σ H s) (e : H a = some (.ins C dx fs)) (c : Cls X.K C) (n : NoAttr X.K C f) (hl : fs.length < 1000) (ry : RelV y u)
    (h : ∀ s', Inv X pins σ (upd H a (.ins C dx (putF f y fs))) s' → Q () s') : wpAny (model X.prog X.w) A (setAttr (.ref a) f u) Q E s := by
  obtain ⟨mA, O, r, wi, _, ho⟩ := ins_get I.hok e
  have hz : (fs.map (·.1)).length ≤ sizeLine := by rw [List.length_map, sizeLine_eq]; omega
  refine set_map I.kIn O c.sa c.po n.taker c.hd wi hz fun h' O' sb => h _ ?_
  have hd : ∃ o, h'.get? dx = some o := let ⟨o, _, _, e', _⟩ := O'.ns; ⟨o, e'⟩
  refine I.write (x := a) (e := dx) (by rw [e]; exact True.intro) (.inr ho) (fun b q hb z => (sb.2 b hb).trans z) hd ?_
  refine ⟨by rw [upd_ne O.ne]; exact ho, ?_, O.ne, O'.obj, _, O'.ns, fun g => ?_, fun g hg => ?_⟩
  · have := length_putF f y fs; omega
  · show RelO ((putF f y fs).lookup g) (if g = f then some u else mA g)
    rw [lookup_putF]
    by_cases q : g = f
    · rw [if_pos q, if_pos q]; exact ry
    · rw [if_neg q, if_neg q]; exact r g
  · by_cases q : g = f
    · rw [q]; exact (keys_putF f y fs).1
    · refine (keys_putF f y fs).2 g (wi g fun z => hg ?_)
      show (if g = f then some u else mA g) = none
      rw [if_neg q]; exact z

/-- a new instance, tracked, without attributes -/
theorem Inv.made (I : Inv X pins σ H s) : Inv X pins σ (upd (upd H s.heap.objs.size (.own (s.heap.objs.size + 1))) (s.heap.objs.size + 1) (.ins C s.heap.objs.size []))
    { s with heap := (s.heap.push PySem.W.emptyDict).push (PySem.W.instObj C s.heap.objs.size) } := by
  have e1 : (s.heap.push PySem.W.emptyDict).get? s.heap.objs.size = some PySem.W.emptyDict := Heap.get?_push_size s.heap rfl
  have e2 : ((s.heap.push PySem.W.emptyDict).push (PySem.W.instObj C s.heap.objs.size)).get? (s.heap.objs.size + 1) = some (PySem.W.instObj C s.heap.objs.size) := by
    have := Heap.get?_push_size (s.heap.push PySem.W.emptyDict) (o := PySem.W.instObj C s.heap.objs.size) rfl
    rwa [Heap.size_push] at this
  have e3 : (s.heap.push PySem.W.emptyDict).Ns s.heap.objs.size (fun _ => none) := ⟨PySem.W.emptyDict, #[], _, e1, rfl, (fun e he => absurd he (by simp)), fun _ => rfl⟩
  have I1 := I.laid (a := s.heap.objs.size) (o := .own (s.heap.objs.size + 1)) (h' := s.heap.push PySem.W.emptyDict) (t' := s.toks) (fun b u q => Heap.get?_push_of_some _ q) (Nat.le_refl _) ⟨_, e1⟩
  refine I1.laid (a := s.heap.objs.size + 1) (o := .ins C s.heap.objs.size []) (t' := s.toks) (fun b u q => Heap.get?_push_of_some _ q) (Nat.le_of_eq (Heap.size_push _ _)) ?_
  have ne : s.heap.objs.size ≠ s.heap.objs.size + 1 := Nat.ne_of_lt (Nat.lt_succ_self _)
  refine ⟨by rw [upd_ne ne, upd_same], Nat.zero_le _, ne, e2, fun _ => none, (Heap.Ns1.of_empty e3).at fun o q => Heap.get?_push_of_some _ q, fun _ => True.intro, fun y hy => absurd rfl hy⟩

/-- e.f where nothing but the object is asked: through attributeBase (super) and the last hold -/
theorem attr_of {prog : Program} {w : World} {env : Env} {e : Expr} {f : Str} {pos : Pos} {s : Shared} {Q : Value → Shared → Prop} (hb : attributeBase e f env (eval e env) = eval e env)
    (h : wpAny (model prog w) A (eval e env) (fun o s₁ => wpAny (model prog w) A (getAttr o f true) Q E s₁) E s) : wpAny (model prog w) A (eval (.Attribute e f pos) env) Q E s :=
  Attribute_any_ h (by rw [arm_eval_Attribute, hb])
end

/-! ### readings and rules -/
/-- e.f, an attribute of the instance -/
def tFld (K : PySem.W.Frag) (ta : TE) (f : Str) : TE := fun σ H Q => ta σ H fun x H1 => ∃ a C dx fs v, x = .ref a ∧ H1 a = some (.ins C dx fs) ∧ Cls K C ∧ NoAttr K C f ∧ fs.lookup f = some v ∧ Q v H1
/-- e.f, a constant of the class -/
def tCon (K : PySem.W.Frag) (ta : TE) (f : Str) : TE := fun σ H Q => ta σ H fun x H1 => ∃ a C dx fs v u, x = .ref a ∧ H1 a = some (.ins C dx fs) ∧ Cls K C ∧ Con K C f v u ∧ fs.lookup f = none ∧ Q v H1
/-- e.f = value -/
def sFld (K : PySem.W.Frag) (ta tv : TE) (f : Str) : TS := fun D σ H => tv σ H fun y H1 => ta σ H1 fun x H2 => ∃ a C dx fs, x = .ref a ∧ H2 a = some (.ins C dx fs) ∧ Cls K C ∧ NoAttr K C f ∧ fs.length < 1000 ∧
  D.nx σ (upd H2 a (.ins C dx (putF f y fs)))
/-- an augmented operator on two values -/
def InOp (X : Cx) (op : Operator) (rd : V → V → Hp → VK → Prop) : Prop :=
  ∀ (pins : List (Addr × Obj)) (s : Shared) (σ : St) (H : Hp) (x y : V) (u v : Value) (Q : VK), Inv X pins σ H s → RelV x u → RelV y v → rd x y H Q → wpAny (model X.prog X.w) X.A (inplaceOp op u v) (EP X pins σ Q) X.xe s
/-- e.f op= value -/
def sFldAug (K : PySem.W.Frag) (ta tv : TE) (rd : V → V → Hp → VK → Prop) (f : Str) : TS := fun D σ H => ta σ H fun x H1 => ∃ a C dx fs v, x = .ref a ∧ H1 a = some (.ins C dx fs) ∧ Cls K C ∧ NoAttr K C f ∧ fs.lookup f = some v ∧
  tv σ H1 fun y H2 => rd v y H2 fun z H3 => ∃ dx' fs', H3 a = some (.ins C dx' fs') ∧ fs'.length < 1000 ∧ D.nx σ (upd H3 a (.ins C dx' (putF f z fs')))

section
variable {X : Cx} {o e value : Expr} {f : Str} {pos pos' tpos : Pos} {ta tv : TE}
theorem pe_fld (he : PE X e ta) (hb : attributeBase e f X.env (eval e X.env) = eval e X.env) : PE X (.Attribute e f pos) (tFld X.K ta f) := by
  intro pins s σ H Q I h
  refine attr_of hb (thn (he pins s σ H _ I h) fun u s1 ⟨x, H1, I1, rx, a, C, dx, fs, v, ex, ea, c, n, l, q⟩ => ?_)
  subst ex
  obtain rfl : u = Value.ref a := rx
  exact getattr_ok I1 ea c n l fun u' s2 I2 ru => ⟨v, H1, I2, ru, q⟩
theorem ps_fld (ha : PE X o ta) (hv : PE X value tv) (hs : swapsWith value (some (.Attribute o f pos')) pos.line X.env = pure false) : PS X (.Assign [.Attribute o f pos'] value pos) (sFld X.K ta tv f) := by
  intro pins s σ H D I h
  refine plainObj_wpAny_Assign_Attribute (thn (hv pins s σ H _ I h) fun u s1 ⟨y, H1, I1, ry, q⟩ => thn (ha pins s1 σ H1 _ I1 q) fun ov s2 ⟨x, H2, I2, rx, a, C, dx, fs, ex, ea, c, n, l, q2⟩ => ?_) hs
  subst ex
  obtain rfl : ov = Value.ref a := rx
  exact setattr_ok I2 ea c n l ry fun s3 I3 => ⟨σ, _, I3, q2⟩
def rAdd : V → V → Hp → VK → Prop := fun x y H Q => ∃ i j, x = .int i ∧ y = .int j ∧ Q (.int (i + j)) H
def rSub : V → V → Hp → VK → Prop := fun x y H Q => ∃ i j, x = .int i ∧ y = .int j ∧ Q (.int (i - j)) H

end

/-! ### isinstance -/
section
variable {X : Cx} {pins : List (Addr × Obj)} {σ : St} {H : Hp} {s : Shared} {A : Around} {E : Value → Shared → Prop} {Q : Value → Shared → Prop} {c : Value} {b : Bool}
/-- the type of a value, as the fragment's deciders take it; for an instance its class -/
inductive TyOf (K : PySem.W.Frag) (H : Hp) : V → Value → Prop where
  | non : TyOf K H .non (.type "NoneType")
  | bl (x : Bool) : TyOf K H (.bl x) (.type "bool")
  | int (i : Int) : TyOf K H (.int i) (.type "int")
  | str (x : Str) : TyOf K H (.str x) (.type "str")
  | flt (x : UInt64) : TyOf K H (.flt x) (.type "float")
  | lst {a : Addr} {xs : List V} (e : H a = some (.lst xs)) : TyOf K H (.ref a) (.type "list")
  | frz {a : Addr} {o : Obj} {xs : List V} (e : H a = some (.frz o (.lst xs))) : TyOf K H (.ref a) (.type "list")
  | tup {a : Addr} {xs : List V} (e : H a = some (.tup xs)) : TyOf K H (.ref a) (.type "tuple")
  | dK {a : Addr} {kvs : List (Key × V)} (e : H a = some (.dK kvs)) : TyOf K H (.ref a) (.type "dict")
  | dT {a : Addr} {kvs : List (List Key × V)} (e : H a = some (.dT kvs)) : TyOf K H (.ref a) (.type "dict")
  | ins {a C dx : Addr} {fs : List (Str × V)} (e : H a = some (.ins C dx fs)) (cl : Cls K C) (ha : PySem.W.findIn K (.ref C) "__class__" = some (some (.builtin "object.__class__")))
      (hn : PySem.W.specialIn K (.builtin "object.__class__") "__get__" = some (some (.builtin "getset_descriptor.__get__"))) (htk : PySem.W.takesIn K (.builtin "object.__class__") = some true)
      (hm : PySem.W.mroIn K C (.type "object") = some true) : TyOf K H (.ref a) (.ref C)
/-- isinstance(x, c) for one class c, a built-in or an own one: kitOne's answer -/
theorem isinst_ok {x : V} {u t : Value} (I : Inv X pins σ H s) (rx : RelV x u) (ty : TyOf X.K H x t) (e : PySem.W.kitOne X.K t c = some b) (h : ∀ tk, Q (.bool b) { s with toks := tk }) :
    wpAny (model X.prog X.w) A (call (.builtin "isinstance") [u, c]) Q E s := by
  cases ty with
  | non => cases (show u = Value.none from rx); exact PySem.W.kia_one PySem.W.kitx_none I.kIn True.intro e (fun z => nomatch z) h
  | bl y => cases (show u = Value.bool y from rx); exact PySem.W.kia_one PySem.W.kitx_bool I.kIn True.intro e (fun z => nomatch z) h
  | int i => obtain ⟨t, q⟩ := (show ∃ t, u = Value.int i t from rx); cases q; exact PySem.W.kia_one PySem.W.kitx_int I.kIn True.intro e (fun z => nomatch z) h
  | str y => obtain ⟨t, q⟩ := (show ∃ t, u = Value.str y t from rx); cases q; exact PySem.W.kia_one PySem.W.kitx_str I.kIn True.intro e (fun z => nomatch z) h
  | flt y => obtain ⟨t, q⟩ := (show ∃ t, u = Value.float y t from rx); cases q; exact PySem.W.kia_one PySem.W.kitx_float I.kIn True.intro e (fun z => nomatch z) h
  | @lst a xs ea =>
    cases (show u = Value.ref a from rx)
    obtain ⟨_, _, n, _, h1⟩ := (show ObjOk X.prog X.w H s.heap a (.lst xs) from I.hok a _ ea)
    exact PySem.W.kia_one PySem.W.kitx_list I.kIn ⟨_, h1, rfl⟩ e (fun z => nomatch z) h
  | @frz a ob xs ea =>
    cases (show u = Value.ref a from rx)
    obtain ⟨_, _, _, n, _, h1⟩ := (show ObjOk X.prog X.w H s.heap a (.frz ob (.lst xs)) from I.hok a _ ea)
    exact PySem.W.kia_one PySem.W.kitx_list I.kIn ⟨_, h1, rfl⟩ e (fun z => nomatch z) h
  | @tup a xs ea =>
    cases (show u = Value.ref a from rx)
    obtain ⟨_, _, _, p⟩ := (show ObjOk X.prog X.w H s.heap a (.tup xs) from I.hok a _ ea)
    obtain ⟨o, h1, h2, _⟩ := p
    exact PySem.W.kia_one PySem.W.kitx_tuple I.kIn ⟨o, h1, h2⟩ e (fun z => nomatch z) h
  | @dK a kvs ea =>
    cases (show u = Value.ref a from rx)
    obtain ⟨_, _, vs, _, p⟩ := (show ObjOk X.prog X.w H s.heap a (.dK kvs) from I.hok a _ ea)
    obtain ⟨o, es, ep, h1, h2, _⟩ := p
    exact PySem.W.kia_one PySem.W.kitx_dict I.kIn ⟨o, h1, h2.1⟩ e (fun z => nomatch z) h
  | @dT a kvs ea =>
    cases (show u = Value.ref a from rx)
    obtain ⟨_, _, xs, _, o, es, ep, h1, h2, _⟩ := (show ObjOk X.prog X.w H s.heap a (.dT kvs) from I.hok a _ ea)
    exact PySem.W.kia_one PySem.W.kitx_dict I.kIn ⟨o, h1, h2.1⟩ e (fun z => nomatch z) h
  | @ins a C dx fs ea cl ha hn htk hm =>
    cases (show u = Value.ref a from rx)
    obtain ⟨mA, O, _⟩ := ins_get I.hok ea
    obtain ⟨od, J, _⟩ := O.look
    exact PySem.W.kia_one (PySem.W.kitx_own (cl.get _) cl.hd ha hn htk hm) I.kIn J e (fun z => nomatch z) h
end
end L2

namespace L2
open PySem PySem.Spec PyProof.Rows

/-! ### room -/
structure Room (k : Nat) (A : Around) : Prop where
  hd : A.handled = none
  dp : A.depth + 3 * k + 5 < recursionLimit
  un : A.units + 16 * k + 200 < cLine
theorem Room.mono {j k : Nat} {A : Around} (r : Room k A) (h : j ≤ k) : Room j A := ⟨r.hd, by have := r.dp; omega, by have := r.un; omega⟩
theorem Room.deeper {k : Nat} {A : Around} (r : Room (k + 1) A) (env : Env) : Room k (A.deeper env) :=
  ⟨r.hd, by have := r.dp; show A.depth + 1 + 3 * k + 5 < _; omega, by have := r.un; show A.units + 3 + 16 * k + 200 < _; omega⟩
theorem make_depth {A : Around} {C : Addr} {us : List Value} {kw : List (Str × Value)} : (A.under (.builtin "type.__call__" ⟨.ref C :: us, kw⟩)).depth = A.depth + 1 := by
  first | rfl | simp [Around.under, Code.weight, Code.isCreation, Code.isGuard, Code.isCaller, Code.frames, Code.isFrame, guardIds]
theorem make_units {A : Around} {C : Addr} {us : List Value} {kw : List (Str × Value)} : (A.under (.builtin "type.__call__" ⟨.ref C :: us, kw⟩)).units = A.units + 1 := by
  first | rfl | simp [Around.under, Code.cUnits, Code.frames, Code.isFrame]
theorem Room.make {k : Nat} {A : Around} (r : Room (k + 1) A) (C : Addr) (us : List Value) (kw : List (Str × Value)) : Room k (A.under (.builtin "type.__call__" ⟨.ref C :: us, kw⟩)) :=
  ⟨r.hd, by have := r.dp; rw [make_depth]; omega, by have := r.un; rw [make_units]; omega⟩
theorem Room.depth {k : Nat} {A : Around} (r : Room k A) : A.depth < recursionLimit := by have := r.dp; omega
theorem Room.units {k : Nat} {A : Around} (r : Room k A) : A.units + 64 < cLine := by have := r.un; omega

/-! ### argument lists and displays -/
def tNil : TA := fun _ H Q => Q [] H
def tCons (ta : TE) (tr : TA) : TA := fun σ H Q => ta σ H fun x H1 => tr σ H1 fun xs H2 => Q (x :: xs) H2
section
variable {X : Cx} {e : Expr} {es : List Expr} {te : TE} {t : TA} {pos : Pos}
theorem pa_nil : PA X [] tNil := fun _ _ _ _ H Q I h => Calls.spliced_nil ⟨[], H, I, .nil, h⟩
theorem pa_cons (ha : PE X e te) (hr : PA X es t) (hs : starEach (e :: es) X.env = (false, eval e X.env) :: starEach es X.env := by rfl) : PA X (e :: es) (tCons te t) := by
  intro pos pins s σ H Q I h
  rw [hs]
  show wpAny _ _ (spliced ((false, eval e X.env) :: backTo pos (starEach es X.env))) _ _ s
  refine Calls.spliced_cons (thn (ha pins s σ H _ I h) fun u s1 ⟨x, H1, I1, r1, q1⟩ => ?_)
  exact thn (hr pos pins s1 σ H1 _ I1 q1) fun us s2 ⟨xs, H2, I2, r2, q2⟩ => ⟨x :: xs, H2, I2, .cons r1 r2, q2⟩

/-- a tuple, a list of written items -/
def tTup (t : TA) : TE := fun σ H Q => t σ H fun xs H1 => xs.length ≤ sizeLine ∧ ∀ p, H1 p = none → Q (.ref p) (upd H1 p (.tup xs))
def tLst (t : TA) : TE := fun σ H Q => t σ H fun xs H1 => xs.length ≤ sizeLine ∧ ∀ p, H1 p = none → Q (.ref p) (upd H1 p (.lst xs))
theorem pe_tup {x1} (h : PA X es t) : PE X (.Tuple es x1 pos) (tTup t) := by
  intro pins s σ H Q I hq
  refine wpAny_Tuple_spliced (thn (h pos pins s σ H _ I hq) fun us s1 ⟨xs, H1, I1, r, z, q⟩ => ⟨by rw [← r.length]; exact z, ?_⟩)
  have hf : H1 s1.heap.objs.size = none := I1.hok.fresh (Nat.le_refl _)
  refine ⟨.ref s1.heap.objs.size, upd H1 s1.heap.objs.size (.tup xs), I1.laid (t' := s1.toks) (fun b u e => Heap.get?_push_of_some _ e) (Nat.le_refl _) ?_, rfl, q _ hf⟩
  exact ⟨z, us, r, ⟨_, Heap.get?_push_size _ rfl, rfl, _, rfl⟩⟩
theorem pe_lst (h : PA X es t) : PE X (.List es pos) (tLst t) := by
  intro pins s σ H Q I hq
  refine wpAny_List_spliced (thn (h pos pins s σ H _ I hq) fun us s1 ⟨xs, H1, I1, r, z, q⟩ => ⟨by rw [← r.length]; exact z, ?_⟩)
  have hf : H1 s1.heap.objs.size = none := I1.hok.fresh (Nat.le_refl _)
  refine ⟨.ref s1.heap.objs.size, upd H1 s1.heap.objs.size (.lst xs), I1.laid (t' := s1.toks) (fun b u e => Heap.get?_push_of_some _ e) (Nat.le_refl _) ?_, rfl, q _ hf⟩
  exact ⟨z, us, 0, r, Heap.get?_push_size _ rfl⟩
end

/-! ### what a def promises -/
/-- a def's promise: the bound arguments in the parameters' order, the heap, the wanted end, the wanted exception -/
abbrev Sp := List V → Hp → VK → XK → Prop
/-- how an exception lies behind a call (file 08 gives it): the callers' frames, abstract heap and state ahead of the call, the wish, the exception, the state -/
abbrev CXT := List Env → Hp → Shared → XK → Value → Shared → Prop

/-- the state at a call -/
structure Env0 (P : Program) (w : World) (K : PySem.W.Frag) (mg : Str → Option Value) (base : Heap) (A : Around) (outer : List Env) (s : Shared) (H : Hp) : Prop where
  frames : A.frames = some outer
  mod : Mod K mg base
  bs : ∀ b o, base.get? b = some o → s.heap.get? b = some o ∧ H b = none
  bsz : base.objs.size ≤ s.heap.objs.size
  funs : s.heap.FunFrames base outer
  frf : ∀ b ∈ frs outer, H b = none
  hok : HOk P w H s.heap
  bare : AllBare s.gens
/-- a call's end -/
def CE (outer : List Env) (P : Program) (w : World) (H : Hp) (s : Shared) (Q : VK) (u : Value) (s' : Shared) : Prop :=
  ∃ v H', s'.os = s.os ∧ AllBare s'.gens ∧ Un (frs outer) [] H H' s.heap s'.heap ∧ HOk P w H' s'.heap ∧ RelV v u ∧ Q v H'
def CR (CX : CXT) (outer : List Env) (P : Program) (w : World) (H : Hp) (s : Shared) (Q : VK) (E : XK) (r : Result) (s' : Shared) : Prop :=
  match r with
  | .ok (.ret u) => CE outer P w H s Q u s'
  | .ok _ => False
  | .error e => CX outer H s E e s'
structure FnOk (P : Program) (w : World) (K : PySem.W.Frag) (mg : Str → Option Value) (base : Heap) (CX : CXT) (k : Nat) (f : Addr) (fd : FuncData) (ps : List Str) (sp : Sp) : Prop where
  len : ∀ vs H Q E, sp vs H Q E → vs.length = ps.length
  run : ∀ (A : Around) (outer : List Env) (s : Shared) (H : Hp) (args : Args) (us : List Value) (vs : List V) (Q : VK) (E : XK), Room k A → Env0 P w K mg base A outer s H → BindsTo s fd args (ps.zip us) → Vals vs us → sp vs H Q E →
    codeAny (model P w) A (.call (.ref f) args) (CR CX outer P w H s Q E) s
/-- a weaker promise -/
theorem FnOk.imp {P : Program} {w : World} {K : PySem.W.Frag} {mg : Str → Option Value} {base : Heap} {CX : CXT} {k : Nat} {f : Addr} {fd : FuncData} {ps : List Str} {sp sp' : Sp} (F : FnOk P w K mg base CX k f fd ps sp)
    (h : ∀ vs H Q E, sp' vs H Q E → sp vs H Q E) : FnOk P w K mg base CX k f fd ps sp' :=
  ⟨fun vs H Q E q => F.len vs H Q E (h _ _ _ _ q), fun A outer s H args us vs Q E hr he hb hv hs => F.run A outer s H args us vs Q E hr he hb hv (h _ _ _ _ hs)⟩

theorem Env0.make {P : Program} {w : World} {K : PySem.W.Frag} {mg : Str → Option Value} {base : Heap} {A : Around} {outer : List Env} {s : Shared} {H : Hp} (e : Env0 P w K mg base A outer s H) (C : Addr) (us : List Value) (kw : List (Str × Value)) :
    Env0 P w K mg base (A.under (.builtin "type.__call__" ⟨.ref C :: us, kw⟩)) outer s H := ⟨by first | exact e.frames | (simpa [Around.under, Code.envs, Code.isFrame, pushEnvs] using e.frames), e.mod, e.bs, e.bsz, e.funs, e.frf, e.hok, e.bare⟩

section
variable {X : Cx} {pins : List (Addr × Obj)} {σ : St} {H : Hp} {s s' : Shared}
/-- from a body: what a callee wants -/
theorem Inv.env0 (I : Inv X pins σ H s) : Env0 X.prog X.w X.K X.mg X.base X.A X.stack s H :=
  ⟨I.ok.frames, I.ok.mod, I.bs, Nat.le_trans I.ok.bsz I.sz, I.stack, I.stkFree, I.hok, I.bare⟩
/-- behind a call -/
theorem Inv.after {Q : VK} {u : Value} (I : Inv X pins σ H s) (h : CE X.stack X.prog X.w H s Q u s') : EP X pins σ Q u s' := by
  obtain ⟨v, H', os, bare, un, hok, r, q⟩ := h
  obtain ⟨hh, g, d, t, os'⟩ := s'
  obtain rfl : os' = s.os := os
  exact ⟨v, H', I.call (h' := hh) (g' := g) (d' := d) (t' := t) (ch := []) un hok bare (fun b z => absurd z (by simp)), r, q⟩
end

/-! ### calls -/
/-- f(..): the written arguments, then the defaults dvs; E: what is wanted of an exception -/
def tCall (sp : Sp) (dvs : List V) (E : XK) (t : TA) : TE := fun σ H Q => t σ H fun vs H1 => sp (vs ++ dvs) H1 Q E
/-- o.m(..) of an instance of the class at C -/
def tMeth (C : Addr) (m : Str) (sp : Sp) (dvs : List V) (E : XK) (ta : TE) (t : TA) : TE := fun σ H Q => ta σ H fun x H1 => ∃ a dx fs, x = .ref a ∧ H1 a = some (.ins C dx fs) ∧ fs.lookup m = none ∧
  t σ H1 fun vs H2 => sp (x :: (vs ++ dvs)) H2 Q E
/-- C(..): a new instance and its dict, then __init__ -/
def tMake (C : Addr) (sp : Sp) (dvs : List V) (E : XK) (t : TA) : TE := fun σ H Q => t σ H fun vs H1 => ∀ x dx, H1 x = none → H1 dx = none → dx ≠ x →
  sp (.ref x :: (vs ++ dvs)) (upd (upd H1 dx (.own x)) x (.ins C dx [])) (fun v H2 => v = .non ∧ Q (.ref x) H2) E

/-- how the parameters are bound: us the positional arguments, kw the keywords' values by name, ds the defaults that fill up -/
def Binds (K : PySem.W.Frag) (fd : FuncData) (ps : List Str) (ds : List Value) : Prop :=
  ∀ (s : Shared) (us : List Value), K.In s.heap → (us ++ ds).length = ps.length → BindsTo s fd ⟨us, []⟩ (ps.zip (us ++ ds))
/-- every parameter is given -/
theorem Binds.all {K : PySem.W.Frag} {fd : FuncData} {ps : List Str} (h : ∀ us : List Value, us.length = ps.length → bindArgs fd ⟨us, []⟩ = pure (ps.zip us)) : Binds K fd ps [] := fun s us _ hl => by
  rw [List.append_nil] at hl ⊢
  exact .of_eq (h us hl)

/-- an exception of a callee reaches what this body wants of exceptions -/
def Passes (CX : CXT) (X : Cx) (E : XK) : Prop := ∀ (pins : List (Addr × Obj)) (σ : St) (H : Hp) (s : Shared) (e : Value) (s' : Shared), Inv X pins σ H s → CX X.stack H s E e s' → X.xe e s'

section
variable {X : Cx} {CX : CXT} {k : Nat} {f C : Addr} {fd : FuncData} {ps : List Str} {sp : Sp} {dvs : List V} {ds : List Value} {E : XK} {x m : Str} {p pos apos : Pos} {e o : Expr} {es : List Expr} {ta : TE} {t : TA}

/-- the callee runs -/
theorem run_fn {pins : List (Addr × Obj)} {σ : St} {H : Hp} {s : Shared} {Q : VK} {us : List Value} {vs : List V} (F : FnOk X.prog X.w X.K X.mg X.base CX k f fd ps sp) (hr : Room k X.A) (hb : Binds X.K fd ps ds) (hd : Vals dvs ds) (hx : Passes CX X E)
    (I : Inv X pins σ H s) (r : Vals vs us) (h : sp (vs ++ dvs) H Q E) : wpAny (model X.prog X.w) X.A (call (.ref f) us) (EP X pins σ Q) X.xe s := by
  have r2 : Vals (vs ++ dvs) (us ++ ds) := r.append hd
  have hl : (us ++ ds).length = ps.length := by rw [← r2.length]; exact F.len _ _ _ _ h
  refine wpAny_call (codeAny_mono (F.run X.A X.stack s H ⟨us, []⟩ (us ++ ds) (vs ++ dvs) Q E hr I.env0 (hb s us I.kIn hl) r2 h) fun r s' hq => ?_)
  cases r with
  | error e => exact hx pins σ H s e s' I hq
  | ok fl =>
    cases fl with
    | ret u => exact I.after hq
    | next => exact False.elim hq
    | brk => exact False.elim hq
    | cont => exact False.elim hq

theorem pe_call (F : FnOk X.prog X.w X.K X.mg X.base CX k f fd ps sp) (hr : Room k X.A) (hg : Gl X x) (hm : X.mg x = some (.ref f)) (hk : PySem.W.keepIn X.K (.ref f) = true) (hb : Binds X.K fd ps ds) (hd : Vals dvs ds) (hx : Passes CX X E)
    (ha : PA X (e :: es) t) (hdb : (x == ("__debug__" : Str)) = false := by decide) (he : starEach (e :: es) X.env = (false, eval e X.env) :: starEach es X.env := by rfl) (hpl : (backTo pos (starEach es X.env)).any (·.1) = false := by rfl) :
    PE X (.Call (.Name x p) (e :: es) [] pos) (tCall sp dvs E t) := by
  intro pins s σ H Q I h
  refine wpAny_Call_Name_kw (ld_glob I hg hm ?_ hdb)
  refine PySem.W.callWith_K (h₀ := X.base) I.ok.mod.kin hk (thn (ha pos pins s σ H _ I h) fun us s1 ⟨vs, H1, I1, r, q⟩ => ⟨I1.kIn, ?_⟩) he hpl
  exact run_fn F hr hb hd hx I1 r q


/-- what a class must have to be made -/
structure Mk (K : PySem.W.Frag) (C f : Addr) : Prop where
  makes : PySem.W.makesIn K C = true
  init : PySem.W.findIn K (.ref C) "__init__" = some (some (.ref f))
  fn : PySem.W.isFn K (.ref f) = true
  kp : PySem.W.keepIn K (.ref C) = true

theorem run_make {pins : List (Addr × Obj)} {σ : St} {H : Hp} {s : Shared} {Q : VK} {us : List Value} {vs : List V} (M : Mk X.K C f) (F : FnOk X.prog X.w X.K X.mg X.base CX k f fd ps sp) (hr : Room (k + 1) X.A) (hb : Binds X.K fd ps ds) (hd : Vals dvs ds)
    (hx : Passes CX X E) (I : Inv X pins σ H s) (r : Vals vs us)
    (h : ∀ x dx, H x = none → H dx = none → dx ≠ x → sp (.ref x :: (vs ++ dvs)) (upd (upd H dx (.own x)) x (.ins C dx [])) (fun v H2 => v = .non ∧ Q (.ref x) H2) E) :
    wpAny (model X.prog X.w) X.A (call (.ref C) us) (EP X pins σ Q) X.xe s := by
  have hq := h (s.heap.objs.size + 1) s.heap.objs.size (I.hok.fresh (Nat.le_succ _)) (I.hok.fresh (Nat.le_refl _)) (Nat.ne_of_lt (Nat.lt_succ_self _))
  have I2 := Inv.made (C := C) I
  have r2 : Vals (V.ref (s.heap.objs.size + 1) :: (vs ++ dvs)) (Value.ref (s.heap.objs.size + 1) :: (us ++ ds)) := .cons rfl (r.append hd)
  have hl : (Value.ref (s.heap.objs.size + 1) :: us ++ ds).length = ps.length := by
    have e := r2.length
    rw [F.len _ _ _ _ hq] at e
    exact e.symm
  refine wpAny_call (make_map (f := f) I.kIn M.makes M.init (beq_iff_eq.mp M.fn) (codeAny_mono (F.run _ X.stack _ _ ⟨Value.ref (s.heap.objs.size + 1) :: us, []⟩ (Value.ref (s.heap.objs.size + 1) :: (us ++ ds)) _ _ E (hr.make C us [])
    (I2.env0.make C us []) (hb _ (Value.ref (s.heap.objs.size + 1) :: us) I2.kIn hl) r2 hq) fun r s' hq' => ?_))
  cases r with
  | error e => exact hx pins σ _ _ e s' I2 hq'
  | ok fl =>
    cases fl with
    | ret u =>
      obtain ⟨v, H', I3, rv, ev, q3⟩ := I2.after hq'
      subst ev
      exact ⟨rv, ⟨V.ref (s.heap.objs.size + 1), H', I3, rfl, q3⟩⟩
    | next => exact False.elim hq'
    | brk => exact False.elim hq'
    | cont => exact False.elim hq'
theorem pe_make (M : Mk X.K C f) (F : FnOk X.prog X.w X.K X.mg X.base CX k f fd ps sp) (hr : Room (k + 1) X.A) (hg : Gl X x) (hm : X.mg x = some (.ref C)) (hb : Binds X.K fd ps ds) (hd : Vals dvs ds) (hx : Passes CX X E)
    (ha : PA X (e :: es) t) (hdb : (x == ("__debug__" : Str)) = false := by decide) (he : starEach (e :: es) X.env = (false, eval e X.env) :: starEach es X.env := by rfl) (hpl : (backTo pos (starEach es X.env)).any (·.1) = false := by rfl) :
    PE X (.Call (.Name x p) (e :: es) [] pos) (tMake C sp dvs E t) := by
  intro pins s σ H Q I h
  refine wpAny_Call_Name_kw (ld_glob I hg hm ?_ hdb)
  refine PySem.W.callWith_K (h₀ := X.base) I.ok.mod.kin M.kp (thn (ha pos pins s σ H _ I h) fun us s1 ⟨vs, H1, I1, r, q⟩ => ⟨I1.kIn, ?_⟩) he hpl
  exact run_make M F hr hb hd hx I1 r q
end

/-! ### keywords -/
/-- the values of the keywords, from the left -/
def PK (X : Cx) (kws : List Keyword) (t : TA) : Prop :=
  ∀ (pos : Pos) (pins : List (Addr × Obj)) (s : Shared) (σ : St) (H : Hp) (Q : List V → Hp → Prop), Inv X pins σ H s → t σ H Q → wpAny (model X.prog X.w) X.A (evalAll ((backToKw pos (keywordEach kws X.env)).map (·.2))) (AP X pins σ Q) X.xe s
section
variable {X : Cx} {CX : CXT} {k : Nat} {f C : Addr} {fd : FuncData} {ps ks : List Str} {sp : Sp} {E : XK} {x m : Str} {p pos apos kpos : Pos} {e o : Expr} {es : List Expr} {kws : List Keyword} {te ta : TE} {t tk : TA} {nm : Option Str}

/-- how a call with keywords binds: g puts the positional values us and the keywords' values ws (names ks) in the parameters' order, defaults among them -/
structure KBinds (K : PySem.W.Frag) (fd : FuncData) (ps ks : List Str) (g : List Value → List Value → List Value) (gV : List V → List V → List V) : Prop where
  to : ∀ (s : Shared) (us ws : List Value), K.In s.heap → (g us ws).length = ps.length → BindsTo s fd ⟨us, ks.zip ws⟩ (ps.zip (g us ws))
  rel : ∀ {vs : List V} {us : List Value} {zs : List V} {ws : List Value}, Vals vs us → Vals zs ws → Vals (gV vs zs) (g us ws)
def tCallK (sp : Sp) (gV : List V → List V → List V) (E : XK) (t tk : TA) : TE := fun σ H Q => t σ H fun vs H1 => tk σ H1 fun zs H2 => sp (gV vs zs) H2 Q E
variable {g : List Value → List Value → List Value} {gV : List V → List V → List V}
end

/-! ### a def's body keeps its promise -/
/-- names: the parameters first -/
structure FnScope (N P : List Str) (sc : Scope) : Prop where
  kind : sc.kind = .function
  co : sc.isCoroutine = false
  gen : sc.isGenerator = false
  nd : N.Nodup
  pre : N.take P.length = P
  par : ∀ x ∈ P, sc.names.lookup x = some .local ∨ sc.names.lookup x = some .cell
  nofree : ∀ y ∈ sc.names, y.2 ≠ .free

theorem bindL_out {kindOf : Str → Option NameKind} {x : Str} : ∀ {binds : List (Str × Value)} {m : Str → Option Value}, (∀ v, (x, v) ∉ binds) → bindL kindOf binds m x = m x
  | [], _, _ => rfl
  | (n, v) :: r, m, h => by
    unfold bindL
    rw [bindL_out fun w hw => h w (List.mem_cons_of_mem _ hw)]
    split
    · have : x ≠ n := by rintro rfl; exact h v List.mem_cons_self
      simp [this]
    · rfl
theorem bindC_out {kindOf : Str → Option NameKind} {x : Str} : ∀ {binds : List (Str × Value)} {m : Str → Option Value}, (∀ v, (x, v) ∉ binds) → bindC kindOf binds m x = m x
  | [], _, _ => rfl
  | (n, v) :: r, m, h => by
    unfold bindC
    rw [bindC_out fun w hw => h w (List.mem_cons_of_mem _ hw)]
    split
    · rfl
    · have : x ≠ n := by rintro rfl; exact h v List.mem_cons_self
      simp [this]
theorem bindL_get {kindOf : Str → Option NameKind} {x : Str} {v : Value} : ∀ {P : List Str} {vs : List Value} {i : Nat} {m : Str → Option Value}, P.Nodup → P[i]? = some x → vs[i]? = some v → kindOf x = some .local →
    bindL kindOf (P.zip vs) m x = some v
  | [], _, _, _, _, h, _, _ => by simp at h
  | _ :: _, [], _, _, _, _, h, _ => by simp at h
  | p :: P, w :: vs, 0, m, nd, h1, h2, hk => by
    simp at h1 h2; subst h1; subst h2
    show bindL kindOf ((p, w) :: P.zip vs) m p = _
    unfold bindL
    rw [bindL_out fun v hv => (List.nodup_cons.mp nd).1 (List.of_mem_zip hv).1, if_pos hk]
    simp
  | p :: P, w :: vs, i + 1, m, nd, h1, h2, hk => by
    show bindL kindOf ((p, w) :: P.zip vs) m x = _
    unfold bindL
    exact bindL_get (i := i) (List.nodup_cons.mp nd).2 (by simpa using h1) (by simpa using h2) hk
theorem bindC_get {kindOf : Str → Option NameKind} {x : Str} {v : Value} : ∀ {P : List Str} {vs : List Value} {i : Nat} {m : Str → Option Value}, P.Nodup → P[i]? = some x → vs[i]? = some v → kindOf x ≠ some .local →
    bindC kindOf (P.zip vs) m x = some v
  | [], _, _, _, _, h, _, _ => by simp at h
  | _ :: _, [], _, _, _, _, h, _ => by simp at h
  | p :: P, w :: vs, 0, m, nd, h1, h2, hk => by
    simp at h1 h2; subst h1; subst h2
    show bindC kindOf ((p, w) :: P.zip vs) m p = _
    unfold bindC
    rw [bindC_out fun v hv => (List.nodup_cons.mp nd).1 (List.of_mem_zip hv).1, if_neg hk]
    simp
  | p :: P, w :: vs, i + 1, m, nd, h1, h2, hk => by
    show bindC kindOf ((p, w) :: P.zip vs) m x = _
    unfold bindC
    exact bindC_get (i := i) (List.nodup_cons.mp nd).2 (by simpa using h1) (by simpa using h2) hk

/-- the names' values at the entry -/
def start (N : List Str) (vs : List V) : St := vs.map some ++ List.replicate (N.length - vs.length) none

/-- the context of a def's body, at its entry; an exception leaves the frame, then lies as CX says -/
def cxOf (CX : CXT) (P : Program) (w : World) (K : PySem.W.Frag) (mg : Str → Option Value) (base : Heap) (N : List Str) (qual : Str) (scope : Scope) (f : Addr) (cd : Value) (A : Around) (outer : List Env) (s : Shared) (H : Hp) (E : XK) : Cx where
  prog := P
  w := w
  K := K
  mg := mg
  base := base
  A := A.deeper (envOfC qual scope s.heap.objs.size f cd)
  N := N
  s₀ := s
  H₀ := H
  env := envOfC qual scope s.heap.objs.size f cd
  outer := outer
  stack := envOfC qual scope s.heap.objs.size f cd :: outer
  ex := []
  calm := true
  fn := fun _ => true
  pn := []
  xe := fun e s' => wpAny (model P w) (A.deeper (envOfC qual scope s.heap.objs.size f cd)) (leaving (envOfC qual scope s.heap.objs.size f cd) e) (fun _ s'' => CX outer H s E e s'') (fun e' s'' => CX outer H s E e' s'') s'

theorem cell_has {sc : Scope} {n : Nat} {x : Str} (h : sc.names.lookup x = some .cell) : ∃ c, (cellsFrom n sc.names []).lookup x = some c := by
  have q := PySem.W.cellsFrom_some sc.names n [] (.inl h)
  exact Option.isSome_iff_exists.mp q

theorem inv_start {CX : CXT} {P : Program} {w : World} {K : PySem.W.Frag} {mg : Str → Option Value} {base : Heap} {N ps : List Str} {qual : Str} {scope : Scope} {f : Addr} {cd : Value} {A : Around} {outer : List Env} {s s1 : Shared} {H : Hp} {E : XK} {us : List Value} {vs : List V}
    (S : FnScope N ps scope) (hd : A.handled = none) (e0 : Env0 P w K mg base A outer s H) (hl : vs.length = ps.length) (r : Vals vs us)
    (x : InCallC s s.heap.objs.size (bindL (envOfC qual scope s.heap.objs.size f cd).kindOf (ps.zip us) fun _ => none) (cellsFrom (s.heap.objs.size + 1) scope.names []) (bindC (envOfC qual scope s.heap.objs.size f cd).kindOf (ps.zip us) fun _ => none) s1) :
    Inv (cxOf CX P w K mg base N qual scope f cd A outer s H E) [] (start N vs) H s1 := by
  have hpl : ps.length ≤ N.length := by have := congrArg List.length S.pre; rw [List.length_take] at this; omega
  obtain ⟨h1, tk, rfl, hk⟩ := x.done
  have noA : ∀ b : Addr, b ∉ (cxOf CX P w K mg base N qual scope f cd A outer s H E).ex := fun b z => absurd (show b ∈ ([] : List Addr) from z) (by simp)
  refine ⟨⟨e0.mod, S.kind, rfl, rfl, Nat.le_refl _, fun y z c h1 h2 => ?_, fun y hy => ?_, fun y c _ h => ?_, fun _ => hd, Around.frames_deeper e0.frames, .inr ⟨rfl, rfl⟩, fun b z => absurd z (noA b), e0.bs, e0.bsz, fun b _ _ => noA b, fun b z => absurd z (noA b), e0.funs, e0.frf⟩,
    rfl, e0.bare, Un.kept hk, ⟨_, x.toInCall.ns, fun i y v h1 h2 h3 => ?_⟩, fun y c h => ⟨_, x.cell y c h⟩, e0.hok.fresh (Nat.le_refl _), fun y c h => ?_, fun p hp => absurd (show p ∈ ([] : List (Addr × Obj)) from hp) (by simp), e0.hok.kept hk, ?_⟩
  · exact name_of_addr x.apart (PySem.mem_of_lookup h1) (PySem.mem_of_lookup h2)
  · have hy : scope.names.lookup y = some .cell ∨ scope.names.lookup y = some .free := hy
    rcases hy with hy | hy
    · exact cell_has hy
    · exact absurd rfl (S.nofree _ (PySem.mem_of_lookup hy))
  · exact Nat.le_of_lt (x.above y c (PySem.mem_of_lookup h))
  · have hi : i < vs.length := by
      unfold start at h2
      by_cases hi : i < vs.length
      · exact hi
      · rw [List.getElem?_append_right (by simpa using hi)] at h2
        rw [List.getElem?_replicate] at h2
        split at h2 <;> cases h2
    have ha : vs[i]? = some v := by
      unfold start at h2
      rw [List.getElem?_append_left (by simpa using hi), List.getElem?_map] at h2
      cases e : vs[i]? with
      | none => rw [e] at h2; cases h2
      | some a => rw [e] at h2; cases h2; rfl
    obtain ⟨u, hu, rv⟩ := r.get ha
    have hp : ps[i]? = some y := by
      rw [← S.pre, List.getElem?_take_of_lt (by omega)]; exact h1
    have ndP : ps.Nodup := by rw [← S.pre]; exact S.nd.sublist (List.take_sublist _ _)
    refine ⟨u, rv, ?_⟩
    rcases S.par y (List.mem_of_getElem? hp) with k | k
    · exact .inl ⟨k, bindL_get ndP hp hu k⟩
    · obtain ⟨c, e⟩ := cell_has (n := s.heap.objs.size + 1) k
      refine .inr ⟨.inl k, c, e, ?_⟩
      have q := x.cell y c e
      rw [bindC_get ndP hp hu (by show scope.names.lookup y ≠ _; rw [k]; decide)] at q
      exact q
  · exact e0.hok.fresh (Nat.le_of_lt (x.above y c (PySem.mem_of_lookup h)))
  · unfold start
    show _ = N.length
    rw [List.length_append, List.length_map, List.length_replicate]
    omega

/-- THE RULE: a def (or a method) of the text, by its body. The body's reading t is chosen for each entry; it is run at the parameters' values -/
theorem fn_of {CX : CXT} {P : Program} {w : World} {K : PySem.W.Frag} {mg : Str → Option Value} {base : Heap} {k : Nat} {f : Addr} {name qual : Str} {params : Arguments} {body : List Stmt} {scope : Scope} {dV kV doc pm cdv ct oc : Value} {an od : Option Addr}
    {osl : Array (Option Value)} {N ps : List Str} {sp : Sp} (lk : K.lookup f = some ⟨oc, od, .func (PySem.W.fnOf name qual params body scope dV kV doc pm an cdv ct), osl⟩) (hcd : PySem.W.codeIn K cdv qual = true) (S : FnScope N ps scope)
    (len : ∀ vs H Q E, sp vs H Q E → vs.length = ps.length)
    (hbody : ∀ (A : Around) (outer : List Env) (s : Shared) (H : Hp) (vs : List V) (Q : VK) (E : XK), Room k (A.deeper (envOfC qual scope s.heap.objs.size f cdv)) → sp vs H Q E →
      ∃ t, PSs (cxOf CX P w K mg base N qual scope f cdv A outer s H E) body t ∧ t { nx := fun _ H' => Q .non H', rt := Q } (start N vs) H) :
    FnOk P w K mg base CX (k + 1) f (PySem.W.fnOf name qual params body scope dV kV doc pm an cdv ct) ps sp := by
  refine ⟨len, fun A outer s H args us vs Q E hr e0 hb r hsp => ?_⟩
  have hl := len _ _ _ _ hsp
  have KX : K.In s.heap := e0.mod.kin.keeps fun b o e => (e0.bs b o e).1
  have lim : s.heap.NoLimit := e0.mod.nolimit.keeps fun b o e => (e0.bs b o e).1
  have hkind : ∀ y ∈ ps.zip us, scope.names.lookup y.1 = some .local ∨ (scope.names.lookup y.1 = some .cell ∧ ((cellsFrom (s.heap.objs.size + 1) scope.names []).lookup y.1).isSome = true) := fun ⟨n, v⟩ hy => by
    rcases S.par n (List.of_mem_zip hy).1 with q | q
    · exact .inl q
    · exact .inr ⟨q, PySem.W.cellsFrom_some _ _ _ (.inl q)⟩
  refine codeAny_call_function hr.depth (KX _ _ lk) rfl S.co S.gen rfl (PySem.W.codeRec_of KX hcd) (hb _ _ _ _ ?_)
  refine wpAny_newFunctionEnv_cells S.kind hkind fun env he s1 x => ?_
  subst he
  refine ⟨lim.keeps x.toInCall.keep, codeAny_func ?_⟩
  obtain ⟨t, ht, hq⟩ := hbody A outer s H vs Q E (hr.deeper _) hsp
  have I : Inv (cxOf CX P w K mg base N qual scope f cdv A outer s H E) [] (start N vs) H s1 := inv_start S hr.hd e0 hl r x
  refine wpAny_mono (ht [] s1 (start N vs) H _ I hq) (fun fl s' hs => ?_) fun e s' hs => hs
  have fin : ∀ {σ' : St} {H' : Hp} {v : V} {u : Value}, Inv (cxOf CX P w K mg base N qual scope f cdv A outer s H E) [] σ' H' s' → RelV v u → Q v H' → CE outer P w H s Q u s' :=
    fun {σ' H' v u} J rv q => ⟨v, H', J.os, J.bare, J.base, J.hok, rv, q⟩
  cases fl with
  | ret u =>
    obtain ⟨v, σ', H', J, rv, q⟩ := hs
    exact fin J rv q
  | next =>
    obtain ⟨σ', H', J, q⟩ := hs
    exact fin (v := V.non) (u := Value.none) J rfl q
  | brk =>
    obtain ⟨_, _, _, q⟩ := hs
    exact False.elim q
  | cont =>
    obtain ⟨_, _, _, q⟩ := hs
    exact False.elim q
end L2

namespace L2
open PySem PySem.Spec PyProof.Rows
section
variable {X : Cx} {x : Str} {p pos : Pos} {e : Expr} {es : List Expr} {t : TA} {id T : String} {r : List V → Hp → VK → Prop}

def tCB (r : List V → Hp → VK → Prop) (t : TA) : TE := fun σ H Q => t σ H fun vs H1 => r vs H1 Q
/-- f(e, ..), f a built-in function -/
theorem pe_callB (hc : CallR X (.builtin id) r) (hg : Gl X x) (hm : X.mg x = none) (hv : bootBuiltins x = some (.builtin id)) (ha : PA X (e :: es) t) (hn : x ≠ "__name__" := by decide) (hdb : (x == ("__debug__" : Str)) = false := by decide)
    (he : starEach (e :: es) X.env = (false, eval e X.env) :: starEach es X.env := by rfl) (hpl : (backTo pos (starEach es X.env)).any (·.1) = false := by rfl) : PE X (.Call (.Name x p) (e :: es) [] pos) (tCB r t) := by
  intro pins s σ H Q I h
  refine wpAny_Call_Name_kw (ld_blt I hg hm hv ?_ hn hdb)
  exact PyProof.Rows.callWith_builtin1 (thn (ha pos pins s σ H _ I h) fun us s1 ⟨vs, H1, I1, r1, q1⟩ => hc pins s1 σ H1 vs us Q I1 r1 q1) he hpl
/-- T(e, ..), T a built-in type -/
theorem pe_callTy (hc : CallR X (.type T) r) (hg : Gl X x) (hm : X.mg x = none) (hv : bootBuiltins x = some (.type T)) (ha : PA X (e :: es) t) (hn : x ≠ "__name__" := by decide) (hdb : (x == ("__debug__" : Str)) = false := by decide)
    (he : starEach (e :: es) X.env = (false, eval e X.env) :: starEach es X.env := by rfl) (hpl : (backTo pos (starEach es X.env)).any (·.1) = false := by rfl) : PE X (.Call (.Name x p) (e :: es) [] pos) (tCB r t) := by
  intro pins s σ H Q I h
  refine wpAny_Call_Name_kw (ld_blt I hg hm hv ?_ hn hdb)
  exact PyProof.Rows.callWith_type1 (thn (ha pos pins s σ H _ I h) fun us s1 ⟨vs, H1, I1, r1, q1⟩ => hc pins s1 σ H1 vs us Q I1 r1 q1) he hpl
end
end L2

namespace HT
open PySem PyProof.Rows

/-- t < u of tuples of ints -/
def lexLt : List Int → List Int → Bool
  | [], [] => false
  | [], _ :: _ => true
  | _ :: _, [] => false
  | x :: xs, y :: ys => if x = y then lexLt xs ys else decide (x < y)


section
open PySem.SeqAt
open PySem.AutoSeq1 (wpAny_loadPart')
open PySem.MeetsSeq PySem.MeetsSeq2 PySem.MeetsSeq3

end

section
variable {prog : Program} {w : World} {A : Around} {E : Value → Shared → Prop} {s : Shared}



/-! ### t[a:b], not the whole -/
/-- a slice's bound as a place among n (d where it is left out) -/
def sIx (n d : Nat) : Option Int → Nat
  | none => d
  | some v => if v < 0 then (v + (n : Int)).toNat else min v.toNat n

end
end HT

namespace L2
open PySem PySem.Spec PyProof.Rows

/-! ### the parts of a slice -/
abbrev TO := St → Hp → (Option Int → Hp → Prop) → Prop
/-- a slice's part (left out, or an int) -/
def PO (X : Cx) (e : Option Expr) (t : TO) : Prop :=
  ∀ (pins : List (Addr × Obj)) (s : Shared) (σ : St) (H : Hp) (Q : Option Int → Hp → Prop), Inv X pins σ H s → t σ H Q →
    wpAny (model X.prog X.w) X.A (evalPart e X.env) (fun u s' => ∃ o H', Inv X pins σ H' s' ∧ IsPart u o ∧ Q o H') X.xe s
def tNoPart : TO := fun _ H Q => Q none H
def tPart (t : TE) : TO := fun σ H Q => t σ H fun x H1 => ∃ i, x = .int i ∧ Q (some i) H1


section
variable {X : Cx} {e : Expr} {te : TE} {lo hi : Option Expr} {tl th : TO} {pos p2 : Pos}

theorem po_none : PO X none tNoPart := by
  intro pins s σ H Q I h
  rw [evalPart_none]
  exact wpAny_pure ⟨none, H, I, .none, h⟩
theorem po_some (h : PE X e te) : PO X (some e) (tPart te) := by
  intro pins s σ H Q I hw
  rw [evalPart_some]
  refine thn (h pins s σ H _ I hw) fun u s1 ⟨x, H1, I1, r1, q1⟩ => ?_
  obtain ⟨i, rfl, q⟩ := q1
  obtain ⟨t, rfl⟩ := r1
  exact ⟨some i, H1, I1, .int i t, q⟩

/-- what a slice of a value is, by values: the slice object stands at sl -/
def SlR (X : Cx) (r : V → Option Int → Option Int → Hp → VK → Prop) : Prop :=
  ∀ (pins : List (Addr × Obj)) (s : Shared) (σ : St) (H : Hp) (x : V) (v vl vu : Value) (lo hi : Option Int) (sl : Addr) (Q : VK), Inv X pins σ H s → RelV x v → s.heap.IsSliceOf sl vl vu .none → IsPart vl lo → IsPart vu hi → r x lo hi H Q →
    ∃ T id, typeLookup (.type T) "__getitem__" = pure (some (.builtin id)) ∧ s.TypeIs v T ∧ wpAny (model X.prog X.w) X.A (getItem v (.ref sl)) (EP X pins σ Q) X.xe s
def tSl (r : V → Option Int → Option Int → Hp → VK → Prop) (te : TE) (tl th : TO) : TE := fun σ H Q => te σ H fun x H1 => tl σ H1 fun l H2 => th σ H2 fun u H3 => r x l u H3 Q
/-- a[lo:hi], any a -/
theorem pe_slice {r : V → Option Int → Option Int → Hp → VK → Prop} (hr : SlR X r) (he : PE X e te) (hl : PO X lo tl) (hu : PO X hi th) : PE X (.Subscript e (.Slice lo hi none p2) pos) (tSl r te tl th) := by
  intro pins s σ H Q I h
  refine Subscript_ (thn (he pins s σ H _ I h) fun v s1 ⟨x, H1, I1, r1, q1⟩ => ?_)
  refine wpAny_Slice (thn (hl pins s1 σ H1 _ I1 q1) fun vl s2 ⟨l, H2, I2, pl, q2⟩ => thn (hu pins s2 σ H2 _ I2 q2) fun vu s3 ⟨u, H3, I3, pu, q3⟩ => ?_)
  rw [evalPart_none]
  refine wpAny_pure ?_
  have I4 : Inv X pins σ H3 { s3 with heap := s3.heap.push { cls := .type "slice", data := .fields #[vl, vu, .none] } } := I3.kept (t' := s3.toks) fun b ob q => Heap.get?_push_of_some _ q
  obtain ⟨T, id, hT, ht, hg⟩ := hr pins { s3 with heap := s3.heap.push { cls := .type "slice", data := .fields #[vl, vu, .none] } } σ H3 x v vl vu l u s3.heap.objs.size Q I4 r1 (Heap.IsSliceOf.new ..) pl pu q3
  show wpAny (model X.prog X.w) X.A (subscriptTail e (.Slice lo hi none p2) v (.ref s3.heap.objs.size)) (EP X pins σ Q) X.xe { s3 with heap := s3.heap.push { cls := .type "slice", data := .fields #[vl, vu, .none] } }
  exact tail_any (ops := [.ref s3.heap.objs.size, v]) ht hT hg (by with_unfolding_all rfl)

/-- the items of xs[lo:hi] -/
def cutV (xs : List V) (lo hi : Option Int) : List V := (xs.drop (HT.sIx xs.length 0 lo)).take (HT.sIx xs.length xs.length hi - HT.sIx xs.length 0 lo)
theorem cutV_length (xs : List V) (lo hi : Option Int) : (cutV xs lo hi).length ≤ xs.length := by
  unfold cutV
  rw [List.length_take, List.length_drop]
  omega
/-- t[lo:hi], not the whole of it (the whole would be t itself) -/
def rSlT (K : PySem.W.Frag) : V → Option Int → Option Int → Hp → VK → Prop := fun x lo hi H Q => ∃ a xs, x = .ref a ∧ SqT K H a xs ∧
  ¬ (HT.sIx xs.length 0 lo = 0 ∧ HT.sIx xs.length xs.length hi = xs.length) ∧ ∀ p, H p = none → Q (.ref p) (upd H p (.tup (cutV xs lo hi)))

/-! ### t < u, t + u -/
def rLtT (K : PySem.W.Frag) : R2 := fun x y H Q => ∃ a b ns ms, x = .ref a ∧ y = .ref b ∧ SqT K H a (ns.map V.int) ∧ SqT K H b (ms.map V.int) ∧ Q (.bl (HT.lexLt ns ms)) H
/-- t + u, t not empty: u empty gives t itself -/
def rCatT (K : PySem.W.Frag) : R2 := fun x y H Q => ∃ a b xs ys, x = .ref a ∧ y = .ref b ∧ SqT K H a xs ∧ SqT K H b ys ∧ xs ≠ [] ∧ xs.length + ys.length ≤ sizeLine ∧
  (ys = [] → Q (.ref a) H) ∧ (ys ≠ [] → ∀ p, H p = none → Q (.ref p) (upd H p (.tup (xs ++ ys))))
end
end L2

namespace L2
open PySem PySem.Spec PyProof.Rows

/-! ### places -/
/-- the place that an index of any sign means -/
def ixN (n : Nat) (i : Int) : Option Nat := if 0 ≤ i then (if i < n then some i.toNat else none) else if -(n : Int) ≤ i then some (i + n).toNat else none
def atI {α : Type} (xs : List α) (i : Int) : Option α := (ixN xs.length i).bind fun j => xs[j]?
theorem ixN_seq {n : Nat} {i : Int} {j : Nat} (h : ixN n i = some j) : seqIndex? i n = some j ∧ j < n ∧ -(n : Int) ≤ i ∧ i < n := by
  unfold ixN at h
  by_cases h0 : 0 ≤ i
  · rw [if_pos h0] at h
    by_cases h1 : i < n
    · rw [if_pos h1] at h
      have e : i.toNat = j := Option.some.inj h
      exact ⟨by rw [seqIndex_of h0 h1, e], by omega, by omega, h1⟩
    · rw [if_neg h1] at h; cases h
  · rw [if_neg h0] at h
    by_cases h1 : -(n : Int) ≤ i
    · rw [if_pos h1] at h
      have e : (i + n).toNat = j := Option.some.inj h
      exact ⟨by rw [seqIndex_neg (by omega) h1, e], by omega, h1, by omega⟩
    · rw [if_neg h1] at h; cases h
theorem atI_get {α : Type} {xs : List α} {i : Int} {v : α} (h : atI xs i = some v) : ∃ j, seqIndex? i xs.length = some j ∧ xs[j]? = some v ∧ j < xs.length ∧ -(xs.length : Int) ≤ i ∧ i < xs.length := by
  unfold atI at h
  cases e : ixN xs.length i with
  | none => rw [e] at h; cases h
  | some j =>
    rw [e] at h
    obtain ⟨h1, h2, h3, h4⟩ := ixN_seq e
    exact ⟨j, h1, h, h2, h3, h4⟩
theorem atI_nat {α : Type} {xs : List α} {j : Nat} {v : α} (h : xs[j]? = some v) : atI xs (j : Int) = some v := by
  have hj : j < xs.length := (List.getElem?_eq_some_iff.mp h).1
  have e : ixN xs.length (j : Int) = some j := by
    unfold ixN
    rw [if_pos (by omega), if_pos (by omega)]; simp
  unfold atI; rw [e]; exact h

/-! ### what may be subscripted -/
/-- what stands as an index of a plain subscript -/
def PlainIx (b : Expr) : Prop := ∀ o i, subscripted b false o i = operate [o, i] (getItem o i)
/-- a subscript by values -/
def IxR (X : Cx) (r : R2) : Prop :=
  ∀ (value slice : Expr) (pins : List (Addr × Obj)) (s : Shared) (σ : St) (H : Hp) (x y : V) (v u : Value) (Q : VK), Inv X pins σ H s → RelV x v → RelV y u → r x y H Q →
    subscripted slice false v u = operate [v, u] (getItem v u) → wpAny (model X.prog X.w) X.A (subscriptTail value slice v u) (EP X pins σ Q) X.xe s
/-- a call of a builtin's method by values: the receiver, the arguments -/
def MtR (X : Cx) (id : String) (r : V → List V → Hp → VK → Prop) : Prop :=
  ∀ (pins : List (Addr × Obj)) (s : Shared) (σ : St) (H : Hp) (x : V) (xs : List V) (v : Value) (us : List Value) (Q : VK), Inv X pins σ H s → RelV x v → Vals xs us → r x xs H Q →
    wpAny (model X.prog X.w) X.A (call (.builtin id) (v :: us)) (EP X pins σ Q) X.xe s
section
variable {X : Cx} {a b : Expr} {ta tb : TE} {pos : Pos}
/-- a[b] -/
theorem pe_ix {r : R2} (hr : IxR X r) (ha : PE X a ta) (hb : PE X b tb) (hs : PlainIx b) : PE X (.Subscript a b pos) (tOp r ta tb) := by
  intro pins s σ H Q I h
  exact Subscript_ (binT ha hb I h fun v u s2 x y H2 I2 rx ry q => hr a b pins s2 σ H2 x y v u Q I2 rx ry q (hs _ _))

def rIxL (K : PySem.W.Frag) : R2 := fun x y H Q => ∃ p xs i v, x = .ref p ∧ y = .int i ∧ SqL K H p xs ∧ atI xs i = some v ∧ Q v H
def rIxT (K : PySem.W.Frag) : R2 := fun x y H Q => ∃ p xs i v, x = .ref p ∧ y = .int i ∧ SqT K H p xs ∧ atI xs i = some v ∧ Q v H
def rIxS : R2 := fun x y H Q => ∃ z i c, x = .str z ∧ y = .int i ∧ z.length ≤ sizeLine ∧ atI z.cps.toList i = some c ∧ Q (.str ⟨#[c]⟩) H
theorem ix_list : IxR X (rIxL X.K) := by
  intro value slice pins s σ H x y v u Q I rx ry h hs
  obtain ⟨p, xs, i, z, rfl, rfl, hq, he, q⟩ := h
  cases rx
  obtain ⟨t, rfl⟩ := ry
  obtain ⟨its, r, pl, hz⟩ := I.list hq
  obtain ⟨j, h1, h2, h3, h4, h5⟩ := atI_get he
  obtain ⟨w, ew, rw'⟩ := r.get h2
  have hl := r.length
  have hn := line63
  have fin : EP X pins σ Q w s := ⟨z, H, I, rw', q⟩
  by_cases h0 : 0 ≤ i
  · have hj : i.toNat = j := by
      rw [seqIndex_of h0 h5] at h1
      exact Option.some.inj h1
    exact item_listR pl.isList h0 (by omega) (by rw [hj]; simpa using ew) fin hs
  · have hj : (i + (its.toArray.size : Int)).toNat = j := by
      rw [seqIndex_neg (by omega) h4] at h1
      rw [List.size_toArray, ← hl]
      exact Option.some.inj h1
    exact subscriptTail_builtinR (x := w) pl.isList.typeIs slot_list_getitem.lookup
      (wpAny_getItem_list_neg (Q := fun r s' => r = w ∧ EP X pins σ Q r s') pl.isList (by omega) (by rw [List.size_toArray] <;> omega) (by omega) (by rw [hj]; simpa using ew) ⟨rfl, fin⟩) hs
theorem ix_tup : IxR X (rIxT X.K) := by
  intro value slice pins s σ H x y v u Q I rx ry h hs
  obtain ⟨p, xs, i, z, rfl, rfl, hq, he, q⟩ := h
  cases rx
  obtain ⟨t, rfl⟩ := ry
  obtain ⟨its, r, pl, hz⟩ := I.tuple hq
  obtain ⟨j, h1, h2, h3, h4, h5⟩ := atI_get he
  obtain ⟨w, ew, rw'⟩ := r.get h2
  have hl := r.length
  have hn := line63
  have fin : EP X pins σ Q w s := ⟨z, H, I, rw', q⟩
  exact subscriptTail_builtinR (x := w) pl.typeIs slot_tuple_getitem.lookup
    (getItem_tuple (j := j) (Q := fun r s' => r = w ∧ EP X pins σ Q r s') pl (by omega) (by omega) (by rw [List.size_toArray, ← hl]; exact h1) (by simpa using ew) ⟨rfl, fin⟩) hs
/-- list, tuple or str -/
def rIx (K : PySem.W.Frag) : R2 := fun x y H Q => rIxL K x y H Q ∨ rIxT K x y H Q ∨ rIxS x y H Q

/-! ### xs[i] = v, any sign -/
/-- the list's object behind a store -/
theorem mapSeq_set (its : List Value) (n j : Nat) (u : Value) : Obj.mapSeq (·.setIfInBounds j u) { cls := .type "list", data := .seq its.toArray n } = { cls := .type "list", data := .seq (its.set j u).toArray n } := by
  simp [Obj.mapSeq]
theorem Inv.lst {pins : List (Addr × Obj)} {σ : St} {H : Hp} {s : Shared} {p : Addr} {xs : List V} (I : Inv X pins σ H s) (h : H p = some (.lst xs)) :
    ∃ (its : List Value) (n : Nat), Vals xs its ∧ s.heap.get? p = some { cls := .type "list", data := .seq its.toArray n } ∧ xs.length ≤ sizeLine := by
  obtain ⟨z, its, n, r, e⟩ := I.hok p _ h
  exact ⟨its, n, r, e, z⟩
/-- the list at p is written by an update of its object -/
theorem Inv.lstUpd {pins : List (Addr × Obj)} {σ : St} {H : Hp} {s : Shared} {p : Addr} {xs ys : List V} {its its' : List Value} {n n' : Nat} {f : Obj → Obj} (I : Inv X pins σ H s) (h : H p = some (.lst xs))
    (ho : s.heap.get? p = some { cls := .type "list", data := .seq its.toArray n }) (hf : f { cls := .type "list", data := .seq its.toArray n } = { cls := .type "list", data := .seq its'.toArray n' }) (r : Vals ys its') (hz : ys.length ≤ sizeLine) (t : Nat) :
    Inv X pins σ (upd H p (.lst ys)) { s with heap := s.heap.update p f, toks := t } := by
  have e : (s.heap.update p f).get? p = some { cls := .type "list", data := .seq its'.toArray n' } := by
    rw [Heap.get?_update_self f ho (by rw [hf] <;> rfl), hf]
  refine I.write (x := p) (e := p) (by rw [h]; trivial) (.inl rfl) (fun b u hb q => (Heap.get?_update_other _ _ (Ne.symm hb)).trans q) ⟨_, e⟩ ?_
  exact ⟨hz, its', n', r, e⟩
def rSetL : V → V → V → Hp → (Hp → Prop) → Prop := fun o i v H Q => ∃ p xs k j, o = .ref p ∧ i = .int k ∧ H p = some (.lst xs) ∧ ixN xs.length k = some j ∧ Q (upd H p (.lst (xs.set j v)))
theorem set_list : PSet X rSetL := by
  intro pins s σ H o i v ov iv u Q I ro ri rv h
  obtain ⟨p, xs, k, j, rfl, rfl, hp, hj, q⟩ := h
  cases ro
  obtain ⟨t, rfl⟩ := ri
  obtain ⟨its, n, r, ho, hz⟩ := I.lst hp
  obtain ⟨h1, h2, h3, h4⟩ := ixN_seq hj
  have hl := r.length
  have hn := line63
  have I' : Inv X pins σ (upd H p (.lst (xs.set j v))) { s with heap := s.heap.update p (Obj.mapSeq (·.setIfInBounds j u)) } :=
    I.lstUpd hp ho (mapSeq_set its n j u) (r.set rv j) (by rw [List.length_set]; exact hz) s.toks
  by_cases h0 : 0 ≤ k
  · have hk : k.toNat = j := by
      rw [seqIndex_of h0 h4] at h1
      exact Option.some.inj h1
    exact PySem.W.ki_setAt ho h0 (by omega) (by rw [List.size_toArray, ← hl]; exact h4) (by rw [hk]; exact ⟨_, I', q⟩)
  · have hk : (k + (its.toArray.size : Int)).toNat = j := by
      rw [seqIndex_neg (by omega) h3] at h1
      rw [List.size_toArray, ← hl]
      exact Option.some.inj h1
    exact PySem.W.ki_setBack ho (by omega) (by rw [List.size_toArray, ← hl]; exact h3) (by omega) (by rw [hk]; exact ⟨_, I', q⟩)

/-! ### slices -/
theorem slice_bounds (lo hi : Option Int) (n : Nat) : (sliceBounds lo hi none n).1 = ((HT.sIx n 0 lo : Nat) : Int) ∧ (sliceBounds lo hi none n).2.1 = ((HT.sIx n n hi : Nat) : Int) ∧ (sliceBounds lo hi none n).2.2 = 1 := by
  refine ⟨?_, ?_, rfl⟩
  · cases lo with
    | none => simp [sliceBounds, HT.sIx]
    | some i =>
      simp only [sliceBounds, HT.sIx, Option.getD_none, show (1 : Int) > 0 by decide, if_true]
      by_cases h : i < 0
      · simp only [h, if_true] <;> omega
      · simp only [h, if_false] <;> omega
  · cases hi with
    | none => simp [sliceBounds, HT.sIx]
    | some i =>
      simp only [sliceBounds, HT.sIx, Option.getD_none, show (1 : Int) > 0 by decide, if_true]
      by_cases h : i < 0
      · simp only [h, if_true] <;> omega
      · simp only [h, if_false] <;> omega
theorem slicePick_cut (its : List Value) (lo hi : Option Int) : slicePick its.toArray lo hi none = ((its.drop (HT.sIx its.length 0 lo)).take (HT.sIx its.length its.length hi - HT.sIx its.length 0 lo)).toArray := by
  obtain ⟨h1, h2, h3⟩ := slice_bounds lo hi its.toArray.size
  unfold slicePick
  rw [h1, h2, h3]
  simp only [sliceRange_one, pick_run, List.size_toArray] <;> rfl
/-- xs[lo:hi] of a list: a new list -/
def rSlL (K : PySem.W.Frag) : V → Option Int → Option Int → Hp → VK → Prop := fun x lo hi H Q => ∃ a xs, x = .ref a ∧ SqL K H a xs ∧ ∀ p, H p = none → Q (.ref p) (upd H p (.lst (cutV xs lo hi)))
theorem sl_list : SlR X (rSlL X.K) := by
  intro pins s σ H x v vl vu lo hi sl Q I rx hs pl pu h
  obtain ⟨a, xs, rfl, hx, q⟩ := h
  cases rx
  obtain ⟨its, r, ht, hz⟩ := I.list hx
  have hlen := r.length
  refine ⟨"list", _, slot_list_getitem.lookup, ht.isList.typeIs, ?_⟩
  refine wpAny_getItem_list_slice ht.isList hs pl pu .none (by simp) ?_ (by rw [List.size_toArray] <;> omega)
  rw [slicePick_cut, ← hlen]
  refine ⟨.ref s.heap.objs.size, _, I.laid (t' := s.toks) (o := .lst (cutV xs lo hi)) (fun b ob q => Heap.get?_push_of_some _ q) (Nat.le_refl _) ?_, rfl, q _ (I.hok.fresh (Nat.le_refl _))⟩
  exact ⟨Nat.le_trans (cutV_length xs lo hi) hz, _, 0, (r.drop (HT.sIx xs.length 0 lo)).take (HT.sIx xs.length xs.length hi - HT.sIx xs.length 0 lo), Heap.get?_push_size _ rfl⟩

/-! ### in, not in: flat items -/
def flatV : V → Bool
  | .non => true
  | .bl _ => true
  | .int _ => true
  | .str _ => true
  | _ => false
/-- == of flat values -/
def eqV : V → V → Bool
  | .non, .non => true
  | .bl a, .bl b => a == b
  | .bl a, .int b => (if a then 1 else 0) == b
  | .int a, .bl b => a == (if b then 1 else 0)
  | .int a, .int b => a == b
  | .str a, .str b => a == b
  | _, _ => false
theorem eqAt_V {A : Around} {s : Shared} {y x : V} {u v : Value} (ry : RelV y u) (rx : RelV x v) (fy : flatV y = true) (fx : flatV x = true) : SeqAt.EqAt A s u v (eqV y x) := by
  cases y with
  | non =>
    cases ry
    cases x with
    | non => cases rx; exact SeqAt.EqAt.same _
    | bl b => cases rx; exact SeqAt.EqAt.none_bool b
    | int b => obtain ⟨t, rfl⟩ := rx; exact SeqAt.EqAt.none_int b t
    | str b => obtain ⟨t, rfl⟩ := rx; exact SeqAt.EqAt.none_str b t
    | _ => exact absurd (show false = true from fx) Bool.false_ne_true
  | bl a =>
    cases ry
    cases x with
    | non => cases rx; exact SeqAt.EqAt.bool_none a
    | bl b => cases rx; exact SeqAt.EqAt.bool_bool a b
    | int b => obtain ⟨t, rfl⟩ := rx; exact SeqAt.EqAt.bool_int a b t
    | str b => obtain ⟨t, rfl⟩ := rx; exact SeqAt.EqAt.bool_str a b t
    | _ => exact absurd (show false = true from fx) Bool.false_ne_true
  | int a =>
    obtain ⟨t', rfl⟩ := ry
    cases x with
    | non => cases rx; exact SeqAt.EqAt.int_none a t'
    | bl b => cases rx; exact SeqAt.EqAt.int_bool a t' b
    | int b => obtain ⟨t, rfl⟩ := rx; exact SeqAt.EqAt.int_int a t' b t
    | str b => obtain ⟨t, rfl⟩ := rx; exact SeqAt.EqAt.int_str a t' b t
    | _ => exact absurd (show false = true from fx) Bool.false_ne_true
  | str a =>
    obtain ⟨t', rfl⟩ := ry
    cases x with
    | non => cases rx; exact SeqAt.EqAt.str_none a t'
    | bl b => cases rx; exact SeqAt.EqAt.str_bool a t' b
    | int b => obtain ⟨t, rfl⟩ := rx; exact SeqAt.EqAt.str_int a t' b t
    | str b => obtain ⟨t, rfl⟩ := rx; exact SeqAt.EqAt.str_str a t' b t
    | _ => exact absurd (show false = true from fx) Bool.false_ne_true
  | _ => exact absurd (show false = true from fy) Bool.false_ne_true
/-- the items' answers, read off the values (a value's own answer does not lean on its token) -/
def eqU (x : V) (u : Value) : Bool := match u with
  | .none => eqV .non x
  | .bool b => eqV (.bl b) x
  | .int i _ => eqV (.int i) x
  | .str z _ => eqV (.str z) x
  | _ => false
theorem eqU_of {x y : V} {u : Value} (r : RelV y u) (f : flatV y = true) : eqU x u = eqV y x := by
  cases y with
  | non => cases r; rfl
  | bl b => cases r; rfl
  | int i => obtain ⟨t, rfl⟩ := r; rfl
  | str z => obtain ⟨t, rfl⟩ := r; rfl
  | _ => exact absurd (show false = true from f) Bool.false_ne_true
theorem any_eqU {x : V} : ∀ {xs : List V} {us : List Value}, Vals xs us → xs.all flatV = true → us.any (eqU x) = xs.any fun y => eqV y x
  | _, _, .nil, _ => rfl
  | y :: xs, u :: us, .cons r t, f => by
    rw [List.all_cons, Bool.and_eq_true] at f
    rw [List.any_cons, List.any_cons, eqU_of r f.1, any_eqU t f.2]
theorem mem_eqAt {A : Around} {s : Shared} {x : V} {v : Value} (rx : RelV x v) (fx : flatV x = true) : ∀ {xs : List V} {us : List Value}, Vals xs us → xs.all flatV = true → ∀ u ∈ us, SeqAt.EqAt A s u v (eqU x u)
  | _, _, .nil, _ => fun u hu => by cases hu
  | y :: xs, u :: us, .cons r t, f => fun u' hu => by
    rw [List.all_cons, Bool.and_eq_true] at f
    rcases List.mem_cons.mp hu with rfl | hu
    · rw [eqU_of r f.1]; exact eqAt_V r rx f.1 fx
    · exact mem_eqAt rx fx t f.2 u' hu
def inV (x : V) (xs : List V) : Bool := xs.any fun y => eqV y x
/-- x in a list or tuple of flat items -/
def rIn (K : PySem.W.Frag) (neg : Bool) : R2 := fun x y H Q => ∃ p xs, y = .ref p ∧ (SqL K H p xs ∨ SqT K H p xs) ∧ flatV x = true ∧ xs.all flatV = true ∧ Q (.bl (if neg then !inV x xs else inV x xs)) H
theorem op_in_seq : OpR X (compareOp .In) (rIn X.K false) := by
  intro pins s σ H x y v u Q I rx ry h
  obtain ⟨p, xs, rfl, hq, fx, fs, q⟩ := h
  cases ry
  rcases hq with hq | hq
  · obtain ⟨its, r, pl, hz⟩ := I.list hq
    refine SeqAt.in_listAt (eqU x) pl.isList (fun w hw => mem_eqAt rx fx r fs w (by simpa using hw)) ⟨.bl _, H, I, rfl, ?_⟩
    rw [show its.toArray.any (eqU x) = its.any (eqU x) by simp, any_eqU r fs]
    exact q
  · obtain ⟨its, r, pl, hz⟩ := I.tuple hq
    refine SeqAt.in_tupleAt (eqU x) pl (fun w hw => mem_eqAt rx fx r fs w (by simpa using hw)) ⟨.bl _, H, I, rfl, ?_⟩
    rw [show its.toArray.any (eqU x) = its.any (eqU x) by simp, any_eqU r fs]
    exact q

/-! ### len, list(x), tuple(x) of any list or tuple that is read -/
theorem call_len_seq : CallR X (.builtin "len") (fun xs H Q => ∃ p ys, xs = [.ref p] ∧ (SqL X.K H p ys ∨ SqT X.K H p ys) ∧ Q (.int ys.length) H) := by
  intro pins s σ H xs us Q I r h
  obtain ⟨p, ys, rfl, hq, q⟩ := h
  obtain ⟨u, rfl, rx⟩ := vals1 r
  cases rx
  have hn := line63
  rcases hq with hq | hq
  · obtain ⟨its, r', pl, hz⟩ := I.list hq
    have hlen := r'.length
    exact Calls.call_len_list pl.isList (by simp only [List.size_toArray] <;> omega) ⟨.int ys.length, H, I.tok _, ⟨s.toks + 1, by rw [List.size_toArray, hlen]⟩, q⟩
  · obtain ⟨its, r', pl, hz⟩ := I.tuple hq
    have hlen := r'.length
    exact len_tuple pl (by simp only [List.size_toArray] <;> omega) ⟨.int ys.length, H, I.tok _, ⟨s.toks + 1, by rw [List.size_toArray, hlen]⟩, q⟩
theorem call_list_of : CallR X (.type "list") (fun xs H Q => ∃ p ys, xs = [.ref p] ∧ (SqL X.K H p ys ∨ SqT X.K H p ys) ∧ ∀ l, H l = none → Q (.ref l) (upd H l (.lst ys))) := by
  intro pins s σ H xs us Q I r h
  obtain ⟨p, ys, rfl, hq, q⟩ := h
  obtain ⟨u, rfl, rx⟩ := vals1 r
  cases rx
  have fin : ∀ (its : List Value), Vals ys its → ys.length ≤ sizeLine → ∀ (h' : Heap) (c' : Nat), (∀ b o', s.heap.get? b = some o' → h'.get? b = some o') →
      h'.get? s.heap.objs.size = some { cls := .type "list", dict := none, data := .seq its.toArray c', slots := #[] } → EP X pins σ Q (.ref s.heap.objs.size) { s with heap := h' } := fun its r' hz h' c' kp e =>
    ⟨.ref s.heap.objs.size, _, I.laid (t' := s.toks) kp (Nat.le_refl _) (show ObjOk X.prog X.w _ h' _ (.lst ys) from ⟨hz, its, c', r', e⟩), rfl, q _ (I.hok.fresh (Nat.le_refl _))⟩
  rcases hq with hq | hq
  · obtain ⟨its, r', pl, hz⟩ := I.list hq
    have hlen := r'.length
    obtain ⟨o, ho, hc, n, hd⟩ := pl.isList
    exact call_list_seq p (.inl rfl) ho hc hd (fun h' c' kp e => fin its r' hz h' c' kp e) (by simp only [List.size_toArray] <;> omega)
  · obtain ⟨its, r', pl, hz⟩ := I.tuple hq
    have hlen := r'.length
    obtain ⟨o, ho, hc, n, hd⟩ := pl
    exact call_list_seq p (.inr rfl) ho hc hd (fun h' c' kp e => fin its r' hz h' c' kp e) (by simp only [List.size_toArray] <;> omega)

/-! ### the call of a builtin's method: o.m(..) -/
/-- the value is of that builtin type -/
def tyV (K : PySem.W.Frag) (T : String) (x : V) (H : Hp) : Prop := match x with
  | .str _ => T = "str"
  | .int _ => T = "int"
  | .ref p => (T = "list" ∧ ∃ xs, SqL K H p xs) ∨ (T = "tuple" ∧ ∃ o, K.lookup p = some o ∧ o.cls = .type "tuple" ∧ o.dict = none) ∨
      (T = "dict" ∧ ((∃ kvs, H p = some (.dK kvs)) ∨ ∃ kvs, H p = some (.dT kvs))) ∨ (T = "set" ∧ ∃ S n, H p = some (.set S n))
  | _ => False
theorem tyV_is {pins : List (Addr × Obj)} {σ : St} {H : Hp} {s : Shared} {T : String} {x : V} {v : Value} (I : Inv X pins σ H s) (r : RelV x v) (ty : tyV X.K T x H) :
    s.TypeIs v T ∧ ∀ a, v = .ref a → ∃ ob, s.heap.get? a = some ob ∧ ob.dict = none := by
  cases x with
  | str z =>
    obtain ⟨t, rfl⟩ := r
    cases (show T = "str" from ty)
    exact ⟨typeIs_str s z t, fun _ e => nomatch e⟩
  | int i =>
    obtain ⟨t, rfl⟩ := r
    cases (show T = "int" from ty)
    exact ⟨typeIs_int s i t, fun _ e => nomatch e⟩
  | ref p =>
    cases r
    rcases ty with ⟨rfl, xs, hq⟩ | ⟨rfl, o, hk, hc, hd⟩ | ⟨rfl, hk⟩ | ⟨rfl, S, n, hk⟩
    · obtain ⟨its, _, pl, _⟩ := I.list hq
      refine ⟨pl.isList.typeIs, fun a e => ?_⟩
      cases e
      obtain ⟨o, n, e, c, hd, _⟩ := pl
      exact ⟨o, e, hd⟩
    · refine ⟨⟨o, I.kIn p o hk, hc⟩, fun a e => ?_⟩
      cases e
      exact ⟨o, I.kIn _ o hk, hd⟩
    · have z : ∃ o, s.heap.get? p = some o ∧ o.ExactDict := by
        rcases hk with ⟨kvs, hk⟩ | ⟨kvs, hk⟩
        · obtain ⟨_, _, _, _, o, _, _, e, ex, _⟩ := I.hok p _ hk
          exact ⟨o, e, ex⟩
        · obtain ⟨_, _, _, _, o, _, _, e, ex, _⟩ := I.hok p _ hk
          exact ⟨o, e, ex⟩
      obtain ⟨o, e, ex⟩ := z
      refine ⟨⟨o, e, ex.1⟩, fun a e2 => ?_⟩
      cases e2
      exact ⟨o, e, ex.2.1⟩
    · obtain ⟨o, _, _, _, e, ex, _⟩ := I.hok p _ hk
      refine ⟨⟨o, e, ex.1⟩, fun a e2 => ?_⟩
      cases e2
      exact ⟨o, e, ex.2.1⟩
  | _ => exact False.elim ty
def tBM0 (K : PySem.W.Frag) (T : String) (r : V → List V → Hp → VK → Prop) (to : TE) : TE := fun σ H Q => to σ H fun x H1 => tyV K T x H1 ∧ r x [] H1 Q
def tBM (K : PySem.W.Frag) (T : String) (r : V → List V → Hp → VK → Prop) (to : TE) (t : TA) : TE := fun σ H Q => to σ H fun x H1 => tyV K T x H1 ∧ t σ H1 fun xs H2 => r x xs H2 Q
variable {o e : Expr} {es : List Expr} {to : TE} {t : TA} {name : Str} {apos cpos : Pos} {T id : String} {r : V → List V → Hp → VK → Prop}
theorem pe_bm (pa : PlainAttrs T) (slot : Slot T name id) (hty : typeOf (.builtin id) = pure (.type "method_descriptor")) (hm : MtR X id r) (ho : PE X o to) (ha : PA X (e :: es) t)
    (hbase : attributeBase o name X.env (eval o X.env) = eval o X.env := by rfl)
    (hfew : ((backTo cpos (starEach (e :: es) X.env)).all (fun x => !x.1) && (backToKw cpos (keywordEach [] X.env)).all (fun x => x.1.isSome)
      && decide ((e :: es).length + ([] : List Keyword).length + (if ([] : List Keyword).isEmpty then 0 else 1) < 30)) = true := by rfl)
    (hline : (apos.endLine == cpos.line) = true := by rfl) (hs : starEach (e :: es) X.env = (false, eval e X.env) :: starEach es X.env := by rfl) (hplain : (backTo cpos (starEach es X.env)).any (·.1) = false := by rfl) :
    PE X (.Call (.Attribute o name apos) (e :: es) [] cpos) (tBM X.K T r to t) := by
  intro pins s σ H Q I h
  refine wpAny_Call_method_late hbase hfew hline rfl (thn (ho pins s σ H _ I h) fun v s1 ⟨x, H1, I1, r1, ty, q1⟩ => ?_)
  obtain ⟨h1, h2⟩ := tyV_is I1 r1 ty
  refine ⟨T, id, pa, slot, hty, h1, h2, ?_⟩
  have hA := ha cpos pins s1 σ H1 _ I1 q1
  rw [hs] at hA ⊢
  refine Calls.callWith_builtin (by show (false || (backTo cpos (starEach es X.env)).any (·.1)) = false; rw [hplain] <;> rfl) (Calls.evalArgs_plain ?_)
  exact thn hA fun us s2 ⟨vs, H2, I2, r2, q2⟩ => hm pins s2 σ H2 x vs v us Q I2 r1 r2 q2
/- xs.append(e), list.index on a module's tuple .. are MtR facts of 06m -/
end
end L2

namespace L2
open PySem PySem.Spec PyProof.Rows

def MtM (X : Cx) (id : String) (r : V → List V → Hp → VK → Prop) : Prop :=
  ∀ (pins : List (Addr × Obj)) (s : Shared) (σ : St) (H : Hp) (x : V) (xs : List V) (v : Value) (us : List Value) (Q : VK), Inv X pins σ H s → RelV x v → Vals xs us → r x xs H Q →
    wpAny (model X.prog X.w) X.A (call (.builtin id) (v :: us)) (EP X pins σ Q) X.xe s

/-! ### lists of values -/
theorem Vals.one : ∀ {x : V} {us : List Value}, Vals [x] us → ∃ u, us = [u] ∧ RelV x u
  | _, _, .cons r .nil => ⟨_, rfl, r⟩
theorem Vals.reverse {xs : List V} {us : List Value} (h : Vals xs us) : Vals xs.reverse us.reverse := by
  induction h with
  | nil => exact .nil
  | cons r t ih => rw [List.reverse_cons, List.reverse_cons]; exact Vals.append ih (.cons r .nil)
theorem Vals.rep {xs : List V} {us : List Value} (h : Vals xs us) : ∀ k : Nat, Vals (List.replicate k xs).flatten (List.replicate k us).flatten
  | 0 => .nil
  | k + 1 => by
    rw [List.replicate_succ, List.replicate_succ, List.flatten_cons, List.flatten_cons]
    exact Vals.append h (Vals.rep h k)
theorem foldl_rep (its : List Value) : ∀ (k : Nat) (acc : List Value),
    List.foldl (fun x1 x2 => x1 ++ x2) acc.toArray (List.replicate k its.toArray) = (acc ++ (List.replicate k its).flatten).toArray
  | 0, acc => by simp
  | k + 1, acc => by
    have e : acc.toArray ++ its.toArray = (acc ++ its).toArray := by simp
    have e2 : (acc ++ its) ++ (List.replicate k its).flatten = acc ++ (List.replicate (k + 1) its).flatten := by
      rw [List.replicate_succ, List.flatten_cons, List.append_assoc]
    rw [← e2, ← foldl_rep its k (acc ++ its), ← e, List.replicate_succ, List.foldl_cons]

section
variable {X : Cx} {pins : List (Addr × Obj)} {σ : St} {H : Hp} {s : Shared} {l b : Addr} {xs ys zs : List V}

/-! ### the two steps: a tracked list is rewritten, a new list is laid -/
theorem Inv.lset {its its' : List Value} {n : Nat} {f : Array Value → Array Value} {t' : Nat} (I : Inv X pins σ H s) (hH : H l = some (.lst xs))
    (e : s.heap.get? l = some { cls := .type "list", data := .seq its.toArray n }) (hf : f its.toArray = its'.toArray) (hv : Vals ys its') (hz : ys.length ≤ sizeLine) :
    Inv X pins σ (upd H l (.lst ys)) { s with heap := s.heap.update l (Obj.mapSeq f), toks := t' } := by
  have q := PySem.IsL.update e f
  rw [hf] at q
  refine I.write (x := l) (e := l) (by rw [hH]; exact trivial) (.inl rfl) (fun b' u hb hu => (Heap.get?_update_other s.heap (Obj.mapSeq f) (Ne.symm hb)).trans hu) ⟨_, q⟩ ?_
  exact ⟨hz, its', _, hv, q⟩
theorem Inv.lnew {its : List Value} {t' : Nat} (I : Inv X pins σ H s) (hv : Vals ys its) (hz : ys.length ≤ sizeLine) :
    Inv X pins σ (upd H s.heap.objs.size (.lst ys)) { s with heap := s.heap.push { cls := .type "list", data := .seq its.toArray }, toks := t' } :=
  I.laid (fun _ _ q => Heap.get?_push_of_some _ q) (Nat.le_refl _) ⟨hz, its, 0, hv, Heap.get?_push_size _ rfl⟩
theorem Inv.fresh (I : Inv X pins σ H s) : H s.heap.objs.size = none := I.hok.fresh (Nat.le_refl _)
theorem Inv.lstM (I : Inv X pins σ H s) (hH : H l = some (.lst xs)) : xs.length ≤ sizeLine ∧ ∃ (its : List Value) (n : Nat), Vals xs its ∧ xs.length = its.length ∧ s.heap.get? l = some { cls := .type "list", data := .seq its.toArray n } := by
  obtain ⟨z, its, n, r, e⟩ := I.hok l _ hH
  exact ⟨z, its, n, r, r.length, e⟩

theorem notLongL {n : Nat} (h : n ≤ sizeLine) : Builtin.List.listTooLong n = false := by
  unfold Builtin.List.listTooLong
  exact decide_eq_false (by omega)
end

section
variable {X : Cx}

/-! ### methods -/
def rAppend : V → List V → Hp → VK → Prop := fun x vs H Q => ∃ l xs y, x = .ref l ∧ vs = [y] ∧ H l = some (.lst xs) ∧ xs.length < sizeLine ∧ Q .non (upd H l (.lst (xs ++ [y])))
theorem mt_append : MtM X "list.append" rAppend := by
  intro pins s σ H x vs v us Q I rx rv h
  obtain ⟨l, xs, y, rfl, rfl, hH, hz, q⟩ := h
  cases rx
  obtain ⟨u, rfl, ru⟩ := rv.one
  obtain ⟨z, its, n, r, hl, e⟩ := I.lstM hH
  refine call_meets F.slot_list_append ⟨_, e, rfl⟩ F.entry_list_append (F.args_list_append_2 _ _) (PySem.list_append l its.toArray n u (by rw [List.size_toArray]; omega)) ⟨e, ?_⟩
  refine ⟨.non, _, I.lset (its' := its ++ [u]) hH e (by simp) (r.append (.cons ru .nil)) ?_, rfl, q⟩
  rw [List.length_append, List.length_singleton]
  omega

def rExtend : V → List V → Hp → VK → Prop := fun x vs H Q => ∃ l b xs zs, x = .ref l ∧ vs = [.ref b] ∧ H l = some (.lst xs) ∧ H b = some (.lst zs) ∧ xs.length + zs.length ≤ sizeLine ∧ Q .non (upd H l (.lst (xs ++ zs)))

def rPop : V → List V → Hp → VK → Prop := fun x vs H Q => ∃ l xs y, x = .ref l ∧ vs = [] ∧ H l = some (.lst xs) ∧ xs[xs.length - 1]? = some y ∧ Q y (upd H l (.lst xs.dropLast))

def rPopAt : V → List V → Hp → VK → Prop := fun x vs H Q => ∃ l xs i k y, x = .ref l ∧ vs = [.int i] ∧ H l = some (.lst xs) ∧ -(2 ^ 63) ≤ i ∧ i < 2 ^ 63 ∧ seqIndex? i xs.length = some k ∧ xs[k]? = some y ∧ Q y (upd H l (.lst (xs.eraseIdx k)))

def rReverse : V → List V → Hp → VK → Prop := fun x vs H Q => ∃ l xs, x = .ref l ∧ vs = [] ∧ H l = some (.lst xs) ∧ Q .non (upd H l (.lst xs.reverse))

def rClear : V → List V → Hp → VK → Prop := fun x vs H Q => ∃ l xs, x = .ref l ∧ vs = [] ∧ H l = some (.lst xs) ∧ Q .non (upd H l (.lst []))

/-! ### list + list, list += list, list * int -/
def rCat : R2 := fun x y H Q => ∃ l b xs zs, x = .ref l ∧ y = .ref b ∧ H l = some (.lst xs) ∧ H b = some (.lst zs) ∧ xs.length + zs.length ≤ sizeLine ∧ ∀ p, H p = none → Q (.ref p) (upd H p (.lst (xs ++ zs)))
theorem op_cat : OpR X (binaryOp .Add) rCat := by
  intro pins s σ H x y v u Q I rx ry h
  obtain ⟨l, b, xs, zs, rfl, rfl, hH, hB, hz, q⟩ := h
  cases rx
  cases ry
  obtain ⟨z, its, n, r, hl, e⟩ := I.lstM hH
  obtain ⟨z2, its2, n2, r2, hl2, e2⟩ := I.lstM hB
  refine PySem.P.add_list e e2 ?_ (by rw [List.size_toArray, List.size_toArray]; omega)
  have ea : its.toArray ++ its2.toArray = (its ++ its2).toArray := by simp
  rw [ea]
  exact ⟨.ref _, _, I.lnew (t' := s.toks) (r.append r2) (by rw [List.length_append]; omega), rfl, q _ I.fresh⟩
/-- a list times an int (a negative one is nothing) -/
def rRep : R2 := fun x y H Q => ∃ l k xs, x = .ref l ∧ y = .int k ∧ H l = some (.lst xs) ∧ -(2 ^ 63) ≤ k ∧ k < 2 ^ 63 ∧ xs.length * k.toNat ≤ sizeLine ∧
  ∀ p, H p = none → Q (.ref p) (upd H p (.lst (List.replicate k.toNat xs).flatten))
theorem len_rep {α : Type} (xs : List α) (k : Nat) : (List.replicate k xs).flatten.length = k * xs.length := by
  induction k with
  | zero => simp
  | succ k ih => rw [List.replicate_succ, List.flatten_cons, List.length_append, ih, Nat.succ_mul, Nat.add_comm]
theorem op_rep : OpR X (binaryOp .Mult) rRep := by
  intro pins s σ H x y v u Q I rx ry h
  obtain ⟨l, k, xs, rfl, rfl, hH, h1, h2, hz, q⟩ := h
  cases rx
  obtain ⟨t, rfl⟩ := ry
  obtain ⟨z, its, n, r, hl, e⟩ := I.lstM hH
  have hlen : its.toArray.size * k.toNat ≤ sizeLine := by rw [List.size_toArray, ← hl]; exact hz
  have hcap : ¬ its.toArray.size * k.toNat > (2 ^ 63 - 1) / 8 := by
    have : (sizeLine : Nat) ≤ (2 ^ 63 - 1) / 8 := by decide
    omega
  have hfit : ¬ (!Builtin.List.listFitsIndex k) = true := by
    rw [fitsIndex_both h1 h2]
    exact Bool.false_ne_true
  have hlong : ¬ Builtin.List.listTooLong (its.toArray.size * k.toNat) = true := by
    rw [notLongL hlen]
    exact Bool.false_ne_true
  have hnew : List.foldl (fun x1 x2 => x1 ++ x2) #[] (List.replicate (if its.toArray.isEmpty = true then 0 else k.toNat) its.toArray) = (List.replicate k.toNat its).flatten.toArray := by
    have f0 : ∀ m : Nat, List.foldl (fun x1 x2 => x1 ++ x2) #[] (List.replicate m its.toArray) = (List.replicate m its).flatten.toArray := fun m => by
      have := foldl_rep its m []
      rw [List.nil_append] at this
      exact this
    rw [f0]
    cases its with
    | nil => simp
    | cons a r' => rw [if_neg (by simp)]
  refine wpAny_binaryOp_repeat_ref (T := "list") (U := "int") (by decide) ⟨_, e, rfl⟩ (fun s' => typeIs_int s' k t) noFill_list_mul F.fills_int_mul F.slot_int_rmul repeat_list F.slot_int_index.lookup
    (call_meets F.slot_int_rmul (typeIs_int s k t) F.entry_int_rmul (F.args_int_rmul_2 _ _) (int___rmul___int_list k t l its.toArray n)
      ⟨e, rfl, ⟨_, e, rfl⟩, call_meets F.slot_list_mul ⟨_, e, rfl⟩ F.entry_list_mul (F.args_list_mul_2 _ _) (AutoListH.list___mul___list_int_3 l its.toArray n k t hfit hcap hlong) ⟨e, ?_⟩⟩)
  rw [hnew]
  exact ⟨.ref _, _, I.lnew (t' := s.toks) (r.rep k.toNat) (by rw [len_rep, Nat.mul_comm]; exact hz), rfl, q _ I.fresh⟩

/-! ### del xs[i] -/
end

/-! ### xs[a:b] = ys -/
section
variable {prog : Program} {w : World} {A : Around} {E : Value → Shared → Prop} {s : Shared}
end

section
variable {X : Cx}
end
end L2

namespace Att
open PySem PySem.W PySem.Calls PyProof.Rows

/-! ### the script -/
theorem ints_of_wellAll {P : Params} {h : Heap} : ∀ (ns : List Int) (vs : List Value), WellAll P h vs (ns.map WData.int) → IntsAre vs ns := by
  intro ns
  induction ns with
  | nil =>
    intro vs w
    rw [List.map_nil] at w
    cases w
    exact .nil
  | cons n ns ih =>
    intro vs w
    rw [List.map_cons] at w
    cases w with
    | cons a b =>
      cases a
      exact .cons _ _ (ih _ b)

theorem script_of {l : OpenLaw} {n : Nat} (hn : l.most = some n) {P : Params} {h : Heap} {args : List WData} {vals : List Value}
    (hpre : l.row.toRowW.claim.pre args = true) (hwl : WellAll P h vals args) :
    ∃ a vs ns, vals = [Value.ref a] ∧ args = [WData.list (ns.map WData.int)] ∧ h.get? a = some { cls := .type "list", data := .seq vs.toArray } ∧ IntsAre vs ns ∧ ns.length ≤ n := by
  have hsh : WShape.hasAll [] args [.list .int] = true := (pre_splitW hpre).1
  have hc : l.pre.holds [] { args := args } = true := (pre_splitW hpre).2
  obtain ⟨d, r, rfl, h1, h2⟩ := hasAllW_cons hsh
  obtain rfl := hasAllW_nil h2
  obtain ⟨xs, rfl, h3⟩ := hasW_list h1
  obtain ⟨ns, rfl⟩ := items_int h3
  have hlen : ns.length ≤ n := by
    unfold OpenLaw.pre at hc
    have h4 : (WTm.not (.lt (.lit (.int (n : Int))) (.len (.arg 0)))).holds [] { args := [.list (ns.map .int)] } = true := by
      have h4 := (holds_andW hc).1
      rw [hn] at h4
      exact h4
    have h5 := condW_of h4 (w_not (w_lt w_lit (w_len_list (w_arg rfl))))
    rw [List.length_map] at h5
    refine Nat.le_of_not_lt fun q => ?_
    have q' : (n : Int) < ((ns.length : Nat) : Int) := by omega
    first
      | (rw [decide_eq_true q'] at h5; exact absurd h5 (by decide))
      | (simp at h5; omega)
  cases hwl with
  | cons w1 w2 =>
    cases w2
    cases w1 with
    | list ho hall => exact ⟨_, _, ns, rfl, rfl, ho, ints_of_wellAll ns _ hall, hlen⟩

theorem post_true (l : OpenLaw) (args : List WData) : l.row.toRowW.claim.post args (.bool true) args = true :=
  postW_of (r := l.row.toRowW) (X := (true == true))
    (show WShape.has [] (.bool true) .bool = true by first | rfl | decide | simp [WShape.has, WShape.arms, WShape.armsAll])
    (show (WTm.eq .res (.lit (.bool true))).value [] { args := args, res := some (.bool true), after := args } = some (.bool (true == true)) from w_eq_bool (w_res rfl) w_lit) rfl

/-! ### the attachment: holds_open's last premise (the goal 'hc' behind k_head) from a wpAny of the law's body -/

/-- the same from a codeAny of the CALL (for a layer whose function contracts speak of calls) -/
theorem attach_call {l : OpenLaw} {n : Nat} {q : Program} {loose : List Str} {XP : (Str → Option Value) → Heap → Prop} {YP : World → Heap → Prop} {d : DefRec}
    (hn : l.most = some n) (hdf : d.params.defaults = [])
    (call : ∀ (w : World) (s₀ s₁ : Shared) (mg mb : Str → Option Value) (fa : Addr) (o : Obj) (pm cd doc : Value) (a : Addr) (vs : List Value) (ns : List Int),
      Ground q loose [] XP w s₀ mg mb s₁.heap → YP w s₁.heap →
      s₁.heap.get? fa = some o → o.data = .func (docDef d.name d.params d.body d.scope pm cd doc) → s₁.heap.CodeRec cd d.name → mg d.name = some (.ref fa) →
      s₁.heap.get? a = some { cls := .type "list", data := .seq vs.toArray } → IntsAre vs ns → ns.length ≤ n → s₁.gens = #[] →
      codeAny (model l.prog w) callerA (.call (.ref fa) ⟨[.ref a], []⟩) (fun r s' => r = .ok (.ret (.bool true)) ∧ OldK s₁.heap s'.heap ∧ s'.os = s₁.os ∧ AllBare s'.gens) s₁) :
    WalkO q loose XP YP l.row.toRowW d [] (fun f vs => PySem.call f vs) := by
  intro w s₀ s₁ mg mb G Y fa o pm cd doc dV kV ho hd hcd hD hmg hg args vals as hpre hlay hrd hwl hlo
  obtain rfl : dV = .none := Dflts.none hD hdf
  obtain rfl : kV = .none := Dflts.noKw hD
  obtain ⟨a, vs, ns, rfl, rfl, hobj, hints, hlen⟩ := script_of hn hpre hwl
  refine enter_call (codeAny_mono (call w s₀ s₁ mg mb fa o pm cd doc a vs ns G Y ho (fd_plain hd) hcd hmg hobj hints hlen hg) fun r s' hq => ?_)
  obtain ⟨rfl, h2, h3, h4⟩ := hq
  exact ⟨.inl ⟨.bool true, .bool true, [], rfl, fun _ => rfl, .bool true, post_true l _, fun _ => ⟨List.Pairwise.nil, fun _ hm => (nomatch hm)⟩⟩, h2, h3, h4⟩


/-! ### rules over ANY heap (no ledger) from facts about the written part K: the library's own take a ledger (News) for what they write -/
section
variable {prog : Program} {w : World} {A : Around} {E : Value → Shared → Prop} {s : Shared} {K : Frag}





/-! the whole heap as the ledger: makes every rule that writes through a ledger a rule over any heap -/
def noObjs (h : Heap) : Heap := { h with objs := #[] }
def ledger (h : Heap) (L d : Addr) : List (Addr × Obj) := (List.range h.objs.size).filterMap fun a => if a = L ∨ a = d then none else (h.get? a).map fun o => (a, o)

end
end Att

namespace L2
open PySem PySem.Spec PyProof.Rows

theorem vals_ints : ∀ {vs : List Value} {ns : List Int}, IntsAre vs ns → Vals (ns.map V.int) vs
  | _, _, .nil => .nil
  | _, _, .cons n t h => .cons ⟨t, rfl⟩ (vals_ints h)

/-- nothing is tracked but the script, known to the object (or it is an object of the module) -/
def Only (H : Hp) : Prop := ∀ b, H b = none ∨ ∃ o xs, H b = some (.frz o (.lst xs))

/-- THE HEAD: the law's promise, at the heap behind the top. F, the promise of the law's def, may use that base is part of the heap (so K.In base, base.Ns mainGlobals mg stand in Mod) -/
theorem law_call {P : Program} {w : World} {K : PySem.W.Frag} {mg mb : Str → Option Value} {CX : CXT} {k : Nat} {fa a : Addr} {fd : FuncData} {x : Str} {sp : Sp} {s₁ : Shared} {vs : List Value} {ns : List Int}
    (KX : K.In s₁.heap) (hns : s₁.heap.Ns mainGlobals mg) (hb : s₁.heap.Ns builtinsNs mb) (hbb : ∀ x : Str, x ≠ "__name__" → mb x = bootBuiltins x) (hlim : s₁.heap.NoLimit) (hg : s₁.gens = #[])
    (ha : s₁.heap.get? a = some { cls := .type "list", data := .seq vs.toArray }) (hi : IntsAre vs ns) (hl : ns.length ≤ sizeLine) (hr : Room k callerA)
    (F : ∀ base : Heap, K.In base → base.Ns mainGlobals mg → FnOk P w K mg base CX k fa fd [x] sp) (hbind : ∀ (s : Shared) (u : Value), BindsTo s fd ⟨[u], []⟩ [(x, u)])
    (hsp : ∀ H : Hp, Only H → SqL K H a (ns.map V.int) → sp [.ref a] H (fun v _ => v = .bl true) fun _ _ _ => False)
    (hCX : ∀ H e s', CX [] H s₁ (fun _ _ _ => False) e s' → False) :
    codeAny (model P w) callerA (.call (.ref fa) ⟨[.ref a], []⟩) (fun r s' => r = .ok (.ret (.bool true)) ∧ OldK s₁.heap s'.heap ∧ s'.os = s₁.os ∧ AllBare s'.gens) s₁ := by
  have rv := vals_ints hi
  have lenV := hi.length
  -- from an abstract heap in which nothing but the script may be tracked
  have core : ∀ H : Hp, Only H → SqL K H a (ns.map V.int) → HOk P w H s₁.heap → (∀ b, H b ≠ none → b = a) → (H a ≠ none → K.lookup a = none) →
      codeAny (model P w) callerA (.call (.ref fa) ⟨[.ref a], []⟩) (fun r s' => r = .ok (.ret (.bool true)) ∧ OldK s₁.heap s'.heap ∧ s'.os = s₁.os ∧ AllBare s'.gens) s₁ := by
    intro H hO hS hok hA hK
    have base_of : ∀ {b : Addr} {o : Obj}, s₁.heap.get? b = some o → H b = none → (hidT s₁.heap H).get? b = some o := fun e n => hidT_get e n
    have noA : ∀ {b : Addr} {o : Obj} {es : Array DictEntry} {ep : Nat}, s₁.heap.get? b = some o → o.data = .dict es ep → H b = none := fun {b o es ep} e d => by
      cases q : H b with
      | none => rfl
      | some u =>
        have e' : b = a := hA b (by rw [q]; simp)
        subst e'
        rw [ha] at e; cases e
        have d' : Data.seq vs.toArray _ = Data.dict es ep := d
        cases d'
    have nsK : ∀ {b : Addr} {m : Str → Option Value}, s₁.heap.Ns b m → (hidT s₁.heap H).Ns b m := fun {b m} ⟨o, es, ep, e, d, r⟩ => ⟨o, es, ep, base_of e (noA e d), d, r⟩
    have hKb : K.In (hidT s₁.heap H) := fun b o e => base_of (KX b o e) (by
      cases q : H b with
      | none => rfl
      | some u =>
        have e' : b = a := hA b (by rw [q]; simp)
        subst e'
        rw [hK (by rw [q]; simp)] at e; cases e)
    have hM : Mod K mg (hidT s₁.heap H) := ⟨hKb, nsK hns, ⟨mb, nsK hb, hbb⟩, let ⟨mc, h1, h2⟩ := hlim; ⟨mc, nsK h1, h2⟩⟩
    have e0 : Env0 P w K mg (hidT s₁.heap H) callerA [] s₁ H := ⟨rfl, hM, fun b o e => of_hidT e, Nat.le_of_eq (hidT_size _ _), trivial, fun b hb => absurd (show b ∈ ([] : List Addr) from hb) (by simp), hok, .of_eq hg⟩
    refine codeAny_mono ((F _ hKb (nsK hns)).run callerA [] s₁ H ⟨[.ref a], []⟩ [.ref a] [.ref a] _ _ hr e0 (hbind s₁ (.ref a)) (.cons rfl .nil) (hsp H hO hS)) fun r s' h => ?_
    cases r with
    | error e => exact (hCX H e s' h).elim
    | ok fl =>
      cases fl with
      | next => exact False.elim h
      | brk => exact False.elim h
      | cont => exact False.elim h
      | ret u =>
        obtain ⟨v, H', os, bare, un, hok', r', q⟩ := h
        have q' : v = .bl true := q
        subst q'
        obtain rfl : u = Value.bool true := r'
        refine ⟨rfl, OldK.of_keep fun b o e => ?_, os, bare⟩
        cases q : H b with
        | none => exact un.keep b o e q (by intro z; exact absurd (show b ∈ ([] : List Addr) from z) (by simp)) (by simp)
        | some u =>
          rcases hO b with z | ⟨ob, xs, z⟩
          · rw [q] at z; cases z
          · have z2 := un.frzs b ob _ z
            obtain ⟨e1, _⟩ := hok b _ z
            obtain ⟨e2, _⟩ := hok' b _ z2
            rw [e] at e1; cases e1
            exact e2
  cases hk : K.lookup a with
  | some o =>
    -- the script is one of the module's own objects
    have e := KX a o hk
    rw [ha] at e
    cases e
    refine core (fun _ => none) (fun _ => .inl rfl) (.inr ⟨_, vs.toArray, _, hk, rfl, rfl, rfl, by rw [List.size_toArray, lenV]; exact hl, by simpa using rv⟩) (fun b u z => by have z' : (none : Option HO) = some u := z; cases z') (fun b z => absurd rfl z) fun z => absurd rfl z
  | none =>
    refine core (fun b => if b = a then some (.frz { cls := .type "list", data := .seq vs.toArray } (.lst (ns.map V.int))) else none) (fun b => ?_) (.inl (.inr ⟨{ cls := .type "list", data := .seq vs.toArray }, if_pos rfl⟩)) (fun b u z => ?_) (fun b z => ?_) fun _ => hk
    · by_cases hb : b = a
      · exact .inr ⟨_, _, if_pos hb⟩
      · exact .inl (if_neg hb)
    · by_cases hb : b = a
      · have z' := (if_pos hb).symm.trans z
        cases z'
        subst hb
        exact ⟨ha, by rw [List.length_map]; exact hl, vs, _, rv, ha⟩
      · have z' := (if_neg hb).symm.trans z
        cases z'
    · by_cases hb : b = a
      · exact hb
      · exact absurd (if_neg hb) z
end L2

namespace L2
open PySem PySem.Spec PyProof.Rows

abbrev KOf {K : PySem.W.Frag} {h : Heap} (_ : K.In h) : PySem.W.Frag := K

/-- the goal that k_head leaves (case hc), from the law's promise. F gives the function object fd (K's own) once, then the promise over every base -/
theorem walk_of {l : PySem.W.OpenLaw} {n k : Nat} {q : Program} {loose : List Str} {XP : (Str → Option Value) → Heap → Prop} {YP : World → Heap → Prop} {d : DefRec} {K : Params → PySem.W.Frag} {CX : World → CXT} {sp : World → Sp} {x : Str}
    (hn : l.most = some n) (hn2 : n ≤ sizeLine) (hdf : d.params.defaults = []) (hr : Room k callerA)
    (hY : ∀ (w : World) (h : Heap), YP w h → (K w.params).In h)
    (F : ∀ (w : World) (mg : Str → Option Value) (fa : Addr) (h : Heap), (K w.params).In h → h.Ns mainGlobals mg → mg d.name = some (.ref fa) →
      ∃ fd : FuncData, (∀ (s : Shared) (u : Value), BindsTo s fd ⟨[u], []⟩ [(x, u)]) ∧
        ∀ base : Heap, (K w.params).In base → base.Ns mainGlobals mg → FnOk l.prog w (K w.params) mg base (CX w) k fa fd [x] (sp w))
    (hsp : ∀ (w : World) (H : Hp) (a : Addr) (ns : List Int), ns.length ≤ n → Only H → SqL (K w.params) H a (ns.map V.int) → sp w [.ref a] H (fun v _ => v = .bl true) fun _ _ _ => False)
    (hCX : ∀ (w : World) (H : Hp) (s : Shared) (e : Value) (s' : Shared), CX w [] H s (fun _ _ _ => False) e s' → False) :
    PySem.W.WalkO q loose XP YP l.row.toRowW d [] (fun f vs => PySem.call f vs) := by
  refine Att.attach_call hn hdf fun w s₀ s₁ mg mb fa o pm cd doc a vs ns G Y ho hd hcd hmg hobj hints hlen hg => ?_
  have KX := hY w _ Y
  obtain ⟨fd, hb, hF⟩ := F w mg fa _ KX G.T.g hmg
  exact law_call KX G.T.g G.T.b G.T.builtins G.T.nolimit hg hobj hints (Nat.le_trans hlen hn2) hr hF hb (fun H hO hS => hsp w H a ns hlen hO hS) fun H e s' => hCX w H s₁ e s'
end L2

/- THE LAST THEOREM (shape; LID, My.* are yours):
   My.Adr: a structure of the addresses that your layer names (classes, functions); My.Txt K t: a structure (Prop) of the equations over K;
   My.txt_mk : {K} {implicit addresses ..} (e1 : nsIn K mainGlobals "law" = some (some (.ref f))) (e2 : K.lookup f = some ⟨oc, od, .func (fnOf "law" "law" params body scope dV kV doc pm an cdv ct), sl⟩) (e3 : codeIn K cdv "law" = true) .. : ∃ t, My.Txt K t

set_option maxRecDepth 100000 in
set_option maxHeartbeats 0 in
theorem PySem.Challenge.cw_LID_holds : PySem.Challenge.rw_LID.Holds := by
  w_on; o_law; k_head; (case hw => w_witness2)
  k_fill
  refine L2.walk_of (l := PySem.Challenge.rw_LID) (n := 63) (k := 40) (x := "script") (CX := fun w => ..) (sp := fun _ => My.sp_law) rfl (by decide) rfl ⟨rfl, by decide, by decide⟩ (fun w h Y => PySem.W.kIn_of Y) ?F ?S ?C
  case F =>
    intro w mg fa h KX G hmg
    have T : ∃ t, My.Txt (L2.KOf KX) t := by
      dsimp only [L2.KOf]                          -- K must stand as «<heap const> w.params» for k_is
      refine' My.txt_mk ?e1 ?e2 ?e3 ..
      (case e1 => PySem.W.k_is)                    -- in the order: a name -> its address -> its object -> its parts
      (case e2 => PySem.W.k_is)
      ..
    obtain ⟨t, T⟩ := T
    have e0 := hmg.symm.trans (PySem.W.mg_of KX G T.law)
    cases e0                                       -- fa is the law's own address
    exact ⟨_, fun s u => .of_eq rfl, fun base kb nb => My.law_fn T kb nb⟩     -- if «.of_eq rfl» comes too early: refine' ⟨_, ?b, fun base kb nb => My.law_fn T kb nb⟩; exact fun s u => .of_eq rfl
  case S => exact fun w H a ns hl hO hS => ..
  case C => exact ..
(the tactic k_is has no namespace: write k_is) -/

/-! SHORT WORDS over the layer: a def of the text, its body, what a loop and a test want. -/
namespace L2
open PySem PySem.Spec PyProof.Rows

/-! ### the text by places -/
/-- the j-th statement of a class's body -/
def inClass (s : Stmt) (j : Nat) : Stmt := match s with
  | .ClassDef _ _ _ body _ _ _ _ _ _ _ => body.getD j (.Pass ⟨0, 0, 0, 0⟩)
  | _ => .Pass ⟨0, 0, 0, 0⟩
def defArgs (s : Stmt) : Arguments := match s with
  | .FunctionDef _ a _ _ _ _ _ _ _ _ => a
  | _ => { posonlyargs := [], args := [], vararg := none, kwonlyargs := [], kw_defaults := [], kwarg := none, defaults := [] }
def defBody (s : Stmt) : List Stmt := match s with
  | .FunctionDef _ _ b _ _ _ _ _ _ _ => b
  | _ => []
def defScope (s : Stmt) : Scope := match s with
  | .FunctionDef _ _ _ _ _ _ sc _ _ _ => sc
  | _ => { kind := .function, names := [], isGenerator := false, isCoroutine := false }

/-! ### no exception leaves a def -/
abbrev CX0 : CXT := fun _ _ _ _ _ _ => False
abbrev E0 : XK := fun _ _ _ => False
theorem pass0 {X : Cx} : Passes CX0 X E0 := fun _ _ _ _ _ _ _ h => h.elim

/-! ### a def (or method) of the text as it stands behind the top -/
structure Fun (K : PySem.W.Frag) (x qual : Str) (st : Stmt) (f : Addr) (fd : FuncData) : Prop where
  ex : ∃ (oc : Value) (od : Option Addr) (kV doc pm : Value) (an : Option Addr) (cdv ct : Value) (osl : Array (Option Value)),
    fd = PySem.W.fnOf x qual (defArgs st) (defBody st) (defScope st) .none kV doc pm an cdv ct ∧ K.lookup f = some ⟨oc, od, .func fd, osl⟩ ∧ PySem.W.codeIn K cdv qual = true
  kp : PySem.W.keepIn K (.ref f) = true
section
variable {P : Program} {w : World} {K : PySem.W.Frag} {mg : Str → Option Value} {base : Heap}
/-- THE RULE for a def: its body as a term of rules, and the reading of that term -/
theorem Fun.ok {x qual : Str} {st : Stmt} {f : Addr} {fd : FuncData} {N ps : List Str} {k : Nat} {sp : Sp} (F : Fun K x qual st f fd) (S : FnScope N ps (defScope st)) (len : ∀ vs H Q E, sp vs H Q E → vs.length = ps.length)
    (hbody : ∀ (cdv : Value) (A : Around) (outer : List Env) (s : Shared) (H : Hp) (vs : List V) (Q : VK) (E : XK), Room k (A.deeper (envOfC qual (defScope st) s.heap.objs.size f cdv)) → sp vs H Q E →
      ∃ t, PSs (cxOf CX0 P w K mg base N qual (defScope st) f cdv A outer s H E).nox (defBody st) t ∧ t { nx := fun _ H' => Q .non H', rt := Q } (start N vs) H) : FnOk P w K mg base CX0 (k + 1) f fd ps sp := by
  obtain ⟨oc, od, kV, doc, pm, an, cdv, ct, osl, rfl, lk, hcd⟩ := F.ex
  refine fn_of lk hcd S len fun A outer s H vs Q E hr hsp => ?_
  obtain ⟨t, h, q⟩ := hbody cdv A outer s H vs Q E hr hsp
  exact ⟨t, h.nox, q⟩
/-- how its arguments bind (no defaults): h is «fun _ _ _ _ _ _ us hl => match us, hl with | [_, _], _ => rfl», one _ a parameter -/
theorem Fun.binds {x qual : Str} {st : Stmt} {f : Addr} {fd : FuncData} {ps : List Str} (F : Fun K x qual st f fd)
    (h : ∀ (kV doc pm : Value) (an : Option Addr) (cdv ct : Value) (us : List Value), us.length = ps.length → bindArgs (PySem.W.fnOf x qual (defArgs st) (defBody st) (defScope st) .none kV doc pm an cdv ct) ⟨us, []⟩ = pure (ps.zip us)) : Binds K fd ps [] := by
  obtain ⟨oc, od, kV, doc, pm, an, cdv, ct, osl, rfl, lk, hcd⟩ := F.ex
  exact .all (h kV doc pm an cdv ct)
theorem fun_mk {x qual : Str} {st : Stmt} {f : Addr} {oc : Value} {od an : Option Addr} {osl : Array (Option Value)} {kV doc pm cdv ct : Value} (l : K.lookup f = some ⟨oc, od, .func (PySem.W.fnOf x qual (defArgs st) (defBody st) (defScope st) .none kV doc pm an cdv ct), osl⟩)
    (c : PySem.W.codeIn K cdv qual = true) (k : PySem.W.keepIn K (.ref f) = true) : Fun K x qual st f (PySem.W.fnOf x qual (defArgs st) (defBody st) (defScope st) .none kV doc pm an cdv ct) := ⟨⟨oc, od, kV, doc, pm, an, cdv, ct, osl, rfl, l, c⟩, k⟩
end
theorem small1000 {n : Nat} (h : n ≤ 1000) : n < sizeLine := Nat.lt_of_le_of_lt h (by decide)

/-! ### expressions in short: the name that stands in the i-th slot -/
section
variable {X : Cx}
theorem pv (i : Nat) {x : Str} {pos : Pos} (hN : X.N[i]? = some x := by rfl) (hv : Vis X.env.scope x := by first | exact Or.inl rfl | exact Or.inr (Or.inl rfl) | exact Or.inr (Or.inr rfl)) (hd : (x == ("__debug__" : Str)) = false := by decide)
    (hcd : (x == ("__classdict__" : Str)) = false := by decide) : PE X (.Name x pos) (tVar i) := pe_var hN hv hd hcd
end

/-! ### tests -/
theorem iteF {A B : Prop} (h : B) : if false = true then A else B := by
  rw [if_neg Bool.false_ne_true]
  exact h
theorem iteT {A B : Prop} (h : A) : if true = true then A else B := by
  rw [if_pos rfl]
  exact h
theorem ite2 {c A B : Prop} [Decidable c] (h1 : c → A) (h2 : ¬ c → B) : if c then A else B := by
  by_cases h : c
  · rw [if_pos h]
    exact h1 h
  · rw [if_neg h]
    exact h2 h
theorem iteNS {c A B : Prop} [Decidable c] (hc : c) (h : B) : if (!decide c) = true then A else B := by
  rw [decide_eq_true hc]
  exact iteF h

/-! ### heaps -/
/-- all that was tracked is as it was -/
def Same (H H' : Hp) : Prop := ∀ b o, H b = some o → H' b = some o
theorem Same.refl (H : Hp) : Same H H := fun _ _ h => h
theorem Same.trans {H H1 H2 : Hp} (a : Same H H1) (b : Same H1 H2) : Same H H2 := fun c o h => b c o (a c o h)
theorem Same.free {H H' : Hp} (e : Same H H') {l : Addr} (h : H' l = Option.none) : H l = Option.none := by
  cases q : H l with
  | none => rfl
  | some o =>
    rw [e l o q] at h
    cases h
theorem Same.seq {K : PySem.W.Frag} {H H' : Hp} {a : Addr} {xs : List V} (e : Same H H') (h : SqL K H a xs) : SqL K H' a xs := by
  rcases h with (h | ⟨o, h⟩) | h
  · exact .inl (.inl (e _ _ h))
  · exact .inl (.inr ⟨o, e _ _ h⟩)
  · exact .inr h

end L2

set_option Elab.async false
set_option linter.all false
set_option maxRecDepth 100000
/-! COMPREHENSIONS over the hand layer: [elt for target in iter if test]. -/
namespace L2
open PySem PySem.Spec PyProof.Rows

/-! ### a thing of our own is tracked from now on -/
theorem Inv.track {X : Cx} {pins : List (Addr × Obj)} {σ : St} {H : Hp} {s : Shared} {D : Addr} {o : HO} (I : Inv X pins σ H s) (f : FpOk X pins H D) (new : ObjOk X.prog X.w (upd H D o) s.heap D o) : Inv X pins σ (upd H D o) s := by
  obtain ⟨f0, f1, f2, f3, f4, f5⟩ := f
  refine I.step (h' := s.heap) (g' := s.gens) (d' := s.drawn) (t' := s.toks) (ch := [D]) (fun b hb => ?_) (fun b u _ _ _ e _ => e) (fun b u _ _ _ e _ => ⟨u.slots, e⟩) (fun b u hc _ n => ?_) (fun b u _ e => ⟨u, e⟩)
    (fun b xs q => ?_) (fun b u xs q => ?_) (fun b ps q => ⟨#[], ?_⟩) (fun m hm => hm) (fun b u e => ?_) I.bare
  · have e : b = D := by simpa using hb
    subst e
    exact ⟨f3, f1, f4, f5⟩
  · rw [upd_ne (by simpa using hc)]
    exact n
  · rw [upd_ne (ne_of_none q f0)]
    exact q
  · rw [upd_ne (ne_of_none q f0)]
    exact q
  · rw [upd_ne (ne_of_none q f0), q]
    simp
  · by_cases hb : b = D
    · subst hb
      rw [upd_same] at e
      cases e
      exact new
    · rw [upd_ne hb] at e
      exact (I.hok b u e).stay (fun c v _ q => q) (fun c q => by rw [upd_ne (ne_of_none q f0)]; exact q) fun c xs q => by rw [upd_ne (ne_of_none q f0)]; exact q

/-! ### the names that a comprehension draws from around it -/
def clFor (scope : Scope) (env : Env) : List (Str × Addr) :=
  scope.names.foldl (fun acc x => if x.2 == .free then (match env.cells.lookup x.1 with | some a => (x.1, a) :: acc | none => acc) else acc) []
theorem clFor_go {env : Env} : ∀ (names : List (Str × NameKind)) (acc : List (Str × Addr)), (∀ x c, acc.lookup x = some c → env.cells.lookup x = some c) →
    ∀ x c, (names.foldl (fun acc x => if x.2 == .free then (match env.cells.lookup x.1 with | some a => (x.1, a) :: acc | none => acc) else acc) acc).lookup x = some c → env.cells.lookup x = some c
  | [], acc, h, x, c, e => h x c e
  | (n, k) :: r, acc, h, x, c, e => by
    rw [List.foldl_cons] at e
    refine clFor_go r _ (fun y d q => ?_) x c e
    by_cases hk : (k == NameKind.free) = true
    · simp only [hk, if_true] at q
      cases hc : env.cells.lookup n with
      | none => rw [hc] at q; exact h y d q
      | some a =>
        rw [hc] at q
        simp only [List.lookup_cons] at q
        cases hy : y == n with
        | true =>
          rw [hy] at q
          have : y = n := by simpa using hy
          subst this
          rw [hc]
          exact q
        | false =>
          rw [hy] at q
          exact h y d q
    · rw [if_neg hk] at q
      exact h y d q
theorem clFor_sub {scope : Scope} {env : Env} {x : Str} {c : Addr} (e : (clFor scope env).lookup x = some c) : env.cells.lookup x = some c :=
  clFor_go scope.names [] (fun _ _ q => by simp at q) x c e
theorem clFor_keeps {env : Env} {x : Str} : ∀ (names : List (Str × NameKind)) (acc : List (Str × Addr)), (acc.lookup x).isSome = true →
    ((names.foldl (fun acc x => if x.2 == .free then (match env.cells.lookup x.1 with | some a => (x.1, a) :: acc | none => acc) else acc) acc).lookup x).isSome = true
  | [], _, h => h
  | (n, k) :: r, acc, h => by
    rw [List.foldl_cons]
    refine clFor_keeps r _ ?_
    by_cases hk : (k == NameKind.free) = true
    · simp only [hk, if_true]
      cases hc : env.cells.lookup n with
      | none => exact h
      | some a =>
        simp only [List.lookup_cons]
        cases hy : x == n with
        | true => rfl
        | false => exact h
    · rw [if_neg hk]
      exact h
theorem clFor_has' {env : Env} {x : Str} {c : Addr} (hc : env.cells.lookup x = some c) : ∀ (names : List (Str × NameKind)) (acc : List (Str × Addr)), (x, NameKind.free) ∈ names →
    ((names.foldl (fun acc x => if x.2 == .free then (match env.cells.lookup x.1 with | some a => (x.1, a) :: acc | none => acc) else acc) acc).lookup x).isSome = true
  | [], _, h => nomatch h
  | (n, k) :: r, acc, h => by
    rw [List.foldl_cons]
    rcases List.mem_cons.mp h with e | h
    · cases e
      refine clFor_keeps r _ ?_
      simp [hc, List.lookup_cons]
    · exact clFor_has' hc r _ h
theorem clFor_has {scope : Scope} {env : Env} {x : Str} {c : Addr} (hc : env.cells.lookup x = some c) (hm : (x, NameKind.free) ∈ scope.names) : (clFor scope env).lookup x = some c := by
  have h := clFor_has' (env := env) hc scope.names [] hm
  obtain ⟨d, e⟩ := Option.isSome_iff_exists.mp h
  have e' : (clFor scope env).lookup x = some d := e
  have := clFor_sub e'
  rw [hc] at this
  cases this
  exact e'
theorem closureFor_go {env : Env} : ∀ (names : List (Str × NameKind)) (acc : List (Str × Addr)), (∀ n, (n, NameKind.free) ∈ names → ∃ c, env.cells.lookup n = some c) →
    (forIn names acc fun x r => (if x.2 == .free then do let c ← cellOf env x.1; pure (ForInStep.yield ((x.1, c) :: r)) else pure (ForInStep.yield r) : Sem _)) =
      pure (names.foldl (fun acc x => if x.2 == .free then (match env.cells.lookup x.1 with | some a => (x.1, a) :: acc | none => acc) else acc) acc)
  | [], _, _ => rfl
  | (n, k) :: r, acc, h => by
    rw [List.forIn_cons, List.foldl_cons]
    by_cases hk : (k == NameKind.free) = true
    · have hk' : k = .free := by simpa using hk
      obtain ⟨c, hc⟩ := h n (by rw [hk']; exact List.mem_cons_self)
      simp only [hk, if_true, cellOf, hc]
      exact closureFor_go r _ fun y hy => h y (List.mem_cons_of_mem _ hy)
    · simp only [hk, if_false, Bool.false_eq_true]
      exact closureFor_go r _ fun y hy => h y (List.mem_cons_of_mem _ hy)
theorem closureFor_eq {scope : Scope} {env : Env} (h : ∀ n, (n, NameKind.free) ∈ scope.names → ∃ c, env.cells.lookup n = some c) : closureFor scope env = pure (clFor scope env) := by
  have e := closureFor_go (env := env) scope.names [] h
  unfold clFor
  show (forIn scope.names [] (fun x r => (if x.2 == .free then do let c ← cellOf env x.1; pure (ForInStep.yield ((x.1, c) :: r)) else pure (ForInStep.yield r) : Sem _)) >>= fun cs => pure cs) = _
  rw [e]
  rfl

/-! ### the marks of a comprehension's scope -/
theorem relabel_free {scope : Scope} {env : Env} {x : Str} (h : (relabel scope env).names.lookup x = some .cell ∨ (relabel scope env).names.lookup x = some .free) : scope.names.lookup x = some .free ∨ scope.names.lookup x = some .cell := by
  have go : ∀ names : List (Str × NameKind),
      ((names.map fun (n, k) => if (k == NameKind.free && env.scope.kind == .function && env.kindOf n == some .cell) then (n, NameKind.cell) else (n, k)).lookup x = some .cell ∨
       (names.map fun (n, k) => if (k == NameKind.free && env.scope.kind == .function && env.kindOf n == some .cell) then (n, NameKind.cell) else (n, k)).lookup x = some .free) → names.lookup x = some .free ∨ names.lookup x = some .cell := by
    intro names
    induction names with
    | nil => intro h; simp at h
    | cons y r ih =>
      obtain ⟨n, k⟩ := y
      intro h
      rw [List.map_cons] at h
      cases hx : x == n with
      | true =>
        rw [List.lookup_cons, hx]
        by_cases hf : (k == NameKind.free && env.scope.kind == .function && env.kindOf n == some .cell) = true
        · have : (k == NameKind.free) = true := by
            cases q : (k == NameKind.free) with
            | true => rfl
            | false => rw [q] at hf; simp at hf
          have e : k = .free := by simpa using this
          rw [e]
          exact .inl rfl
        · simp only [hf, Bool.false_eq_true, if_false, List.lookup_cons, hx] at h
          rcases h with h | h
          · exact .inr h
          · exact .inl h
      | false =>
        rw [List.lookup_cons, hx]
        refine ih ?_
        by_cases hf : (k == NameKind.free && env.scope.kind == .function && env.kindOf n == some .cell) = true
        · simpa only [hf, if_true, List.lookup_cons, hx] using h
        · simpa only [hf, Bool.false_eq_true, if_false, List.lookup_cons, hx] using h
  exact go scope.names h
theorem relabel_vis {scope : Scope} {env : Env} {x : Str} (h : scope.names.lookup x = some .free) : (relabel scope env).names.lookup x = some .cell ∨ (relabel scope env).names.lookup x = some .free := by
  have go : ∀ names : List (Str × NameKind), names.lookup x = some .free →
      ((names.map fun (n, k) => if (k == NameKind.free && env.scope.kind == .function && env.kindOf n == some .cell) then (n, NameKind.cell) else (n, k)).lookup x = some .cell ∨
       (names.map fun (n, k) => if (k == NameKind.free && env.scope.kind == .function && env.kindOf n == some .cell) then (n, NameKind.cell) else (n, k)).lookup x = some .free) := by
    intro names
    induction names with
    | nil => intro h; simp at h
    | cons y r ih =>
      obtain ⟨n, k⟩ := y
      intro h
      rw [List.map_cons]
      cases hx : x == n with
      | true =>
        rw [List.lookup_cons, hx] at h
        have e : k = .free := Option.some.inj h
        subst e
        by_cases hf : ((NameKind.free == NameKind.free) && env.scope.kind == .function && env.kindOf n == some .cell) = true
        · left; simp only [hf, if_true, List.lookup_cons, hx]
        · right; simp only [hf, Bool.false_eq_true, if_false, List.lookup_cons, hx]
      | false =>
        rw [List.lookup_cons, hx] at h
        by_cases hf : (k == NameKind.free && env.scope.kind == .function && env.kindOf n == some .cell) = true
        · simpa only [hf, if_true, List.lookup_cons, hx] using ih h
        · simpa only [hf, Bool.false_eq_true, if_false, List.lookup_cons, hx] using ih h
  exact go scope.names h
theorem lookup_of_mem_free : ∀ {names : List (Str × NameKind)} {x : Str}, names.lookup x = some .free → (x, NameKind.free) ∈ names := fun h => PySem.mem_of_lookup h

/-! ### the block's own cells -/
theorem cellsFrom_app : ∀ (names : List (Str × NameKind)) (n : Nat) (acc : List (Str × Addr)), cellsFrom n names acc = cellsFrom n names [] ++ acc
  | [], _, _ => rfl
  | (x, k) :: r, n, acc => by
    unfold cellsFrom
    split
    · rw [cellsFrom_app r (n + 1) ((x, n) :: acc), cellsFrom_app r (n + 1) [(x, n)], List.append_assoc]
      rfl
    · exact cellsFrom_app r n acc
theorem mem_cellsFrom : ∀ {names : List (Str × NameKind)} {n : Nat} {acc : List (Str × Addr)} {x : Str} {c : Addr}, (x, c) ∈ cellsFrom n names acc → (x, NameKind.cell) ∈ names ∨ (x, c) ∈ acc
  | [], _, _, _, _, h => .inr h
  | (y, k) :: r, n, acc, x, c, h => by
    unfold cellsFrom at h
    split at h
    · rename_i hk
      have hk' : k = .cell := by simpa using hk
      rcases mem_cellsFrom h with q | q
      · exact .inl (List.mem_cons_of_mem _ q)
      · rcases List.mem_cons.mp q with e | q
        · cases e
          rw [hk']
          exact .inl List.mem_cons_self
        · exact .inr q
    · rcases mem_cellsFrom h with q | q
      · exact .inl (List.mem_cons_of_mem _ q)
      · exact .inr q
def cellsC (scope : Scope) (env : Env) (C : Addr) : List (Str × Addr) := cellsFrom (C + 1) scope.names (clFor scope env)
theorem cellsC_cases {scope : Scope} {env : Env} {C : Addr} {x : Str} {c : Addr} (e : (cellsC scope env C).lookup x = some c) : (x, c) ∈ cellsFrom (C + 1) scope.names [] ∨ ((cellsFrom (C + 1) scope.names []).lookup x = none ∧ (clFor scope env).lookup x = some c) := by
  unfold cellsC at e
  rw [cellsFrom_app, List.lookup_append] at e
  cases q : (cellsFrom (C + 1) scope.names []).lookup x with
  | some d =>
    rw [q] at e
    have e' : d = c := by simpa using e
    subst e'
    exact .inl (PySem.mem_of_lookup q)
  | none =>
    rw [q] at e
    exact .inr ⟨rfl, by simpa using e⟩
theorem newEnv_comp {M : Model} {A : Around} {E : Value → Shared → Prop} {s : Shared} {scope : Scope} {globals : Addr} {cl : List (Str × Addr)} {qual : Str} {env : Env} {Q : Env → Shared → Prop}
    (hQ : ∀ h', h'.Ns s.heap.objs.size (fun _ => none) → (∀ b o, s.heap.get? b = some o → h'.get? b = some o) → CellsOk h' (s.heap.objs.size + 1) (cellsFrom (s.heap.objs.size + 1) scope.names []) →
      Q (newEnv scope s.heap.objs.size globals (cellsFrom (s.heap.objs.size + 1) scope.names cl) qual none .none (some env) builtinsNs) { s with heap := h' }) :
    wpAny M A (newFunctionEnv scope globals cl [] qual none .none (some env)) Q E s := by
  simp only [newFunctionEnv, Option.isSome_some, if_true]
  refine wpAny_bind (wpAny_alloc ?_)
  refine wpAny_bind (wpAny_layCells _ (fun name kind cells => by cases hkc : kind == NameKind.cell <;> simp [hkc]) _ _ _ _ ?_)
  have ok := cellsFrom_ok scope.names (s.heap.push { cls := .type "dict", data := .dict #[] }) (s.heap.objs.size + 1) [] ⟨fun _ _ hm => (nomatch hm), List.Pairwise.nil⟩ (by rw [Heap.size_push]; exact Nat.le_refl _)
  rw [Heap.size_push] at ok
  rw [show ({ s with heap := s.heap.push { cls := .type "dict", data := .dict #[] } } : Shared).heap.objs.size = s.heap.objs.size + 1 from Heap.size_push ..]
  refine wpAny_bind (wpAny_pure (wpAny_pure ?_))
  exact hQ _ ((Heap.Ns.new s.heap (.type "dict")).keeps (pushCells_keeps _ _)) (fun b o e => pushCells_keeps _ _ b o (Heap.get?_push_of_some _ e)) ok

/-! ### the context of the block -/
/-- N': the block's names, its own first or last; src: for each the slot of the names around (none: its own) -/
def cxComp (X : Cx) (pins : List (Addr × Obj)) (scope : Scope) (N' : List Str) (fp : List Addr) (s2 : Shared) (C : Addr) (H : Hp) : Cx where
  prog := X.prog
  w := X.w
  K := X.K
  mg := X.mg
  base := X.base
  A := X.A
  N := N'
  s₀ := s2
  H₀ := H
  env := compEnvC scope (cellsC scope X.env C) C X.env
  outer := X.stack
  stack := X.stack
  ex := fp
  fn := fun x => scope.names.lookup x == some .cell
  calm := X.calm
  pn := X.pn ++ pins
  xe := fun _ _ => False
def srcSt (src : List (Option Nat)) (σ : St) : St := src.map fun o => match o with | none => none | some j => (σ[j]?).getD none
/-- what is asked of the scopes, by computation -/
def compOk (scope around : Scope) (N N' : List Str) (src : List (Option Nat)) : Bool :=
  scope.kind == .function && scope.names.all (fun x => (x.2 != .cell || scope.names.lookup x.1 == some .cell) && (x.2 != .local || scope.names.lookup x.1 == some .local) && (x.2 != .free || around.names.lookup x.1 == some .cell || around.names.lookup x.1 == some .free)) &&
  N'.length == src.length && (N'.zip src).all fun x => match x.2 with | none => true | some j => N[j]? == some x.1 && scope.names.lookup x.1 == some .free
structure CompOk (scope around : Scope) (N N' : List Str) (src : List (Option Nat)) : Prop where
  kind : scope.kind = .function
  cellk : ∀ y ∈ scope.names, y.2 = .cell → scope.names.lookup y.1 = some .cell
  loc : ∀ y ∈ scope.names, y.2 = .local → scope.names.lookup y.1 = some .local
  free : ∀ y, (y, NameKind.free) ∈ scope.names → around.names.lookup y = some .cell ∨ around.names.lookup y = some .free
  len : N'.length = src.length
  src : ∀ (i j : Nat) (x : Str), N'[i]? = some x → src[i]? = some (some j) → N[j]? = some x ∧ scope.names.lookup x = some .free
theorem CompOk.of {scope around : Scope} {N N' : List Str} {src : List (Option Nat)} (h : compOk scope around N N' src = true) : CompOk scope around N N' src := by
  unfold compOk at h
  simp only [Bool.and_eq_true, List.all_eq_true] at h
  obtain ⟨⟨⟨h1, h2⟩, h3⟩, h4⟩ := h
  refine ⟨by simpa using h1, fun y hy e => ?_, fun y hy e => ?_, fun y hy => ?_, by simpa using h3, fun i j x e1 e2 => ?_⟩
  · have := (h2 y hy).1.1
    rw [e] at this
    simpa using this
  · have := (h2 y hy).1.2
    rw [e] at this
    simpa using this
  · have := (h2 _ hy).2
    simpa using this
  · have hm : (x, some j) ∈ N'.zip src := by
      refine List.mem_of_getElem? (i := i) ?_
      rw [List.getElem?_zip_eq_some]
      exact ⟨e1, e2⟩
    have := h4 _ hm
    simpa using this
theorem srcSt_get {src : List (Option Nat)} {σ : St} {i : Nat} {v : V} (e : (srcSt src σ)[i]? = some (some v)) : ∃ j, src[i]? = some (some j) ∧ σ[j]? = some (some v) := by
  unfold srcSt at e
  rw [List.getElem?_map] at e
  cases q : src[i]? with
  | none => rw [q] at e; cases e
  | some o =>
    rw [q] at e
    cases o with
    | none => simp at e
    | some j =>
      refine ⟨j, rfl, ?_⟩
      have e' : (σ[j]?).getD none = some v := by simpa using e
      cases r : σ[j]? with
      | none => rw [r] at e'; cases e'
      | some y => rw [r] at e'; simpa using e'

section
variable {X : Cx} {pins : List (Addr × Obj)} {σ : St} {H : Hp} {s2 : Shared} {scope : Scope} {N' : List Str} {src : List (Option Nat)} {fp : List Addr} {C : Addr}
theorem comp_loc (k : CompOk scope X.env.scope X.N N' src) (I : Inv X pins σ H s2) (m : Str → Option Value) (i : Nat) (x : Str) (v : V) (e1 : N'[i]? = some x) (e2 : (srcSt src σ)[i]? = some (some v)) :
    ∃ u, RelV v u ∧ Look (compEnvC scope (cellsC scope X.env C) C X.env) s2.heap m x u := by
  obtain ⟨j, ej, ev⟩ := srcSt_get e2
  obtain ⟨hN, hf⟩ := k.src i j x e1 ej
  have hm := lookup_of_mem_free hf
  have hk : X.env.scope.names.lookup x = some .cell ∨ X.env.scope.names.lookup x = some .free := k.free x hm
  obtain ⟨m0, _, hl⟩ := I.loc
  obtain ⟨u, r, lk⟩ := hl j x v hN ev (.inr hk)
  refine ⟨u, r, .inr ⟨relabel_vis hf, ?_⟩⟩
  rcases lk with ⟨q, _⟩ | ⟨_, c, hc, z⟩
  · have q' : X.env.scope.names.lookup x = some .local := q
    rcases hk with w | w
    · rw [w] at q'; cases q'
    · rw [w] at q'; cases q'
  · refine ⟨c, ?_, z⟩
    have q : (cellsFrom (C + 1) scope.names []).lookup x = none := by
      cases q : (cellsFrom (C + 1) scope.names []).lookup x with
      | none => rfl
      | some d =>
        rcases mem_cellsFrom (PySem.mem_of_lookup q) with y | y
        · have := k.cellk _ y rfl
          rw [hf] at this
          cases this
        · exact nomatch y
    show (cellsC scope X.env C).lookup x = some c
    unfold cellsC
    rw [cellsFrom_app, List.lookup_append, q, clFor_has hc hm]
    rfl
theorem inv_comp_re (k : CompOk scope X.env.scope X.N N' src) {s0 : Shared} {H0 : Hp} {pl : List (Addr × Obj)} {σ' : St} (I : Inv X pins σ H s2) (I' : Inv (cxComp X pins scope N' fp s0 C H0) pl σ' H s2) : Inv (cxComp X pins scope N' fp s0 C H0) pl (srcSt src σ) H s2 := by
  obtain ⟨m, hns, _⟩ := I'.loc
  refine ⟨I'.ok, I'.os, I'.bare, I'.base, ⟨m, hns, fun i x v e1 e2 _ => comp_loc (C := C) k I m i x v e1 e2⟩, I'.cell, I'.free, I'.freeC, I'.pin, I'.hok, ?_⟩
  unfold srcSt
  rw [List.length_map]
  exact k.len.symm
/-- the block's entry -/
theorem inv_comp (k : CompOk scope X.env.scope X.N N' src) (I : Inv X pins σ H s2) (f : ∀ b ∈ fp, FpOk X pins H b) (fo : ∀ b ∈ fp, ∃ o, s2.heap.get? b = some o) (hC : s2.heap.objs.size ≤ C) {h1 : Heap} {tk : Nat} {m : Str → Option Value} (hns : h1.Ns C m)
    (old : ∀ b o, s2.heap.get? b = some o → h1.get? b = some o) (own : CellsOk h1 (C + 1) (cellsFrom (C + 1) scope.names [])) : Inv (cxComp X pins scope N' fp s2 C H) [] (srcSt src σ) H { s2 with heap := h1, toks := tk } := by
  have sub : ∀ x c, (clFor scope X.env).lookup x = some c → X.env.cells.lookup x = some c := fun x c e => clFor_sub e
  have oldc : ∀ x c, (clFor scope X.env).lookup x = some c → c < s2.heap.objs.size := fun x c e => by
    obtain ⟨v, q⟩ := I.cell x c (sub x c e)
    exact q.lt
  have ltC : ∀ b o, s2.heap.get? b = some o → b ≠ C := fun b o e => Nat.ne_of_lt (Nat.lt_of_lt_of_le (Heap.lt_size e) hC)
  have nst : ∀ b, b ≠ X.env.locals → b ∉ X.fs → b ∉ frs X.stack := fun b h1 h2 hb => by
    rcases List.mem_cons.mp (I.stkSub b hb) with z | z
    · exact h1 z
    · exact h2 z
  refine ⟨⟨I.ok.mod, k.kind, I.ok.glob, I.ok.blt, hC, fun x y c e1 e2 => ?_, fun x hx => ?_, fun x c z e => ?_, I.ok.hd, I.ok.frames, .inl rfl, fun b hb => ⟨?_, fun x c e => ?_⟩,
      I.bs, Nat.le_trans I.ok.bsz I.sz, fun b o e hb => ?_, fun b hb => nst b (f b hb).2.1 (f b hb).2.2.1, I.stack, I.stkFree⟩,
    rfl, I.bare, Un.kept old, ⟨m, hns, fun i x v e1 e2 _ => ?_⟩, fun x c e => ?_, I.hok.fresh hC, fun x c e => ?_, fun p hp => ?_, I.hok.kept old, ?_⟩
  · rcases cellsC_cases e1 with q | ⟨_, q⟩
    · rcases cellsC_cases e2 with r | ⟨_, r⟩
      · exact name_of_addr own.apart q r
      · have h1 := (own.empty _ _ q).2
        have h2 := oldc _ _ r
        exact absurd (Nat.lt_of_lt_of_le h2 hC) (by omega)
    · rcases cellsC_cases e2 with r | ⟨_, r⟩
      · have h1 := (own.empty _ _ r).2
        have h2 := oldc _ _ q
        exact absurd (Nat.lt_of_lt_of_le h2 hC) (by omega)
      · exact I.ok.inj x y c (sub x c q) (sub y c r)
  · show ∃ c, (cellsC scope X.env C).lookup x = some c
    unfold cellsC
    rw [cellsFrom_app, List.lookup_append]
    cases q : (cellsFrom (C + 1) scope.names []).lookup x with
    | some d => exact ⟨d, by simp⟩
    | none =>
      rcases relabel_free hx with hf | hf
      · have hm := lookup_of_mem_free hf
        have hk : X.env.kindOf x = some .cell ∨ X.env.kindOf x = some .free := k.free x hm
        obtain ⟨c, hc⟩ := I.ok.has x hk
        exact ⟨c, by rw [clFor_has hc hm]; rfl⟩
      · have := PySem.W.cellsFrom_some scope.names (C + 1) [] (.inl hf)
        rw [q] at this
        cases this
  · have z1 : (scope.names.lookup x == some NameKind.cell) = true := z
    have z' : scope.names.lookup x = some .cell := by simpa using z1
    rcases cellsC_cases e with q | ⟨q, _⟩
    · exact Nat.le_trans hC (by have := (own.empty _ _ q).2; omega)
    · have := PySem.W.cellsFrom_some scope.names (C + 1) [] (.inl z')
      rw [q] at this
      cases this
  · obtain ⟨o, e⟩ := fo b hb
    exact ltC b o e
  · rcases cellsC_cases e with q | ⟨_, q⟩
    · obtain ⟨o, eb⟩ := fo b hb
      have h1 := (own.empty _ _ q).2
      have h2 := Nat.lt_of_lt_of_le (Heap.lt_size eb) hC
      exact Nat.ne_of_gt (Nat.lt_of_lt_of_le h2 (Nat.le_trans (Nat.le_succ C) h1))
    · exact (f b hb).2.2.2.2.1 x c (sub x c q)
  · rcases (f b hb).2.2.2.1 with z | z
    · exact I.ok.noex b o e z
    · exact absurd (Nat.lt_of_lt_of_le (Heap.lt_size e) (Nat.le_trans I.ok.bsz z)) (Nat.lt_irrefl _)
  · exact comp_loc (C := C) k (I.kept (t' := tk) old) m i x v e1 e2
  · rcases cellsC_cases e with q | ⟨_, q⟩
    · exact ⟨_, (own.empty _ _ q).1⟩
    · obtain ⟨v, o, ho, hd⟩ := I.cell x c (sub x c q)
      exact ⟨v, o, old c o ho, hd⟩
  · rcases cellsC_cases e with q | ⟨_, q⟩
    · exact I.hok.fresh (by have := (own.empty _ _ q).2; omega)
    · exact I.freeC x c (sub x c q)
  · have hp' : p ∈ X.pn ++ pins := by
      have : p ∈ (X.pn ++ pins) ++ [] := hp
      simpa using this
    obtain ⟨e, n, ne, nf, d⟩ := I.pin p hp'
    exact ⟨old _ _ e, n, ltC _ _ e, nst _ ne nf, d⟩
  · unfold srcSt
    rw [List.length_map]
    exact k.len.symm
end

/-! ### the tests of a clause -/
def PTs (X : Cx) (ifs : List Expr) (t : TT) : Prop :=
  ∀ (pins : List (Addr × Obj)) (s : Shared) (σ : St) (H : Hp) (Q : Bool → Hp → Prop), Inv X pins σ H s → t σ H Q →
    wpAny (model X.prog X.w) X.A (forIn ifs true fun c r => if r = true then do let ok ← isTrue c X.env (eval c X.env); pure (ForInStep.yield ok) else pure (ForInStep.yield r)) (TP X pins σ Q) X.xe s
def tYes : TT := fun _ H Q => Q true H
theorem pts_nil {X : Cx} : PTs X [] tYes := fun _ _ _ H _ I h => wpAny_tests_nil ⟨H, I, h⟩
theorem pts_one {X : Cx} {c : Expr} {t : TT} (h : PT X c t) : PTs X [c] t := fun pins s σ H Q I hw => wpAny_tests_one (h pins s σ H Q I hw)

/-! ### the loop, whatever its target -/
theorem compLoop_any {prog : Program} {w : World} {A : Around} {R : Result → Shared → Prop} {s : Shared} {elt target iter : Expr} {ifs : List Expr} {scope : Scope} {pos : Pos} {it acc : Value} {env : Env} (I : Nat → Shared → Prop)
    (turn : ∀ n s, I n s → wpAny (model prog w) A (pyNext it) (fun r s₁ => match r with
      | none => R (.ok .next) s₁
      | some v => wpAny (model prog w) A (letOwnedTupleGo target it v) (fun _ s₀ => wpAny (model prog w) A (assign target env v) (fun _ s₂ =>
          wpAny (model prog w) A (forIn ifs true fun c r => if r = true then do let ok ← isTrue c env (eval c env); pure (ForInStep.yield ok) else pure (ForInStep.yield r)) (fun ok s₃ =>
            if ok = true then wpAny (model prog w) A (eval elt env) (fun x s₄ =>
              wpAny (model prog w) A (call (.builtin "list.append") [acc, x]) (fun _ s₅ => ∃ m, m < n ∧ I m s₅) (fun _ _ => False) s₄) (fun _ _ => False) s₃
            else ∃ m, m < n ∧ I m s₃) (fun _ _ => False) s₂) (fun _ _ => False) s₀) (fun _ _ => False) s₁) (fun _ _ => False) s)
    (n : Nat) (h : I n s) : codeAny (model prog w) A (.compLoop (.ListComp elt [⟨target, iter, ifs, 0⟩] scope pos) 0 it acc env) R s := by
  refine codeAny_loop rfl I (fun n s hI => ?_) n h
  show wpAny _ A ((compTurn (.ListComp elt [⟨target, iter, ifs, 0⟩] scope pos) 0 it acc env).onRaise (fun x => do noteFrame x env; theTreesLotGoes x)) _ _ s
  refine wpAny_noted ?_
  rw [compTurn_list]
  refine wpAny_mono (E := fun _ _ => False) ?_ (fun _ _ q => q) (fun _ _ z => z.elim)
  refine wpAny_bind (wpAny_standAt (wpAny_bind (wpAny_mono (turn n s hI) (fun r s₁ h₁ => ?_) fun _ _ h' => h')))
  cases r with
  | none => exact wpAny_pure h₁
  | some v =>
    refine wpAny_bind (wpAny_mono h₁ (fun _ s₀ h₀ => ?_) fun _ _ h' => h')
    refine wpAny_bind (wpAny_mono h₀ (fun _ s₂ h₂ => wpAny_bind (wpAny_mono h₂ (fun ok s₃ h₃ => ?_) fun _ _ h' => h')) fun _ _ h' => h')
    cases ok with
    | false => exact wpAny_pure ⟨rfl, h₃⟩
    | true =>
      exact wpAny_bind (wpAny_bind (wpAny_mono h₃ (fun x s₄ h₄ => wpAny_bind (wpAny_mono h₄ (fun _ s₅ h₅ => wpAny_pure (wpAny_pure ⟨rfl, h₅⟩)) fun _ _ h' => h')) fun _ _ h' => h'))

/-! ### the reading -/
/-- W: the invariant by the turn, a measure, the items so far; the heap without the list that grows -/
def tCompK (J : It) (g : TG) (tt : TT) (te : TE) (σc : St) (H1 : Hp) (Fin : List V → Hp → Prop) : Prop :=
  ∃ W : Nat → Nat → List V → Hp → Prop, (∃ m, W 0 m [] H1) ∧ ∀ i m ys H, W i m ys H →
    (J.stop i H ∧ Fin ys H) ∨ (J.go i H ∧ ys.length < sizeLine ∧ ∃ N : List V → Hp → Prop, (∀ ys' H', N ys' H' → ∃ m', m' < m ∧ W (i + 1) m' ys' H') ∧
      ∀ x H', J.yld i H x H' → g x σc H' fun σ2 H2 => tt σ2 H2 fun b H3 => if b = true then te σ2 H3 fun y H4 => N (ys ++ [y]) H4 else N ys H3)
def tComp (wi : TI) (src : List (Option Nat)) (g : TG) (tt : TT) (te : TE) : TE := fun σ H Q => wi σ H fun J H1 => tCompK J g tt te (srcSt src σ) H1 fun ys H2 => ∀ p, H2 p = none → Q (.ref p) (upd H2 p (.lst ys))

abbrev lobj (its : List Value) (k : Nat) : Obj := { cls := .type "list", data := .seq its.toArray k }

theorem comp_run {X : Cx} {pins : List (Addr × Obj)} {σ : St} {H : Hp} {s2 : Shared} {E : Value → Shared → Prop} {scope : Scope} {N' : List Str} {src : List (Option Nat)} {fp : List Addr} {it : Addr} {tn : Nat → Heap → Prop} {J : It} {tg elt iter : Expr} {ifs : List Expr} {pos : Pos} {g : TG} {tt : TT} {te : TE}
    {Fin : List V → Hp → Prop} {RR : Value → Addr → Result → Shared → Prop} (hc : X.calm = true) (k : CompOk scope X.env.scope X.N N' src) (I : Inv X pins σ H s2) (T : Turn X.prog X.w X.K tg J fp it tn) (st0 : tn 0 s2.heap) (f : ∀ b ∈ fp, FpOk X pins H b)
    (hg : ∀ C, PG (cxComp X pins scope N' fp s2 C H) tg g) (ht : ∀ C, PTs (cxComp X pins scope N' fp s2 C H) ifs tt) (he : ∀ C, PE (cxComp X pins scope N' fp s2 C H) elt te)
    (h : tCompK J g tt te (srcSt src σ) H Fin)
    (hRR : ∀ D C s' H' ys its n, Inv X pins σ H' s' → FpOk X pins H' D → FpOk X pins H' C → C ≠ D → (∃ m, s'.heap.Ns C m) → s'.heap.get? D = some (lobj its n) → Vals ys its → ys.length ≤ sizeLine → Fin ys H' → RR (.ref D) C (.ok .next) s') :
    wpAny (model X.prog X.w) X.A (newList []) (fun acc s₃ => wpAny (model X.prog X.w) X.A (newFunctionEnv scope X.env.globals (clFor scope X.env) [] X.env.qual none .none (some X.env)) (fun cenv s₄ =>
      codeAny (model X.prog X.w) X.A (.compStart (.ListComp elt [⟨tg, iter, ifs, 0⟩] scope pos) 0 (.ref it) acc { cenv with scope := relabel scope X.env }) (RR acc cenv.locals) s₄) E s₃) E s2 := by
  refine wpAny_newObj_type (newEnv_comp fun h₁ hns₁ old₁ own₁ => ?_)
  dsimp only at hns₁ old₁ own₁ ⊢
  generalize hH2 : s2.heap.push { cls := .type "list", dict := none, data := .seq ([] : List Value).toArray } = H2 at hns₁ old₁ own₁ ⊢
  have hC : H2.objs.size = s2.heap.objs.size + 1 := by rw [← hH2, Heap.size_push]
  have hDC : s2.heap.objs.size ≠ H2.objs.size := by rw [hC]; exact Nat.ne_of_lt (Nat.lt_succ_self _)
  have hCle : s2.heap.objs.size ≤ H2.objs.size := by rw [hC]; exact Nat.le_succ _
  have old : ∀ b o, s2.heap.get? b = some o → h₁.get? b = some o := fun b o e => old₁ b o (hH2 ▸ Heap.get?_push_of_some _ e)
  have hacc : h₁.get? s2.heap.objs.size = some (lobj [] 0) := old₁ _ _ (hH2 ▸ Heap.get?_push_size _ rfl)
  generalize hDe : s2.heap.objs.size = D at hDC hacc
  generalize hCe : H2.objs.size = C at hDC hC hCle hns₁ own₁ ⊢
  have fo : ∀ b ∈ fp, ∃ o, s2.heap.get? b = some o := fun b hb => let ⟨o, e, _⟩ := T.obj 0 _ st0 b hb; ⟨o, e⟩
  have fD : ∀ b ∈ fp, b ≠ D := fun b hb => by obtain ⟨o, e⟩ := fo b hb; rw [← hDe]; exact Nat.ne_of_lt (Heap.lt_size e)
  have fC : ∀ b ∈ fp, b ≠ C := fun b hb => by obtain ⟨o, e⟩ := fo b hb; exact Nat.ne_of_lt (Nat.lt_of_lt_of_le (Heap.lt_size e) hCle)
  -- the block's own facts
  have stk : ∀ b, s2.heap.objs.size ≤ b → b ∉ frs X.stack := fun b hb z => by
    rcases List.mem_cons.mp (I.stkSub b z) with q | q
    · rw [q] at hb; exact absurd (Nat.lt_of_lt_of_le I.lt hb) (Nat.lt_irrefl _)
    · exact I.nofs hb q
  have I0 : Inv (cxComp X pins scope N' fp s2 C H) [] (srcSt src σ) H { s2 with heap := h₁ } := inv_comp (tk := s2.toks) k I f fo hCle hns₁ old own₁
  have hDn : H D = none := I.hok.fresh (by rw [hDe]; exact Nat.le_refl _)
  have nD : D ≠ C ∧ D ∉ frs X.stack := ⟨hDC, stk D (by rw [hDe]; exact Nat.le_refl _)⟩
  have cellF : ∀ x c, (cellsC scope X.env C).lookup x = some c → ∀ b, b < C → (∀ x c, X.env.cells.lookup x = some c → c ≠ b) → c ≠ b := fun x c e b hb hx z => by
    rcases cellsC_cases e with q | ⟨_, q⟩
    · have := (own₁.empty _ _ q).2
      exact Nat.ne_of_gt (Nat.lt_of_lt_of_le hb (Nat.le_trans (Nat.le_succ C) this)) z
    · exact hx x c (clFor_sub q) z
  have hDC2 : D < C := by rw [hC, ← hDe]; exact Nat.lt_succ_self _
  have cellD : ∀ x c, (cellsC scope X.env C).lookup x = some c → c ≠ D := fun x c e => cellF x c e D hDC2 fun x c e z => by
    obtain ⟨v, q⟩ := I.cell x c e
    have := q.lt
    rw [z, ← hDe] at this
    exact Nat.lt_irrefl _ this
  have pnD : ∀ p ∈ X.pn ++ pins, p.1 ≠ D := fun p hp z => by
    have := Heap.lt_size (I.pin p hp).1
    rw [z, ← hDe] at this
    exact Nat.lt_irrefl _ this
  have nocell : ∀ (its : List Value) (n : Nat) (v : Option Value), (lobj its n).data ≠ .cell v := fun its n v z => by
    have z' : Data.seq its.toArray n = Data.cell v := z
    cases z'
  have pinD : ∀ {σ' : St} {H' : Hp} {s' : Shared} {its : List Value} {n : Nat} {pl : List (Addr × Obj)}, Inv (cxComp X pins scope N' fp s2 C H) pl σ' H' s' → s'.heap.get? D = some (lobj its n) → H' D = none → Inv (cxComp X pins scope N' fp s2 C H) [(D, lobj its n)] σ' H' s' :=
    fun {σ' H' s' its n pl} J1 e hn => J1.pins_of fun p hp => by
      have hp' : p = (D, lobj its n) := List.mem_singleton.mp hp
      subst hp'
      exact ⟨e, hn, nD.1, nD.2, nocell _ _⟩
  obtain ⟨W, ⟨m0, w0⟩, turn⟩ := h
  have ltf : ∀ b ∈ fp, b < C := fun b hb => by obtain ⟨o, e⟩ := fo b hb; exact Nat.lt_of_lt_of_le (Heap.lt_size e) hCle
  have loop : ∀ s₃ : Shared, s₃ = { s2 with heap := h₁ } →
      codeAny (model X.prog X.w) X.A (.compLoop (.ListComp elt [⟨tg, iter, ifs, 0⟩] scope pos) 0 (.ref it) (.ref D) (compEnvC scope (cellsC scope X.env C) C X.env)) (RR (.ref D) C) s₃ := by
    rintro s₃ rfl
    refine compLoop_any (fun n s' => ∃ i σ' H' ys its l, Inv (cxComp X pins scope N' fp s2 C H) [(D, lobj its l)] σ' H' s' ∧ tn i s'.heap ∧ (∀ b ∈ fp, H' b = none) ∧ Vals ys its ∧ ys.length ≤ sizeLine ∧ W i n ys H' ) ?_ m0
      ⟨0, srcSt src σ, H, [], [], 0, pinD I0 hacc hDn, T.keep _ _ _ st0 fun b _ o e => old b o e, fun b hb => (f b hb).1, .nil, Nat.zero_le _, w0⟩
    rintro n s3 ⟨i, σ3, H3, ys, its, l, I3, st3, fr3, rv, hz, w3⟩
    have stat : ∀ {H' : Hp} {its' : List Value} {l' : Nat}, (∀ b ∈ fp, H' b = none) → ∀ b ∈ fp, FpOk (cxComp X pins scope N' fp s2 C H) [(D, lobj its' l')] H' b := fun hn b hb =>
      ⟨hn b hb, fC b hb, (fun z => by
          rcases List.mem_cons.mp (I.stkSub b z) with q | q
          · exact (f b hb).2.1 q
          · exact (f b hb).2.2.1 q), .inl hb, fun x c e => cellF x c e b (ltf b hb) (f b hb).2.2.2.2.1, fun p hp => by
        rcases List.mem_append.mp hp with z | z
        · exact (f b hb).2.2.2.2.2 p z
        · rw [List.mem_singleton.mp z]
          exact Ne.symm (fD b hb)⟩
    have IX3 : Inv X pins σ H3 s3 := I.call' (ch := fp) I3.os I3.base I3.hok I3.bare fun b hb => ⟨(f b hb).2.2.2.1, (f b hb).2.1, (f b hb).2.2.2.2.1, (f b hb).2.2.2.2.2⟩
    have I3c : Inv (cxComp X pins scope N' fp s2 C H) [(D, lobj its l)] (srcSt src σ) H3 s3 := inv_comp_re k IX3 I3
    rcases turn i n ys H3 w3 with ⟨stop, fin⟩ | ⟨go, hlt, NN, hNN, step⟩
    · refine wpAny_mono (T.done (cxComp X pins scope N' fp s2 C H) rfl rfl rfl hc i _ s3 σ3 H3 (fun _ _ => False) I3 (stat fr3) st3 stop) (fun r s4 ⟨hr, I4⟩ => ?_) fun _ _ z => z
      subst hr
      have eD := (I4.pin (D, lobj its l) (List.mem_append_right _ List.mem_cons_self))
      have IX : Inv X pins σ H3 s4 := I.call' (ch := fp) I4.os I4.base I4.hok I4.bare fun b hb => ⟨(f b hb).2.2.2.1, (f b hb).2.1, (f b hb).2.2.2.2.1, (f b hb).2.2.2.2.2⟩
      obtain ⟨m4, hn4, _⟩ := I4.loc
      exact hRR D C s4 H3 ys its l IX (I.fpOk (by rw [hDe]; exact Nat.le_refl _) eD.2.1) (I.fpOk hCle I4.free) (Ne.symm hDC) ⟨m4, hn4⟩ eD.1 rv hz fin
    · refine wpAny_mono (T.item (cxComp X pins scope N' fp s2 C H) rfl rfl rfl hc i _ s3 (srcSt src σ) H3 (fun _ _ => False) I3c (stat fr3) st3 go) (fun r s4 ⟨u, hr, h4⟩ => ?_) fun _ _ z => z
      subst hr
      refine wpAny_mono h4 (fun _ s5 ⟨x, H5, I5, r5, y5, st5, fr5⟩ => ?_) fun _ _ z => z
      have I5' := I5.pinned (stat fr5) (T.obj _ _ st5)
      refine wpAny_mono (hg C _ s5 (srcSt src σ) H5 x u _ I5' r5 (step x H5 y5)) (fun _ s6 ⟨σ6, H6, I6, q6⟩ => ?_) fun _ _ z => z
      refine wpAny_mono (ht C _ s6 σ6 H6 _ I6 q6) (fun b s7 ⟨H7, I7, q7⟩ => ?_) fun _ _ z => z
      have back : ∀ {σ8 : St} {H8 : Hp} {s8 : Shared}, Inv (cxComp X pins scope N' fp s2 C H) ([(D, lobj its l)] ++ pinsAt fp s5.heap) σ8 H8 s8 → tn (i + 1) s8.heap ∧ (∀ b ∈ fp, H8 b = none) := fun {σ8 H8 s8} I8 => by
        have pk : ∀ b ∈ fp, ∀ o, s5.heap.get? b = some o → s8.heap.get? b = some o ∧ H8 b = none := fun b hb o e => by
          have q := I8.pin (b, o) (List.mem_append_right _ (List.mem_append_right _ (mem_pinsAt hb e)))
          exact ⟨q.1, q.2.1⟩
        refine ⟨T.keep _ _ _ st5 fun b hb o e => (pk b hb o e).1, fun b hb => ?_⟩
        obtain ⟨o, e, _⟩ := T.obj _ _ st5 b hb
        exact (pk b hb o e).2
      cases b with
      | false =>
        obtain ⟨m', hm, w7⟩ := hNN _ _ q7
        obtain ⟨b1, b2⟩ := back I7
        exact ⟨m', hm, i + 1, σ6, H7, ys, its, l, I7.unpinned, b1, b2, rv, hz, w7⟩
      | true =>
        refine wpAny_mono (he C _ s7 σ6 H7 _ I7 q7) (fun y s8 ⟨v8, H8, I8, r8, q8⟩ => ?_) fun _ _ z => z
        obtain ⟨m', hm, w8⟩ := hNN _ _ q8
        obtain ⟨b1, b2⟩ := back I8
        have eD := (I8.pin (D, lobj its l) (List.mem_append_right _ (List.mem_append_left _ List.mem_cons_self)))
        have hl := rv.length
        refine append_at (hsz := by show its.toArray.size ≤ sizeLine; rw [List.size_toArray]; omega) eD.1 fun h9 hs9 hD9 => ?_
        have I8' : Inv (cxComp X pins scope N' fp s2 C H) (pinsAt fp s5.heap) σ6 H8 s8 := I8.pins_of fun p hp => I8.pin p (List.mem_append_right _ (List.mem_append_right _ hp))
        have I9 : Inv (cxComp X pins scope N' fp s2 C H) (pinsAt fp s5.heap) σ6 H8 { s8 with heap := h9 } := I8'.turned (t' := s8.toks) (fun b o hb e => hs9.extBut b o hb e) eD.2.1 nD.1 (.inr (by show s2.heap.objs.size ≤ D; rw [hDe]; exact Nat.le_refl _)) cellD fun p hp => by
          rcases List.mem_append.mp hp with z | z
          · exact pnD p z
          · exact fD _ (of_pinsAt z).1
        have e9 : ({ cls := .type "list", data := .seq (its.toArray.push y) (l + 1) } : Obj) = lobj (its ++ [y]) (l + 1) := by
          show ({ cls := .type "list", data := .seq (its.toArray.push y) (l + 1) } : Obj) = { cls := .type "list", data := .seq (its ++ [y]).toArray (l + 1) }
          rw [List.push_toArray]
        rw [e9] at hD9
        refine ⟨m', hm, i + 1, σ6, H8, ys ++ [v8], its ++ [y], l + 1, pinD I9 hD9 eD.2.1, T.keep _ _ _ b1 fun b hb o e => hs9.extBut b o (fD b hb) e, b2, rv.append (.cons r8 .nil), by rw [List.length_append, List.length_singleton]; omega, w8⟩
  subst hDe
  exact codeAny_compStart_list (loop _ rfl) (T.self _ 0 _ _ _ (T.keep _ _ _ st0 fun b _ o e => old b o e) (loop _ rfl))

section
variable {X : Cx} {scope : Scope} {N' : List Str} {src : List (Option Nat)} {tg elt iter : Expr} {ifs : List Expr} {pos : Pos} {wi : TI} {g : TG} {tt : TT} {te : TE}
theorem compOk_clos {pins : List (Addr × Obj)} {σ : St} {H : Hp} {s : Shared} {N : List Str} (k : CompOk scope X.env.scope N N' src) (I : Inv X pins σ H s) : closureFor scope X.env = pure (clFor scope X.env) :=
  closureFor_eq fun n hn => I.ok.has n (k.free n hn)
/-- [elt for tg in iter if ..] as a value -/
theorem pe_comp (hc : X.calm = true) (hk : compOk scope X.env.scope X.N N' src = true) (hi : PI X tg iter wi)
    (hg : ∀ pins fp s2 C H, PG (cxComp X pins scope N' fp s2 C H) tg g) (ht : ∀ pins fp s2 C H, PTs (cxComp X pins scope N' fp s2 C H) ifs tt) (he : ∀ pins fp s2 C H, PE (cxComp X pins scope N' fp s2 C H) elt te)
    (hs : ∀ x, foldedSetIterable iter X.env x = pure x := by intro _; rfl) : PE X (.ListComp elt [⟨tg, iter, ifs, 0⟩] scope pos) (tComp wi src g tt te) := by
  intro pins s σ H Q I h
  have k := CompOk.of hk
  rw [eval_ListComp]
  refine wpAny_comprehension_free (use := none) rfl hs (compOk_clos k I) k.kind k.loc (thn (hi pins s σ H _ I h) fun xv s1 h1 => thn h1 fun itv s2 h2 => ?_)
  obtain ⟨it, fp, tn, J, H2, e, I2, T, st2, f2, q2⟩ := h2
  subst e
  refine comp_run hc k I2 T st2 f2 (hg pins fp s2 · H2) (ht pins fp s2 · H2) (he pins fp s2 · H2) q2 ?_
  intro D C s' H' ys its n I' fD fC hCD hns hD rv hz fin
  obtain ⟨m, hn⟩ := hns
  refine ⟨m, hn, fun h' hs' => ?_⟩
  have I3 : Inv X pins σ H' { s' with heap := h' } := I'.turned (t' := s'.toks) (fun b o hb e => hs'.extBut b o hb e) fC.1 fC.2.1 fC.2.2.2.1 fC.2.2.2.2.1 fC.2.2.2.2.2
  exact ⟨.ref D, upd H' D (.lst ys), I3.track fD ⟨hz, its, n, rv, hs'.extBut _ _ (Ne.symm hCD) hD⟩, rfl, fin D fD.1⟩
/-- x = [elt for tg in iter if ..], x a plain local -/
theorem ps_setC {i : Nat} {x : Str} {px spos : Pos} (hc : X.calm = true) (hN : X.N.Nodup) (hi' : X.N[i]? = some x) (hx : X.env.scope.names.lookup x = some .local) (hk : compOk scope X.env.scope X.N N' src = true) (hi : PI X tg iter wi)
    (hg : ∀ pins fp s2 C H, PG (cxComp X pins scope N' fp s2 C H) tg g) (ht : ∀ pins fp s2 C H, PTs (cxComp X pins scope N' fp s2 C H) ifs tt) (he : ∀ pins fp s2 C H, PE (cxComp X pins scope N' fp s2 C H) elt te)
    (hsw : swapsWith (.ListComp elt [⟨tg, iter, ifs, 0⟩] scope pos) (some (.Name x px)) spos.line X.env = pure true := by rfl)
    (hs : ∀ x, foldedSetIterable iter X.env x = pure x := by intro _; rfl) : PS X (.Assign [.Name x px] (.ListComp elt [⟨tg, iter, ifs, 0⟩] scope pos) spos) (tAsg (tComp wi src g tt te) (gName i)) := by
  intro pins s σ H D0 I h
  have k := CompOk.of hk
  rw [exec_Assign_Name_used _ _ _ _ hsw]
  refine wpAny_bind (wpAny_standAt (wpAny_bind ?_))
  show wpAny _ X.A (do let _ ← comprehension (.ListComp elt [⟨tg, iter, ifs, 0⟩] scope pos) scope X.env _ (newList []) false (eval iter X.env) (some (assign (.Name x px) X.env))) _ _ s
  refine wpAny_bind (wpAny_mono (wpAny_comprehension_free (use := some (assign (.Name x px) X.env)) (Q := fun _ s' => SP X pins D0 .next s') rfl hs (compOk_clos k I) k.kind k.loc
    (thn (hi pins s σ H _ I h) fun xv s1 h1 => thn h1 fun itv s2 h2 => ?_)) (fun _ s' hq => wpAny_pure (wpAny_pure hq)) fun _ _ e => e)
  obtain ⟨it, fp, tn, J, H2, e, I2, T, st2, f2, q2⟩ := h2
  subst e
  refine comp_run hc k I2 T st2 f2 (hg pins fp s2 · H2) (ht pins fp s2 · H2) (he pins fp s2 · H2) q2 ?_
  intro D C s' H' ys its n I' fD fC hCD hns hD rv hz fin
  obtain ⟨m, hn⟩ := hns
  show wpAny _ X.A (assign (.Name x px) X.env (.ref D)) _ _ _
  refine wpAny_assign_Name (store_ok2 I' hN hi' (.inl hx) (show RelV (.ref D) (.ref D) from rfl) (fun s3 I3 hsb => ?_) (.inr hx))
  obtain ⟨a, hsb, ha⟩ := hsb
  have haC : C ≠ a := fun z => by
    rcases ha with q | q
    · exact fC.2.1 (z.trans q)
    · exact fC.2.2.2.2.1 x a q z.symm
  have haD : D ≠ a := fun z => by
    rcases ha with q | q
    · exact fD.2.1 (z.trans q)
    · exact fD.2.2.2.2.1 x a q z.symm
  refine ⟨m, hn.sameBut hsb haC, fun h' hs' => ?_⟩
  have I4 : Inv X pins (σ.set i (some (.ref D))) H' { s3 with heap := h' } := I3.turned (t' := s3.toks) (fun b o hb e => hs'.extBut b o hb e) fC.1 fC.2.1 fC.2.2.2.1 fC.2.2.2.2.1 fC.2.2.2.2.2
  exact ⟨_, upd H' D (.lst ys), I4.track fD ⟨hz, its, n, rv, hs'.extBut _ _ (Ne.symm hCD) (hsb.extBut _ _ haD hD)⟩, fin D fD.1⟩
end

/-! ### the forms one uses -/
/-- over a list: Pv by the turn, the items so far, the heap -/
theorem comp_list {K : PySem.W.Frag} {a : Addr} {xs : List V} {g : TG} {tt : TT} {te : TE} {σc : St} {H : Hp} {Fin : List V → Hp → Prop} (Pv : Nat → List V → Hp → Prop) (h0 : Pv 0 [] H) (hl : ∀ i ys H, i ≤ xs.length → Pv i ys H → SqL K H a xs ∧ ys.length ≤ i) (hz : xs.length ≤ sizeLine)
    (hs : ∀ i x ys H, xs[i]? = some x → Pv i ys H → g x σc H fun σ2 H2 => tt σ2 H2 fun b H3 => if b = true then te σ2 H3 fun y H4 => Pv (i + 1) (ys ++ [y]) H4 else Pv (i + 1) ys H3)
    (hd : ∀ ys H, Pv xs.length ys H → Fin ys H) : tCompK (Itl K a) g tt te σc H Fin := by
  refine ⟨fun i m ys H => m = xs.length - i ∧ i ≤ xs.length ∧ Pv i ys H, ⟨xs.length, by simp, Nat.zero_le _, h0⟩, ?_⟩
  rintro i m ys H ⟨rfl, hi, p⟩
  obtain ⟨q, hy⟩ := hl i ys H hi p
  by_cases hlt : i < xs.length
  · refine .inr ⟨⟨xs, xs[i], q, by simp [hlt]⟩, by omega, Pv (i + 1), fun ys' H' p' => ⟨xs.length - (i + 1), by omega, rfl, hlt, p'⟩, fun x H' y => ?_⟩
    obtain ⟨e, y⟩ := y
    subst e
    exact hs i x ys _ (y xs q) p
  · have e : i = xs.length := by omega
    subst e
    exact .inl ⟨⟨xs, q, Nat.le_refl _⟩, hd ys H p⟩
/-- over a tuple -/
theorem comp_tup {K : PySem.W.Frag} {a : Addr} {xs : List V} {g : TG} {tt : TT} {te : TE} {σc : St} {H : Hp} {Fin : List V → Hp → Prop} (Pv : Nat → List V → Hp → Prop) (h0 : Pv 0 [] H) (hl : ∀ i ys H, i ≤ xs.length → Pv i ys H → SqT K H a xs ∧ ys.length ≤ i) (hz : xs.length ≤ sizeLine)
    (hs : ∀ i x ys H, xs[i]? = some x → Pv i ys H → g x σc H fun σ2 H2 => tt σ2 H2 fun b H3 => if b = true then te σ2 H3 fun y H4 => Pv (i + 1) (ys ++ [y]) H4 else Pv (i + 1) ys H3)
    (hd : ∀ ys H, Pv xs.length ys H → Fin ys H) : tCompK (Itt K a) g tt te σc H Fin := by
  refine ⟨fun i m ys H => m = xs.length - i ∧ i ≤ xs.length ∧ Pv i ys H, ⟨xs.length, by simp, Nat.zero_le _, h0⟩, ?_⟩
  rintro i m ys H ⟨rfl, hi, p⟩
  obtain ⟨q, hy⟩ := hl i ys H hi p
  by_cases hlt : i < xs.length
  · refine .inr ⟨⟨xs, xs[i], q, by simp [hlt]⟩, by omega, Pv (i + 1), fun ys' H' p' => ⟨xs.length - (i + 1), by omega, rfl, hlt, p'⟩, fun x H' y => ?_⟩
    obtain ⟨e, y⟩ := y
    subst e
    exact hs i x ys _ (y xs q) p
  · have e : i = xs.length := by omega
    subst e
    exact .inl ⟨⟨xs, q, Nat.le_refl _⟩, hd ys H p⟩
/-- over a range -/
theorem comp_range {lo : Int} {n : Nat} {g : TG} {tt : TT} {te : TE} {σc : St} {H : Hp} {Fin : List V → Hp → Prop} (Pv : Nat → List V → Hp → Prop) (h0 : Pv 0 [] H) (hl : ∀ i ys H, i ≤ n → Pv i ys H → ys.length ≤ i) (hz : n ≤ sizeLine)
    (hs : ∀ i ys H, i < n → Pv i ys H → g (.int (lo + i)) σc H fun σ2 H2 => tt σ2 H2 fun b H3 => if b = true then te σ2 H3 fun y H4 => Pv (i + 1) (ys ++ [y]) H4 else Pv (i + 1) ys H3)
    (hd : ∀ ys H, Pv n ys H → Fin ys H) : tCompK (Itr lo n) g tt te σc H Fin := by
  refine ⟨fun i m ys H => m = n - i ∧ i ≤ n ∧ Pv i ys H, ⟨n, by simp, Nat.zero_le _, h0⟩, ?_⟩
  rintro i m ys H ⟨rfl, hi, p⟩
  have hy := hl i ys H hi p
  by_cases hlt : i < n
  · refine .inr ⟨hlt, by omega, Pv (i + 1), fun ys' H' p' => ⟨n - (i + 1), by omega, rfl, hlt, p'⟩, fun x H' y => ?_⟩
    obtain ⟨e, y⟩ := y
    subst e y
    exact hs i ys _ hlt p
  · have e : i = n := by omega
    subst e
    exact .inl ⟨Nat.le_refl _, hd ys H p⟩
end L2

set_option Elab.async false
set_option linter.all false
set_option maxRecDepth 100000
/-! BUILT-INS over the hand layer: isinstance, all, any, sum, max, min, -x, zip, enumerate; == of data. -/
namespace L2
open PySem PySem.Spec PyProof.Rows

section
variable {X : Cx}
/-- isinstance(x, T), T a built-in class -/
theorem call_isinst : CallR X (.builtin "isinstance") (fun xs H Q => ∃ x t T b, xs = [x, .ty T] ∧ TyOf X.K H x t ∧ PySem.W.kitOne X.K t (.type T) = some b ∧ Q (.bl b) H) := by
  intro pins s σ H xs us Q I r h
  obtain ⟨x, t, T, b, rfl, ty, e, q⟩ := h
  cases r with
  | cons r1 rr =>
    cases rr with
    | cons r2 rr =>
      cases rr
      cases r2
      exact isinst_ok I r1 ty e fun tk => ⟨.bl b, H, I.tok _, rfl, q⟩
theorem Vals.bools : ∀ {bs : List Bool} {us : List Value}, Vals (bs.map V.bl) us → LSm.BoolsAre us bs
  | [], _, .nil => .nil
  | _ :: _, _, .cons r t => by
    cases r
    exact .cons _ (Vals.bools t)
theorem call_all (hc : X.calm = true) : CallR X (.builtin "all") (fun xs H Q => ∃ (a : Addr) (bs : List Bool), xs = [.ref a] ∧ SqL X.K H a (bs.map V.bl) ∧ Q (.bl (bs.all id)) H) := by
  intro pins s σ H xs us Q I r h
  obtain ⟨a, bs, rfl, hq, q⟩ := h
  cases r with
  | cons r1 rr =>
    cases rr
    cases r1
    obtain ⟨its, rv, p, hz⟩ := I.list hq
    have hl := p.isList
    have hb := rv.bools
    have hlt : a < s.heap.objs.size := by obtain ⟨_, e, _⟩ := hl; exact Heap.lt_size e
    refine call_all_walk (wpAny_pyIter_list hl ?_)
    refine ⟨s.heap.objs.size, [s.heap.objs.size, a], [s.heap.objs.size], its.toArray.size, _, _, fun i => (bs[i]?).getD true, rfl, Walks.list (A := X.A.in1) (I.ok.hd hc) _ a (Nat.ne_of_lt hlt) its.toArray,
      ⟨⟨_, Heap.get?_push_size _ rfl, rfl, rfl⟩, hl.push _⟩, fun i v s' Q' E' hP hQ => ?_, fun h' tk hk => ?_⟩
    · obtain ⟨b, e, rfl⟩ := hb.get i v (by simpa using hP)
      simp only [e, Option.getD_some] at hQ
      exact wpAny_truthy_bool hQ
    · have e : ((List.range its.toArray.size).all fun i => (bs[i]?).getD true) = bs.all id := by
        rw [List.size_toArray, hb.length]; exact LSm.range_all bs
      rw [e]
      exact ⟨.bl (bs.all id), H, I.kept (LSm.kept_iter hk), rfl, q⟩
theorem call_any (hc : X.calm = true) : CallR X (.builtin "any") (fun xs H Q => ∃ (a : Addr) (bs : List Bool), xs = [.ref a] ∧ SqL X.K H a (bs.map V.bl) ∧ Q (.bl (bs.any id)) H) := by
  intro pins s σ H xs us Q I r h
  obtain ⟨a, bs, rfl, hq, q⟩ := h
  cases r with
  | cons r1 rr =>
    cases rr
    cases r1
    obtain ⟨its, rv, p, hz⟩ := I.list hq
    have hl := p.isList
    have hb := rv.bools
    have hlt : a < s.heap.objs.size := by obtain ⟨_, e, _⟩ := hl; exact Heap.lt_size e
    refine call_any_walk (wpAny_pyIter_list hl ?_)
    refine ⟨s.heap.objs.size, [s.heap.objs.size, a], [s.heap.objs.size], its.toArray.size, _, _, fun i => (bs[i]?).getD false, rfl, Walks.list (A := X.A.in1) (I.ok.hd hc) _ a (Nat.ne_of_lt hlt) its.toArray,
      ⟨⟨_, Heap.get?_push_size _ rfl, rfl, rfl⟩, hl.push _⟩, fun i v s' Q' E' hP hQ => ?_, fun h' tk hk => ?_⟩
    · obtain ⟨b, e, rfl⟩ := hb.get i v (by simpa using hP)
      simp only [e, Option.getD_some] at hQ
      exact wpAny_truthy_bool hQ
    · have e : ((List.range its.toArray.size).any fun i => (bs[i]?).getD false) = bs.any id := by
        rw [List.size_toArray, hb.length]; exact LSm.range_any bs
      rw [e]
      exact ⟨.bl (bs.any id), H, I.kept (LSm.kept_iter hk), rfl, q⟩
/-- the greatest, the least of a list of ints -/
def maxI : List Int → Int
  | [] => 0
  | x :: r => r.foldl (fun a b => if a < b then b else a) x
def minI : List Int → Int
  | [] => 0
  | x :: r => r.foldl (fun a b => if b < a then b else a) x
end

/-! ### data, and what stands for it in the heap -/
inductive D where
  | non | bl (b : Bool) | int (i : Int) | str (x : Str) | tup (ds : List D) | lst (ds : List D)
mutual
def Rep (K : PySem.W.Frag) (H : Hp) : D → V → Prop
  | .non, v => v = .non
  | .bl b, v => v = .bl b
  | .int i, v => v = .int i
  | .str x, v => v = .str x
  | .tup ds, v => ∃ a vs, v = .ref a ∧ SqT K H a vs ∧ Reps K H ds vs
  | .lst ds, v => ∃ a vs, v = .ref a ∧ SqL K H a vs ∧ Reps K H ds vs
def Reps (K : PySem.W.Frag) (H : Hp) : List D → List V → Prop
  | [], vs => vs = []
  | d :: ds, vs => ∃ v r, vs = v :: r ∧ Rep K H d v ∧ Reps K H ds r
end
/-- nothing that is tracked is lost -/
theorem SqT.mono {K : PySem.W.Frag} {H H' : Hp} {a : Addr} {vs : List V} (e : Same H H') (h : SqT K H a vs) : SqT K H' a vs := by
  rcases h with h | h
  · rcases h with h | ⟨o, h⟩
    · exact .inl (.inl (e _ _ h))
    · exact .inl (.inr ⟨o, e _ _ h⟩)
  · exact .inr h
mutual
/-- == of data of like kinds -/
def eqD : D → D → Bool
  | .non, .non => true
  | .bl a, .bl b => a == b
  | .int a, .int b => a == b
  | .str a, .str b => a == b
  | .tup a, .tup b => eqDs a b
  | .lst a, .lst b => eqDs a b
  | _, _ => false
def eqDs : List D → List D → Bool
  | [], [] => true
  | a :: r, b :: t => eqD a b && eqDs r t
  | _, _ => false
end
mutual
/-- == is asked of like kinds alone -/
def likeD : D → D → Bool
  | .non, .non => true
  | .bl _, .bl _ => true
  | .int _, .int _ => true
  | .str _, .str _ => true
  | .tup a, .tup b => likeDs a b
  | .lst a, .lst b => likeDs a b
  | _, _ => false
def likeDs : List D → List D → Bool
  | a :: r, b :: t => likeD a b && likeDs r t
  | _, _ => true
end
mutual
def depD : D → Nat
  | .tup ds => depDs ds + 1
  | .lst ds => depDs ds + 1
  | _ => 0
def depDs : List D → Nat
  | [] => 0
  | d :: r => max (depD d) (depDs r)
end
theorem Reps.length {K : PySem.W.Frag} {H : Hp} : ∀ {ds : List D} {vs : List V}, Reps K H ds vs → vs.length = ds.length
  | [], _, h => by unfold Reps at h; subst h; rfl
  | d :: ds, _, h => by
    unfold Reps at h
    obtain ⟨v, r, rfl, _, h3⟩ := h
    simp [Reps.length h3]
theorem Reps.get {K : PySem.W.Frag} {H : Hp} : ∀ {ds : List D} {vs : List V} {i : Nat} {v : V}, Reps K H ds vs → vs[i]? = some v → ∃ d, ds[i]? = some d ∧ Rep K H d v
  | [], _, i, v, h, e => by unfold Reps at h; subst h; simp at e
  | d :: ds, _, 0, v, h, e => by
    unfold Reps at h
    obtain ⟨w, r, rfl, h2, _⟩ := h
    simp at e
    subst e
    exact ⟨d, rfl, h2⟩
  | d :: ds, _, i + 1, v, h, e => by
    unfold Reps at h
    obtain ⟨w, r, rfl, _, h3⟩ := h
    simpa using Reps.get (i := i) h3 (by simpa using e)
theorem likeDs_get : ∀ {a b : List D} {i : Nat} {x y : D}, likeDs a b = true → a[i]? = some x → b[i]? = some y → likeD x y = true
  | [], _, i, x, y, _, e, _ => by simp at e
  | _ :: _, [], i, x, y, _, _, e => by simp at e
  | a :: r, b :: t, 0, x, y, h, e1, e2 => by
    unfold likeDs at h
    simp at e1 e2
    subst e1 e2
    exact (Bool.and_eq_true _ _ ▸ h).1
  | a :: r, b :: t, i + 1, x, y, h, e1, e2 => by
    unfold likeDs at h
    exact likeDs_get (i := i) (Bool.and_eq_true _ _ ▸ h).2 (by simpa using e1) (by simpa using e2)
theorem depDs_get : ∀ {a : List D} {i : Nat} {x : D}, a[i]? = some x → depD x ≤ depDs a
  | [], i, x, e => by simp at e
  | d :: r, 0, x, e => by
    simp at e
    subst e
    unfold depDs
    exact Nat.le_max_left _ _
  | d :: r, i + 1, x, e => by
    unfold depDs
    exact Nat.le_trans (depDs_get (i := i) (by simpa using e)) (Nat.le_max_right _ _)
/-- the test place by place -/
def eqAtD (a b : List D) (i : Nat) : Bool := match a[i]?, b[i]? with
  | some x, some y => eqD x y
  | _, _ => true
theorem eqDs_range : ∀ {a b : List D}, a.length = b.length → (List.range a.length).all (eqAtD a b) = eqDs a b
  | [], [], _ => rfl
  | [], _ :: _, h => by simp at h
  | _ :: _, [], h => by simp at h
  | x :: r, y :: t, h => by
    have ih := eqDs_range (a := r) (b := t) (by simpa using h)
    rw [List.length_cons, List.range_succ_eq_map, List.all_cons, List.all_map]
    unfold eqDs
    rw [← ih]
    rfl
theorem eqDs_len : ∀ {a b : List D}, a.length ≠ b.length → eqDs a b = false
  | [], [], h => absurd rfl h
  | [], _ :: _, _ => rfl
  | _ :: _, [], _ => rfl
  | x :: r, y :: t, h => by
    unfold eqDs
    rw [eqDs_len (a := r) (b := t) (by simpa using h), Bool.and_false]
section
variable {X : Cx} {pins : List (Addr × Obj)} {σ : St} {H : Hp} {s : Shared}
theorem depTup (ds : List D) : depD (.tup ds) = depDs ds + 1 := by unfold depD; rfl
theorem depLst (ds : List D) : depD (.lst ds) = depDs ds + 1 := by unfold depD; rfl
/-- one thing stands for one datum -/
theorem same_rep (I : Inv X pins σ H s) (n : Nat) : ∀ {d e : D} {x : V}, depD d ≤ n → likeD d e = true → Rep X.K H d x → Rep X.K H e x → eqD d e = true := by
  have flat : ∀ {d e : D} {x : V}, depD d = 0 → likeD d e = true → Rep X.K H d x → Rep X.K H e x → eqD d e = true := by
    intro d e x hd hl r1 r2
    cases d with
    | tup ds => rw [depTup] at hd; omega
    | lst ds => rw [depLst] at hd; omega
    | non =>
      cases e <;> first | (exact absurd hl Bool.false_ne_true) | skip
      rfl
    | bl a =>
      cases e <;> first | (exact absurd hl Bool.false_ne_true) | skip
      unfold Rep at r1 r2
      rw [r1] at r2
      cases r2
      simp [eqD]
    | int a =>
      cases e <;> first | (exact absurd hl Bool.false_ne_true) | skip
      unfold Rep at r1 r2
      rw [r1] at r2
      cases r2
      simp [eqD]
    | str a =>
      cases e <;> first | (exact absurd hl Bool.false_ne_true) | skip
      unfold Rep at r1 r2
      rw [r1] at r2
      cases r2
      simp [eqD]
  have many : ∀ (m : Nat), (∀ {d e : D} {x : V}, depD d ≤ m → likeD d e = true → Rep X.K H d x → Rep X.K H e x → eqD d e = true) → ∀ {ds es : List D} {vs : List V}, depDs ds ≤ m → likeDs ds es = true → Reps X.K H ds vs → Reps X.K H es vs → eqDs ds es = true := by
    intro m ih ds
    induction ds with
    | nil =>
      intro es vs _ _ r1 r2
      cases es with
      | nil => rfl
      | cons e es =>
        unfold Reps at r1 r2
        obtain ⟨_, _, q, _⟩ := r2
        rw [r1] at q
        cases q
    | cons d ds ihl =>
      intro es vs hd hl r1 r2
      cases es with
      | nil =>
        unfold Reps at r1 r2
        obtain ⟨_, _, q, _⟩ := r1
        rw [r2] at q
        cases q
      | cons e es =>
        unfold Reps at r1 r2
        obtain ⟨v, r, q, a1, a2⟩ := r1
        obtain ⟨v', r', q', b1, b2⟩ := r2
        rw [q] at q'
        cases q'
        have hl' : (likeD d e && likeDs ds es) = true := by unfold likeDs at hl; exact hl
        rw [Bool.and_eq_true] at hl'
        have hd' : max (depD d) (depDs ds) ≤ m := by unfold depDs at hd; exact hd
        show (eqD d e && eqDs ds es) = true
        rw [ih (Nat.le_trans (Nat.le_max_left _ _) hd') hl'.1 a1 b1, ihl (Nat.le_trans (Nat.le_max_right _ _) hd') hl'.2 a2 b2]
        rfl
  induction n with
  | zero => intro d e x hd; exact flat (Nat.le_zero.mp hd)
  | succ n ih =>
    intro d e x hd hl r1 r2
    cases d with
    | non => exact flat rfl hl r1 r2
    | bl a => exact flat rfl hl r1 r2
    | int a => exact flat rfl hl r1 r2
    | str a => exact flat rfl hl r1 r2
    | tup ds =>
      cases e <;> first | (exact absurd hl Bool.false_ne_true) | skip
      rename_i es
      unfold Rep at r1 r2
      obtain ⟨a, vs, e1, q1, p1⟩ := r1
      obtain ⟨b, ws, e2, q2, p2⟩ := r2
      rw [e1] at e2
      cases e2
      have := I.tuple_inj q1 q2
      subst this
      rw [depTup] at hd
      have hl' : likeDs ds es = true := by unfold likeD at hl; exact hl
      exact many n ih (by omega) hl' p1 p2
    | lst ds =>
      cases e <;> first | (exact absurd hl Bool.false_ne_true) | skip
      rename_i es
      unfold Rep at r1 r2
      obtain ⟨a, vs, e1, q1, p1⟩ := r1
      obtain ⟨b, ws, e2, q2, p2⟩ := r2
      rw [e1] at e2
      cases e2
      have := I.list_inj q1 q2
      subst this
      rw [depLst] at hd
      have hl' : likeDs ds es = true := by unfold likeD at hl; exact hl
      exact many n ih (by omega) hl' p1 p2
/-- == of two things of the heap is == of their data -/
theorem eq_rep (I : Inv X pins σ H s) (n : Nat) : ∀ {d e : D} {x y : V} {u v : Value} {A : Around}, depD d ≤ n → likeD d e = true → A.units + n < cLine → Rep X.K H d x → Rep X.K H e y → RelV x u → RelV y v →
    SeqAt.EqAt A s u v (eqD d e) ∧ SeqAt.RcAt A s u v (eqD d e) ∧ SeqAt.RcNeAt A s u v (!eqD d e) := by
  induction n with
  | zero =>
    intro d e x y u v A hd hl hu r1 r2 v1 v2
    cases d with
    | tup ds => rw [depTup] at hd; omega
    | lst ds => rw [depLst] at hd; omega
    | non =>
      cases e <;> first | (exact absurd hl Bool.false_ne_true) | skip
      unfold Rep at r1 r2
      subst r1 r2
      cases v1; cases v2
      exact ⟨.same _, .none_none, .none_none⟩
    | bl a =>
      cases e <;> first | (exact absurd hl Bool.false_ne_true) | skip
      unfold Rep at r1 r2
      subst r1 r2
      cases v1; cases v2
      exact ⟨.bool_bool _ _, .bool_bool _ _, .bool_bool _ _⟩
    | int a =>
      cases e <;> first | (exact absurd hl Bool.false_ne_true) | skip
      unfold Rep at r1 r2
      subst r1 r2
      obtain ⟨t, rfl⟩ := v1
      obtain ⟨t', rfl⟩ := v2
      exact ⟨.int_int _ _ _ _, .int_int _ _ _ _, .int_int _ _ _ _⟩
    | str a =>
      cases e <;> first | (exact absurd hl Bool.false_ne_true) | skip
      unfold Rep at r1 r2
      subst r1 r2
      obtain ⟨t, rfl⟩ := v1
      obtain ⟨t', rfl⟩ := v2
      exact ⟨.str_str _ _ _ _, .str_str _ _ _ _, .str_str _ _ _ _⟩
  | succ n ih =>
    intro d e x y u v A hd hl hu r1 r2 v1 v2
    have hu0 : A.units < cLine := by omega
    have hu1 : A.in1.units + n < cLine := by show A.units + 1 + n < cLine; omega
    cases d with
    | non =>
      cases e <;> first | (exact absurd hl Bool.false_ne_true) | skip
      unfold Rep at r1 r2
      subst r1 r2
      cases v1; cases v2
      exact ⟨.same _, .none_none, .none_none⟩
    | bl a =>
      cases e <;> first | (exact absurd hl Bool.false_ne_true) | skip
      unfold Rep at r1 r2
      subst r1 r2
      cases v1; cases v2
      exact ⟨.bool_bool _ _, .bool_bool _ _, .bool_bool _ _⟩
    | int a =>
      cases e <;> first | (exact absurd hl Bool.false_ne_true) | skip
      unfold Rep at r1 r2
      subst r1 r2
      obtain ⟨t, rfl⟩ := v1
      obtain ⟨t', rfl⟩ := v2
      exact ⟨.int_int _ _ _ _, .int_int _ _ _ _, .int_int _ _ _ _⟩
    | str a =>
      cases e <;> first | (exact absurd hl Bool.false_ne_true) | skip
      unfold Rep at r1 r2
      subst r1 r2
      obtain ⟨t, rfl⟩ := v1
      obtain ⟨t', rfl⟩ := v2
      exact ⟨.str_str _ _ _ _, .str_str _ _ _ _, .str_str _ _ _ _⟩
    | tup ds =>
      cases e <;> first | (exact absurd hl Bool.false_ne_true) | skip
      rename_i es
      unfold Rep at r1 r2
      obtain ⟨a, vs, rfl, q1, p1⟩ := r1
      obtain ⟨b, ws, rfl, q2, p2⟩ := r2
      cases v1; cases v2
      obtain ⟨its1, rv1, t1, _⟩ := I.tuple q1
      obtain ⟨its2, rv2, t2, _⟩ := I.tuple q2
      have l1 : its1.length = ds.length := by rw [← rv1.length, p1.length]
      have l2 : its2.length = es.length := by rw [← rv2.length, p2.length]
      have hld : likeDs ds es = true := by unfold likeD at hl; exact hl
      have he : ∀ j (h1 : j < its1.toArray.size) (h2 : j < its2.toArray.size), SeqAt.EqAt A.in1 s its1.toArray[j] its2.toArray[j] (eqAtD ds es j) := fun j h1 h2 => by
        have h1' : j < its1.length := by simpa using h1
        have h2' : j < its2.length := by simpa using h2
        have j1 : j < vs.length := by rw [rv1.length]; exact h1'
        have j2 : j < ws.length := by rw [rv2.length]; exact h2'
        obtain ⟨d1, e1, r1⟩ := p1.get (List.getElem?_eq_getElem j1)
        obtain ⟨d2, e2, r2⟩ := p2.get (List.getElem?_eq_getElem j2)
        obtain ⟨u1, f1, s1⟩ := rv1.get (List.getElem?_eq_getElem j1)
        obtain ⟨u2, f2, s2⟩ := rv2.get (List.getElem?_eq_getElem j2)
        have g1 : its1.toArray[j] = u1 := by rw [List.getElem?_eq_getElem h1'] at f1; simpa using f1
        have g2 : its2.toArray[j] = u2 := by rw [List.getElem?_eq_getElem h2'] at f2; simpa using f2
        rw [g1, g2]
        have hq : eqAtD ds es j = eqD d1 d2 := by unfold eqAtD; rw [e1, e2]
        rw [hq]
        have hdd : depD d1 ≤ n := by
          rw [depTup] at hd
          have := depDs_get e1
          omega
        exact (ih hdd (likeDs_get hld e1 e2) hu1 r1 r2 s1 s2).1
      have hb : ((List.range (min its1.toArray.size its2.toArray.size)).all (eqAtD ds es) && its1.toArray.size == its2.toArray.size) = eqD (.tup ds) (.tup es) := by
        show _ = eqDs ds es
        rw [List.size_toArray, List.size_toArray, l1, l2]
        by_cases hq : ds.length = es.length
        · rw [hq, Nat.min_self, ← hq, eqDs_range hq]
          simp
        · rw [eqDs_len hq]
          simp [hq]
      have R := SeqAt.RcAt.tuples (A := A) (e := eqAtD ds es) (show s.heap.IsTuple a its1.toArray from t1) (show s.heap.IsTuple b its2.toArray from t2) hu0 he
      have R' := SeqAt.RcNeAt.tuples (A := A) (e := eqAtD ds es) (show s.heap.IsTuple a its1.toArray from t1) (show s.heap.IsTuple b its2.toArray from t2) hu0 he
      rw [hb] at R R'
      refine ⟨?_, R, R'⟩
      by_cases hab : a = b
      · subst hab
        have hs : eqD (.tup ds) (.tup es) = true := same_rep I (n + 1) hd hl (show Rep X.K H (.tup ds) (.ref a) by unfold Rep; exact ⟨a, vs, rfl, q1, p1⟩) (show Rep X.K H (.tup es) (.ref a) by unfold Rep; exact ⟨a, ws, rfl, q2, p2⟩)
        rw [hs]
        exact .same _
      · exact .of_refs hab R
    | lst ds =>
      cases e <;> first | (exact absurd hl Bool.false_ne_true) | skip
      rename_i es
      unfold Rep at r1 r2
      obtain ⟨a, vs, rfl, q1, p1⟩ := r1
      obtain ⟨b, ws, rfl, q2, p2⟩ := r2
      cases v1; cases v2
      obtain ⟨its1, rv1, t1, _⟩ := I.list q1
      obtain ⟨its2, rv2, t2, _⟩ := I.list q2
      have l1 : its1.length = ds.length := by rw [← rv1.length, p1.length]
      have l2 : its2.length = es.length := by rw [← rv2.length, p2.length]
      have hld : likeDs ds es = true := by unfold likeD at hl; exact hl
      have he : ∀ j (h1 : j < its1.toArray.size) (h2 : j < its2.toArray.size), SeqAt.EqAt A.in1 s its1.toArray[j] its2.toArray[j] (eqAtD ds es j) := fun j h1 h2 => by
        have h1' : j < its1.length := by simpa using h1
        have h2' : j < its2.length := by simpa using h2
        have j1 : j < vs.length := by rw [rv1.length]; exact h1'
        have j2 : j < ws.length := by rw [rv2.length]; exact h2'
        obtain ⟨d1, e1, r1⟩ := p1.get (List.getElem?_eq_getElem j1)
        obtain ⟨d2, e2, r2⟩ := p2.get (List.getElem?_eq_getElem j2)
        obtain ⟨u1, f1, s1⟩ := rv1.get (List.getElem?_eq_getElem j1)
        obtain ⟨u2, f2, s2⟩ := rv2.get (List.getElem?_eq_getElem j2)
        have g1 : its1.toArray[j] = u1 := by rw [List.getElem?_eq_getElem h1'] at f1; simpa using f1
        have g2 : its2.toArray[j] = u2 := by rw [List.getElem?_eq_getElem h2'] at f2; simpa using f2
        rw [g1, g2]
        have hq : eqAtD ds es j = eqD d1 d2 := by unfold eqAtD; rw [e1, e2]
        rw [hq]
        have hdd : depD d1 ≤ n := by
          rw [depLst] at hd
          have := depDs_get e1
          omega
        exact (ih hdd (likeDs_get hld e1 e2) hu1 r1 r2 s1 s2).1
      have R2 : SeqAt.RcAt A s (.ref a) (.ref b) (eqD (.lst ds) (.lst es)) ∧ SeqAt.RcNeAt A s (.ref a) (.ref b) (!eqD (.lst ds) (.lst es)) := by
        by_cases hq : ds.length = es.length
        · have hsz : its1.toArray.size = its2.toArray.size := by rw [List.size_toArray, List.size_toArray, l1, l2, hq]
          have hb : (List.range its1.toArray.size).all (eqAtD ds es) = eqD (.lst ds) (.lst es) := by
            show _ = eqDs ds es
            rw [List.size_toArray, l1, eqDs_range hq]
          have R := SeqAt.RcAt.lists (A := A) (e := eqAtD ds es) t1.isList t2.isList hsz hu0 he
          have R' := SeqAt.RcNeAt.lists (A := A) (e := eqAtD ds es) t1.isList t2.isList hsz hu0 he
          rw [hb] at R R'
          exact ⟨R, R'⟩
        · have hsz : (its1.toArray.size != its2.toArray.size) = true := by
            rw [List.size_toArray, List.size_toArray, l1, l2]
            simpa using hq
          have hb : eqD (.lst ds) (.lst es) = false := eqDs_len hq
          rw [hb]
          exact ⟨SeqAt.RcAt.lists_lengths t1.isList t2.isList hsz hu0, SeqAt.RcNeAt.lists_lengths t1.isList t2.isList hsz hu0⟩
      obtain ⟨R, R'⟩ := R2
      refine ⟨?_, R, R'⟩
      by_cases hab : a = b
      · subst hab
        have hs : eqD (.lst ds) (.lst es) = true := same_rep I (n + 1) hd hl (show Rep X.K H (.lst ds) (.ref a) by unfold Rep; exact ⟨a, vs, rfl, q1, p1⟩) (show Rep X.K H (.lst es) (.ref a) by unfold Rep; exact ⟨a, ws, rfl, q2, p2⟩)
        rw [hs]
        exact .same _
      · exact .of_refs hab R
/-- a == b, a != b of data -/
def rEqD (K : PySem.W.Frag) : R2 := fun x y H Q => ∃ d e, Rep K H d x ∧ Rep K H e y ∧ likeD d e = true ∧ depD d ≤ 40 ∧ Q (.bl (eqD d e)) H
def rNeD (K : PySem.W.Frag) : R2 := fun x y H Q => ∃ d e, Rep K H d x ∧ Rep K H e y ∧ likeD d e = true ∧ depD d ≤ 40 ∧ Q (.bl (!eqD d e)) H
theorem op_eqD (hu : X.A.units + 64 < cLine) : OpR X (compareOp .Eq) (rEqD X.K) := by
  intro pins s σ H x y v u Q I rx ry h
  obtain ⟨d, e, r1, r2, hl, hd, q⟩ := h
  exact (eq_rep I 40 hd hl (by omega) r1 r2 rx ry).2.1 X.prog X.w X.xe _ ⟨.bl (eqD d e), H, I, rfl, q⟩
theorem op_neD (hu : X.A.units + 64 < cLine) : OpR X (compareOp .NotEq) (rNeD X.K) := by
  intro pins s σ H x y v u Q I rx ry h
  obtain ⟨d, e, r1, r2, hl, hd, q⟩ := h
  exact (eq_rep I 40 hd hl (by omega) r1 r2 rx ry).2.2 X.prog X.w X.xe _ ⟨.bl (!eqD d e), H, I, rfl, q⟩
end
mutual
theorem eqD_self : ∀ d : D, eqD d d = true
  | .non => rfl
  | .bl b => by simp [eqD]
  | .int i => by simp [eqD]
  | .str x => by simp [eqD]
  | .tup ds => by
    show eqDs ds ds = true
    exact eqDs_self ds
  | .lst ds => by
    show eqDs ds ds = true
    exact eqDs_self ds
theorem eqDs_self : ∀ ds : List D, eqDs ds ds = true
  | [] => rfl
  | d :: r => by
    show (eqD d d && eqDs r r) = true
    rw [eqD_self d, eqDs_self r]
    rfl
end
mutual
theorem eqD_eq : ∀ {d e : D}, eqD d e = true → d = e
  | .non, e, h => by cases e <;> simp [eqD] at h; rfl
  | .bl b, e, h => by cases e <;> simp [eqD] at h; rw [h]
  | .int i, e, h => by cases e <;> simp [eqD] at h; rw [h]
  | .str x, e, h => by cases e <;> simp [eqD] at h; rw [h]
  | .tup ds, e, h => by
    cases e with
    | tup es =>
      have h' : eqDs ds es = true := h
      rw [eqDs_eq h']
    | _ => simp [eqD] at h
  | .lst ds, e, h => by
    cases e with
    | lst es =>
      have h' : eqDs ds es = true := h
      rw [eqDs_eq h']
    | _ => simp [eqD] at h
theorem eqDs_eq : ∀ {ds es : List D}, eqDs ds es = true → ds = es
  | [], es, h => by cases es with
    | nil => rfl
    | cons _ _ => simp [eqDs] at h
  | d :: r, es, h => by cases es with
    | nil => simp [eqDs] at h
    | cons e t =>
      have h' : (eqD d e && eqDs r t) = true := h
      rw [Bool.and_eq_true] at h'
      rw [eqD_eq h'.1, eqDs_eq h'.2]
end
end L2

set_option Elab.async false
set_option linter.all false
set_option maxRecDepth 100000
/-! DEFS in short. -/
namespace L2
open PySem PySem.Spec PyProof.Rows
theorem bt_len : bootBuiltins "len" = some (.builtin "len") := by decide +kernel
theorem bt_abs : bootBuiltins "abs" = some (.builtin "abs") := by decide +kernel
theorem bt_isinstance : bootBuiltins "isinstance" = some (.builtin "isinstance") := by decide +kernel
theorem bt_all : bootBuiltins "all" = some (.builtin "all") := by decide +kernel
theorem bt_any : bootBuiltins "any" = some (.builtin "any") := by decide +kernel
theorem bt_int : bootBuiltins "int" = some (.type "int") := by decide +kernel
theorem bt_bool : bootBuiltins "bool" = some (.type "bool") := by decide +kernel
theorem bt_list : bootBuiltins "list" = some (.type "list") := by decide +kernel
theorem bt_tuple : bootBuiltins "tuple" = some (.type "tuple") := by decide +kernel
theorem ifP {c A B : Prop} [Decidable c] (hc : c) (h : A) : if c then A else B := by
  rw [if_pos hc]
  exact h
theorem ifN {c A B : Prop} [Decidable c] (hc : ¬ c) (h : B) : if c then A else B := by
  rw [if_neg hc]
  exact h
theorem st_Name {env : Env} {es : List Expr} {a b} : starEach (.Name a b :: es) env = (false, eval (.Name a b) env) :: starEach es env := rfl
theorem st_Constant {env : Env} {es : List Expr} {a b c} : starEach (.Constant a b c :: es) env = (false, eval (.Constant a b c) env) :: starEach es env := rfl
theorem st_Subscript {env : Env} {es : List Expr} {a b c} : starEach (.Subscript a b c :: es) env = (false, eval (.Subscript a b c) env) :: starEach es env := rfl
theorem st_BinOp {env : Env} {es : List Expr} {a b c d} : starEach (.BinOp a b c d :: es) env = (false, eval (.BinOp a b c d) env) :: starEach es env := rfl
theorem st_Call {env : Env} {es : List Expr} {a b c d} : starEach (.Call a b c d :: es) env = (false, eval (.Call a b c d) env) :: starEach es env := rfl
theorem st_ListComp {env : Env} {es : List Expr} {a b c d} : starEach (.ListComp a b c d :: es) env = (false, eval (.ListComp a b c d) env) :: starEach es env := rfl
theorem st_Tuple {env : Env} {es : List Expr} {a b c} : starEach (.Tuple a b c :: es) env = (false, eval (.Tuple a b c) env) :: starEach es env := rfl
theorem st_List {env : Env} {es : List Expr} {a b} : starEach (.List a b :: es) env = (false, eval (.List a b) env) :: starEach es env := rfl
theorem st_Attribute {env : Env} {es : List Expr} {a b c} : starEach (.Attribute a b c :: es) env = (false, eval (.Attribute a b c) env) :: starEach es env := rfl
/-- a turn of a comprehension with no test -/
theorem gN_yes {i : Nat} {v : V} {σ : St} {H : Hp} {A B : St → Hp → Prop} (h : A (σ.set i (some v)) H) : gName i v σ H fun σ2 H2 => tYes σ2 H2 fun b H3 => if b = true then A σ2 H3 else B σ2 H3 := by
  show (if true = true then A (σ.set i (some v)) H else B (σ.set i (some v)) H)
  exact iteT h
/-- a def of the text as it stands behind the top, under its name -/
structure FunM (K : PySem.W.Frag) (mg : Str → Option Value) (x : Str) (st : Stmt) (ps : List Str) : Prop where
  ex : ∃ f fd, Fun K x x st f fd ∧ mg x = some (.ref f) ∧ Binds K fd ps []
/-- it keeps a promise -/
structure Def (P : Program) (w : World) (K : PySem.W.Frag) (mg : Str → Option Value) (base : Heap) (x : Str) (ps : List Str) (k : Nat) (sp : Sp) : Prop where
  ex : ∃ f fd, FnOk P w K mg base CX0 k f fd ps sp ∧ mg x = some (.ref f) ∧ PySem.W.keepIn K (.ref f) = true ∧ Binds K fd ps []
section
variable {P : Program} {w : World} {K : PySem.W.Frag} {mg : Str → Option Value} {base : Heap}
theorem Def.of {x : Str} {st : Stmt} {N ps : List Str} {k : Nat} {sp : Sp} (F : FunM K mg x st ps) (S : FnScope N ps (defScope st)) (len : ∀ vs H Q E, sp vs H Q E → vs.length = ps.length)
    (hbody : ∀ (f : Addr) (cdv : Value) (A : Around) (outer : List Env) (s : Shared) (H : Hp) (vs : List V) (Q : VK) (E : XK), Room k (A.deeper (envOfC x (defScope st) s.heap.objs.size f cdv)) → sp vs H Q E →
      ∃ t, PSs (cxOf CX0 P w K mg base N x (defScope st) f cdv A outer s H E).nox (defBody st) t ∧ t { nx := fun _ H' => Q .non H', rt := Q } (start N vs) H) : Def P w K mg base x ps (k + 1) sp := by
  obtain ⟨f, fd, F1, hm, hb⟩ := F.ex
  exact ⟨f, fd, F1.ok S len (hbody f), hm, F1.kp, hb⟩
end
theorem pe_def {X : Cx} {x : Str} {ps : List Str} {k : Nat} {sp : Sp} {p pos : Pos} {e : Expr} {es : List Expr} {t : TA} (D : Def X.prog X.w X.K X.mg X.base x ps k sp) (hr : Room k X.A) (hg : Gl X x) (ha : PA X (e :: es) t)
    (hdb : (x == ("__debug__" : Str)) = false := by decide)
    (he : starEach (e :: es) X.env = (false, eval e X.env) :: starEach es X.env := by rfl) (hpl : (backTo pos (starEach es X.env)).any (·.1) = false := by rfl) : PE X (.Call (.Name x p) (e :: es) [] pos) (tCall sp [] E0 t) := by
  obtain ⟨f, fd, F, hm, hk, hb⟩ := D.ex
  exact pe_call F hr hg hm hk hb .nil pass0 ha hdb he hpl
theorem fun_m {K : PySem.W.Frag} {h : Heap} {mg : Str → Option Value} (X : K.In h) (G : h.Ns mainGlobals mg) {x : Str} {st : Stmt} {ps : List Str} {f : Addr} {oc : Value} {od an : Option Addr} {osl : Array (Option Value)} {kV doc pm cdv ct : Value}
    (a : PySem.W.nsIn K mainGlobals x = some (some (.ref f)))
    (l : K.lookup f = some ⟨oc, od, .func (PySem.W.fnOf x x (defArgs st) (defBody st) (defScope st) .none kV doc pm an cdv ct), osl⟩) (c : PySem.W.codeIn K cdv x = true) (k : PySem.W.keepIn K (.ref f) = true)
    (b : ∀ (kV doc pm : Value) (an : Option Addr) (cdv ct : Value) (us : List Value), us.length = ps.length → bindArgs (PySem.W.fnOf x x (defArgs st) (defBody st) (defScope st) .none kV doc pm an cdv ct) ⟨us, []⟩ = pure (ps.zip us)) : FunM K mg x st ps := by
  have F := fun_mk (st := st) l c k
  exact ⟨f, _, F, PySem.W.mg_of X G a, F.binds b⟩
end L2

set_option Elab.async false
set_option linter.all false
set_option maxRecDepth 100000
/-! ZIP, ENUMERATE over the hand layer, where the target is a tuple of names; xs[i] op= e. -/
namespace L2
open PySem PySem.Spec PyProof.Rows
section
variable {X : Cx} {pins : List (Addr × Obj)} {σ : St} {H : Hp} {s : Shared}
/-- records of ours have turned -/
theorem Inv.turnedL {t' : Nat} {ch : List Addr} {h' : Heap} (I : Inv X pins σ H s) (k : ∀ b o, b ∉ ch → s.heap.get? b = some o → h'.get? b = some o) (f : ∀ b ∈ ch, FpOk X pins H b) : Inv X pins σ H { s with heap := h', toks := t' } := by
  have nit : ∀ b u, H b = some u → b ∉ ch := fun b u e z => by rw [(f b z).1] at e; cases e
  refine I.step (g' := s.gens) (d' := s.drawn) (ch := ch) (fun b hb => ⟨(f b hb).2.2.2.1, (f b hb).2.1, (f b hb).2.2.2.2.1, (f b hb).2.2.2.2.2⟩) (fun b o _ _ hc e _ => k b o hc e) (fun b o _ _ hc e _ => ⟨o.slots, k b o hc e⟩) (fun _ _ _ _ n => n)
    (fun b o hc e => ⟨o, k b o hc e⟩) (fun _ _ e => e) (fun _ _ _ e => e) (fun b ps e => ⟨#[], by rw [e]; simp⟩) (fun m hm => ?_) (fun b u e => ?_) I.bare
  · obtain ⟨o, es, ep, ho, r⟩ := hm
    exact ⟨o, es, ep, k _ o (fun z => (f _ z).2.1 rfl) ho, r⟩
  · refine (I.hok b u e).stay (fun c v hc q => k c v ?_ q) (fun _ q => q) fun _ _ q => q
    rcases hc with z | z
    · rw [z]; exact nit b u e
    · exact nit c _ z
end
/-! ### zip(a, b) of two lists -/
def Itz (K : PySem.W.Frag) (a b : Addr) : It :=
  ⟨fun i H => ∃ xs ys x y, SqL K H a xs ∧ SqL K H b ys ∧ xs[i]? = some x ∧ ys[i]? = some y,
   fun i H v H' => ∃ p x y, v = .ref p ∧ H p = none ∧ H' = upd H p (.tup [x, y]) ∧ (∀ xs, SqL K H a xs → xs[i]? = some x) ∧ (∀ ys, SqL K H b ys → ys[i]? = some y),
   fun i H => ∃ xs ys, SqL K H a xs ∧ SqL K H b ys ∧ (xs.length ≤ i ∨ ys.length ≤ i)⟩
theorem list_ne {h : Heap} {l c : Addr} {its : Array Value} {o : Obj} {n : String} (hl : h.IsList l its) (hc : h.get? c = some o) (hn : o.cls = .type n) (hd : n ≠ "list") : l ≠ c := by
  rintro rfl
  obtain ⟨q, e, e2, _⟩ := hl
  rw [hc] at e
  cases e
  rw [hn] at e2
  injection e2 with e3
  exact hd e3
theorem turn_zip {P : Program} {w : World} {K : PySem.W.Frag} {es : List Expr} {k1 : _} {tp : Pos} (a b z TI TO i1 i2 : Addr) (hap : z ≠ TI ∧ z ≠ TO ∧ z ≠ i1 ∧ z ≠ i2 ∧ TI ≠ TO ∧ TI ≠ i1 ∧ TI ≠ i2 ∧ TO ≠ i1 ∧ TO ≠ i2 ∧ i1 ≠ i2) :
    Turn P w K (.Tuple es k1 tp) (Itz K a b) [z, TI, TO, i1, i2] z (fun i h => IsZip h z TI TO .none ∧ IsPair h TI (.ref i1) (.ref i2) ∧ (∃ x y, IsPair h TO x y) ∧ h.IsListIter i1 a i ∧ h.IsListIter i2 b i) where
  mem := by simp
  obj := fun i h st c hc => by
    obtain ⟨hz, hTI, ⟨x, y, hTO⟩, h1, h2⟩ := st
    simp only [List.mem_cons, List.not_mem_nil, or_false] at hc
    rcases hc with e | e | e | e | e
    · subst e; exact ⟨_, hz, fun v z => by simp at z⟩
    · subst e; exact ⟨_, hTI, fun v z => by simp at z⟩
    · subst e; exact ⟨_, hTO, fun v z => by simp at z⟩
    · subst e; obtain ⟨o, e, _, d⟩ := h1; exact ⟨o, e, fun v z => by rw [d] at z; cases z⟩
    · subst e; obtain ⟨o, e, _, d⟩ := h2; exact ⟨o, e, fun v z => by rw [d] at z; cases z⟩
  keep := fun i h h' st k => by
    obtain ⟨hz, hTI, ⟨x, y, hTO⟩, h1, h2⟩ := st
    exact ⟨k z (by simp) _ hz, k TI (by simp) _ hTI, ⟨x, y, k TO (by simp) _ hTO⟩, h1.at fun o e => k i1 (by simp) o e, h2.at fun o e => k i2 (by simp) o e⟩
  item := by
    intro X hP hw hK hc i pins s σ H E I hf st hg
    subst hP hw hK
    obtain ⟨xs, ys, x, y, q1, q2, hx, hy⟩ := hg
    obtain ⟨hz, hTI, ⟨u0, v0, hTO⟩, h1, h2⟩ := st
    obtain ⟨its1, rv1, p1, _⟩ := I.list q1
    obtain ⟨its2, rv2, p2, _⟩ := I.list q2
    obtain ⟨u, hu, ru⟩ := rv1.get hx
    obtain ⟨v, hv, rv⟩ := rv2.get hy
    obtain ⟨a1, a2, a3, a4, a5, a6, a7, a8, a9, a10⟩ := hap
    have l1 := p1.isList
    have l2 := p2.isList
    have ni : ∀ {l c c' : Addr} {its : Array Value} {j : Nat}, s.heap.IsList l its → s.heap.IsListIter c c' j → l ≠ c := fun hl hit => by
      obtain ⟨o, e, e2, _⟩ := hit
      exact list_ne hl e e2 (by decide)
    have D : ZipApart z TI TO i1 i2 a b := ⟨a1.symm, a2.symm, a3.symm, a4.symm, a5, a6, a7, a8, a9, a10, list_ne l1 hz rfl (by decide), list_ne l1 hTO rfl (by decide), ni l1 h1, ni l1 h2, list_ne l2 hz rfl (by decide), list_ne l2 hTO rfl (by decide), ni l2 h1, ni l2 h2⟩
    refine wpAny_pyNext_zip_item D hz hTI hTO h1 h2 l1 l2 (by simpa using hu) (by simpa using hv) fun h' b1 b2 b3 b4 b5 b6 b7 => ?_
    refine ⟨_, rfl, wpAny_letOwnedTupleGo_zip b1 fun h'' c1 c2 => ?_⟩
    have kk : ∀ c o, c ∉ [z, TI, TO, i1, i2] → s.heap.get? c = some o → h''.get? c = some o := fun c o hc e => by
      simp only [List.mem_cons, List.not_mem_nil, or_false, not_or] at hc
      exact c2.extBut c o hc.1 (b7 c o hc.1 hc.2.2.1 hc.2.2.2.1 hc.2.2.2.2 e)
    have I1 : Inv X pins σ H { s with heap := h'' } := I.turnedL (t' := s.toks) kk hf
    have hzlt : z < s.heap.objs.size := Heap.lt_size hz
    have ht : h''.get? s.heap.objs.size = some { cls := .type "tuple", data := .seq #[u, v] } := c2.extBut _ _ (Nat.ne_of_gt hzlt) b5
    have hn : H s.heap.objs.size = none := I.hok.fresh (Nat.le_refl _)
    have ftr : FpOk X pins H s.heap.objs.size := I.fpOk (Nat.le_refl _) hn
    have lt : ∀ {c o}, s.heap.get? c = some o → c ≠ s.heap.objs.size := fun e => Nat.ne_of_lt (Heap.lt_size e)
    refine ⟨.ref s.heap.objs.size, upd H s.heap.objs.size (.tup [x, y]), I1.track ftr ⟨by show 2 ≤ sizeLine; decide, [u, v], .cons ru (.cons rv .nil), ⟨_, ht, rfl, _, rfl⟩⟩, rfl,
      ⟨_, x, y, rfl, hn, rfl, fun zs hq => by rw [I.list_inj hq q1]; exact hx, fun zs hq => by rw [I.list_inj hq q2]; exact hy⟩,
      ⟨c1, c2.extBut _ _ a1.symm (b7 _ _ a1.symm a5 a6 a7 hTI), ⟨u, v, c2.extBut _ _ a2.symm b2⟩, b3.extBut c2.extBut a3.symm, b4.extBut c2.extBut a4.symm⟩, fun c hc => ?_⟩
    rw [upd_ne]
    · exact (hf c hc).1
    · simp only [List.mem_cons, List.not_mem_nil, or_false] at hc
      obtain ⟨o1, e1, _⟩ := h1
      obtain ⟨o2, e2, _⟩ := h2
      rcases hc with e | e | e | e | e
      · subst e; exact lt hz
      · subst e; exact lt hTI
      · subst e; exact lt hTO
      · subst e; exact lt e1
      · subst e; exact lt e2
  done := by
    intro X hP hw hK hc i pins s σ H E I hf st hg
    subst hP hw hK
    obtain ⟨xs, ys, q1, q2, hend⟩ := hg
    obtain ⟨hz, hTI, ⟨u0, v0, hTO⟩, h1, h2⟩ := st
    obtain ⟨its1, rv1, p1, _⟩ := I.list q1
    obtain ⟨its2, rv2, p2, _⟩ := I.list q2
    obtain ⟨a1, a2, a3, a4, a5, a6, a7, a8, a9, a10⟩ := hap
    have l1 := p1.isList
    have l2 := p2.isList
    have ni : ∀ {l c c' : Addr} {its : Array Value} {j : Nat}, s.heap.IsList l its → s.heap.IsListIter c c' j → l ≠ c := fun hl hit => by
      obtain ⟨o, e, e2, _⟩ := hit
      exact list_ne hl e e2 (by decide)
    have D : ZipApart z TI TO i1 i2 a b := ⟨a1.symm, a2.symm, a3.symm, a4.symm, a5, a6, a7, a8, a9, a10, list_ne l1 hz rfl (by decide), list_ne l1 hTO rfl (by decide), ni l1 h1, ni l1 h2, list_ne l2 hz rfl (by decide), list_ne l2 hTO rfl (by decide), ni l2 h1, ni l2 h2⟩
    have e1 := rv1.length
    have e2 := rv2.length
    refine wpAny_pyNext_zip_end (I.ok.hd hc) D hz hTI hTO h1 h2 l1 l2 (by
      rcases hend with h | h
      · left; simp; omega
      · right; simp; omega) fun h' kk => ⟨rfl, ?_⟩
    exact I.turnedL (t' := s.toks) (fun c o hc e => by
      simp only [List.mem_cons, List.not_mem_nil, or_false, not_or] at hc
      exact kk c o hc.1 hc.2.2.1 hc.2.2.2.1 hc.2.2.2.2 e) hf
  self := fun _ _ _ _ _ st h => wpAny_pyIter_zip st.1 h
def iZip (K : PySem.W.Frag) (ta : TA) : TI := fun σ H R => ta σ H fun vs H1 => ∃ a b, vs = [.ref a, .ref b] ∧ (∃ xs, SqL K H1 a xs) ∧ (∃ ys, SqL K H1 b ys) ∧ R (Itz K a b) H1
theorem pi_zip {X : Cx} {es : List Expr} {k1 : _} {tp : Pos} {a b : Expr} {ta : TA} {p pos : Pos} (hg : Gl X "zip") (hm : X.mg "zip" = none) (ha : PA X [a, b] ta) (hs : starEach [a, b] X.env = [(false, eval a X.env), (false, eval b X.env)] := by rfl) (hs2 : starEach [b] X.env = [(false, eval b X.env)] := by rfl) :
    PI X (.Tuple es k1 tp) (.Call (.Name "zip" p) [a, b] [] pos) (iZip X.K ta) := by
  intro pins s σ H R I h
  refine Call_ (ld_blt I hg hm boot_zip (PyProof.Rows.callWith_type1 (thn (ha pos pins s σ H _ I h) fun us s1 ⟨vs, H1, I1, r1, q1⟩ => ?_) (by rw [hs, hs2]) (by rw [hs2]; rfl)))
  obtain ⟨l1, l2, e, ⟨xs, hx⟩, ⟨ys, hy⟩, q⟩ := q1
  subst e
  cases r1 with
  | cons r rr =>
    cases rr with
    | cons r' rr =>
      cases rr
      cases r
      cases r'
      obtain ⟨its1, rv1, p1, _⟩ := I1.list hx
      obtain ⟨its2, rv2, p2, _⟩ := I1.list hy
      refine call_zip_2 p1.isList p2.isList fun h' c1 c2 c3 c4 c5 c6 c7 => ?_
      have I2 : Inv X pins σ H1 { s1 with heap := h' } := I1.kept (t' := s1.toks) c7
      refine wpAny_pyIter_zip (s := { s1 with heap := h' }) c1 ?_
      refine ⟨_, _, _, _, H1, rfl, I2, turn_zip l1 l2 _ (s1.heap.objs.size + 2) (s1.heap.objs.size + 3) s1.heap.objs.size (s1.heap.objs.size + 1) ?_, ⟨c1, c2, ⟨_, _, c3⟩, c4, c5⟩, fun c hc => ?_, q⟩
      · refine ⟨?_, ?_, ?_, ?_, ?_, ?_, ?_, ?_, ?_, ?_⟩ <;> (intro z; have z' : (_ : Nat) = _ := z; omega)
      · simp only [List.mem_cons, List.not_mem_nil, or_false] at hc
        have hle : s1.heap.objs.size ≤ c := by
          rcases hc with e | e | e | e | e <;> (subst e; first | exact Nat.le_refl _ | exact Nat.le_add_right _ _)
        exact I1.fpOk hle (I1.hok.fresh hle)
/-- over zip of two lists that the body leaves as they are -/
theorem for_zip {K : PySem.W.Frag} {a b : Addr} {xs ys : List V} {g : TG} {tb : TS} {D : Ends} {σ : St} {H : Hp} (Pv : Nat → St → Hp → Prop) (h0 : Pv 0 σ H) (hl : ∀ i σ H, Pv i σ H → SqL K H a xs ∧ SqL K H b ys)
    (hs : ∀ i x y p σ H, xs[i]? = some x → ys[i]? = some y → H p = none → Pv i σ H → g (.ref p) σ (upd H p (.tup [x, y])) fun σ2 H2 => tb { D with nx := Pv (i + 1), ct := Pv (i + 1), bk := D.nx } σ2 H2) (hd : ∀ σ H, Pv (min xs.length ys.length) σ H → D.nx σ H) :
    ∃ W : Nat → Nat → St → Hp → Prop, (∃ m, W 0 m σ H) ∧ ∀ i m σ H, W i m σ H →
      ((Itz K a b).stop i H ∧ D.nx σ H) ∨ ((Itz K a b).go i H ∧ ∃ N : St → Hp → Prop, (∀ σ' H', N σ' H' → ∃ m', m' < m ∧ W (i + 1) m' σ' H') ∧ ∀ x H', (Itz K a b).yld i H x H' → g x σ H' fun σ2 H2 => tb { D with nx := N, ct := N, bk := D.nx } σ2 H2) := by
  refine ⟨fun i m σ H => m = min xs.length ys.length - i ∧ i ≤ min xs.length ys.length ∧ Pv i σ H, ⟨_, rfl, Nat.zero_le _, h0⟩, ?_⟩
  rintro i m σ H ⟨rfl, hi, p⟩
  obtain ⟨q1, q2⟩ := hl i σ H p
  by_cases hlt : i < min xs.length ys.length
  · have h1 : i < xs.length := by omega
    have h2 : i < ys.length := by omega
    refine .inr ⟨⟨xs, ys, xs[i], ys[i], q1, q2, by simp [h1], by simp [h2]⟩, Pv (i + 1), fun σ' H' p' => ⟨min xs.length ys.length - (i + 1), by omega, rfl, hlt, p'⟩, fun x H' y => ?_⟩
    obtain ⟨r, u, v, rfl, hn, rfl, e1, e2⟩ := y
    exact hs i u v r σ H (e1 xs q1) (e2 ys q2) hn p
  · have e : i = min xs.length ys.length := by omega
    subst e
    exact .inl ⟨⟨xs, ys, q1, q2, by omega⟩, hd σ H p⟩
theorem comp_zip {K : PySem.W.Frag} {a b : Addr} {xs ys : List V} {g : TG} {tt : TT} {te : TE} {σc : St} {H : Hp} {Fin : List V → Hp → Prop} (Pv : Nat → List V → Hp → Prop) (h0 : Pv 0 [] H) (hl : ∀ i zs H, Pv i zs H → SqL K H a xs ∧ SqL K H b ys ∧ zs.length ≤ i) (hz : xs.length ≤ sizeLine)
    (hs : ∀ i x y p zs H, xs[i]? = some x → ys[i]? = some y → H p = none → Pv i zs H → g (.ref p) σc (upd H p (.tup [x, y])) fun σ2 H2 => tt σ2 H2 fun b H3 => if b = true then te σ2 H3 fun y H4 => Pv (i + 1) (zs ++ [y]) H4 else Pv (i + 1) zs H3)
    (hd : ∀ zs H, Pv (min xs.length ys.length) zs H → Fin zs H) : tCompK (Itz K a b) g tt te σc H Fin := by
  refine ⟨fun i m zs H => m = min xs.length ys.length - i ∧ i ≤ min xs.length ys.length ∧ Pv i zs H, ⟨_, rfl, Nat.zero_le _, h0⟩, ?_⟩
  rintro i m zs H ⟨rfl, hi, p⟩
  obtain ⟨q1, q2, hy⟩ := hl i zs H p
  by_cases hlt : i < min xs.length ys.length
  · have h1 : i < xs.length := by omega
    have h2 : i < ys.length := by omega
    refine .inr ⟨⟨xs, ys, xs[i], ys[i], q1, q2, by simp [h1], by simp [h2]⟩, by omega, Pv (i + 1), fun ys' H' p' => ⟨min xs.length ys.length - (i + 1), by omega, rfl, hlt, p'⟩, fun x H' y => ?_⟩
    obtain ⟨r, u, v, rfl, hn, rfl, e1, e2⟩ := y
    exact hs i u v r zs H (e1 xs q1) (e2 ys q2) hn p
  · have e : i = min xs.length ys.length := by omega
    subst e
    exact .inl ⟨⟨xs, ys, q1, q2, by omega⟩, hd zs H p⟩
/-! ### enumerate(a) of a list -/
def Ite (K : PySem.W.Frag) (a : Addr) : It :=
  ⟨fun i H => ∃ xs x, SqL K H a xs ∧ xs[i]? = some x,
   fun i H v H' => ∃ p x, v = .ref p ∧ H p = none ∧ H' = upd H p (.tup [.int i, x]) ∧ (∀ xs, SqL K H a xs → xs[i]? = some x),
   fun i H => ∃ xs, SqL K H a xs ∧ xs.length ≤ i⟩
theorem turn_enum {P : Program} {w : World} {K : PySem.W.Frag} {es : List Expr} {k1 : _} {tp : Pos} (a e it : Addr) (hap : e ≠ it) :
    Turn P w K (.Tuple es k1 tp) (Ite K a) [e, it] e (fun i h => (∃ old, IsEnum h e it ((i : Nat) : Int) old) ∧ h.IsListIter it a i) where
  mem := by simp
  obj := fun i h st c hc => by
    obtain ⟨⟨old, he⟩, h1⟩ := st
    simp only [List.mem_cons, List.not_mem_nil, or_false] at hc
    rcases hc with q | q
    · subst q; exact ⟨_, he, fun v z => by simp at z⟩
    · subst q; obtain ⟨o, e, _, d⟩ := h1; exact ⟨o, e, fun v z => by rw [d] at z; cases z⟩
  keep := fun i h h' st k => by
    obtain ⟨⟨old, he⟩, h1⟩ := st
    exact ⟨⟨old, k e (by simp) _ he⟩, h1.at fun o q => k it (by simp) o q⟩
  item := by
    intro X hP hw hK hc i pins s σ H E I hf st hg
    subst hP hw hK
    obtain ⟨xs, x, q1, hx⟩ := hg
    obtain ⟨⟨old, he⟩, h1⟩ := st
    obtain ⟨its1, rv1, p1, _⟩ := I.list q1
    obtain ⟨u, hu, ru⟩ := rv1.get hx
    have l1 := p1.isList
    refine wpAny_pyNext_enum_item he h1 l1 (by simpa using hu) hap fun h' b1 b2 b3 b4 b5 => ?_
    refine ⟨_, rfl, wpAny_letOwnedTupleGo_enum b1 fun h'' c1 c2 => ?_⟩
    have kk : ∀ c o, c ∉ [e, it] → s.heap.get? c = some o → h''.get? c = some o := fun c o hc q => by
      simp only [List.mem_cons, List.not_mem_nil, or_false, not_or] at hc
      exact c2.extBut c o hc.1 (b5 c o hc.1 hc.2 q)
    have I1 : Inv X pins σ H { s with heap := h'', toks := s.toks + 1 } := I.turnedL (t' := s.toks + 1) kk hf
    have hzlt : e < s.heap.objs.size := Heap.lt_size he
    have ht : h''.get? s.heap.objs.size = some { cls := .type "tuple", data := .seq #[.int i s.toks, u] } := c2.extBut _ _ (Nat.ne_of_gt hzlt) b3
    have hn : H s.heap.objs.size = none := I.hok.fresh (Nat.le_refl _)
    have ftr : FpOk X pins H s.heap.objs.size := I.fpOk (Nat.le_refl _) hn
    have lt : ∀ {c o}, s.heap.get? c = some o → c ≠ s.heap.objs.size := fun e => Nat.ne_of_lt (Heap.lt_size e)
    refine ⟨.ref s.heap.objs.size, upd H s.heap.objs.size (.tup [.int i, x]), I1.track ftr ⟨by show 2 ≤ sizeLine; decide, [.int i s.toks, u], .cons ⟨_, rfl⟩ (.cons ru .nil), ⟨_, ht, rfl, _, rfl⟩⟩, rfl,
      ⟨_, x, rfl, hn, rfl, fun zs hq => by rw [I.list_inj hq q1]; exact hx⟩, ⟨⟨u, ?_⟩, b2.extBut c2.extBut hap.symm⟩, fun c hc => ?_⟩
    · have e1 : ((i + 1 : Nat) : Int) = (i : Int) + 1 := by push_cast; rfl
      rw [e1]
      exact c1
    · rw [upd_ne]
      · exact (hf c hc).1
      · simp only [List.mem_cons, List.not_mem_nil, or_false] at hc
        obtain ⟨o1, e1, _⟩ := h1
        rcases hc with q | q
        · subst q; exact lt he
        · subst q; exact lt e1
  done := by
    intro X hP hw hK hc i pins s σ H E I hf st hg
    subst hP hw hK
    obtain ⟨xs, q1, hend⟩ := hg
    obtain ⟨⟨old, he⟩, h1⟩ := st
    obtain ⟨its1, rv1, p1, _⟩ := I.list q1
    have e1 := rv1.length
    refine wpAny_pyNext_enum_end (I.ok.hd hc) he h1 p1.isList (by simp; omega) fun h' kk => ⟨rfl, ?_⟩
    exact I.turnedL (t' := s.toks) (fun c o hc q => by
      simp only [List.mem_cons, List.not_mem_nil, or_false, not_or] at hc
      exact kk c o hc.2 q) hf
  self := fun _ _ _ _ _ st h => by
    obtain ⟨⟨old, he⟩, h1⟩ := st
    exact wpAny_pyIter_enum he h
def iEnum (K : PySem.W.Frag) (ta : TA) : TI := fun σ H R => ta σ H fun vs H1 => ∃ a xs, vs = [.ref a] ∧ H1 a = some (.lst xs) ∧ R (Ite K a) H1
theorem pi_enum {X : Cx} {es : List Expr} {k1 : _} {tp : Pos} {a : Expr} {ta : TA} {p pos : Pos} (hg : Gl X "enumerate") (hm : X.mg "enumerate" = none) (ha : PA X [a] ta) (hs : starEach [a] X.env = [(false, eval a X.env)] := by rfl) :
    PI X (.Tuple es k1 tp) (.Call (.Name "enumerate" p) [a] [] pos) (iEnum X.K ta) := by
  intro pins s σ H R I h
  refine Call_ (ld_blt I hg hm boot_enumerate (PyProof.Rows.callWith_type1 (thn (ha pos pins s σ H _ I h) fun us s1 ⟨vs, H1, I1, r1, q1⟩ => ?_) hs rfl))
  obtain ⟨l1, xs, e, hx, q⟩ := q1
  subst e
  cases r1 with
  | cons r rr =>
    cases rr
    cases r
    obtain ⟨_, its, n, rv, ho⟩ := (show ObjOk X.prog X.w H1 s1.heap l1 (.lst xs) from I1.hok l1 _ hx)
    refine call_enumerate_1 ho fun h' c1 c2 c3 c4 => ?_
    have I2 : Inv X pins σ H1 { s1 with heap := h' } := I1.kept (t' := s1.toks) c4
    refine wpAny_pyIter_enum (s := { s1 with heap := h' }) c1 ?_
    refine ⟨_, _, _, _, H1, rfl, I2, turn_enum l1 _ s1.heap.objs.size (by intro z; have z' : (_ : Nat) = _ := z; omega), ⟨⟨_, c1⟩, c2⟩, fun c hc => ?_, q⟩
    simp only [List.mem_cons, List.not_mem_nil, or_false] at hc
    have hle : s1.heap.objs.size ≤ c := by
      rcases hc with e | e <;> (subst e; first | exact Nat.le_refl _ | exact Nat.le_add_right _ _)
    exact I1.fpOk hle (I1.hok.fresh hle)
theorem comp_enum {K : PySem.W.Frag} {a : Addr} {xs : List V} {g : TG} {tt : TT} {te : TE} {σc : St} {H : Hp} {Fin : List V → Hp → Prop} (Pv : Nat → List V → Hp → Prop) (h0 : Pv 0 [] H) (hl : ∀ i zs H, Pv i zs H → SqL K H a xs ∧ zs.length ≤ i) (hz : xs.length ≤ sizeLine)
    (hs : ∀ i x p zs H, xs[i]? = some x → H p = none → Pv i zs H → g (.ref p) σc (upd H p (.tup [.int i, x])) fun σ2 H2 => tt σ2 H2 fun b H3 => if b = true then te σ2 H3 fun y H4 => Pv (i + 1) (zs ++ [y]) H4 else Pv (i + 1) zs H3)
    (hd : ∀ zs H, Pv xs.length zs H → Fin zs H) : tCompK (Ite K a) g tt te σc H Fin := by
  refine ⟨fun i m zs H => m = xs.length - i ∧ i ≤ xs.length ∧ Pv i zs H, ⟨_, rfl, Nat.zero_le _, h0⟩, ?_⟩
  rintro i m zs H ⟨rfl, hi, p⟩
  obtain ⟨q1, hy⟩ := hl i zs H p
  by_cases hlt : i < xs.length
  · refine .inr ⟨⟨xs, xs[i], q1, by simp [hlt]⟩, by omega, Pv (i + 1), fun ys' H' p' => ⟨xs.length - (i + 1), by omega, rfl, hlt, p'⟩, fun x H' y => ?_⟩
    obtain ⟨r, u, rfl, hn, rfl, e1⟩ := y
    exact hs i u r zs H (e1 xs q1) hn p
  · have e : i = xs.length := by omega
    subst e
    exact .inl ⟨⟨xs, q1, by omega⟩, hd zs H p⟩
/-! ### xs[i] by values -/
/-! ### written whole numbers in a display -/
inductive AllInts : List Expr → List Int → Prop
  | nil : AllInts [] []
  | cons {i : Int} {j : Nat} {pos : Pos} {es : List Expr} {is : List Int} : AllInts es is → AllInts (.Constant (.int i) j pos :: es) (i :: is)
def tInts (is : List Int) : TA := fun _ H Q => Q (is.map V.int) H
theorem pa_ints {X : Cx} {es : List Expr} {is : List Int} (h : AllInts es is) : PA X es (tInts is) := by
  induction h with
  | nil => exact pa_nil
  | cons h ih => exact fun pos pins s σ H Q I q => pa_cons pe_int ih rfl pos pins s σ H Q I q
/-! ### the rules by the written part K, for use within a comprehension's block -/
section
variable {X : Cx} {tg : Expr}
theorem ixL (K : PySem.W.Frag) (h : X.K = K := by rfl) : IxR X (rIxL K) := by subst h; exact ix_list
theorem ixT (K : PySem.W.Frag) (h : X.K = K := by rfl) : IxR X (rIxT K) := by subst h; exact ix_tup
theorem slL (K : PySem.W.Frag) (h : X.K = K := by rfl) : SlR X (rSlL K) := by subst h; exact sl_list
theorem eqDK (K : PySem.W.Frag) (hu : X.A.units + 64 < cLine) (h : X.K = K := by rfl) : OpR X (compareOp .Eq) (rEqD K) := by subst h; exact op_eqD hu
theorem neDK (K : PySem.W.Frag) (hu : X.A.units + 64 < cLine) (h : X.K = K := by rfl) : OpR X (compareOp .NotEq) (rNeD K) := by subst h; exact op_neD hu
def rIsi (K : PySem.W.Frag) : List V → Hp → VK → Prop := fun xs H Q => ∃ x t T b, xs = [x, .ty T] ∧ TyOf K H x t ∧ PySem.W.kitOne K t (.type T) = some b ∧ Q (.bl b) H
def rLen (K : PySem.W.Frag) : List V → Hp → VK → Prop := fun xs H Q => ∃ p ys, xs = [.ref p] ∧ (SqL K H p ys ∨ SqT K H p ys) ∧ Q (.int ys.length) H
def rListOf (K : PySem.W.Frag) : List V → Hp → VK → Prop := fun xs H Q => ∃ p ys, xs = [.ref p] ∧ (SqL K H p ys ∨ SqT K H p ys) ∧ ∀ l, H l = none → Q (.ref l) (upd H l (.lst ys))
def rAll (K : PySem.W.Frag) : List V → Hp → VK → Prop := fun xs H Q => ∃ (a : Addr) (bs : List Bool), xs = [.ref a] ∧ SqL K H a (bs.map V.bl) ∧ Q (.bl (bs.all id)) H
def rAny (K : PySem.W.Frag) : List V → Hp → VK → Prop := fun xs H Q => ∃ (a : Addr) (bs : List Bool), xs = [.ref a] ∧ SqL K H a (bs.map V.bl) ∧ Q (.bl (bs.any id)) H
def rSum (K : PySem.W.Frag) : List V → Hp → VK → Prop := fun xs H Q => ∃ (a : Addr) (ns : List Int), xs = [.ref a] ∧ SqL K H a (ns.map V.int) ∧ Q (.int ns.sum) H
def rMax (K : PySem.W.Frag) : List V → Hp → VK → Prop := fun xs H Q => ∃ (a : Addr) (ns : List Int), xs = [.ref a] ∧ SqL K H a (ns.map V.int) ∧ ns ≠ [] ∧ Q (.int (maxI ns)) H
def rMin (K : PySem.W.Frag) : List V → Hp → VK → Prop := fun xs H Q => ∃ (a : Addr) (ns : List Int), xs = [.ref a] ∧ SqL K H a (ns.map V.int) ∧ ns ≠ [] ∧ Q (.int (minI ns)) H
theorem isiK (K : PySem.W.Frag) (h : X.K = K := by rfl) : CallR X (.builtin "isinstance") (rIsi K) := by subst h; exact call_isinst
theorem lenK (K : PySem.W.Frag) (h : X.K = K := by rfl) : CallR X (.builtin "len") (rLen K) := by subst h; exact call_len_seq
theorem listOfK (K : PySem.W.Frag) (h : X.K = K := by rfl) : CallR X (.type "list") (rListOf K) := by subst h; exact call_list_of
theorem allK (K : PySem.W.Frag) (hc : X.calm = true := by rfl) (h : X.K = K := by rfl) : CallR X (.builtin "all") (rAll K) := by subst h; exact call_all hc
theorem anyK (K : PySem.W.Frag) (hc : X.calm = true := by rfl) (h : X.K = K := by rfl) : CallR X (.builtin "any") (rAny K) := by subst h; exact call_any hc
theorem piL (K : PySem.W.Frag) {l : Expr} {tl : TE} (hl : PE X l tl) (h : X.K = K := by rfl) : PI X tg l (iList K tl) := by subst h; exact pi_list hl
theorem piT (K : PySem.W.Frag) {l : Expr} {tl : TE} (hl : PE X l tl) (h : X.K = K := by rfl) : PI X tg l (iTup K tl) := by subst h; exact pi_tup hl
theorem pgT (K : PySem.W.Frag) {es : List Expr} {k : Nat} {t : TGs} {n : Nat} {pos : Pos} (h : PGs X es t) (hc : X.calm = true := by rfl) (hn : (assignEach es X.env).length = n := by rfl) (hst : (assignEach es X.env).findIdx? (·.1) = none := by rfl) (hK : X.K = K := by rfl) :
    PG X (.Tuple es k pos) (gTup K n t) := by subst hK; exact pg_tup hc h hn hst
theorem piZip (K : PySem.W.Frag) {es : List Expr} {k1 : _} {tp : Pos} {a b : Expr} {ta : TA} {p pos : Pos} (hg : Gl X "zip") (hm : X.mg "zip" = none) (ha : PA X [a, b] ta) (hs : starEach [a, b] X.env = [(false, eval a X.env), (false, eval b X.env)] := by rfl) (hs2 : starEach [b] X.env = [(false, eval b X.env)] := by rfl)
    (hK : X.K = K := by rfl) : PI X (.Tuple es k1 tp) (.Call (.Name "zip" p) [a, b] [] pos) (iZip K ta) := by subst hK; exact pi_zip hg hm ha hs hs2
theorem piEnum (K : PySem.W.Frag) {es : List Expr} {k1 : _} {tp : Pos} {a : Expr} {ta : TA} {p pos : Pos} (hg : Gl X "enumerate") (hm : X.mg "enumerate" = none) (ha : PA X [a] ta) (hs : starEach [a] X.env = [(false, eval a X.env)] := by rfl)
    (hK : X.K = K := by rfl) : PI X (.Tuple es k1 tp) (.Call (.Name "enumerate" p) [a] [] pos) (iEnum K ta) := by subst hK; exact pi_enum hg hm ha hs
/-- a whole number of the file's top -/
theorem peI {x : Str} {i : Int} {pos : Pos} (hm : ∃ t, X.mg x = some (.int i t)) (hg : Gl X x) (hd : (x == ("__debug__" : Str)) = false := by decide) : PE X (.Name x pos) (tC (.int i)) := by
  obtain ⟨t, hm⟩ := hm
  exact pe_glob hg hm ⟨t, rfl⟩ hd
end
end L2

set_option maxRecDepth 100000
/-! Fractions in lowest terms. -/
namespace Fr
/-- the fraction of two numbers -/
def mk (a b : Int) : Int × Int := (a / (Int.gcd a b : Int), b / (Int.gcd a b : Int))
theorem gcd_pos {a b : Int} (h : 0 < b) : 0 < (Int.gcd a b : Int) := by
  have : 0 < Int.gcd a b := Int.gcd_pos_of_ne_zero_right a (by omega)
  omega
theorem gcd_le {a b : Int} (h : 0 < b) : (Int.gcd a b : Int) ≤ b := Int.le_of_dvd h (Int.gcd_dvd_right a b)
theorem mk_fst {a b : Int} : (mk a b).1 * (Int.gcd a b : Int) = a := Int.ediv_mul_cancel (Int.gcd_dvd_left a b)
theorem mk_snd {a b : Int} : (mk a b).2 * (Int.gcd a b : Int) = b := Int.ediv_mul_cancel (Int.gcd_dvd_right a b)
theorem mk_pos {a b : Int} (h : 0 < b) : 0 < (mk a b).2 := by
  have h1 := gcd_pos (a := a) h
  have h2 := mk_snd (a := a) (b := b)
  rcases Int.lt_or_le 0 (mk a b).2 with h3 | h3
  · exact h3
  · have h4 : (mk a b).2 * (Int.gcd a b : Int) ≤ 0 := Int.mul_nonpos_of_nonpos_of_nonneg h3 (by omega)
    omega
theorem mk_snd_le {a b : Int} (h : 0 < b) : (mk a b).2 ≤ b := by
  have h1 := gcd_pos (a := a) h
  have h2 := mk_snd (a := a) (b := b)
  have h3 := mk_pos (a := a) h
  have h4 : (mk a b).2 * 1 ≤ (mk a b).2 * (Int.gcd a b : Int) := Int.mul_le_mul_of_nonneg_left (by omega) (by omega)
  omega
theorem mk_fst_le {a b : Int} (h : 0 < b) : (mk a b).1.natAbs ≤ a.natAbs := by
  have h1 := gcd_pos (a := a) h
  have h2 := congrArg Int.natAbs (mk_fst (a := a) (b := b))
  rw [Int.natAbs_mul] at h2
  rw [← h2]
  exact Nat.le_mul_of_pos_right _ (by omega)
theorem mk_mul {a b k : Int} (hk : 0 < k) : mk (a * k) (b * k) = mk a b := by
  have e : (Int.gcd (a * k) (b * k) : Int) = (Int.gcd a b : Int) * k := by
    rw [Int.gcd_mul_right]
    have : (k.natAbs : Int) = k := Int.natAbs_of_nonneg (by omega)
    rw [Int.natCast_mul, this]
  unfold mk
  rw [e, Int.mul_ediv_mul_of_pos_left _ _ hk, Int.mul_ediv_mul_of_pos_left _ _ hk]
/-- sums -/
theorem mk_add {a b c d : Int} (hb : 0 < b) (hd : 0 < d) : mk ((mk a b).1 * (mk c d).2 + (mk c d).1 * (mk a b).2) ((mk a b).2 * (mk c d).2) = mk (a * d + c * b) (b * d) := by
  have h1 := mk_fst (a := a) (b := b)
  have h2 := mk_snd (a := a) (b := b)
  have h3 := mk_fst (a := c) (b := d)
  have h4 := mk_snd (a := c) (b := d)
  have g1 := gcd_pos (a := a) hb
  have g2 := gcd_pos (a := c) hd
  generalize (mk a b).1 = x at *
  generalize (mk a b).2 = y at *
  generalize (mk c d).1 = z at *
  generalize (mk c d).2 = w at *
  generalize (Int.gcd a b : Int) = g at *
  generalize (Int.gcd c d : Int) = g' at *
  have e1 : a * d + c * b = (x * w + z * y) * (g * g') := by
    rw [← h1, ← h2, ← h3, ← h4, Int.add_mul]
    congr 1
    · rw [Int.mul_assoc, Int.mul_assoc]; congr 1; rw [Int.mul_left_comm]
    · rw [Int.mul_assoc, Int.mul_assoc]; congr 1; rw [Int.mul_left_comm g' y g, Int.mul_comm g' g]
  have e2 : b * d = (y * w) * (g * g') := by
    rw [← h2, ← h4, Int.mul_assoc, Int.mul_assoc]; congr 1; rw [Int.mul_left_comm]
  rw [e1, e2, mk_mul (Int.mul_pos g1 g2)]
theorem mk_lt {a b c d : Int} (hb : 0 < b) (hd : 0 < d) : decide ((mk a b).1 * (mk c d).2 < (mk c d).1 * (mk a b).2) = decide (a * d < c * b) := by
  have h1 := mk_fst (a := a) (b := b)
  have h2 := mk_snd (a := a) (b := b)
  have h3 := mk_fst (a := c) (b := d)
  have h4 := mk_snd (a := c) (b := d)
  have g1 := gcd_pos (a := a) hb
  have g2 := gcd_pos (a := c) hd
  generalize (mk a b).1 = x at *
  generalize (mk a b).2 = y at *
  generalize (mk c d).1 = z at *
  generalize (mk c d).2 = w at *
  generalize (Int.gcd a b : Int) = g at *
  generalize (Int.gcd c d : Int) = g' at *
  have e1 : a * d = (x * w) * (g * g') := by
    rw [← h1, ← h4, Int.mul_assoc, Int.mul_assoc]; congr 1; rw [Int.mul_left_comm]
  have e2 : c * b = (z * y) * (g * g') := by
    rw [← h2, ← h3, Int.mul_assoc, Int.mul_assoc]; congr 1; rw [Int.mul_left_comm g' y g, Int.mul_comm g' g]
  have hp : 0 < g * g' := Int.mul_pos g1 g2
  rw [e1, e2]
  exact decide_eq_decide.mpr ⟨fun h => Int.mul_lt_mul_of_pos_right h hp, fun h => Int.lt_of_mul_lt_mul_right h (by omega)⟩
/-- the law's own draw -/
def draw (c k m : Int) : Int := ((c % 1000000007 * 48271 + k * 69621 + 7) % 1000000007) * ((c % 1000000007 * 48271 + k * 69621 + 7) % 1000000007) / 1013 % 1000003 % m
theorem draw_nn (c k : Int) {m : Int} (h : 0 < m) : 0 ≤ draw c k m := Int.emod_nonneg _ (by omega)
theorem draw_lt (c k : Int) {m : Int} (h : 0 < m) : draw c k m < m := Int.emod_lt_of_pos _ h
/-- Euclid's step -/
theorem gcd_step (l r : Int) : Int.gcd r (l % r) = Int.gcd l r := by
  rw [Int.gcd_comm r (l % r)]
  have h := Int.gcd_add_mul_left_left r (l % r) (l / r)
  rw [Int.emod_add_mul_ediv] at h
  exact h.symm
end Fr

set_option Elab.async false
set_option linter.all false
set_option maxRecDepth 100000
/-! TABLES: lists of lists of ints in the heap; comprehensions item by item. -/
namespace L2
open PySem PySem.Spec PyProof.Rows
theorem same_upd {H : Hp} {p : Addr} {o : HO} (h : H p = none) : Same H (upd H p o) := fun c u e => by
  rw [upd_ne (ne_of_none e h)]
  exact e
theorem same_at {H H1 : Hp} {p : Addr} {o : HO} (e : Same H H1) (h : H p = none) : Same H (upd H1 p o) := fun c u q => by
  rw [upd_ne (ne_of_none q h)]
  exact e c u q
theorem bl_true {Q : VK} {H : Hp} {c : Prop} [Decidable c] (hc : c) (k : Q (.bl true) H) : Q (.bl (decide c)) H := by
  rw [decide_eq_true hc]
  exact k
/-- something new stands at p, and nothing is lost -/
structure New (H H' : Hp) (p : Addr) (o : HO) : Prop where
  new : H p = none
  is : H' p = some o
  same : Same H H'
theorem New.of {H H1 : Hp} {p : Addr} {o : HO} (s : Same H H1) (h : H1 p = none) : New H (upd H1 p o) p o := ⟨s.free h, upd_same, s.trans (same_upd h)⟩
theorem New.pre {H H1 H2 : Hp} {p : Addr} {o : HO} (s : Same H H1) (n : New H1 H2 p o) : New H H2 p o := ⟨s.free n.new, n.is, s.trans n.same⟩
theorem New.post {H H1 H2 : Hp} {p : Addr} {o : HO} (n : New H H1 p o) (s : Same H1 H2) : New H H2 p o := ⟨n.new, s _ _ n.is, n.same.trans s⟩
end L2
namespace PySem
/-! ### paired lists -/
theorem Paired.get2 {α β : Type} {F : α → β → Prop} : ∀ {l₁ : List α} {l₂ : List β} {i : Nat} {x : α}, Paired F l₁ l₂ → l₁[i]? = some x → ∃ y, l₂[i]? = some y ∧ F x y
  | _, _, i, x, .nil, e => by simp at e
  | _, _, 0, x, .cons h _, e => by
    simp at e
    subst e
    exact ⟨_, rfl, h⟩
  | _, _, i + 1, x, .cons _ t, e => by simpa using Paired.get2 (i := i) t (by simpa using e)
theorem Paired.at2 {α β : Type} {F : α → β → Prop} : ∀ {l₁ : List α} {l₂ : List β} {i : Nat} {y : β}, Paired F l₁ l₂ → l₂[i]? = some y → ∃ x, l₁[i]? = some x ∧ F x y
  | _, _, i, x, .nil, e => by simp at e
  | _, _, 0, x, .cons h _, e => by
    simp at e
    subst e
    exact ⟨_, rfl, h⟩
  | _, _, i + 1, x, .cons _ t, e => by simpa using Paired.at2 (i := i) t (by simpa using e)
theorem Paired.mem2 {α β : Type} {F : α → β → Prop} {l₁ : List α} {l₂ : List β} {x : α} (p : Paired F l₁ l₂) (h : x ∈ l₁) : ∃ y ∈ l₂, F x y := by
  obtain ⟨i, hi, rfl⟩ := List.getElem_of_mem h
  obtain ⟨y, e, f⟩ := p.get2 (List.getElem?_eq_getElem hi)
  exact ⟨y, List.mem_of_getElem? e, f⟩
theorem Paired.app2 {α β : Type} {F : α → β → Prop} : ∀ {l₁ m₁ : List α} {l₂ m₂ : List β}, Paired F l₁ l₂ → Paired F m₁ m₂ → Paired F (l₁ ++ m₁) (l₂ ++ m₂)
  | _, _, _, _, .nil, q => q
  | _, _, _, _, .cons h t, q => .cons h (Paired.app2 t q)
theorem Paired.imp2 {α β : Type} {F G : α → β → Prop} {l₁ : List α} {l₂ : List β} (r : Paired F l₁ l₂) (f : ∀ a b, F a b → G a b) : Paired G l₁ l₂ := L2.Paired.mapP r f
end PySem
namespace L2
open PySem PySem.Spec PyProof.Rows
/-! ### comprehensions item by item: R x y H: y stands for what is made of x -/
theorem comp_each {K : PySem.W.Frag} {a : Addr} {xs : List V} {te : TE} {σc : St} {H : Hp} {Fin : List V → Hp → Prop} (R : V → V → Hp → Prop) (hR : ∀ x y H1 H2, Same H1 H2 → R x y H1 → R x y H2) (hl : SqL K H a xs) (hz : xs.length ≤ sizeLine)
    (hs : ∀ x ∈ xs, ∀ H1, Same H H1 → ∀ Q : VK, (∀ y H2, Same H1 H2 → R x y H2 → Q y H2) → te (σc.set 0 (some x)) H1 Q) (hd : ∀ ys H', Same H H' → Paired (fun x y => R x y H') xs ys → Fin ys H') : tCompK (Itl K a) (gName 0) tYes te σc H Fin := by
  refine comp_list (xs := xs) (fun i ys H' => Same H H' ∧ Paired (fun x y => R x y H') (xs.take i) ys) ⟨Same.refl _, by simpa using Paired.nil⟩ (fun i ys H' hi h => ?_) hz (fun i x ys H' hx h => ?_) (fun ys H' h => ?_)
  · refine ⟨h.1.seq hl, ?_⟩
    have := h.2.length
    rw [List.length_take] at this
    omega
  · refine gN_yes ?_
    refine hs x (List.mem_of_getElem? hx) H' h.1 _ fun y H2 s2 r => ⟨h.1.trans s2, ?_⟩
    rw [List.take_add_one, hx]
    exact (h.2.imp2 fun x y q => hR x y _ _ s2 q).app2 (.cons r .nil)
  · exact hd ys H' h.1 (by simpa using h.2)
theorem comp_each_t {K : PySem.W.Frag} {a : Addr} {xs : List V} {te : TE} {σc : St} {H : Hp} {Fin : List V → Hp → Prop} (R : V → V → Hp → Prop) (hR : ∀ x y H1 H2, Same H1 H2 → R x y H1 → R x y H2) (hl : SqT K H a xs) (hz : xs.length ≤ sizeLine)
    (hs : ∀ x ∈ xs, ∀ H1, Same H H1 → ∀ Q : VK, (∀ y H2, Same H1 H2 → R x y H2 → Q y H2) → te (σc.set 0 (some x)) H1 Q) (hd : ∀ ys H', Same H H' → Paired (fun x y => R x y H') xs ys → Fin ys H') : tCompK (Itt K a) (gName 0) tYes te σc H Fin := by
  refine comp_tup (xs := xs) (fun i ys H' => Same H H' ∧ Paired (fun x y => R x y H') (xs.take i) ys) ⟨Same.refl _, by simpa using Paired.nil⟩ (fun i ys H' hi h => ?_) hz (fun i x ys H' hx h => ?_) (fun ys H' h => ?_)
  · refine ⟨SqT.mono h.1 hl, ?_⟩
    have := h.2.length
    rw [List.length_take] at this
    omega
  · refine gN_yes ?_
    refine hs x (List.mem_of_getElem? hx) H' h.1 _ fun y H2 s2 r => ⟨h.1.trans s2, ?_⟩
    rw [List.take_add_one, hx]
    exact (h.2.imp2 fun x y q => hR x y _ _ s2 q).app2 (.cons r .nil)
  · exact hd ys H' h.1 (by simpa using h.2)
theorem comp_each_r {n : Nat} {te : TE} {σc : St} {H : Hp} {Fin : List V → Hp → Prop} (R : Nat → V → Hp → Prop) (hR : ∀ x y H1 H2, Same H1 H2 → R x y H1 → R x y H2) (hz : n ≤ sizeLine)
    (hs : ∀ i, i < n → ∀ H1, Same H H1 → ∀ Q : VK, (∀ y H2, Same H1 H2 → R i y H2 → Q y H2) → te (σc.set 0 (some (.int i))) H1 Q) (hd : ∀ ys H', Same H H' → Paired (fun x y => R x y H') (List.range n) ys → Fin ys H') : tCompK (Itr 0 n) (gName 0) tYes te σc H Fin := by
  refine comp_range (n := n) (fun i ys H' => Same H H' ∧ Paired (fun x y => R x y H') (List.range i) ys) ⟨Same.refl _, Paired.nil⟩ (fun i ys H' hi h => ?_) hz (fun i ys H' hx h => ?_) (fun ys H' h => ?_)
  · have := h.2.length
    rw [List.length_range] at this
    omega
  · rw [Int.zero_add]
    refine gN_yes ?_
    refine hs i hx H' h.1 _ fun y H2 s2 r => ⟨h.1.trans s2, ?_⟩
    rw [List.range_succ]
    exact (h.2.imp2 fun x y q => hR x y _ _ s2 q).app2 (.cons r .nil)
  · exact hd ys H' h.1 h.2
/-! ### rows and tables -/
def IsRow (H : Hp) (v : V) (r : List Int) : Prop := ∃ a, v = .ref a ∧ H a = some (.lst (r.map V.int))
def IsTab (H : Hp) (a : Addr) (T : List (List Int)) : Prop := ∃ vs, H a = some (.lst vs) ∧ Paired (IsRow H) vs T
theorem IsRow.mono {H H' : Hp} {v : V} {r : List Int} (s : Same H H') (h : IsRow H v r) : IsRow H' v r := let ⟨a, e, q⟩ := h; ⟨a, e, s _ _ q⟩
theorem IsTab.mono {H H' : Hp} {a : Addr} {T : List (List Int)} (s : Same H H') (h : IsTab H a T) : IsTab H' a T := let ⟨vs, e, q⟩ := h; ⟨vs, s _ _ e, q.imp2 fun _ _ z => z.mono s⟩
/-- a table of new lists -/
def OwnRow (H H' : Hp) (v : V) (r : List Int) : Prop := ∃ a, v = .ref a ∧ H a = none ∧ H' a = some (.lst (r.map V.int))
def OwnTab (H H' : Hp) (a : Addr) (T : List (List Int)) : Prop := ∃ vs, H a = none ∧ H' a = some (.lst vs) ∧ Paired (OwnRow H H') vs T
theorem OwnRow.row {H H' : Hp} {v : V} {r : List Int} (h : OwnRow H H' v r) : IsRow H' v r := let ⟨a, e, _, q⟩ := h; ⟨a, e, q⟩
theorem OwnTab.tab {H H' : Hp} {a : Addr} {T : List (List Int)} (h : OwnTab H H' a T) : IsTab H' a T := let ⟨vs, _, e, q⟩ := h; ⟨vs, e, q.imp2 fun _ _ z => z.row⟩
theorem OwnRow.mono {H H1 H2 : Hp} {v : V} {r : List Int} (s : Same H1 H2) (h : OwnRow H H1 v r) : OwnRow H H2 v r := let ⟨a, e, n, q⟩ := h; ⟨a, e, n, s _ _ q⟩
/-- their data -/
def rowD (r : List Int) : D := .lst (r.map D.int)
def tabD (T : List (List Int)) : D := .lst (T.map rowD)
/-- a table of m rows and n columns, small numbers -/
structure Good (T : List (List Int)) (m n : Nat) : Prop where
  m1 : 1 ≤ m
  m4 : m ≤ 4
  n1 : 1 ≤ n
  n4 : n ≤ 4
  rows : T.length = m
  cols : ∀ r ∈ T, r.length = n
  num : ∀ r ∈ T, ∀ x ∈ r, -100 ≤ x ∧ x ≤ 100
/-- an item of a list of ints, at a place in it -/
theorem atI_int {r : List Int} {j : Nat} (h : j < r.length) : atI (r.map V.int) (j : Int) = some (.int (r.getD j 0)) := by
  refine atI_nat ?_
  rw [List.getElem?_map, List.getElem?_eq_getElem h, List.getD_eq_getElem?_getD, List.getElem?_eq_getElem h]
  rfl
theorem atI_get' {α : Type} {xs : List α} {j : Nat} (h : j < xs.length) : atI xs (j : Int) = some xs[j] := atI_nat (List.getElem?_eq_getElem h)
end L2

set_option Elab.async false
set_option linter.all false
set_option maxRecDepth 100000
/-! What the laws draw; small lemmas of the readings. -/
namespace L2
open PySem PySem.Spec PyProof.Rows
/-- behind a statement J holds, whatever is wanted then -/
theorem seq_by {t u : TS} {D : Ends} {σ : St} {H : Hp} (J : St → Hp → Prop) (h : ∀ R : St → Hp → Prop, (∀ σ' H', J σ' H' → R σ' H') → t { D with nx := R } σ H) (k : ∀ σ' H', J σ' H' → u D σ' H') : tSeq t u D σ H := h (u D) k
theorem nx_set {i : Nat} {v : V} {σ : St} {H : Hp} {a : St → Hp → Prop} {b : VK} {c d : St → Hp → Prop} (h : a (σ.set i (some v)) H) : gName i v σ H (Ends.mk a b c d).nx := h
theorem yes_if {σ : St} {H : Hp} {A B : Hp → Prop} (h : A H) : tYes σ H fun b H3 => if b = true then A H3 else B H3 := by
  show (if true = true then A H else B H)
  exact iteT h
theorem reps_true {α : Type} : ∀ {xs : List α} {ys : List V}, Paired (fun _ y => y = V.bl true) xs ys → ys = (List.replicate xs.length true).map V.bl
  | _, _, .nil => rfl
  | _, _, .cons h t => by
    rw [reps_true t, h]
    rfl
theorem reps_false {α : Type} : ∀ {xs : List α} {ys : List V}, Paired (fun _ y => y = V.bl false) xs ys → ys = (List.replicate xs.length false).map V.bl
  | _, _, .nil => rfl
  | _, _, .cons h t => by
    rw [reps_false t, h]
    rfl
theorem all_reps (n : Nat) : (List.replicate n true).all id = true := by simp
theorem any_reps (n : Nat) : (List.replicate n false).any id = false := by simp
/-- items that are ints -/
theorem ints_of {α : Type} (Pr : Int → Prop) : ∀ {xs : List α} {ys : List V}, Paired (fun _ y => ∃ i, y = V.int i ∧ Pr i) xs ys → ∃ r : List Int, ys = r.map V.int ∧ r.length = xs.length ∧ ∀ x ∈ r, Pr x
  | _, _, .nil => ⟨[], rfl, rfl, fun _ h => nomatch h⟩
  | _, _, .cons h t => by
    obtain ⟨i, rfl, hi⟩ := h
    obtain ⟨r, rfl, hl, hr⟩ := ints_of Pr t
    refine ⟨i :: r, rfl, by simp [hl], fun x hx => ?_⟩
    rcases List.mem_cons.mp hx with e | e
    · rw [e]; exact hi
    · exact hr x e
end L2
namespace PySem
theorem Paired.set2 {α β : Type} {F : α → β → Prop} {x : α} {y : β} (h : F x y) : ∀ {l₁ : List α} {l₂ : List β} (i : Nat), Paired F l₁ l₂ → Paired F (l₁.set i x) (l₂.set i y)
  | _, _, _, .nil => .nil
  | _, _, 0, .cons _ t => .cons h t
  | _, _, i + 1, .cons q t => .cons q (Paired.set2 h i t)
end PySem
namespace L2
open PySem PySem.Spec PyProof.Rows
/-- a row that is not the thing at l -/
def RowNe (l : Addr) (H : Hp) (v : V) (r : List Int) : Prop := ∃ b, v = .ref b ∧ b ≠ l ∧ H b = some (.lst (r.map V.int))
theorem RowNe.row {l : Addr} {H : Hp} {v : V} {r : List Int} (h : RowNe l H v r) : IsRow H v r := let ⟨b, e, _, q⟩ := h; ⟨b, e, q⟩
theorem RowNe.mono {l : Addr} {H H' : Hp} {v : V} {r : List Int} (s : Same H H') (h : RowNe l H v r) : RowNe l H' v r := let ⟨b, e, n, q⟩ := h; ⟨b, e, n, s _ _ q⟩
theorem RowNe.at {l : Addr} {H : Hp} {v : V} {r : List Int} {o : HO} (h : RowNe l H v r) : RowNe l (upd H l o) v r := let ⟨b, e, n, q⟩ := h; ⟨b, e, n, by rw [upd_ne n]; exact q⟩
/-- slices by a rest -/
theorem cut_drop {xs : List V} {k : Int} (h0 : 0 ≤ k) (h1 : k ≤ xs.length) : cutV xs (some k) none = xs.drop k.toNat := by
  have e : HT.sIx xs.length 0 (some k) = k.toNat := by
    unfold HT.sIx
    simp only
    split <;> omega
  have e2 : HT.sIx xs.length xs.length none = xs.length := rfl
  unfold cutV
  rw [e, e2, List.take_of_length_le (by rw [List.length_drop]; omega)]
theorem cut_take {xs : List V} {k : Int} (h0 : 0 ≤ k) (h1 : k ≤ xs.length) : cutV xs none (some k) = xs.take k.toNat := by
  have e : HT.sIx xs.length xs.length (some k) = k.toNat := by
    unfold HT.sIx
    simp only
    split <;> omega
  have e2 : HT.sIx xs.length 0 none = 0 := rfl
  unfold cutV
  rw [e, e2, List.drop_zero]
  rfl
end L2
namespace Tb
open PySem L2
/-- one of eight small numbers -/
theorem pickm {j : Int} (h0 : 0 ≤ j) (h1 : j < 8) : ∃ m : Nat, atI (([2, 3, 1, 3, 2, 4, 3, 2] : List Int).map V.int) j = some (.int (m : Int)) ∧ 1 ≤ m ∧ m ≤ 4 := by
  have : j = 0 ∨ j = 1 ∨ j = 2 ∨ j = 3 ∨ j = 4 ∨ j = 5 ∨ j = 6 ∨ j = 7 := by omega
  rcases this with rfl | rfl | rfl | rfl | rfl | rfl | rfl | rfl
  · exact ⟨2, rfl, by decide, by decide⟩
  · exact ⟨3, rfl, by decide, by decide⟩
  · exact ⟨1, rfl, by decide, by decide⟩
  · exact ⟨3, rfl, by decide, by decide⟩
  · exact ⟨2, rfl, by decide, by decide⟩
  · exact ⟨4, rfl, by decide, by decide⟩
  · exact ⟨3, rfl, by decide, by decide⟩
  · exact ⟨2, rfl, by decide, by decide⟩
theorem pickn {j : Int} (h0 : 0 ≤ j) (h1 : j < 8) : ∃ m : Nat, atI (([3, 2, 3, 1, 2, 4, 2, 3] : List Int).map V.int) j = some (.int (m : Int)) ∧ 1 ≤ m ∧ m ≤ 4 := by
  have : j = 0 ∨ j = 1 ∨ j = 2 ∨ j = 3 ∨ j = 4 ∨ j = 5 ∨ j = 6 ∨ j = 7 := by omega
  rcases this with rfl | rfl | rfl | rfl | rfl | rfl | rfl | rfl
  · exact ⟨3, rfl, by decide, by decide⟩
  · exact ⟨2, rfl, by decide, by decide⟩
  · exact ⟨3, rfl, by decide, by decide⟩
  · exact ⟨1, rfl, by decide, by decide⟩
  · exact ⟨2, rfl, by decide, by decide⟩
  · exact ⟨4, rfl, by decide, by decide⟩
  · exact ⟨2, rfl, by decide, by decide⟩
  · exact ⟨3, rfl, by decide, by decide⟩
theorem pick4 {j : Int} (h0 : 0 ≤ j) (h1 : j < 4) : ∃ v : Int, atI (([2, 5, 9, 98] : List Int).map V.int) j = some (.int v) ∧ 2 ≤ v ∧ v ≤ 98 := by
  have : j = 0 ∨ j = 1 ∨ j = 2 ∨ j = 3 := by omega
  rcases this with rfl | rfl | rfl | rfl
  · exact ⟨2, rfl, by decide, by decide⟩
  · exact ⟨5, rfl, by decide, by decide⟩
  · exact ⟨9, rfl, by decide, by decide⟩
  · exact ⟨98, rfl, by decide, by decide⟩
end Tb
namespace L2
open PySem
/-- items that are rows of one's own -/
theorem rows_of {α : Type} {H H' : Hp} (Pr : List Int → Prop) : ∀ {xs : List α} {ys : List V}, Paired (fun _ y => ∃ r : List Int, OwnRow H H' y r ∧ Pr r) xs ys → ∃ U : List (List Int), Paired (OwnRow H H') ys U ∧ U.length = xs.length ∧ ∀ r ∈ U, Pr r
  | _, _, .nil => ⟨[], .nil, rfl, fun _ h => nomatch h⟩
  | _, _, .cons h t => by
    obtain ⟨r, hr, hp⟩ := h
    obtain ⟨U, h1, h2, h3⟩ := rows_of Pr t
    refine ⟨r :: U, .cons hr h1, by simp [h2], fun x hx => ?_⟩
    rcases List.mem_cons.mp hx with e | e
    · rw [e]; exact hp
    · exact h3 x e
end L2
namespace L2
open PySem PySem.Spec PyProof.Rows
theorem map_int_inj {r t : List Int} (h : r.map V.int = t.map V.int) : r = t := by
  have inj : ∀ (a b : List Int), a.map V.int = b.map V.int → a = b := by
    intro a
    induction a with
    | nil => intro b h; cases b with
      | nil => rfl
      | cons _ _ => simp at h
    | cons x a ih => intro b h; cases b with
      | nil => simp at h
      | cons y b =>
        simp only [List.map_cons, List.cons.injEq, V.int.injEq] at h
        rw [h.1, ih b h.2]
  exact inj r t h
theorem IsRow.inj {H : Hp} {v : V} {r t : List Int} (h : IsRow H v r) (q : IsRow H v t) : r = t := by
  obtain ⟨a, rfl, e⟩ := h
  obtain ⟨b, eb, f⟩ := q
  cases eb
  rw [e] at f
  injection f with f
  injection f with f
  exact map_int_inj f
theorem rows_map {H : Hp} (f : List Int → Int) : ∀ {vs ys : List V} {T : List (List Int)}, Paired (fun x y => ∀ r, IsRow H x r → y = V.int (f r)) vs ys → Paired (IsRow H) vs T → ys = (T.map f).map V.int
  | _, _, _, .nil, .nil => rfl
  | _, _, _, .cons h t, .cons q u => by rw [h _ q, rows_map f t u]; rfl
theorem rows_mapl {H H' : Hp} (f : List Int → List Int) : ∀ {vs ys : List V} {T : List (List Int)}, Paired (fun x y => ∀ r, IsRow H x r → OwnRow H H' y (f r)) vs ys → Paired (IsRow H) vs T → Paired (OwnRow H H') ys (T.map f)
  | _, _, _, .nil, .nil => .nil
  | _, _, _, .cons h t, .cons q u => .cons (h _ q) (rows_mapl f t u)
theorem range_map {H H' : Hp} (f : Nat → List Int) : ∀ {xs : List Nat} {ys : List V}, Paired (fun i y => OwnRow H H' y (f i)) xs ys → Paired (OwnRow H H') ys (xs.map f)
  | _, _, .nil => .nil
  | _, _, .cons h t => .cons h (range_map f t)
theorem range_ints (f : Nat → Int) : ∀ {xs : List Nat} {ys : List V}, Paired (fun i y => y = V.int (f i)) xs ys → ys = (xs.map f).map V.int
  | _, _, .nil => rfl
  | _, _, .cons h t => by rw [h, range_ints f t]; rfl
/-- an int of each row of a table -/
theorem comp_rows {K : PySem.W.Frag} {a : Addr} {T : List (List Int)} {te : TE} {σc : St} {H : Hp} {Fin : List V → Hp → Prop} (f : List Int → Int) (hT : IsTab H a T) (hz : T.length ≤ 1000)
    (hs : ∀ r ∈ T, ∀ b, H b = some (.lst (r.map V.int)) → ∀ H1, Same H H1 → ∀ Q : VK, (∀ H2, Same H1 H2 → Q (.int (f r)) H2) → te (σc.set 0 (some (.ref b))) H1 Q) (hd : ∀ H', Same H H' → Fin ((T.map f).map V.int) H') : tCompK (Itl K a) (gName 0) tYes te σc H Fin := by
  obtain ⟨vs, ha, hp⟩ := hT
  refine comp_each (xs := vs) (fun x y _ => ∀ r, IsRow H x r → y = V.int (f r)) (fun _ _ _ _ _ h => h) (SqL.of ha) (by rw [hp.length]; exact Nat.le_of_lt (small1000 hz)) ?_ ?_
  · intro x hx H1 s1 Q q
    obtain ⟨r, hr, hrow⟩ := hp.mem2 hx
    obtain ⟨b, rfl, hb⟩ := id hrow
    exact hs r hr b hb H1 s1 Q fun H2 s2 => q _ H2 s2 fun r' h' => by rw [hrow.inj h']
  · intro ys H' s' pr
    rw [rows_map f pr hp]
    exact hd H' s'
/-- a new row of each row of a table -/
theorem comp_rowsl {K : PySem.W.Frag} {a : Addr} {T : List (List Int)} {te : TE} {σc : St} {H : Hp} {Fin : List V → Hp → Prop} (f : List Int → List Int) (hT : IsTab H a T) (hz : T.length ≤ 1000)
    (hs : ∀ r ∈ T, ∀ b, H b = some (.lst (r.map V.int)) → ∀ H1, Same H H1 → ∀ Q : VK, (∀ y H2, Same H1 H2 → OwnRow H H2 y (f r) → Q y H2) → te (σc.set 0 (some (.ref b))) H1 Q)
    (hd : ∀ ys H', Same H H' → Paired (OwnRow H H') ys (T.map f) → Fin ys H') : tCompK (Itl K a) (gName 0) tYes te σc H Fin := by
  obtain ⟨vs, ha, hp⟩ := hT
  refine comp_each (xs := vs) (fun x y H' => ∀ r, IsRow H x r → OwnRow H H' y (f r)) (fun _ _ _ _ s h r q => (h r q).mono s) (SqL.of ha) (by rw [hp.length]; exact Nat.le_of_lt (small1000 hz)) ?_ ?_
  · intro x hx H1 s1 Q q
    obtain ⟨r, hr, hrow⟩ := hp.mem2 hx
    obtain ⟨b, rfl, hb⟩ := id hrow
    exact hs r hr b hb H1 s1 Q fun y H2 s2 ho => q _ H2 s2 fun r' h' => by rw [← hrow.inj h']; exact ho
  · intro ys H' s' pr
    exact hd ys H' s' (rows_mapl f pr hp)
theorem OwnTab.lay {H H1 : Hp} {p : Addr} {ys : List V} {T : List (List Int)} (s : Same H H1) (hp : H1 p = none) (h : Paired (OwnRow H H1) ys T) : OwnTab H (upd H1 p (.lst ys)) p T :=
  ⟨ys, s.free hp, upd_same, h.imp2 fun _ _ z => z.mono (same_upd hp)⟩
/-- a row of a table, by its place -/
theorem IsTab.row {H : Hp} {a : Addr} {T : List (List Int)} (h : IsTab H a T) {i : Nat} (hi : i < T.length) : ∃ vs b, H a = some (.lst vs) ∧ i < vs.length ∧ atI vs (i : Int) = some (.ref b) ∧ H b = some (.lst ((T.getD i []).map V.int)) := by
  obtain ⟨vs, e, p⟩ := h
  obtain ⟨v, ev, b, rfl, hb⟩ := p.at2 (List.getElem?_eq_getElem hi)
  refine ⟨vs, b, e, by rw [p.length]; exact hi, atI_nat ev, ?_⟩
  rw [List.getD_eq_getElem?_getD, List.getElem?_eq_getElem hi]
  exact hb
theorem Good.row {T : List (List Int)} {m n : Nat} (g : Good T m n) {i : Nat} (hi : i < m) : T.getD i [] ∈ T ∧ (T.getD i []).length = n := by
  have h : i < T.length := by rw [g.rows]; exact hi
  have e : T.getD i [] = T[i] := by rw [List.getD_eq_getElem?_getD, List.getElem?_eq_getElem h]; rfl
  rw [e]
  exact ⟨List.getElem_mem h, g.cols _ (List.getElem_mem h)⟩
/-- places -/
def IsPl (H : Hp) (v : V) (p : Nat × Nat) : Prop := ∃ b, v = .ref b ∧ H b = some (.tup [.int p.1, .int p.2])
def plD (p : Nat × Nat) : D := .tup [.int p.1, .int p.2]
end L2
namespace L2
open PySem PySem.Spec PyProof.Rows
theorem ints_mapV (f : Int → Int) : ∀ {r : List Int} {ys : List V}, Paired (fun x y => ∀ i, x = V.int i → y = V.int (f i)) (r.map V.int) ys → ys = (r.map f).map V.int
  | [], _, h => by cases h; rfl
  | i :: r, _, h => by
    cases h with
    | cons h t => rw [h i rfl, ints_mapV f t]; rfl
/-- an int of each int of a list -/
theorem comp_ints {K : PySem.W.Frag} {b : Addr} {r : List Int} {te : TE} {σc : St} {H : Hp} {Fin : List V → Hp → Prop} (f : Int → Int) (hb : SqL K H b (r.map V.int)) (hz : r.length ≤ 1000)
    (hs : ∀ i ∈ r, ∀ H1, Same H H1 → ∀ Q : VK, (∀ H2, Same H1 H2 → Q (.int (f i)) H2) → te (σc.set 0 (some (.int i))) H1 Q) (hd : ∀ H', Same H H' → Fin ((r.map f).map V.int) H') : tCompK (Itl K b) (gName 0) tYes te σc H Fin := by
  refine comp_each (xs := r.map V.int) (fun x y _ => ∀ i, x = V.int i → y = V.int (f i)) (fun _ _ _ _ _ h => h) hb (by rw [List.length_map]; exact Nat.le_of_lt (small1000 hz)) ?_ ?_
  · intro x hx H1 s1 Q q
    obtain ⟨i, hi, rfl⟩ := List.mem_map.mp hx
    exact hs i hi H1 s1 Q fun H2 s2 => q _ H2 s2 fun j e => by cases e; rfl
  · intro ys H' s' pr
    rw [ints_mapV f pr]
    exact hd H' s'
theorem iteNE {b : Bool} {A B : Prop} (hb : b = true) (h : B) : if (!b) = true then A else B := by
  subst hb
  exact iteF h
theorem rep_pair {K : PySem.W.Frag} {H : Hp} {p : Addr} {x y : Int} (h : H p = some (.tup [.int x, .int y])) : Rep K H (.tup [.int x, .int y]) (.ref p) := by
  unfold Rep
  exact ⟨p, _, rfl, SqT.of h, by simp [Reps, Rep]⟩
end L2
namespace L2
open PySem PySem.Spec PyProof.Rows
/-- all but l is as it was -/
def SameX (l : Addr) (H H' : Hp) : Prop := ∀ b o, b ≠ l → H b = some o → H' b = some o
theorem SameX.refl {l : Addr} {H : Hp} : SameX l H H := fun _ _ _ h => h
theorem SameX.then {l : Addr} {H H1 H2 : Hp} (a : SameX l H H1) (b : Same H1 H2) : SameX l H H2 := fun c o n h => b c o (a c o n h)
theorem SameX.at {l : Addr} {H H1 : Hp} {o : HO} (a : SameX l H H1) : SameX l H (upd H1 l o) := fun c u n h => by rw [upd_ne n]; exact a c u n h
/-- a row of one's own (new since H), not the thing at l -/
def RowX (H : Hp) (l : Addr) (H' : Hp) (v : V) (r : List Int) : Prop := ∃ b, v = .ref b ∧ b ≠ l ∧ H b = none ∧ H' b = some (.lst (r.map V.int))
theorem RowX.own {H H' : Hp} {l : Addr} {v : V} {r : List Int} (h : RowX H l H' v r) : OwnRow H H' v r := let ⟨b, e, _, n, q⟩ := h; ⟨b, e, n, q⟩
theorem RowX.mono {H H' H2 : Hp} {l : Addr} {v : V} {r : List Int} (s : Same H' H2) (h : RowX H l H' v r) : RowX H l H2 v r := let ⟨b, e, n, m, q⟩ := h; ⟨b, e, n, m, s _ _ q⟩
theorem RowX.at {H H' : Hp} {l : Addr} {v : V} {r : List Int} {o : HO} (h : RowX H l H' v r) : RowX H l (upd H' l o) v r := let ⟨b, e, n, m, q⟩ := h; ⟨b, e, n, m, by rw [upd_ne n]; exact q⟩
theorem range_getD {α : Type} (d : α) (l : List α) : (List.range l.length).map (fun i => l.getD i d) = l := by
  apply List.ext_getElem
  · simp
  · intro i h1 h2
    simp only [List.getElem_map, List.getElem_range, List.getD_eq_getElem?_getD]
    rw [List.getElem?_eq_getElem h2]
    rfl
theorem flat_len {α β : Type} (f : α → List β) (k : Nat) : ∀ {l : List α}, (∀ x ∈ l, (f x).length = k) → (l.flatMap f).length = l.length * k
  | [], _ => by simp
  | x :: l, h => by
    rw [List.flatMap_cons, List.length_append, h x List.mem_cons_self, flat_len f k (fun y hy => h y (List.mem_cons_of_mem _ hy)), List.length_cons, Nat.succ_mul]
    omega
theorem getD_of {α : Type} {l : List α} {i : Nat} {x d : α} (h : l[i]? = some x) : l.getD i d = x := by
  rw [List.getD_eq_getElem?_getD, h]
  rfl
theorem getD_lt {α : Type} {l : List α} {i : Nat} (d : α) (h : i < l.length) : l[i]? = some (l.getD i d) := by
  rw [List.getD_eq_getElem?_getD, List.getElem?_eq_getElem h]
  rfl
end L2

set_option Elab.async false
set_option linter.all false
namespace L2
open PySem PySem.Spec PyProof.Rows
variable {X : Cx}
/-- // by a positive divisor below the line where the long way begins -/
def CDivB (i j : Int) : Prop := 0 < j ∧ j.natAbs.log2 < 9000
theorem op_fdivB : OpR X (binaryOp .FloorDiv) (rI CDivB fun i j => .int (i / j)) := opI fun i j _ _ _ _ _ hc q => by
  have h1 : (0 : Int) < j := hc.1
  exact floordiv_int (by omega) (by rw [Int.fdiv_eq_ediv_of_nonneg i (by omega)]; exact q) (.inl (PyProof.noPylong_of_log2 hc.2))
end L2
namespace Fr
theorem mk_zero {S : Int} (h : 0 < S) : mk 0 S = (0, 1) := by
  have e : (Int.gcd 0 S : Int) = S := by rw [Int.gcd_zero_left]; omega
  unfold mk
  rw [e, Int.zero_ediv, Int.ediv_self (by omega)]
theorem mk_self {S : Int} (h : 0 < S) : mk S S = (1, 1) := by
  have e : (Int.gcd S S : Int) = S := by rw [Int.gcd_self]; omega
  unfold mk
  rw [e, Int.ediv_self (by omega)]
theorem mk_cross {a b c d : Int} (hb : 0 < b) (hd : 0 < d) (h : a * d = c * b) : mk a b = mk c d := by
  rw [← mk_mul (a := a) (b := b) hd, ← mk_mul (a := c) (b := d) hb, h, Int.mul_comm b d]
theorem mk_ratio {a b : Int} (h : 0 < b) : (mk a b).1 * b = a * (mk a b).2 := by
  have h1 := mk_fst (a := a) (b := b)
  have h2 := mk_snd (a := a) (b := b)
  have e : (mk a b).1 * b = (mk a b).1 * ((mk a b).2 * (Int.gcd a b : Int)) := by rw [h2]
  have e2 : a * (mk a b).2 = ((mk a b).1 * (Int.gcd a b : Int)) * (mk a b).2 := by rw [h1]
  rw [e, e2, Int.mul_assoc, Int.mul_comm (mk a b).2]
theorem mk_nonneg {a b : Int} (h : 0 < b) (ha : 0 ≤ a) : 0 ≤ (mk a b).1 := Int.ediv_nonneg ha (Int.le_of_lt (gcd_pos h))
theorem mk_cop {a b : Int} (h : 0 < b) : Int.gcd (mk a b).1 (mk a b).2 = 1 := by
  have g := gcd_pos (a := a) h
  have e : Int.gcd ((mk a b).1 * (Int.gcd a b : Int)) ((mk a b).2 * (Int.gcd a b : Int)) = Int.gcd (mk a b).1 (mk a b).2 * Int.gcd a b := by
    rw [Int.gcd_mul_right]
    simp
  rw [mk_fst, mk_snd] at e
  have g' : 0 < Int.gcd a b := by omega
  have e2 : 1 * Int.gcd a b = Int.gcd (mk a b).1 (mk a b).2 * Int.gcd a b := by rw [Nat.one_mul]; exact e
  exact (Nat.eq_of_mul_eq_mul_right g' e2).symm
def dot : List Int → List Int → Int
  | x :: xs, y :: ys => x * y + dot xs ys
  | _, _ => 0
theorem dot_snoc : ∀ (xs ys : List Int) (x y : Int), xs.length = ys.length → dot (xs ++ [x]) (ys ++ [y]) = dot xs ys + x * y
  | [], [], x, y, _ => by simp [dot]
  | a :: xs, b :: ys, x, y, h => by
    have := dot_snoc xs ys x y (by simpa using h)
    simp only [List.cons_append, dot]
    omega
end Fr
namespace L2
open PySem PySem.Spec PyProof.Rows
def IsFr (H : Hp) (v : V) (q : Int × Int) : Prop := ∃ b, v = .ref b ∧ H b = some (.tup [.int q.1, .int q.2])
theorem IsFr.mono {H H' : Hp} {v : V} {q : Int × Int} (s : Same H H') (h : IsFr H v q) : IsFr H' v q := let ⟨b, e, z⟩ := h; ⟨b, e, s _ _ z⟩
def IsFrs (H : Hp) (a : Addr) (qs : List (Int × Int)) : Prop := ∃ vs, H a = some (.lst vs) ∧ Paired (IsFr H) vs qs
theorem IsFrs.mono {H H' : Hp} {a : Addr} {qs : List (Int × Int)} (s : Same H H') (h : IsFrs H a qs) : IsFrs H' a qs := let ⟨vs, e, z⟩ := h; ⟨vs, s _ _ e, z.imp2 fun _ _ y => y.mono s⟩
/-- weights: of n cards, together S -/
structure Wt (ws : List Int) (n : Nat) (S : Int) : Prop where
  len : ws.length = n
  n1 : 1 ≤ n
  n4 : n ≤ 4
  nn : ∀ x ∈ ws, 0 ≤ x
  sum : ws.sum = S
  pos : 0 < S
  most : S ≤ 17
def mks (ws : List Int) (S : Int) : List (Int × Int) := ws.map fun x => Fr.mk x S
theorem mks_len (ws : List Int) (S : Int) : (mks ws S).length = ws.length := List.length_map ..
theorem mks_get {ws : List Int} {S : Int} {i : Nat} {q : Int × Int} (h : (mks ws S)[i]? = some q) : ∃ x, ws[i]? = some x ∧ q = Fr.mk x S := by
  unfold mks at h
  rw [List.getElem?_map] at h
  cases e : ws[i]? with
  | none => rw [e] at h; cases h
  | some x => rw [e] at h; exact ⟨x, rfl, by cases h; rfl⟩
end L2

set_option Elab.async false
set_option linter.all false
set_option maxRecDepth 100000
/-! IN for data; METHODS in short. -/
namespace L2
open PySem PySem.Spec PyProof.Rows
/-- x in a list of data -/
def rInD (K : PySem.W.Frag) (neg : Bool) : R2 := fun x y H Q => ∃ p d ds vs, y = .ref p ∧ Rep K H d x ∧ SqL K H p vs ∧ Reps K H ds vs ∧ (∀ a ∈ ds, likeD a d = true ∧ depD a ≤ 40 ∧ ∀ b ∈ ds, likeD a b = true) ∧
  Q (.bl (if neg then !(ds.any fun e => eqD e d) else ds.any fun e => eqD e d)) H
section
variable {X : Cx} {pins : List (Addr × Obj)} {σ : St} {H : Hp} {s : Shared}
open Classical in
theorem in_items (I : Inv X pins σ H s) (hu : X.A.units + 64 < cLine) {d : D} {x : V} {u : Value} {ds : List D} {vs : List V} {its : List Value} (rd : Rep X.K H d x) (ru : RelV x u) (rs : Reps X.K H ds vs) (rv : Vals vs its)
    (hl : ∀ a ∈ ds, likeD a d = true ∧ depD a ≤ 40 ∧ ∀ b ∈ ds, likeD a b = true) : ∃ e : Value → Bool, (∀ y, y ∈ its → SeqAt.EqAt X.A.in1 s y u (e y)) ∧ its.any e = ds.any fun a => eqD a d := by
  refine ⟨fun (y : Value) => decide (∃ (j : Nat) (d' : D), its[j]? = some y ∧ ds[j]? = some d' ∧ eqD d' d = true), fun y hy => ?_, ?_⟩
  · obtain ⟨j, hj, ej⟩ := List.mem_iff_getElem.mp hy
    have hjv : j < vs.length := by rw [rv.length]; exact hj
    obtain ⟨d1, e1, r1⟩ := rs.get (List.getElem?_eq_getElem hjv)
    obtain ⟨u1, f1, s1⟩ := rv.get (List.getElem?_eq_getElem hjv)
    have g1 : u1 = y := by rw [List.getElem?_eq_getElem hj, ej] at f1; exact (Option.some.inj f1).symm
    subst g1
    have m1 := List.mem_of_getElem? e1
    obtain ⟨l1, p1, l2⟩ := hl d1 m1
    have hq := (eq_rep (A := X.A.in1) I 40 p1 l1 (by show X.A.units + 1 + 40 < cLine; omega) r1 rd s1 ru).1
    have he : decide (∃ (j : Nat) (d' : D), its[j]? = some u1 ∧ ds[j]? = some d' ∧ eqD d' d = true) = eqD d1 d := by
      cases hc : eqD d1 d with
      | true => exact decide_eq_true ⟨j, d1, by rw [List.getElem?_eq_getElem hj, ej], e1, hc⟩
      | false =>
        refine decide_eq_false ?_
        rintro ⟨i, d', hi, hd', hq'⟩
        have hiv : i < vs.length := by rw [rv.length]; exact (List.getElem?_eq_some_iff.mp hi).1
        obtain ⟨d2, e2, r2⟩ := rs.get (List.getElem?_eq_getElem hiv)
        rw [hd'] at e2
        cases e2
        obtain ⟨u2, f2, s2⟩ := rv.get (List.getElem?_eq_getElem hiv)
        rw [hi] at f2
        cases f2
        have ev := s1.inj s2
        rw [← ev] at r2
        have := eqD_eq (same_rep I 40 p1 (l2 d' (List.mem_of_getElem? hd')) r1 r2)
        rw [this, hq'] at hc
        cases hc
    show SeqAt.EqAt X.A.in1 s u1 u (decide (∃ (j : Nat) (d' : D), its[j]? = some u1 ∧ ds[j]? = some d' ∧ eqD d' d = true))
    rw [he]
    exact hq
  · rw [Bool.eq_iff_iff, List.any_eq_true, List.any_eq_true]
    constructor
    · rintro ⟨y, _, hy⟩
      obtain ⟨j, d', _, h2, h3⟩ := of_decide_eq_true hy
      exact ⟨d', List.mem_of_getElem? h2, h3⟩
    · rintro ⟨d', hd', h3⟩
      obtain ⟨j, hj, ej⟩ := List.mem_iff_getElem.mp hd'
      have hji : j < its.length := by rw [← rv.length, rs.length]; exact hj
      exact ⟨its[j], List.getElem_mem hji, decide_eq_true ⟨j, d', List.getElem?_eq_getElem hji, by rw [List.getElem?_eq_getElem hj, ej], h3⟩⟩
theorem op_notInD (hu : X.A.units + 64 < cLine) : OpR X (compareOp .NotIn) (rInD X.K true) := by
  intro pins s σ H x y v u Q I rx ry h
  obtain ⟨p, d, ds, vs, rfl, rd, hq, rs, hl, q⟩ := h
  cases ry
  obtain ⟨its, r, pl, hz⟩ := I.list hq
  obtain ⟨e, h1, h2⟩ := in_items I hu rd rx rs r hl
  refine SeqAt.notIn_listAt e pl.isList (fun w hw => h1 w (by simpa using hw)) ⟨.bl _, H, I, rfl, ?_⟩
  rw [show its.toArray.any e = its.any e by simp, h2]
  exact q
end
section
variable {X : Cx}
theorem ninDK (K : PySem.W.Frag) (hu : X.A.units + 64 < cLine) (h : X.K = K := by rfl) : OpR X (compareOp .NotIn) (rInD K true) := by subst h; exact op_notInD hu
theorem inK (K : PySem.W.Frag) (h : X.K = K := by rfl) : OpR X (compareOp .In) (rIn K false) := by subst h; exact op_in_seq
end
theorem inV_ints (i : Int) (xs : List Int) : inV (.int i) (xs.map V.int) = decide (i ∈ xs) := by
  unfold inV
  rw [Bool.eq_iff_iff, List.any_eq_true, decide_eq_true_iff]
  constructor
  · rintro ⟨y, hy, h⟩
    obtain ⟨j, hj, rfl⟩ := List.mem_map.mp hy
    have : j = i := by simpa [eqV] using h
    rw [← this]; exact hj
  · intro h
    exact ⟨.int i, List.mem_map_of_mem h, by simp [eqV]⟩
theorem flat_ints (xs : List Int) : (xs.map V.int).all flatV = true := by
  rw [List.all_eq_true]
  intro y hy
  obtain ⟨j, _, rfl⟩ := List.mem_map.mp hy
  rfl
/-! ### methods -/
/-- a class of the text as it stands behind the top -/
structure Cl (K : PySem.W.Frag) (mg : Str → Option Value) (x : Str) (fs ms : List Str) (C : Addr) : Prop where
  cl : Cls K C
  no : ∀ f, f ∈ fs → NoAttr K C f
  mg_ : mg x = some (.ref C)
  makes : PySem.W.makesIn K C = true
  kp : PySem.W.keepIn K (.ref C) = true
structure FunC (K : PySem.W.Frag) (C : Addr) (m qual : Str) (st : Stmt) (ps : List Str) : Prop where
  ex : ∃ f fd, Fun K m qual st f fd ∧ Meth K C m f ∧ Binds K fd ps []
structure DefC (P : Program) (w : World) (K : PySem.W.Frag) (mg : Str → Option Value) (base : Heap) (C : Addr) (m : Str) (ps : List Str) (k : Nat) (sp : Sp) : Prop where
  ex : ∃ f fd, FnOk P w K mg base CX0 k f fd ps sp ∧ Meth K C m f ∧ Binds K fd ps []
section
variable {P : Program} {w : World} {K : PySem.W.Frag} {mg : Str → Option Value} {base : Heap}
theorem DefC.of {C : Addr} {x qual : Str} {st : Stmt} {N ps : List Str} {k : Nat} {sp : Sp} (F : FunC K C x qual st ps) (S : FnScope N ps (defScope st)) (len : ∀ vs H Q E, sp vs H Q E → vs.length = ps.length)
    (hbody : ∀ (f : Addr) (cdv : Value) (A : Around) (outer : List Env) (s : Shared) (H : Hp) (vs : List V) (Q : VK) (E : XK), Room k (A.deeper (envOfC qual (defScope st) s.heap.objs.size f cdv)) → sp vs H Q E →
      ∃ t, PSs (cxOf CX0 P w K mg base N qual (defScope st) f cdv A outer s H E).nox (defBody st) t ∧ t { nx := fun _ H' => Q .non H', rt := Q } (start N vs) H) : DefC P w K mg base C x ps (k + 1) sp := by
  obtain ⟨f, fd, F1, hm, hb⟩ := F.ex
  exact ⟨f, fd, F1.ok S len (hbody f), hm, hb⟩
theorem fun_c {C : Addr} {x qual : Str} {st : Stmt} {ps : List Str} {f : Addr} {oc : Value} {od an : Option Addr} {osl : Array (Option Value)} {kV doc pm cdv ct : Value}
    (a : PySem.W.findIn K (.ref C) x = some (some (.ref f))) (i : PySem.W.isFn K (.ref f) = true)
    (l : K.lookup f = some ⟨oc, od, .func (PySem.W.fnOf x qual (defArgs st) (defBody st) (defScope st) .none kV doc pm an cdv ct), osl⟩) (c : PySem.W.codeIn K cdv qual = true) (k : PySem.W.keepIn K (.ref f) = true)
    (b : ∀ (kV doc pm : Value) (an : Option Addr) (cdv ct : Value) (us : List Value), us.length = ps.length → bindArgs (PySem.W.fnOf x qual (defArgs st) (defBody st) (defScope st) .none kV doc pm an cdv ct) ⟨us, []⟩ = pure (ps.zip us)) : FunC K C x qual st ps := by
  have F := fun_mk (st := st) l c k
  exact ⟨f, _, F, ⟨a, i, k⟩, F.binds b⟩
end
section
variable {X : Cx} {x m : Str} {ps : List Str} {k : Nat} {sp : Sp} {p pos apos : Pos} {o e : Expr} {es : List Expr} {t : TA} {ta : TE} {C : Addr} {fs ms : List Str}
theorem pe_makeD (D : DefC X.prog X.w X.K X.mg X.base C "__init__" ps k sp) (c : Cl X.K X.mg x fs ms C) (hr : Room (k + 1) X.A) (hg : Gl X x) (ha : PA X (e :: es) t)
    (hdb : (x == ("__debug__" : Str)) = false := by decide) (he : starEach (e :: es) X.env = (false, eval e X.env) :: starEach es X.env := by rfl) (hpl : (backTo pos (starEach es X.env)).any (·.1) = false := by rfl) :
    PE X (.Call (.Name x p) (e :: es) [] pos) (tMake C sp [] E0 t) := by
  obtain ⟨f, fd, F, hm, hb⟩ := D.ex
  exact pe_make ⟨c.makes, hm.at_, hm.fn, c.kp⟩ F hr hg c.mg_ hb .nil pass0 ha hdb he hpl
end
end L2

set_option Elab.async false
set_option linter.all false
/-! GAMES: sums, the alternative, points brought to corners. -/
namespace Gm
def sm : Nat → (Nat → Int) → Int
  | 0, _ => 0
  | n + 1, f => sm n f + f n
theorem sm_congr {f g : Nat → Int} : ∀ {n : Nat}, (∀ j, j < n → f j = g j) → sm n f = sm n g
  | 0, _ => rfl
  | n + 1, h => by
    show sm n f + f n = sm n g + g n
    rw [sm_congr fun j hj => h j (by omega), h n (by omega)]
theorem sm_add (f g : Nat → Int) : ∀ n, sm n (fun j => f j + g j) = sm n f + sm n g
  | 0 => rfl
  | n + 1 => by
    show sm n _ + (f n + g n) = sm n f + f n + (sm n g + g n)
    rw [sm_add f g n]; omega
theorem sm_mul (c : Int) (f : Nat → Int) : ∀ n, sm n (fun j => c * f j) = c * sm n f
  | 0 => by simp [sm]
  | n + 1 => by
    show sm n _ + c * f n = c * (sm n f + f n)
    rw [sm_mul c f n, Int.mul_add]
theorem sm_zero : ∀ n, sm n (fun _ => 0) = 0
  | 0 => rfl
  | n + 1 => by
    show sm n _ + 0 = 0
    rw [sm_zero n]; rfl
theorem sm_nonneg {f : Nat → Int} : ∀ {n : Nat}, (∀ j, j < n → 0 ≤ f j) → 0 ≤ sm n f
  | 0, _ => Int.le_refl _
  | n + 1, h => by
    show 0 ≤ sm n f + f n
    have := sm_nonneg (n := n) fun j hj => h j (by omega)
    have := h n (by omega)
    omega
theorem sm_le {f g : Nat → Int} : ∀ {n : Nat}, (∀ j, j < n → f j ≤ g j) → sm n f ≤ sm n g
  | 0, _ => Int.le_refl _
  | n + 1, h => by
    show sm n f + f n ≤ sm n g + g n
    have := sm_le (n := n) fun j hj => h j (by omega)
    have := h n (by omega)
    omega
theorem sm_pos {f : Nat → Int} : ∀ {n : Nat}, (∀ j, j < n → 0 ≤ f j) → (∃ j, j < n ∧ 0 < f j) → 0 < sm n f
  | 0, _, ⟨j, hj, _⟩ => by omega
  | n + 1, h, ⟨j, hj, hp⟩ => by
    show 0 < sm n f + f n
    have h0 := sm_nonneg (n := n) fun j hj => h j (by omega)
    have h1 := h n (by omega)
    by_cases e : j = n
    · subst e; omega
    · have := sm_pos (n := n) (fun j hj => h j (by omega)) ⟨j, by omega, hp⟩
      omega
theorem sm_ex {f : Nat → Int} : ∀ {n : Nat}, 0 < sm n f → ∃ j, j < n ∧ 0 < f j
  | 0, h => by simp [sm] at h
  | n + 1, h => by
    have h' : 0 < sm n f + f n := h
    by_cases e : 0 < f n
    · exact ⟨n, by omega, e⟩
    · obtain ⟨j, hj, hp⟩ := sm_ex (f := f) (n := n) (by omega)
      exact ⟨j, by omega, hp⟩
/-- a sum with one item -/
theorem sm_single {k : Nat} {c : Int} : ∀ {n : Nat}, sm n (fun j => if j = k then c else 0) = if k < n then c else 0
  | 0 => by simp [sm]
  | n + 1 => by
    show sm n _ + (if n = k then c else 0) = _
    rw [sm_single (n := n)]
    by_cases h1 : k < n
    · rw [if_pos h1, if_neg (by omega), if_pos (by omega)]; omega
    · by_cases h2 : n = k
      · rw [if_neg h1, if_pos h2, if_pos (by omega)]; omega
      · rw [if_neg h1, if_neg h2, if_neg (by omega)]; omega
theorem sm_swap (f : Nat → Nat → Int) (m : Nat) : ∀ n, sm n (fun j => sm m fun i => f i j) = sm m fun i => sm n fun j => f i j
  | 0 => by
    show (0 : Int) = sm m fun i => 0
    rw [sm_zero]
  | n + 1 => by
    show sm n _ + (sm m fun i => f i n) = sm m fun i => (sm n (fun j => f i j)) + f i n
    rw [sm_swap f m n, ← sm_add]
/-- of finitely many ratios one is least -/
theorem least_ratio {α : Type} (num den : α → Int) : ∀ (l : List α), l ≠ [] → (∀ x ∈ l, 0 < den x) → ∃ x ∈ l, ∀ y ∈ l, num x * den y ≤ num y * den x
  | [], h, _ => absurd rfl h
  | [x], _, _ => ⟨x, by simp, fun y hy => by
    rw [List.mem_singleton.mp hy]
    exact Int.le_refl _⟩
  | x :: z :: l, _, hd => by
    obtain ⟨w, hw, hm⟩ := least_ratio num den (z :: l) (by simp) fun y hy => hd y (List.mem_cons_of_mem _ hy)
    have dx := hd x (by simp)
    have dw := hd w (List.mem_cons_of_mem _ hw)
    by_cases h : num x * den w ≤ num w * den x
    · refine ⟨x, by simp, fun y hy => ?_⟩
      rcases List.mem_cons.mp hy with e | hy
      · rw [e]; exact Int.le_refl _
      · have dy := hd y (List.mem_cons_of_mem _ hy)
        have h1 := hm y hy
        have a1 : num x * den w * den y ≤ num w * den x * den y := Int.mul_le_mul_of_nonneg_right h (Int.le_of_lt dy)
        have a2 : num w * den y * den x ≤ num y * den w * den x := Int.mul_le_mul_of_nonneg_right h1 (Int.le_of_lt dx)
        have a3 : num x * den y * den w ≤ num y * den x * den w := by grind
        exact Int.le_of_mul_le_mul_right a3 dw
    · refine ⟨w, List.mem_cons_of_mem _ hw, fun y hy => ?_⟩
      rcases List.mem_cons.mp hy with e | hy
      · rw [e]; omega
      · exact hm y hy
/-! ### points: weights y, together S, no row gets more than N, some row just N -/
structure Pt (a : Nat → Nat → Int) (m n : Nat) (y : Nat → Int) (S N : Int) : Prop where
  pos : 0 < S
  nn : ∀ j, j < n → 0 ≤ y j
  sum : sm n y = S
  le : ∀ i, i < m → sm n (fun j => a i j * y j) ≤ N
  ti : ∃ i, i < m ∧ sm n (fun j => a i j * y j) = N
def cnt (p : Nat → Bool) (n : Nat) : Nat := ((List.range n).filter p).length
theorem cnt_le {p q : Nat → Bool} {n : Nat} (h : ∀ j, j < n → p j = true → q j = true) : cnt p n ≤ cnt q n := by
  unfold cnt
  rw [← List.countP_eq_length_filter, ← List.countP_eq_length_filter]
  exact List.countP_mono_left fun j hj => h j (List.mem_range.mp hj)
theorem cnt_lt {p q : Nat → Bool} : ∀ {n : Nat}, (∀ j, j < n → p j = true → q j = true) → (∃ j, j < n ∧ p j = false ∧ q j = true) → cnt p n < cnt q n
  | 0, _, ⟨j, hj, _⟩ => by omega
  | n + 1, h, ⟨j, hj, h1, h2⟩ => by
    have e : ∀ r : Nat → Bool, cnt r (n + 1) = cnt r n + (if r n = true then 1 else 0) := by
      intro r
      unfold cnt
      rw [List.range_succ, List.filter_append, List.length_append]
      by_cases c : r n = true
      · simp [c]
      · simp [c]
    rw [e p, e q]
    have h0 := cnt_le (p := p) (q := q) (n := n) fun j hj => h j (by omega)
    have hn := h n (by omega)
    by_cases c : j = n
    · subst c
      simp [h1, h2]
      omega
    · have := cnt_lt (n := n) (fun j hj => h j (by omega)) ⟨j, by omega, h1, h2⟩
      by_cases c1 : p n = true
      · rw [if_pos c1, if_pos (hn c1)]; omega
      · rw [if_neg c1]; split <;> omega
/-- what is left to do -/
def todo (a : Nat → Nat → Int) (m n : Nat) (y : Nat → Int) (N : Int) : Nat := cnt (fun j => decide (y j ≠ 0)) n + cnt (fun i => decide (sm n (fun j => a i j * y j) ≠ N)) m
theorem dot_lin (a : Nat → Int) (y d : Nat → Int) (q p : Int) (n : Nat) : sm n (fun j => a j * (q * y j + p * d j)) = q * sm n (fun j => a j * y j) + p * sm n (fun j => a j * d j) := by
  rw [← sm_mul, ← sm_mul, ← sm_add]
  exact sm_congr fun j _ => by grind
/-- a step along a direction that keeps what is tight -/
theorem step {a : Nat → Nat → Int} {m n : Nat} {y : Nat → Int} {S N : Int} (P : Pt a m n y S N) {d : Nat → Int} {δ : Int} (hs : ∀ j, j < n → y j = 0 → d j = 0) (h0 : sm n d = 0) (hd : ∃ j, j < n ∧ d j ≠ 0) (hδ : δ ≤ 0)
    (ht : ∀ i, i < m → sm n (fun j => a i j * y j) = N → sm n (fun j => a i j * d j) = δ) : ∃ y' S' N', Pt a m n y' S' N' ∧ N' * S ≤ N * S' ∧ todo a m n y' N' < todo a m n y N ∧ (∀ j, j < n → y j = 0 → y' j = 0) ∧ ∀ i, i < m → sm n (fun j => a i j * y j) = N → sm n (fun j => a i j * y' j) = N' := by
  -- some share goes down
  have hneg : ∃ j, j < n ∧ d j < 0 := by
    refine Classical.byContradiction fun hc => ?_
    have hge : ∀ j, j < n → 0 ≤ d j := fun j hj => by
      refine Classical.byContradiction fun h => hc ⟨j, hj, by omega⟩
    obtain ⟨j, hj, hne⟩ := hd
    have := sm_pos hge ⟨j, hj, by have := hge j hj; omega⟩
    omega
  -- what may stop the step
  let num : Nat ⊕ Nat → Int := fun x => match x with | .inl j => y j | .inr i => N - sm n (fun j => a i j * y j)
  let den : Nat ⊕ Nat → Int := fun x => match x with | .inl j => - d j | .inr i => sm n (fun j => a i j * d j) - δ
  let L : List (Nat ⊕ Nat) := ((List.range n).filter fun j => decide (d j < 0)).map .inl ++ ((List.range m).filter fun i => decide (δ < sm n (fun j => a i j * d j))).map .inr
  have mL : ∀ j, j < n → d j < 0 → (.inl j : Nat ⊕ Nat) ∈ L := fun j hj h => List.mem_append_left _ (List.mem_map_of_mem (List.mem_filter.mpr ⟨List.mem_range.mpr hj, decide_eq_true h⟩))
  have mR : ∀ i, i < m → δ < sm n (fun j => a i j * d j) → (.inr i : Nat ⊕ Nat) ∈ L := fun i hi h => List.mem_append_right _ (List.mem_map_of_mem (List.mem_filter.mpr ⟨List.mem_range.mpr hi, decide_eq_true h⟩))
  have inL : ∀ x ∈ L, (∃ j, j < n ∧ d j < 0 ∧ x = .inl j) ∨ ∃ i, i < m ∧ δ < sm n (fun j => a i j * d j) ∧ x = .inr i := by
    intro x hx
    rcases List.mem_append.mp hx with h | h
    · obtain ⟨j, hj, rfl⟩ := List.mem_map.mp h
      obtain ⟨h1, h2⟩ := List.mem_filter.mp hj
      exact .inl ⟨j, List.mem_range.mp h1, of_decide_eq_true h2, rfl⟩
    · obtain ⟨i, hi, rfl⟩ := List.mem_map.mp h
      obtain ⟨h1, h2⟩ := List.mem_filter.mp hi
      exact .inr ⟨i, List.mem_range.mp h1, of_decide_eq_true h2, rfl⟩
  have dp : ∀ x ∈ L, 0 < den x := by
    intro x hx
    rcases inL x hx with ⟨j, _, h, rfl⟩ | ⟨i, _, h, rfl⟩
    · show 0 < - d j; omega
    · show 0 < sm n (fun j => a i j * d j) - δ; omega
  obtain ⟨j0, hj0, hd0⟩ := hneg
  obtain ⟨x, hx, hmin⟩ := least_ratio num den L (List.ne_nil_of_mem (mL j0 hj0 hd0)) dp
  have hq := dp x hx
  have hp : 0 ≤ num x := by
    rcases inL x hx with ⟨j, hj, h, rfl⟩ | ⟨i, hi, h, rfl⟩
    · exact P.nn j hj
    · show 0 ≤ N - sm n (fun j => a i j * y j)
      have := P.le i hi
      omega
  generalize hpe : num x = p at hmin hp
  generalize hqe : den x = q at hmin hq
  have g : ∀ i, sm n (fun j => a i j * (q * y j + p * d j)) = q * sm n (fun j => a i j * y j) + p * sm n (fun j => a i j * d j) := fun i => dot_lin (a i) y d q p n
  have tight : ∀ i, i < m → sm n (fun j => a i j * y j) = N → sm n (fun j => a i j * (q * y j + p * d j)) = q * N + p * δ := fun i hi h => by
    rw [g i, h, ht i hi h]
  refine ⟨fun j => q * y j + p * d j, q * S, q * N + p * δ, ⟨Int.mul_pos hq P.pos, ?_, ?_, ?_, ?_⟩, ?_, ?_, fun j hj e => ?_, fun i hi e => tight i hi e⟩
  · intro j hj
    show 0 ≤ q * y j + p * d j
    by_cases h : d j < 0
    · have := hmin _ (mL j hj h)
      have h1 : p * (- d j) ≤ y j * q := this
      have e : p * (- d j) = - (p * d j) := Int.mul_neg ..
      have e2 : y j * q = q * y j := Int.mul_comm ..
      omega
    · have h1 : 0 ≤ q * y j := Int.mul_nonneg (Int.le_of_lt hq) (P.nn j hj)
      have h2 : 0 ≤ p * d j := Int.mul_nonneg hp (by omega)
      omega
  · have e : sm n (fun j => q * y j + p * d j) = q * sm n y + p * sm n d := by rw [← sm_mul, ← sm_mul, ← sm_add]
    rw [e, h0, P.sum]
    omega
  · intro i hi
    show sm n (fun j => a i j * (q * y j + p * d j)) ≤ q * N + p * δ
    rw [g i]
    have hle := P.le i hi
    by_cases h : δ < sm n (fun j => a i j * d j)
    · have := hmin _ (mR i hi h)
      have h1 : p * (sm n (fun j => a i j * d j) - δ) ≤ (N - sm n (fun j => a i j * y j)) * q := this
      grind
    · have h1 : p * sm n (fun j => a i j * d j) ≤ p * δ := Int.mul_le_mul_of_nonneg_left (by omega) hp
      have h2 : q * sm n (fun j => a i j * y j) ≤ q * N := Int.mul_le_mul_of_nonneg_left hle (Int.le_of_lt hq)
      omega
  · obtain ⟨i, hi, h⟩ := P.ti
    exact ⟨i, hi, tight i hi h⟩
  · have h1 : p * δ ≤ 0 := Int.mul_nonpos_of_nonneg_of_nonpos hp hδ
    have h2 : p * δ * S ≤ 0 := Int.mul_nonpos_of_nonpos_of_nonneg h1 (Int.le_of_lt P.pos)
    grind
  · have s1 : ∀ j, j < n → decide (q * y j + p * d j ≠ 0) = true → decide (y j ≠ 0) = true := fun j hj h => by
      refine decide_eq_true fun e => ?_
      have := of_decide_eq_true h
      rw [e, hs j hj e] at this
      simp at this
    have s2 : ∀ i, i < m → decide (sm n (fun j => a i j * (q * y j + p * d j)) ≠ q * N + p * δ) = true → decide (sm n (fun j => a i j * y j) ≠ N) = true := fun i hi h => by
      refine decide_eq_true fun e => ?_
      exact of_decide_eq_true h (tight i hi e)
    have c1 := cnt_le s1
    have c2 := cnt_le s2
    show cnt (fun j => decide (q * y j + p * d j ≠ 0)) n + cnt (fun i => decide (sm n (fun j => a i j * (q * y j + p * d j)) ≠ q * N + p * δ)) m < cnt (fun j => decide (y j ≠ 0)) n + cnt (fun i => decide (sm n (fun j => a i j * y j) ≠ N)) m
    rcases inL x hx with ⟨j, hj, h, rfl⟩ | ⟨i, hi, h, rfl⟩
    · have e1 : p = y j := hpe.symm
      have e2 : q = - d j := hqe.symm
      have : cnt (fun j => decide (q * y j + p * d j ≠ 0)) n < cnt (fun j => decide (y j ≠ 0)) n := by
        refine cnt_lt s1 ⟨j, hj, decide_eq_false ?_, decide_eq_true ?_⟩
        · rw [e1, e2]
          intro z
          apply z
          grind
        · intro z
          rw [hs j hj z] at h
          omega
      omega
    · have e1 : p = N - sm n (fun j => a i j * y j) := hpe.symm
      have e2 : q = sm n (fun j => a i j * d j) - δ := hqe.symm
      have : cnt (fun i => decide (sm n (fun j => a i j * (q * y j + p * d j)) ≠ q * N + p * δ)) m < cnt (fun i => decide (sm n (fun j => a i j * y j) ≠ N)) m := by
        refine cnt_lt s2 ⟨i, hi, decide_eq_false ?_, decide_eq_true ?_⟩
        · intro z
          apply z
          rw [g i, e1, e2]
          grind
        · intro z
          rw [ht i hi z] at h
          omega
      omega
  · show q * y j + p * d j = 0
    rw [e, hs j hj e]
    simp
/-- no direction is left -/
def Rigid (a : Nat → Nat → Int) (m n : Nat) (y : Nat → Int) (N : Int) : Prop :=
  ∀ (d : Nat → Int) (δ : Int), (∀ j, j < n → y j = 0 → d j = 0) → sm n d = 0 → (∀ i, i < m → sm n (fun j => a i j * y j) = N → sm n (fun j => a i j * d j) = δ) → ∀ j, j < n → d j = 0
theorem to_rigid {a : Nat → Nat → Int} {m n : Nat} : ∀ (k : Nat) {y : Nat → Int} {S N : Int}, todo a m n y N = k → Pt a m n y S N → ∃ y' S' N', Pt a m n y' S' N' ∧ N' * S ≤ N * S' ∧ Rigid a m n y' N' ∧ (∀ j, j < n → y j = 0 → y' j = 0) ∧ ∀ i, i < m → sm n (fun j => a i j * y j) = N → sm n (fun j => a i j * y' j) = N' := by
  intro k
  induction k using Nat.strongRecOn with
  | ind k ih =>
    intro y S N hk P
    by_cases hr : Rigid a m n y N
    · exact ⟨y, S, N, P, Int.le_refl _, hr, fun _ _ e => e, fun _ _ e => e⟩
    · unfold Rigid at hr
      obtain ⟨d, hr⟩ := Classical.not_forall.mp hr
      obtain ⟨δ, hr⟩ := Classical.not_forall.mp hr
      obtain ⟨hs, hr⟩ := Classical.not_forall.mp hr
      obtain ⟨h0, hr⟩ := Classical.not_forall.mp hr
      obtain ⟨ht, hr⟩ := Classical.not_forall.mp hr
      obtain ⟨j, hr⟩ := Classical.not_forall.mp hr
      obtain ⟨hj, hne⟩ := Classical.not_forall.mp hr
      have go : ∃ y' S' N', Pt a m n y' S' N' ∧ N' * S ≤ N * S' ∧ todo a m n y' N' < todo a m n y N ∧ (∀ j, j < n → y j = 0 → y' j = 0) ∧ ∀ i, i < m → sm n (fun j => a i j * y j) = N → sm n (fun j => a i j * y' j) = N' := by
        by_cases hδ : δ ≤ 0
        · exact step P hs h0 ⟨j, hj, hne⟩ hδ ht
        · refine step P (d := fun j => -1 * d j) (δ := -1 * δ) (fun j hj e => by rw [hs j hj e]; rfl) (by rw [sm_mul, h0]; rfl) ⟨j, hj, by omega⟩ (by omega) fun i hi e => ?_
          have e2 : sm n (fun j => a i j * (-1 * d j)) = -1 * sm n (fun j => a i j * d j) := by
            rw [← sm_mul]
            exact sm_congr fun j _ => by grind
          rw [e2, ht i hi e]
      obtain ⟨y1, S1, N1, P1, l1, t1, u1, w1⟩ := go
      obtain ⟨y2, S2, N2, P2, l2, r2, u2, w2⟩ := ih _ (by omega) rfl P1
      refine ⟨y2, S2, N2, P2, ?_, r2, fun j hj e => u2 j hj (u1 j hj e), fun i hi e => w2 i hi (w1 i hi e)⟩
      have p1 := P1.pos
      have a1 : N2 * S1 * S ≤ N1 * S2 * S := Int.mul_le_mul_of_nonneg_right l2 (Int.le_of_lt P.pos)
      have a2 : N1 * S * S2 ≤ N * S1 * S2 := Int.mul_le_mul_of_nonneg_right l1 (Int.le_of_lt P2.pos)
      have a3 : N2 * S * S1 ≤ N * S2 * S1 := by grind
      exact Int.le_of_mul_le_mul_right a3 p1
end Gm

set_option Elab.async false
set_option linter.all false
namespace Gm
/-! ### the alternative -/
inductive Cone (Cs : List (Nat → Int)) : (Nat → Int) → Prop
  | base {c} : c ∈ Cs → Cone Cs c
  | comb {u v : Nat → Int} {p q : Int} : Cone Cs u → Cone Cs v → 0 < p → 0 ≤ q → Cone Cs (fun i => p * u i + q * v i)
end Gm

set_option Elab.async false
set_option linter.all false
namespace Gm
/-! ### determinants as the program unfolds them -/
def cut (r : List Int) (c : Nat) : List Int := r.take c ++ r.drop (c + 1)
def sg (c : Nat) : Int := if c % 2 = 0 then 1 else -1
def detN : Nat → List (List Int) → Int
  | 0, _ => 1
  | n + 1, M => sm (n + 1) fun c => sg c * (M.getD 0 []).getD c 0 * detN n ((M.drop 1).map fun r => cut r c)
def putC (r : List Int) (c : Nat) (x : Int) : List Int := r.take c ++ [x] ++ r.drop (c + 1)
def withC (M : List (List Int)) (c : Nat) (xs : List Int) : List (List Int) := List.zipWith (fun r x => putC r c x) M xs
abbrev cell (U : List (List Int)) (i j : Nat) : Int := (U.getD i []).getD j 0
def eqsM (U : List (List Int)) (R C : List Nat) : List (List Int) := List.replicate C.length 1 :: (R.drop 1).map fun i => C.map fun j => cell U i j - cell U (R.headD 0) j
def numsM (k : Nat) : List Int := 1 :: List.replicate (k - 1) 0
def wholeM (U : List (List Int)) (R C : List Nat) : Int := detN C.length (eqsM U R C)
def partM (U : List (List Int)) (R C : List Nat) (t : Nat) : Int := detN C.length (withC (eqsM U R C) t (numsM C.length))
def d2 (a b c d : Int) : Int := a * d - b * c
def d3 (a b c d e f g h i : Int) : Int := a * d2 e f h i - b * d2 d f g i + c * d2 d e g h
theorem det1 (x : Int) : detN 1 [[x]] = x := by simp [detN, sm, sg]
theorem det2 (a b c d : Int) : detN 2 [[a, b], [c, d]] = d2 a b c d := by simp [detN, sm, sg, cut, d2]; grind
theorem det3 (a b c d e f g h i : Int) : detN 3 [[a, b, c], [d, e, f], [g, h, i]] = d3 a b c d e f g h i := by
  have e : detN 3 [[a, b, c], [d, e, f], [g, h, i]] = 0 + 1 * a * detN 2 [[e, f], [h, i]] + (-1) * b * detN 2 [[d, f], [g, i]] + 1 * c * detN 2 [[d, e], [g, h]] := rfl
  rw [e, det2, det2, det2]
  unfold d3
  grind
theorem det4 (a1 a2 a3 a4 b1 b2 b3 b4 c1 c2 c3 c4 e1 e2 e3 e4 : Int) : detN 4 [[a1, a2, a3, a4], [b1, b2, b3, b4], [c1, c2, c3, c4], [e1, e2, e3, e4]] =
    a1 * d3 b2 b3 b4 c2 c3 c4 e2 e3 e4 - a2 * d3 b1 b3 b4 c1 c3 c4 e1 e3 e4 + a3 * d3 b1 b2 b4 c1 c2 c4 e1 e2 e4 - a4 * d3 b1 b2 b3 c1 c2 c3 e1 e2 e3 := by
  have e : detN 4 [[a1, a2, a3, a4], [b1, b2, b3, b4], [c1, c2, c3, c4], [e1, e2, e3, e4]] =
    0 + 1 * a1 * detN 3 [[b2, b3, b4], [c2, c3, c4], [e2, e3, e4]] + (-1) * a2 * detN 3 [[b1, b3, b4], [c1, c3, c4], [e1, e3, e4]] + 1 * a3 * detN 3 [[b1, b2, b4], [c1, c2, c4], [e1, e2, e4]] + (-1) * a4 * detN 3 [[b1, b2, b3], [c1, c2, c3], [e1, e2, e3]] := rfl
  rw [e, det3, det3, det3, det3]
  grind
/-! ### a system of so many rows and columns, by its numbers -/
theorem len1 {l : List Nat} (h : l.length = 1) : ∃ a, l = [a] := List.length_eq_one_iff.mp h
theorem lenS {l : List Nat} {k : Nat} (h : l.length = k + 1) : ∃ a t, l = a :: t ∧ t.length = k := by
  cases l with
  | nil => simp at h
  | cons a t => exact ⟨a, t, rfl, by simpa using h⟩
theorem len2 {l : List Nat} (h : l.length = 2) : ∃ a b, l = [a, b] := by
  obtain ⟨a, t, rfl, ht⟩ := lenS h
  obtain ⟨b, rfl⟩ := len1 ht
  exact ⟨a, b, rfl⟩
theorem len3 {l : List Nat} (h : l.length = 3) : ∃ a b c, l = [a, b, c] := by
  obtain ⟨a, t, rfl, ht⟩ := lenS h
  obtain ⟨b, c, rfl⟩ := len2 ht
  exact ⟨a, b, c, rfl⟩
theorem len4 {l : List Nat} (h : l.length = 4) : ∃ a b c d, l = [a, b, c, d] := by
  obtain ⟨a, t, rfl, ht⟩ := lenS h
  obtain ⟨b, c, d, rfl⟩ := len3 ht
  exact ⟨a, b, c, d, rfl⟩
theorem shape1 {R C : List Nat} (h : R.length = C.length) (k : C.length = 1) : ∃ r c, R = [r] ∧ C = [c] := by
  obtain ⟨c, rfl⟩ := len1 k
  obtain ⟨r, rfl⟩ := len1 h
  exact ⟨r, c, rfl, rfl⟩
theorem shape2 {R C : List Nat} (h : R.length = C.length) (k : C.length = 2) : ∃ r s c d, R = [r, s] ∧ C = [c, d] := by
  obtain ⟨c, d, rfl⟩ := len2 k
  obtain ⟨r, s, rfl⟩ := len2 h
  exact ⟨r, s, c, d, rfl, rfl⟩
theorem shape3 {R C : List Nat} (h : R.length = C.length) (k : C.length = 3) : ∃ r s t c d e, R = [r, s, t] ∧ C = [c, d, e] := by
  obtain ⟨c, d, e, rfl⟩ := len3 k
  obtain ⟨r, s, t, rfl⟩ := len3 h
  exact ⟨r, s, t, c, d, e, rfl, rfl⟩
theorem shape4 {R C : List Nat} (h : R.length = C.length) (k : C.length = 4) : ∃ r s t u c d e f, R = [r, s, t, u] ∧ C = [c, d, e, f] := by
  obtain ⟨c, d, e, f, rfl⟩ := len4 k
  obtain ⟨r, s, t, u, rfl⟩ := len4 h
  exact ⟨r, s, t, u, c, d, e, f, rfl, rfl⟩
section
variable (U : List (List Int))
theorem whole1 (r c : Nat) : wholeM U [r] [c] = 1 := det1 1
theorem whole2 (r s c d : Nat) : wholeM U [r, s] [c, d] = d2 1 1 (cell U s c - cell U r c) (cell U s d - cell U r d) := det2 ..
theorem whole3 (r s t c d e : Nat) : wholeM U [r, s, t] [c, d, e] = d3 1 1 1 (cell U s c - cell U r c) (cell U s d - cell U r d) (cell U s e - cell U r e) (cell U t c - cell U r c) (cell U t d - cell U r d) (cell U t e - cell U r e) := det3 ..
theorem part1 (r c : Nat) : partM U [r] [c] 0 = 1 := det1 1
theorem part20 (r s c d : Nat) : partM U [r, s] [c, d] 0 = d2 1 1 0 (cell U s d - cell U r d) := det2 ..
theorem part21 (r s c d : Nat) : partM U [r, s] [c, d] 1 = d2 1 1 (cell U s c - cell U r c) 0 := det2 ..
theorem part30 (r s t c d e : Nat) : partM U [r, s, t] [c, d, e] 0 = d3 1 1 1 0 (cell U s d - cell U r d) (cell U s e - cell U r e) 0 (cell U t d - cell U r d) (cell U t e - cell U r e) := det3 ..
theorem part31 (r s t c d e : Nat) : partM U [r, s, t] [c, d, e] 1 = d3 1 1 1 (cell U s c - cell U r c) 0 (cell U s e - cell U r e) (cell U t c - cell U r c) 0 (cell U t e - cell U r e) := det3 ..
theorem part32 (r s t c d e : Nat) : partM U [r, s, t] [c, d, e] 2 = d3 1 1 1 (cell U s c - cell U r c) (cell U s d - cell U r d) 0 (cell U t c - cell U r c) (cell U t d - cell U r d) 0 := det3 ..
theorem whole4 (r s t u c d e f : Nat) : wholeM U [r, s, t, u] [c, d, e, f] = 1 * d3 (cell U s d - cell U r d) (cell U s e - cell U r e) (cell U s f - cell U r f) (cell U t d - cell U r d) (cell U t e - cell U r e) (cell U t f - cell U r f) (cell U u d - cell U r d) (cell U u e - cell U r e) (cell U u f - cell U r f) - 1 * d3 (cell U s c - cell U r c) (cell U s e - cell U r e) (cell U s f - cell U r f) (cell U t c - cell U r c) (cell U t e - cell U r e) (cell U t f - cell U r f) (cell U u c - cell U r c) (cell U u e - cell U r e) (cell U u f - cell U r f) + 1 * d3 (cell U s c - cell U r c) (cell U s d - cell U r d) (cell U s f - cell U r f) (cell U t c - cell U r c) (cell U t d - cell U r d) (cell U t f - cell U r f) (cell U u c - cell U r c) (cell U u d - cell U r d) (cell U u f - cell U r f) - 1 * d3 (cell U s c - cell U r c) (cell U s d - cell U r d) (cell U s e - cell U r e) (cell U t c - cell U r c) (cell U t d - cell U r d) (cell U t e - cell U r e) (cell U u c - cell U r c) (cell U u d - cell U r d) (cell U u e - cell U r e) := det4 ..
theorem part40 (r s t u c d e f : Nat) : partM U [r, s, t, u] [c, d, e, f] 0 = 1 * d3 (cell U s d - cell U r d) (cell U s e - cell U r e) (cell U s f - cell U r f) (cell U t d - cell U r d) (cell U t e - cell U r e) (cell U t f - cell U r f) (cell U u d - cell U r d) (cell U u e - cell U r e) (cell U u f - cell U r f) - 1 * d3 0 (cell U s e - cell U r e) (cell U s f - cell U r f) 0 (cell U t e - cell U r e) (cell U t f - cell U r f) 0 (cell U u e - cell U r e) (cell U u f - cell U r f) + 1 * d3 0 (cell U s d - cell U r d) (cell U s f - cell U r f) 0 (cell U t d - cell U r d) (cell U t f - cell U r f) 0 (cell U u d - cell U r d) (cell U u f - cell U r f) - 1 * d3 0 (cell U s d - cell U r d) (cell U s e - cell U r e) 0 (cell U t d - cell U r d) (cell U t e - cell U r e) 0 (cell U u d - cell U r d) (cell U u e - cell U r e) := det4 ..
theorem part41 (r s t u c d e f : Nat) : partM U [r, s, t, u] [c, d, e, f] 1 = 1 * d3 0 (cell U s e - cell U r e) (cell U s f - cell U r f) 0 (cell U t e - cell U r e) (cell U t f - cell U r f) 0 (cell U u e - cell U r e) (cell U u f - cell U r f) - 1 * d3 (cell U s c - cell U r c) (cell U s e - cell U r e) (cell U s f - cell U r f) (cell U t c - cell U r c) (cell U t e - cell U r e) (cell U t f - cell U r f) (cell U u c - cell U r c) (cell U u e - cell U r e) (cell U u f - cell U r f) + 1 * d3 (cell U s c - cell U r c) 0 (cell U s f - cell U r f) (cell U t c - cell U r c) 0 (cell U t f - cell U r f) (cell U u c - cell U r c) 0 (cell U u f - cell U r f) - 1 * d3 (cell U s c - cell U r c) 0 (cell U s e - cell U r e) (cell U t c - cell U r c) 0 (cell U t e - cell U r e) (cell U u c - cell U r c) 0 (cell U u e - cell U r e) := det4 ..
theorem part42 (r s t u c d e f : Nat) : partM U [r, s, t, u] [c, d, e, f] 2 = 1 * d3 (cell U s d - cell U r d) 0 (cell U s f - cell U r f) (cell U t d - cell U r d) 0 (cell U t f - cell U r f) (cell U u d - cell U r d) 0 (cell U u f - cell U r f) - 1 * d3 (cell U s c - cell U r c) 0 (cell U s f - cell U r f) (cell U t c - cell U r c) 0 (cell U t f - cell U r f) (cell U u c - cell U r c) 0 (cell U u f - cell U r f) + 1 * d3 (cell U s c - cell U r c) (cell U s d - cell U r d) (cell U s f - cell U r f) (cell U t c - cell U r c) (cell U t d - cell U r d) (cell U t f - cell U r f) (cell U u c - cell U r c) (cell U u d - cell U r d) (cell U u f - cell U r f) - 1 * d3 (cell U s c - cell U r c) (cell U s d - cell U r d) 0 (cell U t c - cell U r c) (cell U t d - cell U r d) 0 (cell U u c - cell U r c) (cell U u d - cell U r d) 0 := det4 ..
theorem part43 (r s t u c d e f : Nat) : partM U [r, s, t, u] [c, d, e, f] 3 = 1 * d3 (cell U s d - cell U r d) (cell U s e - cell U r e) 0 (cell U t d - cell U r d) (cell U t e - cell U r e) 0 (cell U u d - cell U r d) (cell U u e - cell U r e) 0 - 1 * d3 (cell U s c - cell U r c) (cell U s e - cell U r e) 0 (cell U t c - cell U r c) (cell U t e - cell U r e) 0 (cell U u c - cell U r c) (cell U u e - cell U r e) 0 + 1 * d3 (cell U s c - cell U r c) (cell U s d - cell U r d) 0 (cell U t c - cell U r c) (cell U t d - cell U r d) 0 (cell U u c - cell U r c) (cell U u d - cell U r d) 0 - 1 * d3 (cell U s c - cell U r c) (cell U s d - cell U r d) (cell U s e - cell U r e) (cell U t c - cell U r c) (cell U t d - cell U r d) (cell U t e - cell U r e) (cell U u c - cell U r c) (cell U u d - cell U r d) (cell U u e - cell U r e) := det4 ..
end
/-- the parts, one after the other -/
def partsM (U : List (List Int)) (R C : List Nat) : List Int := (List.range C.length).map (partM U R C)
/-- parts come to the whole -/
theorem parts_sum (U : List (List Int)) {R C : List Nat} (h : R.length = C.length) (h0 : 0 < C.length) (h4 : C.length ≤ 4) : (partsM U R C).sum = wholeM U R C := by
  have hk : C.length = 1 ∨ C.length = 2 ∨ C.length = 3 ∨ C.length = 4 := by omega
  rcases hk with k | k | k | k
  · obtain ⟨r, c, rfl, rfl⟩ := shape1 h k
    show partM U [r] [c] 0 + 0 = _
    rw [part1, whole1]; rfl
  · obtain ⟨r, s, c, d, rfl, rfl⟩ := shape2 h k
    show partM U [r, s] [c, d] 0 + (partM U [r, s] [c, d] 1 + 0) = _
    rw [part20, part21, whole2]
    unfold d2; grind
  · obtain ⟨r, s, t, c, d, e, rfl, rfl⟩ := shape3 h k
    show partM U [r, s, t] [c, d, e] 0 + (partM U [r, s, t] [c, d, e] 1 + (partM U [r, s, t] [c, d, e] 2 + 0)) = _
    rw [part30, part31, part32, whole3]
    unfold d3 d2; grind
  · obtain ⟨r, s, t, u, c, d, e, f, rfl, rfl⟩ := shape4 h k
    show partM U [r, s, t, u] [c, d, e, f] 0 + (partM U [r, s, t, u] [c, d, e, f] 1 + (partM U [r, s, t, u] [c, d, e, f] 2 + (partM U [r, s, t, u] [c, d, e, f] 3 + 0))) = _
    rw [whole4, part40, part41, part42, part43]
    generalize cell U s c - cell U r c = b1
    generalize cell U s d - cell U r d = b2
    generalize cell U s e - cell U r e = b3
    generalize cell U s f - cell U r f = b4
    generalize cell U t c - cell U r c = c1
    generalize cell U t d - cell U r d = c2
    generalize cell U t e - cell U r e = c3
    generalize cell U t f - cell U r f = c4
    generalize cell U u c - cell U r c = e1
    generalize cell U u d - cell U r d = e2
    generalize cell U u e - cell U r e = e3
    generalize cell U u f - cell U r f = e4
    unfold d3 d2
    grind
/-- Cramer: weights p that the system asks for -/
def wsum (f : Nat → Int) : List Nat → List Int → Int
  | c :: C, p :: ps => f c * p + wsum f C ps
  | _, _ => 0
theorem cramer (U : List (List Int)) {R C : List Nat} {ps : List Int} {S : Int} (h : R.length = C.length) (h0 : 0 < C.length) (h4 : C.length ≤ 4) (hp : ps.length = C.length) (hS : ps.sum = S)
    (he : ∀ i ∈ R, wsum (cell U i) C ps = wsum (cell U (R.headD 0)) C ps) : ∀ t, t < C.length → wholeM U R C * ps.getD t 0 = S * partM U R C t := by
  have hk : C.length = 1 ∨ C.length = 2 ∨ C.length = 3 ∨ C.length = 4 := by omega
  have lenI : ∀ {l : List Int} {k : Nat}, l.length = k + 1 → ∃ a t, l = a :: t ∧ t.length = k := by
    intro l k h
    cases l with
    | nil => simp at h
    | cons a t => exact ⟨a, t, rfl, by simpa using h⟩
  rcases hk with k | k | k | k
  · obtain ⟨r, c, rfl, rfl⟩ := shape1 h k
    obtain ⟨p, t, rfl, ht⟩ := lenI hp
    obtain rfl := List.eq_nil_of_length_eq_zero ht
    intro t ht
    have : t = 0 := by simp at ht; omega
    subst this
    rw [part1, whole1]
    simp at hS ⊢
    exact hS
  · obtain ⟨r, s, c, d, rfl, rfl⟩ := shape2 h k
    obtain ⟨p, l1, rfl, k1⟩ := lenI hp
    obtain ⟨q, l2, rfl, k2⟩ := lenI k1
    obtain rfl := List.eq_nil_of_length_eq_zero k2
    have e1 := he s (by simp)
    simp only [wsum, List.headD_cons] at e1
    simp only [List.sum_cons, List.sum_nil] at hS
    intro t ht
    have ht : t = 0 ∨ t = 1 := by simp at ht; omega
    rcases ht with rfl | rfl
    · rw [part20, whole2]
      show _ * p = _
      unfold d2; grind
    · rw [part21, whole2]
      show _ * q = _
      unfold d2; grind
  · obtain ⟨r, s, t, c, d, e, rfl, rfl⟩ := shape3 h k
    obtain ⟨p, l1, rfl, k1⟩ := lenI hp
    obtain ⟨q, l2, rfl, k2⟩ := lenI k1
    obtain ⟨u, l3, rfl, k3⟩ := lenI k2
    obtain rfl := List.eq_nil_of_length_eq_zero k3
    have e1 := he s (by simp)
    have e2 := he t (by simp)
    simp only [wsum, List.headD_cons] at e1 e2
    simp only [List.sum_cons, List.sum_nil] at hS
    intro x hx
    have hx : x = 0 ∨ x = 1 ∨ x = 2 := by simp at hx; omega
    have f1 : (cell U s c - cell U r c) * p + (cell U s d - cell U r d) * q + (cell U s e - cell U r e) * u = 0 := by grind
    have f2 : (cell U t c - cell U r c) * p + (cell U t d - cell U r d) * q + (cell U t e - cell U r e) * u = 0 := by grind
    rw [whole3]
    rcases hx with rfl | rfl | rfl
    · rw [part30]
      show _ * p = _
      generalize cell U s c - cell U r c = b1 at f1 ⊢
      generalize cell U s d - cell U r d = b2 at f1 ⊢
      generalize cell U s e - cell U r e = b3 at f1 ⊢
      generalize cell U t c - cell U r c = c1 at f2 ⊢
      generalize cell U t d - cell U r d = c2 at f2 ⊢
      generalize cell U t e - cell U r e = c3 at f2 ⊢
      unfold d3 d2; grind
    · rw [part31]
      show _ * q = _
      generalize cell U s c - cell U r c = b1 at f1 ⊢
      generalize cell U s d - cell U r d = b2 at f1 ⊢
      generalize cell U s e - cell U r e = b3 at f1 ⊢
      generalize cell U t c - cell U r c = c1 at f2 ⊢
      generalize cell U t d - cell U r d = c2 at f2 ⊢
      generalize cell U t e - cell U r e = c3 at f2 ⊢
      unfold d3 d2; grind
    · rw [part32]
      show _ * u = _
      generalize cell U s c - cell U r c = b1 at f1 ⊢
      generalize cell U s d - cell U r d = b2 at f1 ⊢
      generalize cell U s e - cell U r e = b3 at f1 ⊢
      generalize cell U t c - cell U r c = c1 at f2 ⊢
      generalize cell U t d - cell U r d = c2 at f2 ⊢
      generalize cell U t e - cell U r e = c3 at f2 ⊢
      unfold d3 d2; grind
  · obtain ⟨r, s, t, u, c, d, e, f, rfl, rfl⟩ := shape4 h k
    obtain ⟨p1, l1, rfl, k1⟩ := lenI hp
    obtain ⟨p2, l2, rfl, k2⟩ := lenI k1
    obtain ⟨p3, l3, rfl, k3⟩ := lenI k2
    obtain ⟨p4, l4, rfl, k4⟩ := lenI k3
    obtain rfl := List.eq_nil_of_length_eq_zero k4
    have g1 := he s (by simp)
    have g2 := he t (by simp)
    have g3 := he u (by simp)
    simp only [wsum, List.headD_cons] at g1 g2 g3
    simp only [List.sum_cons, List.sum_nil] at hS
    have f1 : (cell U s c - cell U r c) * p1 + (cell U s d - cell U r d) * p2 + (cell U s e - cell U r e) * p3 + (cell U s f - cell U r f) * p4 = 0 := by grind
    have f2 : (cell U t c - cell U r c) * p1 + (cell U t d - cell U r d) * p2 + (cell U t e - cell U r e) * p3 + (cell U t f - cell U r f) * p4 = 0 := by grind
    have f3 : (cell U u c - cell U r c) * p1 + (cell U u d - cell U r d) * p2 + (cell U u e - cell U r e) * p3 + (cell U u f - cell U r f) * p4 = 0 := by grind
    have hS' : p1 + p2 + p3 + p4 = S := by omega
    clear he g1 g2 g3
    intro x hx
    have hx : x = 0 ∨ x = 1 ∨ x = 2 ∨ x = 3 := by simp at hx; omega
    rw [whole4]
    rcases hx with rfl | rfl | rfl | rfl
    all_goals
      first
        | (rw [part40]; show _ * p1 = _)
        | (rw [part41]; show _ * p2 = _)
        | (rw [part42]; show _ * p3 = _)
        | (rw [part43]; show _ * p4 = _)
    all_goals
      clear h h0 hx lenI h4 hp hS k k1 k2 k3 k4
      generalize cell U s c - cell U r c = b1 at f1 ⊢
      generalize cell U s d - cell U r d = b2 at f1 ⊢
      generalize cell U s e - cell U r e = b3 at f1 ⊢
      generalize cell U s f - cell U r f = b4 at f1 ⊢
      generalize cell U t c - cell U r c = c1 at f2 ⊢
      generalize cell U t d - cell U r d = c2 at f2 ⊢
      generalize cell U t e - cell U r e = c3 at f2 ⊢
      generalize cell U t f - cell U r f = c4 at f2 ⊢
      generalize cell U u c - cell U r c = e1 at f3 ⊢
      generalize cell U u d - cell U r d = e2 at f3 ⊢
      generalize cell U u e - cell U r e = e3 at f3 ⊢
      generalize cell U u f - cell U r f = e4 at f3 ⊢
      unfold d3 d2
      grind
end Gm

set_option Elab.async false
set_option linter.all false
namespace Gm
/-! ### choices -/
def chM : Nat → List (List Nat)
  | 0 => [[]]
  | n + 1 => chM n ++ (chM n).map fun c => c ++ [n]
theorem mem_chM : ∀ {m : Nat} {R : List Nat}, R.Sublist (List.range m) ↔ R ∈ chM m
  | 0, R => by
    show R.Sublist [] ↔ R ∈ [[]]
    rw [List.sublist_nil, List.mem_singleton]
  | m + 1, R => by
    rw [List.range_succ, List.sublist_append_iff]
    show _ ↔ R ∈ chM m ++ (chM m).map fun c => c ++ [m]
    rw [List.mem_append, List.mem_map]
    constructor
    · rintro ⟨R1, R2, rfl, h1, h2⟩
      have h1 := mem_chM.mp h1
      cases h2 with
      | cons _ h =>
        rw [List.sublist_nil.mp h, List.append_nil]; exact .inl h1
      | cons_cons _ h =>
        rw [List.sublist_nil.mp h]; exact .inr ⟨R1, h1, rfl⟩
    · rintro (h | ⟨R1, h, rfl⟩)
      · exact ⟨R, [], by simp, mem_chM.mpr h, List.nil_sublist _⟩
      · exact ⟨R1, [m], rfl, mem_chM.mpr h, List.Sublist.refl _⟩
/-! ### weights of chosen columns -/
def yOf (C : List Nat) (ps : List Int) (j : Nat) : Int := wsum (fun c => if c = j then 1 else 0) C ps
theorem yOf_cons (c : Nat) (C : List Nat) (p : Int) (ps : List Int) (j : Nat) : yOf (c :: C) (p :: ps) j = (if j = c then p else 0) + yOf C ps j := by
  show (if c = j then (1 : Int) else 0) * p + yOf C ps j = _
  by_cases h : j = c
  · rw [if_pos h, if_pos h.symm]; omega
  · rw [if_neg h, if_neg fun e => h e.symm]; omega
theorem wsum_nil (f : Nat → Int) (ps : List Int) : wsum f [] ps = 0 := by cases ps <;> rfl
theorem wsum_nil' (f : Nat → Int) (C : List Nat) : wsum f C [] = 0 := by cases C <;> rfl
theorem sm_yOf (f : Nat → Int) (n : Nat) : ∀ (C : List Nat) (ps : List Int), (∀ c ∈ C, c < n) → sm n (fun j => f j * yOf C ps j) = wsum f C ps
  | [], ps, _ => by
    have e : sm n (fun j => f j * yOf [] ps j) = sm n fun _ => 0 := sm_congr fun j _ => by
      unfold yOf
      rw [wsum_nil]; simp
    rw [e, sm_zero, wsum_nil]
  | c :: C, [], _ => by
    have e : sm n (fun j => f j * yOf (c :: C) [] j) = sm n fun _ => 0 := sm_congr fun j _ => by
      unfold yOf
      rw [wsum_nil']; simp
    rw [e, sm_zero, wsum_nil']
  | c :: C, p :: ps, h => by
    have e : sm n (fun j => f j * yOf (c :: C) (p :: ps) j) = sm n (fun j => (if j = c then f c * p else 0) + f j * yOf C ps j) := sm_congr fun j _ => by
      rw [yOf_cons, Int.mul_add]
      by_cases hj : j = c
      · rw [if_pos hj, if_pos hj, hj]
      · rw [if_neg hj, if_neg hj, Int.mul_zero]
    rw [e, sm_add, sm_single, if_pos (h c (by simp)), sm_yOf f n C ps fun x hx => h x (by simp [hx])]
    rfl
theorem wsum_one : ∀ (C : List Nat) (ps : List Int), ps.length = C.length → wsum (fun _ => 1) C ps = ps.sum
  | [], [], _ => rfl
  | c :: C, p :: ps, h => by
    show 1 * p + wsum (fun _ => 1) C ps = _
    rw [wsum_one C ps (by simpa using h), List.sum_cons]; omega
  | [], _ :: _, h => by simp at h
  | _ :: _, [], h => by simp at h
theorem yOf_sum {n : Nat} {C : List Nat} {ps : List Int} (h : ∀ c ∈ C, c < n) (hl : ps.length = C.length) : sm n (yOf C ps) = ps.sum := by
  have := sm_yOf (fun _ => 1) n C ps h
  rw [wsum_one C ps hl] at this
  rw [← this]
  exact sm_congr fun j _ => by simp
theorem yOf_out : ∀ {C : List Nat} {ps : List Int} {j : Nat}, j ∉ C → yOf C ps j = 0
  | [], ps, j, _ => wsum_nil _ _
  | c :: C, [], j, _ => wsum_nil' _ _
  | c :: C, p :: ps, j, h => by
    rw [yOf_cons, if_neg fun e => h (by simp [e]), yOf_out fun q => h (by simp [q])]; rfl
theorem yOf_at : ∀ {C : List Nat} {ps : List Int}, C.Nodup → ps.length = C.length → ∀ t, t < C.length → yOf C ps (C.getD t 0) = ps.getD t 0
  | [], _, _, _, t, h => by simp at h
  | c :: C, [], _, h, t, _ => by simp at h
  | c :: C, p :: ps, hn, hl, 0, _ => by
    show yOf (c :: C) (p :: ps) c = p
    rw [yOf_cons, if_pos rfl, yOf_out (List.nodup_cons.mp hn).1]; omega
  | c :: C, p :: ps, hn, hl, t + 1, h => by
    show yOf (c :: C) (p :: ps) (C.getD t 0) = ps.getD t 0
    have ht : t < C.length := by simpa using h
    have hm : C.getD t 0 ∈ C := by
      rw [List.getD_eq_getElem?_getD, List.getElem?_eq_getElem ht]
      exact List.getElem_mem ht
    rw [yOf_cons, if_neg fun e => (List.nodup_cons.mp hn).1 (by rw [← e]; exact hm), yOf_at (List.nodup_cons.mp hn).2 (by simpa using hl) t ht]; omega
theorem yOf_map {y : Nat → Int} : ∀ {C : List Nat}, C.Nodup → ∀ j, yOf C (C.map y) j = if j ∈ C then y j else 0
  | [], _, j => by simp [yOf, wsum]
  | c :: C, hn, j => by
    rw [List.map_cons, yOf_cons, yOf_map (List.nodup_cons.mp hn).2 j]
    by_cases h : j = c
    · subst h
      rw [if_pos rfl, if_neg (List.nodup_cons.mp hn).1, if_pos (by simp)]; omega
    · rw [if_neg h]
      by_cases q : j ∈ C
      · rw [if_pos q, if_pos (by simp [q])]; omega
      · rw [if_neg q, if_neg (by simp [h, q])]; rfl
/-! ### vectors that are orthogonal to few -/
theorem orth2 (l : List (Int × Int)) (h : ∀ u ∈ l, ∀ v ∈ l, u.1 * v.2 - u.2 * v.1 = 0) : ∃ x y : Int, (x ≠ 0 ∨ y ≠ 0) ∧ ∀ u ∈ l, u.1 * x + u.2 * y = 0 := by
  by_cases hz : ∃ v ∈ l, v.1 ≠ 0 ∨ v.2 ≠ 0
  · obtain ⟨v, hv, hne⟩ := hz
    refine ⟨v.2, - v.1, by omega, fun u hu => ?_⟩
    have := h u hu v hv
    grind
  · refine ⟨1, 0, .inl (by decide), fun u hu => ?_⟩
    have : u.1 = 0 := Classical.byContradiction fun e => hz ⟨u, hu, .inl e⟩
    rw [this]; simp
theorem zero_of {x y : Int} (h : x * y = 0) (hx : x ≠ 0) : y = 0 := (Int.mul_eq_zero.mp h).resolve_left hx
theorem orth3 (u1 u2 u3 v1 v2 v3 w1 w2 w3 : Int) (h : d3 u1 u2 u3 v1 v2 v3 w1 w2 w3 = 0) :
    ∃ x y z : Int, (x ≠ 0 ∨ y ≠ 0 ∨ z ≠ 0) ∧ u1 * x + u2 * y + u3 * z = 0 ∧ v1 * x + v2 * y + v3 * z = 0 ∧ w1 * x + w2 * y + w3 * z = 0 := by
  unfold d3 d2 at h
  by_cases A : u2 * v3 - u3 * v2 ≠ 0 ∨ u3 * v1 - u1 * v3 ≠ 0 ∨ u1 * v2 - u2 * v1 ≠ 0
  · exact ⟨_, _, _, A, by grind, by grind, by grind⟩
  by_cases B : u2 * w3 - u3 * w2 ≠ 0 ∨ u3 * w1 - u1 * w3 ≠ 0 ∨ u1 * w2 - u2 * w1 ≠ 0
  · exact ⟨_, _, _, B, by grind, by grind, by grind⟩
  by_cases D : v2 * w3 - v3 * w2 ≠ 0 ∨ v3 * w1 - v1 * w3 ≠ 0 ∨ v1 * w2 - v2 * w1 ≠ 0
  · exact ⟨_, _, _, D, by grind, by grind, by grind⟩
  have a1 : u2 * v3 - u3 * v2 = 0 := by omega
  have a2 : u3 * v1 - u1 * v3 = 0 := by omega
  have a3 : u1 * v2 - u2 * v1 = 0 := by omega
  have b1 : u2 * w3 - u3 * w2 = 0 := by omega
  have b2 : u3 * w1 - u1 * w3 = 0 := by omega
  have b3 : u1 * w2 - u2 * w1 = 0 := by omega
  have c1 : v2 * w3 - v3 * w2 = 0 := by omega
  have c2 : v3 * w1 - v1 * w3 = 0 := by omega
  have c3 : v1 * w2 - v2 * w1 = 0 := by omega
  clear A B D h
  by_cases hu : u1 ≠ 0 ∨ u2 ≠ 0
  · exact ⟨u2, -u1, 0, by omega, by grind, by grind, by grind⟩
  have hu1 : u1 = 0 := by omega
  have hu2 : u2 = 0 := by omega
  subst hu1 hu2
  by_cases hu3 : u3 ≠ 0
  · have q1 : v2 = 0 := zero_of (x := u3) (by omega) hu3
    have q2 : v1 = 0 := zero_of (x := u3) (by omega) hu3
    have q3 : w2 = 0 := zero_of (x := u3) (by omega) hu3
    have q4 : w1 = 0 := zero_of (x := u3) (by omega) hu3
    exact ⟨1, 0, 0, by decide, by simp, by simp [q2], by simp [q4]⟩
  have hu3 : u3 = 0 := by omega
  subst hu3
  by_cases hv : v1 ≠ 0 ∨ v2 ≠ 0
  · exact ⟨v2, -v1, 0, by omega, by grind, by grind, by grind⟩
  have hv1 : v1 = 0 := by omega
  have hv2 : v2 = 0 := by omega
  subst hv1 hv2
  by_cases hv3 : v3 ≠ 0
  · have q4 : w1 = 0 := zero_of (x := v3) (by omega) hv3
    exact ⟨1, 0, 0, by decide, by simp, by simp, by simp [q4]⟩
  have hv3 : v3 = 0 := by omega
  subst hv3
  by_cases hw : w1 ≠ 0 ∨ w2 ≠ 0
  · exact ⟨w2, -w1, 0, by omega, by grind, by grind, by grind⟩
  have hw1 : w1 = 0 := by omega
  subst hw1
  exact ⟨1, 0, 0, by decide, by simp, by simp, by simp⟩
theorem pair_sub : ∀ {l : List Nat} {i j : Nat}, i ∈ l → j ∈ l → i ≠ j → [i, j].Sublist l ∨ [j, i].Sublist l
  | [], i, j, h, _, _ => nomatch h
  | x :: l, i, j, hi, hj, hne => by
    rcases List.mem_cons.mp hi with e | hi'
    · subst e
      rcases List.mem_cons.mp hj with e | hj'
      · exact absurd e.symm hne
      · exact .inl (.cons₂ _ (List.singleton_sublist.mpr hj'))
    · rcases List.mem_cons.mp hj with e | hj'
      · subst e
        exact .inr (.cons₂ _ (List.singleton_sublist.mpr hi'))
      · rcases pair_sub hi' hj' hne with h | h
        · exact .inl (.cons _ h)
        · exact .inr (.cons _ h)
/-- a point with no direction left stands at a corner -/
theorem rank {U : List (List Int)} {m n : Nat} {y : Nat → Int} {S N : Int} (P : Pt (cell U) m n y S N) (hr : Rigid (cell U) m n y N) (m4 : m ≤ 4) (n4 : n ≤ 4) :
    ∃ R C : List Nat, R.Sublist (List.range m) ∧ C.Sublist (List.range n) ∧ R.length = C.length ∧ 0 < C.length ∧ (∀ c ∈ C, 0 < y c) ∧ (∀ j, j < n → j ∉ C → y j = 0) ∧
      (∀ i ∈ R, sm n (fun j => cell U i j * y j) = N) ∧ wholeM U R C ≠ 0 := by
  let C := (List.range n).filter fun j => decide (y j ≠ 0)
  let T := (List.range m).filter fun i => decide (sm n (fun j => cell U i j * y j) = N)
  have Cs : C.Sublist (List.range n) := List.filter_sublist
  have Ts : T.Sublist (List.range m) := List.filter_sublist
  have Cn : C.Nodup := Cs.nodup List.nodup_range
  have inC : ∀ j, j ∈ C ↔ j < n ∧ y j ≠ 0 := fun j => by simp [C]
  have inT : ∀ i, i ∈ T ↔ i < m ∧ sm n (fun j => cell U i j * y j) = N := fun i => by simp [T]
  have Cp : ∀ c ∈ C, 0 < y c := fun c hc => by
    obtain ⟨h1, h2⟩ := (inC c).mp hc
    have := P.nn c h1
    omega
  have Co : ∀ j, j < n → j ∉ C → y j = 0 := fun j hj h => Classical.byContradiction fun e => h ((inC j).mpr ⟨hj, e⟩)
  have C0 : 0 < C.length := by
    obtain ⟨j, hj, hp⟩ := sm_ex (by rw [P.sum]; exact P.pos)
    exact List.length_pos_of_mem ((inC j).mpr ⟨hj, by omega⟩)
  have C4 : C.length ≤ 4 := by
    have := Cs.length_le
    rw [List.length_range] at this
    omega
  have T4 : T.length ≤ 4 := by
    have := Ts.length_le
    rw [List.length_range] at this
    omega
  obtain ⟨t0, T', hT⟩ : ∃ t0 T', T = t0 :: T' := by
    obtain ⟨i, hi, h⟩ := P.ti
    cases hT : T with
    | nil =>
      have := (inT i).mpr ⟨hi, h⟩
      rw [hT] at this
      cases this
    | cons a l => exact ⟨a, l, rfl⟩
  have rc : ∀ qs : List Int, qs.length = C.length → qs.sum = 0 → (∀ i ∈ T', wsum (cell U i) C qs = wsum (cell U t0) C qs) → ∀ t, t < C.length → qs.getD t 0 = 0 := by
    intro qs hl hs he t ht
    have hC : ∀ c ∈ C, c < n := fun c hc => ((inC c).mp hc).1
    rw [← yOf_at Cn hl t ht]
    refine hr (yOf C qs) (wsum (cell U t0) C qs) (fun j hj e => yOf_out fun h => ((inC j).mp h).2 e) (by rw [yOf_sum hC hl, hs]) (fun i hi e => ?_) _ (hC _ ?_)
    · rw [sm_yOf _ n C qs hC]
      have := (inT i).mpr ⟨hi, e⟩
      rw [hT] at this
      rcases List.mem_cons.mp this with rfl | h
      · rfl
      · exact he i h
    · rw [List.getD_eq_getElem?_getD, List.getElem?_eq_getElem ht]
      exact List.getElem_mem ht
  have fin : ∀ R : List Nat, R.Sublist T → R.length = C.length → wholeM U R C ≠ 0 → ∃ R C : List Nat, R.Sublist (List.range m) ∧ C.Sublist (List.range n) ∧ R.length = C.length ∧ 0 < C.length ∧ (∀ c ∈ C, 0 < y c) ∧ (∀ j, j < n → j ∉ C → y j = 0) ∧
      (∀ i ∈ R, sm n (fun j => cell U i j * y j) = N) ∧ wholeM U R C ≠ 0 :=
    fun R h1 h2 h3 => ⟨R, C, h1.trans Ts, Cs, h2, C0, Cp, Co, fun i hi => ((inT i).mp (h1.subset hi)).2, h3⟩
  clear_value C
  have hk : C.length = 1 ∨ C.length = 2 ∨ C.length = 3 ∨ C.length = 4 := by omega
  rcases hk with k | k | k | k
  · obtain ⟨c, rfl⟩ := len1 k
    refine fin [t0] (by rw [hT]; exact .cons₂ _ (List.nil_sublist _)) rfl ?_
    rw [whole1]; decide
  · obtain ⟨c, d, rfl⟩ := len2 k
    by_cases h : ∃ i ∈ T', wholeM U [t0, i] [c, d] ≠ 0
    · obtain ⟨i, hi, h⟩ := h
      exact fin [t0, i] (by rw [hT]; exact .cons₂ _ (List.singleton_sublist.mpr hi)) rfl h
    · exfalso
      have := rc [1, -1] rfl rfl (fun i hi => ?_) 0 (by simp)
      · exact absurd this (by decide)
      · have : wholeM U [t0, i] [c, d] = 0 := Classical.byContradiction fun e => h ⟨i, hi, e⟩
        rw [whole2] at this
        unfold d2 at this
        simp only [wsum]
        omega
  · obtain ⟨c, d, e, rfl⟩ := len3 k
    by_cases h : ∃ i j, [i, j].Sublist T' ∧ wholeM U [t0, i, j] [c, d, e] ≠ 0
    · obtain ⟨i, j, hs, h⟩ := h
      exact fin [t0, i, j] (by rw [hT]; exact .cons₂ _ hs) rfl h
    · exfalso
      let b : Nat → Nat → Int := fun i x => cell U i x - cell U t0 x
      have hz : ∀ i j, [i, j].Sublist T' → d3 1 1 1 (b i c) (b i d) (b i e) (b j c) (b j d) (b j e) = 0 := fun i j hs => by
        rw [← whole3]
        exact Classical.byContradiction fun z => h ⟨i, j, hs, z⟩
      obtain ⟨x, z, hne, ho⟩ := orth2 (T'.map fun i => (b i c - b i e, b i d - b i e)) (by
        intro u hu v hv
        obtain ⟨i, hi, rfl⟩ := List.mem_map.mp hu
        obtain ⟨j, hj, rfl⟩ := List.mem_map.mp hv
        by_cases q : i = j
        · rw [q]
          show (b j c - b j e) * (b j d - b j e) - (b j d - b j e) * (b j c - b j e) = 0
          grind
        · show (b i c - b i e) * (b j d - b j e) - (b i d - b i e) * (b j c - b j e) = 0
          rcases pair_sub hi hj q with s | s
          · have := hz i j s
            unfold d3 d2 at this
            grind
          · have := hz j i s
            unfold d3 d2 at this
            grind)
      have hq := rc [x, z, -x - z] rfl (by simp only [List.sum_cons, List.sum_nil]; omega) (fun i hi => by
        have := ho _ (List.mem_map_of_mem hi)
        have q : (b i c - b i e) * x + (b i d - b i e) * z = 0 := this
        simp only [wsum]
        have b1 : b i c = cell U i c - cell U t0 c := rfl
        have b2 : b i d = cell U i d - cell U t0 d := rfl
        have b3 : b i e = cell U i e - cell U t0 e := rfl
        rw [b1, b2, b3] at q
        grind)
      have q0 : x = 0 := hq 0 (by simp)
      have q1 : z = 0 := hq 1 (by simp)
      omega
  · obtain ⟨c, d, e, f, rfl⟩ := len4 k
    let b : Nat → Nat → Int := fun i x => cell U i x - cell U t0 x
    -- three that see all of T'
    have pick : (∃ i j l, T' = [i, j, l] ∧ wholeM U [t0, i, j, l] [c, d, e, f] ≠ 0) ∨ ∃ x z w : Int, (x ≠ 0 ∨ z ≠ 0 ∨ w ≠ 0) ∧ ∀ i ∈ T', (b i c - b i f) * x + (b i d - b i f) * z + (b i e - b i f) * w = 0 := by
      have T3 : T'.length ≤ 3 := by
        have := T4
        rw [hT, List.length_cons] at this
        omega
      match hT' : T', T3 with
      | [], _ => exact .inr ⟨1, 0, 0, by decide, fun i hi => nomatch hi⟩
      | [i], _ =>
        obtain ⟨x, z, w, hne, h1, _, _⟩ := orth3 (b i c - b i f) (b i d - b i f) (b i e - b i f) 0 0 0 0 0 0 (by simp [d3, d2])
        exact .inr ⟨x, z, w, hne, fun q hq => by rw [List.mem_singleton.mp hq]; exact h1⟩
      | [i, j], _ =>
        obtain ⟨x, z, w, hne, h1, h2, _⟩ := orth3 (b i c - b i f) (b i d - b i f) (b i e - b i f) (b j c - b j f) (b j d - b j f) (b j e - b j f) 0 0 0 (by simp [d3, d2])
        refine .inr ⟨x, z, w, hne, fun q hq => ?_⟩
        rcases List.mem_cons.mp hq with rfl | hq
        · exact h1
        · rw [List.mem_singleton.mp hq]; exact h2
      | [i, j, l], _ =>
        by_cases hw : wholeM U [t0, i, j, l] [c, d, e, f] = 0
        · have ht : d3 (b i c - b i f) (b i d - b i f) (b i e - b i f) (b j c - b j f) (b j d - b j f) (b j e - b j f) (b l c - b l f) (b l d - b l f) (b l e - b l f) = 0 := by
            rw [whole4] at hw
            have g : ∀ i x, cell U i x - cell U t0 x = b i x := fun _ _ => rfl
            simp only [g] at hw
            generalize b i c = x1 at *
            generalize b i d = x2 at *
            generalize b i e = x3 at *
            generalize b i f = x4 at *
            generalize b j c = y1 at *
            generalize b j d = y2 at *
            generalize b j e = y3 at *
            generalize b j f = y4 at *
            generalize b l c = z1 at *
            generalize b l d = z2 at *
            generalize b l e = z3 at *
            generalize b l f = z4 at *
            unfold d3 d2 at hw ⊢
            grind
          obtain ⟨x, z, w, hne, h1, h2, h3⟩ := orth3 _ _ _ _ _ _ _ _ _ ht
          refine .inr ⟨x, z, w, hne, fun q hq => ?_⟩
          rcases List.mem_cons.mp hq with rfl | hq
          · exact h1
          rcases List.mem_cons.mp hq with rfl | hq
          · exact h2
          · rw [List.mem_singleton.mp hq]; exact h3
        · exact .inl ⟨i, j, l, rfl, hw⟩
      | _ :: _ :: _ :: _ :: _, h => simp at h
    rcases pick with ⟨i, j, l, rfl, hw⟩ | ⟨x, z, w, hne, ho⟩
    · exact fin [t0, i, j, l] (by rw [hT]; exact List.Sublist.refl _) rfl hw
    · exfalso
      have hq := rc [x, z, w, -x - z - w] rfl (by simp only [List.sum_cons, List.sum_nil]; omega) (fun i hi => by
        have q := ho i hi
        simp only [wsum]
        have b1 : b i c = cell U i c - cell U t0 c := rfl
        have b2 : b i d = cell U i d - cell U t0 d := rfl
        have b3 : b i e = cell U i e - cell U t0 e := rfl
        have b4 : b i f = cell U i f - cell U t0 f := rfl
        rw [b1, b2, b3, b4] at q
        grind)
      have q0 : x = 0 := hq 0 (by simp)
      have q1 : z = 0 := hq 1 (by simp)
      have q2 : w = 0 := hq 2 (by simp)
      omega
end Gm

set_option Elab.async false
set_option linter.all false
namespace Gm
/-! ### corners as the program tells them -/
def sgn (w : Int) : Int := if 0 < w then 1 else -1
theorem sgn_pos {w : Int} (h : w ≠ 0) : 0 < sgn w * w := by
  unfold sgn
  split <;> omega
/-- shares over one sum -/
def shM (U : List (List Int)) (R C : List Nat) : List Int := (partsM U R C).map fun p => sgn (wholeM U R C) * p
def smM (U : List (List Int)) (R C : List Nat) : Int := sgn (wholeM U R C) * wholeM U R C
def gain (U : List (List Int)) (n : Nat) (y : Nat → Int) (i : Nat) : Int := sm n fun j => cell U i j * y j
structure Good2 (m n : Nat) (R C : List Nat) : Prop where
  rs : R.Sublist (List.range m)
  cs : C.Sublist (List.range n)
  len : R.length = C.length
  pos : 0 < C.length
theorem Good2.c4 {m n : Nat} {R C : List Nat} (g : Good2 m n R C) (n4 : n ≤ 4) : C.length ≤ 4 := by
  have := g.cs.length_le
  rw [List.length_range] at this
  omega
theorem Good2.lt {m n : Nat} {R C : List Nat} (g : Good2 m n R C) : ∀ c ∈ C, c < n := fun c hc => List.mem_range.mp (g.cs.subset hc)
theorem Good2.nd {m n : Nat} {R C : List Nat} (g : Good2 m n R C) : C.Nodup := g.cs.nodup List.nodup_range
theorem Good2.r0 {m n : Nat} {R C : List Nat} (g : Good2 m n R C) : R.headD 0 ∈ R := by
  have := g.len
  have := g.pos
  cases R with
  | nil => simp at *; omega
  | cons r R => simp
theorem Good2.r0m {m n : Nat} {R C : List Nat} (g : Good2 m n R C) : R.headD 0 < m := List.mem_range.mp (g.rs.subset g.r0)
/-- a choice that comes to a corner -/
structure Corner (U : List (List Int)) (m n : Nat) (R C : List Nat) : Prop where
  ne : wholeM U R C ≠ 0
  pos : ∀ q ∈ shM U R C, 0 < q
  le : ∀ i, i < m → gain U n (yOf C (shM U R C)) i ≤ gain U n (yOf C (shM U R C)) (R.headD 0)
theorem shM_len (U : List (List Int)) (R C : List Nat) : (shM U R C).length = C.length := by
  unfold shM partsM
  simp
theorem sum_map_mul (c : Int) : ∀ l : List Int, (l.map fun p => c * p).sum = c * l.sum
  | [] => by simp
  | x :: l => by
    rw [List.map_cons, List.sum_cons, List.sum_cons, sum_map_mul c l, Int.mul_add]
theorem shM_sum (U : List (List Int)) {m n : Nat} {R C : List Nat} (g : Good2 m n R C) (n4 : n ≤ 4) : (shM U R C).sum = smM U R C := by
  unfold shM smM
  rw [sum_map_mul, parts_sum U g.len g.pos (g.c4 n4)]
theorem yOf_nn : ∀ {C : List Nat} {ps : List Int} {j : Nat}, (∀ q ∈ ps, 0 ≤ q) → 0 ≤ yOf C ps j
  | [], ps, j, _ => by
    unfold yOf
    rw [wsum_nil]; exact Int.le_refl _
  | c :: C, [], j, _ => by
    unfold yOf
    rw [wsum_nil']; exact Int.le_refl _
  | c :: C, p :: ps, j, h => by
    rw [yOf_cons]
    have h1 := h p (by simp)
    have h2 := yOf_nn (C := C) (ps := ps) (j := j) fun q hq => h q (by simp [hq])
    split <;> omega
theorem getD_map_mul (c : Int) (l : List Int) (t : Nat) : (l.map fun p => c * p).getD t 0 = c * l.getD t 0 := by
  rw [List.getD_eq_getElem?_getD, List.getElem?_map, List.getD_eq_getElem?_getD]
  cases l[t]? <;> simp
theorem parts_getD {U : List (List Int)} {R C : List Nat} {t : Nat} (h : t < C.length) : (partsM U R C).getD t 0 = partM U R C t := by
  unfold partsM
  rw [List.getD_eq_getElem?_getD, List.getElem?_map, List.getElem?_eq_getElem (by simpa using h)]
  simp
/-- the same weights over another sum -/
theorem wsum_prop (f : Nat → Int) {a b : Int} : ∀ {C : List Nat} {ps qs : List Int}, ps.length = C.length → qs.length = C.length → (∀ t, t < C.length → ps.getD t 0 * a = qs.getD t 0 * b) → wsum f C ps * a = wsum f C qs * b
  | [], ps, qs, _, _, _ => by rw [wsum_nil, wsum_nil]; simp
  | c :: C, p :: ps, q :: qs, h1, h2, h => by
    have h0 : p * a = q * b := h 0 (by simp)
    have ih := wsum_prop f (C := C) (ps := ps) (qs := qs) (by simpa using h1) (by simpa using h2) fun t ht => h (t + 1) (by simpa using ht)
    show (f c * p + wsum f C ps) * a = (f c * q + wsum f C qs) * b
    grind
  | c :: C, [], _, h, _, _ => by simp at h
  | c :: C, _ :: _, [], _, h, _ => by simp at h
/-- each point has a corner that is no higher -/
theorem complete2 {U : List (List Int)} {m n : Nat} {y : Nat → Int} {S N : Int} (P : Pt (cell U) m n y S N) (m4 : m ≤ 4) (n4 : n ≤ 4) :
    ∃ R C, Good2 m n R C ∧ Corner U m n R C ∧ gain U n (yOf C (shM U R C)) (R.headD 0) * S ≤ N * smM U R C ∧ (∀ j, j < n → y j = 0 → yOf C (shM U R C) j = 0) ∧
      ∀ i, i < m → sm n (fun j => cell U i j * y j) = N → gain U n (yOf C (shM U R C)) i = gain U n (yOf C (shM U R C)) (R.headD 0) := by
  obtain ⟨y1, S1, N1, P1, l1, r1, u1, w1⟩ := to_rigid _ rfl P
  obtain ⟨R, C, hR, hC, hl, h0, hp, ho, ht, hw⟩ := rank P1 r1 m4 n4
  have g : Good2 m n R C := ⟨hR, hC, hl, h0⟩
  have hlt := g.lt
  have hnd := g.nd
  -- the point's weights are those of the choice
  have e0 : ∀ j, j < n → yOf C (C.map y1) j = y1 j := fun j hj => by
    rw [yOf_map hnd]
    by_cases h : j ∈ C
    · rw [if_pos h]
    · rw [if_neg h, ho j hj h]
  have eg : ∀ i, wsum (cell U i) C (C.map y1) = sm n fun j => cell U i j * y1 j := fun i => by
    rw [← sm_yOf (cell U i) n C _ hlt]
    exact sm_congr fun j hj => by rw [e0 j hj]
  have es : (C.map y1).sum = S1 := by
    rw [← yOf_sum hlt (List.length_map ..), ← P1.sum]
    exact sm_congr fun j hj => e0 j hj
  have cr := cramer U (R := R) (C := C) (ps := C.map y1) hl h0 (g.c4 n4) (List.length_map ..) es (fun i hi => by rw [eg, eg, ht i hi, ht _ g.r0])
  have hS1 := P1.pos
  have hW := sgn_pos hw
  have q1 : ∀ t, t < C.length → (shM U R C).getD t 0 * S1 = (C.map y1).getD t 0 * smM U R C := fun t h => by
    have := cr t h
    unfold shM smM
    rw [getD_map_mul, parts_getD h]
    grind
  have hm : ∀ t, t < C.length → 0 < (C.map y1).getD t 0 := fun t h => by
    rw [List.getD_eq_getElem?_getD, List.getElem?_map, List.getElem?_eq_getElem h]
    exact hp _ (List.getElem_mem h)
  have hg : ∀ i, gain U n (yOf C (shM U R C)) i * S1 = (sm n fun j => cell U i j * y1 j) * smM U R C := fun i => by
    unfold gain
    rw [sm_yOf (cell U i) n C _ hlt, wsum_prop (cell U i) (shM_len U R C) (List.length_map ..) q1, eg]
  have k : Corner U m n R C := by
    refine ⟨hw, fun q hq => ?_, fun i hi => ?_⟩
    · obtain ⟨t, ht, e⟩ := List.mem_iff_getElem.mp hq
      rw [shM_len] at ht
      have h1 := q1 t ht
      have h2 := Int.mul_pos (hm t ht) (show 0 < smM U R C from hW)
      rw [List.getD_eq_getElem?_getD, List.getElem?_eq_getElem (by rw [shM_len]; exact ht)] at h1
      have h3 : q * S1 = (C.map y1).getD t 0 * smM U R C := by rw [← h1, ← e]; rfl
      refine Classical.byContradiction fun hc => ?_
      have := Int.mul_nonpos_of_nonpos_of_nonneg (show q ≤ 0 by omega) (Int.le_of_lt hS1)
      omega
    · have a1 := hg i
      have a2 := hg (R.headD 0)
      rw [ht _ g.r0] at a2
      have a3 : (sm n fun j => cell U i j * y1 j) * smM U R C ≤ N1 * smM U R C := Int.mul_le_mul_of_nonneg_right (P1.le i hi) (Int.le_of_lt hW)
      exact Int.le_of_mul_le_mul_right (by omega) hS1
  refine ⟨R, C, g, k, ?_, fun j hj e => yOf_out fun hj' => ?_, fun i hi e => ?_⟩
  rotate_left
  · have := hp j hj'
    rw [u1 j hj e] at this
    omega
  · have a1 := hg i
    have a2 := hg (R.headD 0)
    rw [ht _ g.r0] at a2
    rw [w1 i hi e] at a1
    exact Int.eq_of_mul_eq_mul_right (by omega) (a1.trans a2.symm)
  have a2 := hg (R.headD 0)
  rw [ht _ g.r0] at a2
  generalize gain U n (yOf C (shM U R C)) (R.headD 0) = G at a2 ⊢
  have b1 : N1 * S * smM U R C ≤ N * S1 * smM U R C := Int.mul_le_mul_of_nonneg_right l1 (Int.le_of_lt hW)
  have b2 : G * S * S1 ≤ N * smM U R C * S1 := by
    have : G * S * S1 = N1 * S * smM U R C := by grind
    rw [this]
    grind
  exact Int.le_of_mul_le_mul_right b2 hS1
/-- the greatest of finitely many -/
theorem max_of (f : Nat → Int) : ∀ {m : Nat}, 0 < m → ∃ i, i < m ∧ ∀ j, j < m → f j ≤ f i
  | 0, h => by omega
  | 1, _ => ⟨0, by decide, fun j hj => by
    have : j = 0 := by omega
    rw [this]; exact Int.le_refl _⟩
  | m + 2, _ => by
    obtain ⟨i, hi, h⟩ := max_of f (m := m + 1) (by omega)
    by_cases c : f i ≤ f (m + 1)
    · refine ⟨m + 1, by omega, fun j hj => ?_⟩
      by_cases e : j = m + 1
      · rw [e]; exact Int.le_refl _
      · have := h j (by omega)
        omega
    · refine ⟨i, by omega, fun j hj => ?_⟩
      by_cases e : j = m + 1
      · rw [e]; omega
      · exact h j (by omega)
end Gm

set_option linter.all false
namespace Ns
/-! ### sums -/
def sr : Nat → (Nat → Rat) → Rat
  | 0, _ => 0
  | n + 1, f => sr n f + f n
theorem sr_congr {f g : Nat → Rat} : ∀ {n : Nat}, (∀ j, j < n → f j = g j) → sr n f = sr n g
  | 0, _ => rfl
  | n + 1, h => by
    show sr n f + f n = sr n g + g n
    rw [sr_congr fun j hj => h j (by omega), h n (by omega)]
theorem sr_lin (f g : Nat → Rat) (r : Rat) : ∀ n, sr n (fun j => f j + r * g j) = sr n f + r * sr n g
  | 0 => by show (0 : Rat) = 0 + r * 0; grind
  | n + 1 => by
    show sr n (fun j => f j + r * g j) + (f n + r * g n) = (sr n f + f n) + r * (sr n g + g n)
    rw [sr_lin f g r n]
    grind
theorem sr_zero {f : Nat → Rat} : ∀ {n : Nat}, (∀ j, j < n → f j = 0) → sr n f = 0
  | 0, _ => rfl
  | n + 1, h => by
    show sr n f + f n = 0
    rw [sr_zero fun j hj => h j (by omega), h n (by omega)]
    grind
theorem sr_one {f : Nat → Rat} {p : Nat} : ∀ {n : Nat}, p < n → (∀ j, j < n → j ≠ p → f j = 0) → sr n f = f p
  | n + 1, hp, h => by
    show sr n f + f n = f p
    by_cases e : p = n
    · subst e
      rw [sr_zero fun j hj => h j (by omega) (by omega)]
      grind
    · rw [sr_one (by omega) fun j hj => h j (by omega), h n (by omega) (Ne.symm e)]
      grind
theorem sr_mul (f : Nat → Rat) (r : Rat) (n : Nat) : sr n (fun j => r * f j) = r * sr n f := by
  have := sr_lin (fun _ => 0) f r n
  rw [sr_zero (f := fun _ => 0) fun _ _ => rfl] at this
  have e : sr n (fun j => 0 + r * f j) = sr n (fun j => r * f j) := sr_congr fun j _ => by grind
  rw [← e, this]
  grind
theorem sr_add (f g : Nat → Rat) (n : Nat) : sr n (fun j => f j + g j) = sr n f + sr n g := by
  have := sr_lin f g 1 n
  have e : sr n (fun j => f j + 1 * g j) = sr n (fun j => f j + g j) := sr_congr fun j _ => by grind
  rw [← e, this]
  grind
theorem sr_swap (f : Nat → Nat → Rat) (m : Nat) : ∀ n, sr n (fun j => sr m fun i => f i j) = sr m fun i => sr n fun j => f i j
  | 0 => by rw [sr_zero (n := m) (f := fun i => sr 0 fun j => f i j) fun _ _ => rfl]; rfl
  | n + 1 => by
    show sr n (fun j => sr m fun i => f i j) + sr m (fun i => f i n) = sr m fun i => (sr n fun j => f i j) + f i n
    rw [sr_swap f m n, ← sr_add]
theorem sr_nonneg {f : Nat → Rat} : ∀ {n : Nat}, (∀ j, j < n → 0 ≤ f j) → 0 ≤ sr n f
  | 0, _ => by show (0 : Rat) ≤ 0; grind
  | n + 1, h => by
    show 0 ≤ sr n f + f n
    have h1 := sr_nonneg (n := n) fun j hj => h j (show j < n + 1 by omega)
    have h2 := h n (by omega)
    grind
theorem sr_pos {f : Nat → Rat} : ∀ {n p : Nat}, (∀ j, j < n → 0 ≤ f j) → p < n → 0 < f p → 0 < sr n f
  | n + 1, p, h, hp, h0 => by
    show 0 < sr n f + f n
    have h1 := sr_nonneg (n := n) fun j hj => h j (show j < n + 1 by omega)
    have h2 := h n (by omega)
    by_cases e : p = n
    · subst e; grind
    · have := sr_pos (n := n) (fun j hj => h j (by omega)) (by omega) h0
      grind
/-! ### more unknowns than equations -/
theorem fl : ∀ (k : Nat) (M : Nat → Nat → Rat), ∃ d : Nat → Rat, (∃ j, j < k + 1 ∧ d j ≠ 0) ∧ ∀ i, i < k → sr (k + 1) (fun j => M i j * d j) = 0
  | 0, M => ⟨fun _ => 1, ⟨0, by omega, by decide⟩, fun i h => absurd h (by omega)⟩
  | k + 1, M => by
    by_cases h : ∃ i, i < k + 1 ∧ M i (k + 1) ≠ 0
    · obtain ⟨i0, h0, hne⟩ := h
      obtain ⟨d, hd, he⟩ := fl k (fun i j => M (if i < i0 then i else i + 1) j - M (if i < i0 then i else i + 1) (k + 1) / M i0 (k + 1) * M i0 j)
      refine ⟨fun j => if j < k + 1 then d j else -(sr (k + 1) fun j => M i0 j * d j) / M i0 (k + 1), ?_, ?_⟩
      · obtain ⟨j, hj, hne'⟩ := hd
        exact ⟨j, by omega, by dsimp only; rw [if_pos hj]; exact hne'⟩
      · intro i hi
        have e : sr (k + 1 + 1) (fun j => M i j * (if j < k + 1 then d j else -(sr (k + 1) fun j => M i0 j * d j) / M i0 (k + 1))) = sr (k + 1) (fun j => M i j * d j) + M i (k + 1) * (-(sr (k + 1) fun j => M i0 j * d j) / M i0 (k + 1)) := by
          show sr (k + 1) _ + M i (k + 1) * (if k + 1 < k + 1 then _ else _) = _
          rw [if_neg (Nat.lt_irrefl _)]
          congr 1
          exact sr_congr fun j hj => by rw [if_pos hj]
        rw [e]
        by_cases hi0 : i = i0
        · subst hi0
          generalize sr (k + 1) (fun j => M i j * d j) = s
          grind
        · have hex : ∃ i', i' < k ∧ (if i' < i0 then i' else i' + 1) = i := by
            by_cases hlt : i < i0
            · exact ⟨i, by omega, if_pos hlt⟩
            · exact ⟨i - 1, by omega, by rw [if_neg (by omega)]; omega⟩
          obtain ⟨i', hi', ei⟩ := hex
          have h1 := he i' hi'
          simp only [ei] at h1
          have h2 : sr (k + 1) (fun j => (M i j - M i (k + 1) / M i0 (k + 1) * M i0 j) * d j) = sr (k + 1) (fun j => M i j * d j) + (-(M i (k + 1) / M i0 (k + 1))) * sr (k + 1) (fun j => M i0 j * d j) := by
            rw [← sr_lin]
            exact sr_congr fun j _ => by grind
          rw [h2] at h1
          generalize sr (k + 1) (fun j => M i j * d j) = s at *
          generalize sr (k + 1) (fun j => M i0 j * d j) = t at *
          grind
    · refine ⟨fun j => if j = k + 1 then 1 else 0, ⟨k + 1, by omega, by dsimp only; rw [if_pos rfl]; decide⟩, fun i hi => ?_⟩
      refine sr_zero fun j hj => ?_
      show M i j * (if j = k + 1 then 1 else 0) = 0
      by_cases e : j = k + 1
      · have : M i (k + 1) = 0 := Classical.byContradiction fun hz => h ⟨i, hi, hz⟩
        rw [e, this]; grind
      · rw [if_neg e]; grind
/-! ### numbers with something infinitely small -/
def LZ (L : Nat) (v : Nat → Rat) : Prop := ∀ c, c < L → v c = 0
def LP (L : Nat) (v : Nat → Rat) : Prop := ∃ c, c < L ∧ (∀ c', c' < c → v c' = 0) ∧ 0 < v c
def GE (L : Nat) (v : Nat → Rat) : Prop := LZ L v ∨ LP L v
theorem GE.congr {L : Nat} {u v : Nat → Rat} (h : GE L u) (e : ∀ c, c < L → u c = v c) : GE L v := by
  rcases h with h | ⟨c, hc, h1, h2⟩
  · exact .inl fun c hc => by rw [← e c hc]; exact h c hc
  · exact .inr ⟨c, hc, fun c' h' => by rw [← e c' (by omega)]; exact h1 c' h', by rw [← e c hc]; exact h2⟩
theorem LZ.congr {L : Nat} {u v : Nat → Rat} (h : LZ L u) (e : ∀ c, c < L → u c = v c) : LZ L v := fun c hc => by rw [← e c hc]; exact h c hc
theorem tri (v : Nat → Rat) : ∀ L, GE L v ∨ LP L fun c => - v c
  | 0 => .inl (.inl fun c h => absurd h (by omega))
  | L + 1 => by
    rcases tri v L with (h | ⟨c, hc, h1, h2⟩) | ⟨c, hc, h1, h2⟩
    · by_cases h0 : v L = 0
      · refine .inl (.inl fun c hc => ?_)
        by_cases e : c = L
        · rw [e]; exact h0
        · exact h c (by omega)
      · by_cases hp : 0 < v L
        · exact .inl (.inr ⟨L, by omega, fun c hc => h c hc, hp⟩)
        · exact .inr ⟨L, by omega, fun c hc => by dsimp only; rw [h c hc]; grind, by dsimp only; grind⟩
    · exact .inl (.inr ⟨c, by omega, h1, h2⟩)
    · exact .inr ⟨c, by omega, h1, h2⟩
theorem GE.add {L : Nat} {u v : Nat → Rat} (hu : GE L u) (hv : GE L v) : GE L fun c => u c + v c := by
  rcases hu with hu | ⟨a, ha, a1, a2⟩
  · exact hv.congr fun c hc => by rw [hu c hc]; grind
  · rcases hv with hv | ⟨b, hb, b1, b2⟩
    · exact GE.congr (.inr ⟨a, ha, a1, a2⟩) fun c hc => by rw [hv c hc]; grind
    · by_cases h : a < b
      · exact .inr ⟨a, ha, fun c hc => by dsimp only; rw [a1 c hc, b1 c (by omega)]; grind, by dsimp only; rw [b1 a h]; grind⟩
      · by_cases h' : b < a
        · exact .inr ⟨b, hb, fun c hc => by dsimp only; rw [a1 c (by omega), b1 c hc]; grind, by dsimp only; rw [a1 b h']; grind⟩
        · have : a = b := by omega
          subst this
          exact .inr ⟨a, ha, fun c hc => by dsimp only; rw [a1 c hc, b1 c hc]; grind, by grind⟩
theorem GE.smul {L : Nat} {u : Nat → Rat} {r : Rat} (hr : 0 ≤ r) (hu : GE L u) : GE L fun c => r * u c := by
  by_cases h0 : r = 0
  · exact .inl fun c _ => by rw [h0]; grind
  · rcases hu with hu | ⟨a, ha, a1, a2⟩
    · exact .inl fun c hc => by dsimp only; rw [hu c hc]; grind
    · exact .inr ⟨a, ha, fun c hc => by dsimp only; rw [a1 c hc]; grind, Rat.mul_pos (by grind) a2⟩
theorem GE.anti {L : Nat} {u : Nat → Rat} (h : GE L u) (h' : GE L fun c => - u c) : LZ L u := by
  rcases h with h | ⟨a, ha, a1, a2⟩
  · exact h
  · rcases h' with h' | ⟨b, hb, b1, b2⟩
    · have := h' a ha; grind
    · by_cases e : a < b
      · have := b1 a e; grind
      · by_cases e' : b < a
        · have := a1 b e'; grind
        · have : a = b := by omega
          subst this
          grind
theorem GE.lead {L : Nat} {u : Nat → Rat} (h : GE L u) (hL : 0 < L) : 0 ≤ u 0 := by
  rcases h with h | ⟨a, ha, a1, a2⟩
  · have := h 0 hL; grind
  · by_cases e : a = 0
    · subst e; grind
    · have := a1 0 (by omega); grind
theorem lexmin (L : Nat) (p : Nat → Prop) (ρ : Nat → Nat → Rat) : ∀ n, (∃ q, q < n ∧ p q) → ∃ q, q < n ∧ p q ∧ ∀ q', q' < n → p q' → GE L fun c => ρ q' c - ρ q c
  | 0, h => by obtain ⟨q, h, _⟩ := h; omega
  | n + 1, h => by
    have self : ∀ q, GE L fun c => ρ q c - ρ q c := fun q => .inl fun c _ => by grind
    by_cases hn : ∃ q, q < n ∧ p q
    · obtain ⟨q, hq, pq, hm⟩ := lexmin L p ρ n hn
      by_cases pn : p n
      · rcases tri (fun c => ρ n c - ρ q c) L with h1 | h1
        · refine ⟨q, by omega, pq, fun q' h' p' => ?_⟩
          by_cases e : q' = n
          · rw [e]; exact h1
          · exact hm q' (by omega) p'
        · have h2 : GE L fun c => ρ q c - ρ n c := GE.congr (.inr h1) fun c _ => by grind
          refine ⟨n, by omega, pn, fun q' h' p' => ?_⟩
          by_cases e : q' = n
          · rw [e]; exact self n
          · exact GE.congr ((hm q' (by omega) p').add h2) fun c _ => by grind
      · refine ⟨q, by omega, pq, fun q' h' p' => ?_⟩
        by_cases e : q' = n
        · rw [e] at p'; exact absurd p' pn
        · exact hm q' (by omega) p'
    · obtain ⟨q, hq, pq⟩ := h
      have : q = n := Classical.byContradiction fun e => hn ⟨q, by omega, pq⟩
      subst this
      refine ⟨q, by omega, pq, fun q' h' p' => ?_⟩
      have : q' = q := Classical.byContradiction fun e => hn ⟨q', by omega, p'⟩
      rw [this]; exact self q
end Ns

set_option linter.all false
namespace Ns
/-! ### facets: a share is nought, or a row gets all that it may -/
def lin (C : Nat → Nat → Rat) (N : Nat) (f : Nat × Bool) (d : Nat → Rat) : Rat := if f.2 = true then - sr N (fun j => C f.1 j * d j) else d f.1
def bb (i c : Nat) : Rat := if c = 0 then 1 else if c = i + 1 then 1 else 0
def cst (f : Nat × Bool) (c : Nat) : Rat := if f.2 = true then bb f.1 c else 0
def slk (C : Nat → Nat → Rat) (N : Nat) (f : Nat × Bool) (z : Nat → Nat → Rat) (c : Nat) : Rat := lin C N f (fun j => z j c) + cst f c
variable {C : Nat → Nat → Rat}
theorem lin_lin {N : Nat} (f : Nat × Bool) (a b : Nat → Rat) (r : Rat) : lin C N f (fun j => a j + r * b j) = lin C N f a + r * lin C N f b := by
  unfold lin
  by_cases h : f.2 = true
  · rw [if_pos h, if_pos h, if_pos h]
    have e : sr N (fun j => C f.1 j * (a j + r * b j)) = sr N (fun j => C f.1 j * a j) + r * sr N (fun j => C f.1 j * b j) := by
      rw [← sr_lin]
      exact sr_congr fun j _ => by grind
    rw [e]
    grind
  · rw [if_neg h, if_neg h, if_neg h]
theorem slk_move {N : Nat} (f : Nat × Bool) (z : Nat → Nat → Rat) (s : Nat → Rat) (d : Nat → Rat) (c : Nat) : slk C N f (fun j c => z j c + s c * d j) c = slk C N f z c + s c * lin C N f d := by
  unfold slk
  rw [lin_lin]
  grind
def coef (C : Nat → Nat → Rat) (f : Nat × Bool) (j : Nat) : Rat := if f.2 = true then - C f.1 j else if j = f.1 then 1 else 0
theorem lin_coef {N : Nat} {f : Nat × Bool} (h : f.1 < N) (d : Nat → Rat) : lin C N f d = sr N fun j => coef C f j * d j := by
  unfold lin coef
  by_cases hf : f.2 = true
  · rw [if_pos hf]
    have e : sr N (fun j => (if f.2 = true then - C f.1 j else if j = f.1 then 1 else 0) * d j) = -1 * sr N (fun j => C f.1 j * d j) := by
      rw [← sr_mul]
      exact sr_congr fun j _ => by rw [if_pos hf]; grind
    rw [e]
    grind
  · rw [if_neg hf, sr_one h fun j _ hj => by rw [if_neg hf, if_neg hj]; grind]
    rw [if_neg hf, if_pos rfl]
    grind
/-- the facets that are not chosen -/
def fct (k : Nat) (σ : Nat → Bool) (q : Nat) : Nat × Bool := if q < k then (q, !σ q) else (k, decide (q = k + 1))
theorem fct_lt {k : Nat} {σ : Nat → Bool} {q : Nat} : (fct k σ q).1 < k + 1 := by
  unfold fct
  split
  · show q < k + 1; omega
  · show k < k + 1; omega
theorem fct_inj {k : Nat} {σ : Nat → Bool} {q q' : Nat} (hq : q < k + 2) (hq' : q' < k + 2) (h : fct k σ q = fct k σ q') : q = q' := by
  unfold fct at h
  by_cases h1 : q < k
  · by_cases h2 : q' < k
    · rw [if_pos h1, if_pos h2] at h
      exact congrArg Prod.fst h
    · rw [if_pos h1, if_neg h2] at h
      have : q = k := congrArg Prod.fst h
      omega
  · by_cases h2 : q' < k
    · rw [if_neg h1, if_pos h2] at h
      have : k = q' := congrArg Prod.fst h
      omega
    · rw [if_neg h1, if_neg h2] at h
      have : decide (q = k + 1) = decide (q' = k + 1) := congrArg Prod.snd h
      rw [decide_eq_decide] at this
      omega
theorem fct_out {k : Nat} {σ : Nat → Bool} {q j : Nat} (hj : j < k) : (j, σ j) ≠ fct k σ q := by
  intro h
  unfold fct at h
  split at h
  · have h1 : j = q := congrArg Prod.fst h
    have h2 : σ j = !σ q := congrArg Prod.snd h
    rw [← h1] at h2
    cases hs : σ j <;> rw [hs] at h2 <;> simp at h2
  · have h1 : j = k := congrArg Prod.fst h
    omega
/-- each facet is chosen or not -/
theorem fct_all {k : Nat} (σ : Nat → Bool) {i : Nat} (hi : i < k + 1) (s : Bool) : (i < k ∧ σ i = s) ∨ ∃ q, q < k + 2 ∧ fct k σ q = (i, s) := by
  by_cases h : i < k
  · by_cases e : σ i = s
    · exact .inl ⟨h, e⟩
    · refine .inr ⟨i, by omega, ?_⟩
      unfold fct
      rw [if_pos h]
      cases hs : σ i <;> cases s <;> simp_all
  · have : i = k := by omega
    subst this
    cases s
    · exact .inr ⟨i, by omega, by unfold fct; rw [if_neg (by omega)]; simp⟩
    · exact .inr ⟨i + 1, by omega, by unfold fct; rw [if_neg (by omega)]; simp⟩
/-- no more facets than shares at one place -/
theorem nd {k : Nat} {σ : Nat → Bool} {z : Nat → Nat → Rat} (hz : ∀ j, j < k → LZ (k + 2) (slk C (k + 1) (j, σ j) z)) {q1 q2 : Nat} (h1 : q1 < k + 2) (h2 : q2 < k + 2) (hne : q1 ≠ q2)
    (t1 : LZ (k + 2) (slk C (k + 1) (fct k σ q1) z)) (t2 : LZ (k + 2) (slk C (k + 1) (fct k σ q2) z)) : False := by
  let φ : Nat → Nat × Bool := fun p => if p < k then (p, σ p) else if p = k then fct k σ q1 else fct k σ q2
  have φl : ∀ p, p < k + 2 → (φ p).1 < k + 1 := fun p hp => by
    show (if p < k then (p, σ p) else if p = k then fct k σ q1 else fct k σ q2).1 < k + 1
    split
    · show p < k + 1; omega
    · split
      · exact fct_lt
      · exact fct_lt
  have φt : ∀ p, p < k + 2 → LZ (k + 2) (slk C (k + 1) (φ p) z) := fun p hp => by
    show LZ (k + 2) (slk C (k + 1) (if p < k then (p, σ p) else if p = k then fct k σ q1 else fct k σ q2) z)
    split
    · exact hz p (by assumption)
    · split
      · exact t1
      · exact t2
  have φi : ∀ p p', p < k + 2 → p' < k + 2 → φ p = φ p' → p = p' := fun p p' hp hp' h => by
    have h : (if p < k then (p, σ p) else if p = k then fct k σ q1 else fct k σ q2) = (if p' < k then (p', σ p') else if p' = k then fct k σ q1 else fct k σ q2) := h
    by_cases a : p < k
    · rw [if_pos a] at h
      by_cases b : p' < k
      · rw [if_pos b] at h
        exact congrArg Prod.fst h
      · rw [if_neg b] at h
        split at h
        · exact absurd h (fct_out a)
        · exact absurd h (fct_out a)
    · rw [if_neg a] at h
      by_cases b : p' < k
      · rw [if_pos b] at h
        split at h
        · exact absurd h.symm (fct_out b)
        · exact absurd h.symm (fct_out b)
      · rw [if_neg b] at h
        by_cases a' : p = k
        · rw [if_pos a'] at h
          by_cases b' : p' = k
          · omega
          · rw [if_neg b'] at h
            exact absurd (fct_inj h1 h2 h) hne
        · rw [if_neg a'] at h
          by_cases b' : p' = k
          · rw [if_pos b'] at h
            exact absurd (fct_inj h2 h1 h).symm hne
          · omega
  obtain ⟨u, ⟨p0, hp0, hu0⟩, hu⟩ := fl (k + 1) (fun j p => coef C (φ p) j)
  -- what stands on the right
  have rhs : ∀ c, c < k + 2 → sr (k + 2) (fun p => u p * cst (φ p) c) = 0 := fun c hc => by
    have e1 : sr (k + 2) (fun p => u p * slk C (k + 1) (φ p) z c) = 0 := sr_zero fun p hp => by rw [φt p hp c hc]; grind
    have e2 : sr (k + 2) (fun p => u p * slk C (k + 1) (φ p) z c) = sr (k + 2) (fun p => u p * lin C (k + 1) (φ p) (fun j => z j c)) + sr (k + 2) (fun p => u p * cst (φ p) c) := by
      rw [← sr_add]
      exact sr_congr fun p _ => by unfold slk; grind
    have e3 : sr (k + 2) (fun p => u p * lin C (k + 1) (φ p) (fun j => z j c)) = 0 := by
      have : sr (k + 2) (fun p => u p * lin C (k + 1) (φ p) (fun j => z j c)) = sr (k + 2) (fun p => sr (k + 1) fun j => z j c * (coef C (φ p) j * u p)) := sr_congr fun p hp => by
        rw [lin_coef (φl p hp), ← sr_mul]
        exact sr_congr fun j _ => by grind
      rw [this, sr_swap (fun j p => z j c * (coef C (φ p) j * u p)) (k + 1) (k + 2)]
      refine sr_zero fun j hj => ?_
      rw [sr_mul, hu j hj]
      grind
    rw [e2, e3] at e1
    grind
  have ut : ∀ p, p < k + 2 → (φ p).2 = true → u p = 0 := fun p hp hs => by
    have h := rhs ((φ p).1 + 1) (by have := φl p hp; omega)
    rw [sr_one hp fun p' hp' hne' => ?_] at h
    · unfold cst bb at h
      rw [if_pos hs, if_neg (by omega), if_pos rfl] at h
      grind
    · show u p' * cst (φ p') ((φ p).1 + 1) = 0
      unfold cst bb
      by_cases hs' : (φ p').2 = true
      · rw [if_pos hs', if_neg (by omega), if_neg fun e => hne' (φi p' p hp' hp (Prod.ext (by omega) (by rw [hs, hs'])))]
        grind
      · rw [if_neg hs']; grind
  apply hu0
  by_cases hs : (φ p0).2 = true
  · exact ut p0 hp0 hs
  · have h := hu (φ p0).1 (φl p0 hp0)
    rw [sr_one hp0 fun p' hp' hne' => ?_] at h
    · unfold coef at h
      rw [if_neg hs, if_pos rfl] at h
      grind
    · show coef C (φ p') (φ p0).1 * u p' = 0
      by_cases hs' : (φ p').2 = true
      · rw [ut p' hp' hs']; grind
      · unfold coef
        rw [if_neg hs', if_neg fun e => hne' (φi p' p0 hp' hp0 (Prod.ext e.symm (by cases a : (φ p').2 <;> cases b : (φ p0).2 <;> simp_all)))]
        grind
/-- a share that is not nought is seen at a facet that is not chosen -/
theorem seen {k : Nat} {σ : Nat → Bool} {d : Nat → Rat} (hd : ∀ j, j < k → lin C (k + 1) (j, σ j) d = 0) {j0 : Nat} (h0 : j0 < k + 1) : d j0 = 0 ∨ ∃ q, q < k + 2 ∧ lin C (k + 1) (fct k σ q) d = d j0 := by
  rcases fct_all σ h0 false with ⟨h, e⟩ | ⟨q, hq, e⟩
  · have := hd j0 h
    rw [e] at this
    exact .inl this
  · exact .inr ⟨q, hq, by rw [e]; rfl⟩
/-- at a vertex there is no way that keeps all its facets -/
theorem vt {k : Nat} {σ : Nat → Bool} {z : Nat → Nat → Rat} (hz : ∀ j, j < k → LZ (k + 2) (slk C (k + 1) (j, σ j) z)) {q1 : Nat} (h1 : q1 < k + 2) (t1 : LZ (k + 2) (slk C (k + 1) (fct k σ q1) z))
    {d : Nat → Rat} (hd : ∀ j, j < k → lin C (k + 1) (j, σ j) d = 0) (hd1 : lin C (k + 1) (fct k σ q1) d = 0) : ∀ j, j < k + 1 → d j = 0 := by
  intro j0 h0
  rcases seen hd h0 with h | ⟨q, hq, e⟩
  · exact h
  · refine Classical.byContradiction fun hne => ?_
    have hq1 : q1 ≠ q := fun h => by rw [← h, hd1] at e; exact hne e.symm
    have mv : ∀ f c, slk C (k + 1) f (fun j c => z j c + (- slk C (k + 1) (fct k σ q) z c / d j0) * d j) c = slk C (k + 1) f z c + (- slk C (k + 1) (fct k σ q) z c / d j0) * lin C (k + 1) f d := fun f c => slk_move f z (fun c => - slk C (k + 1) (fct k σ q) z c / d j0) d c
    refine nd (C := C) (σ := σ) (z := fun j c => z j c + (- slk C (k + 1) (fct k σ q) z c / d j0) * d j) (fun j hj c hc => ?_) h1 hq hq1 (fun c hc => ?_) (fun c hc => ?_)
    · rw [mv, hd j hj, hz j hj c hc]; grind
    · rw [mv, hd1, t1 c hc]; grind
    · rw [mv, e]; grind
/-- nothing goes on without end -/
theorem bd {k : Nat} {σ : Nat → Bool} (C0 : ∀ i j, i < k + 1 → j < k + 1 → 0 ≤ C i j) (C1 : ∀ j, j < k + 1 → ∃ i, i < k + 1 ∧ 0 < C i j) {d : Nat → Rat} (hd : ∀ j, j < k → lin C (k + 1) (j, σ j) d = 0) {j0 : Nat} (h0 : j0 < k + 1) (hne : d j0 ≠ 0) : ∃ q, q < k + 2 ∧ lin C (k + 1) (fct k σ q) d < 0 := by
  refine Classical.byContradiction fun hc => ?_
  have all : ∀ i, i < k + 1 → ∀ s, 0 ≤ lin C (k + 1) (i, s) d := fun i hi s => by
    rcases fct_all σ hi s with ⟨h, e⟩ | ⟨q, hq, e⟩
    · rw [← e, hd i h]; grind
    · rw [← e]
      refine Classical.byContradiction fun hl => hc ⟨q, hq, by grind⟩
  have dn : ∀ j, j < k + 1 → 0 ≤ d j := fun j hj => all j hj false
  obtain ⟨i, hi, hp⟩ := C1 j0 h0
  have h1 : 0 ≤ - sr (k + 1) (fun j => C i j * d j) := all i hi true
  have h2 : 0 < sr (k + 1) (fun j => C i j * d j) := sr_pos (fun j hj => Rat.mul_nonneg (C0 i j hi hj) (dn j hj)) h0 (Rat.mul_pos hp (by have := dn j0 h0; grind))
  grind
theorem inv_nn {r : Rat} (h : 0 < r) : 0 ≤ 1 / r := by
  rw [Rat.div_def, Rat.one_mul]
  exact Rat.le_of_lt (Rat.inv_pos.mpr h)
/-! ### an edge has two ends -/
def vx (C : Nat → Nat → Rat) (k : Nat) (σ : Nat → Bool) (f : Nat × Bool) : Prop := ∃ z, (∀ i, i < k + 1 → ∀ s, GE (k + 2) (slk C (k + 1) (i, s) z)) ∧ (∀ j, j < k → LZ (k + 2) (slk C (k + 1) (j, σ j) z)) ∧ LZ (k + 2) (slk C (k + 1) f z)
theorem edge {k : Nat} {σ : Nat → Bool} (C0 : ∀ i j, i < k + 1 → j < k + 1 → 0 ≤ C i j) (C1 : ∀ j, j < k + 1 → ∃ i, i < k + 1 ∧ 0 < C i j) {q1 : Nat} (h1 : q1 < k + 2) (v1 : vx C k σ (fct k σ q1)) :
    ∃ q2, q2 < k + 2 ∧ q2 ≠ q1 ∧ vx C k σ (fct k σ q2) ∧ ∀ q, q < k + 2 → vx C k σ (fct k σ q) → q = q1 ∨ q = q2 := by
  obtain ⟨z, zf, zs, z1⟩ := v1
  -- the way
  have way : ∃ d : Nat → Rat, (∃ j, j < k + 1 ∧ d j ≠ 0) ∧ (∀ j, j < k → lin C (k + 1) (j, σ j) d = 0) ∧ 0 < lin C (k + 1) (fct k σ q1) d := by
    obtain ⟨d, ⟨j0, h0, hne⟩, hd⟩ := fl k (fun i j => coef C (i, σ i) j)
    have hd' : ∀ j, j < k → lin C (k + 1) (j, σ j) d = 0 := fun j hj => by rw [lin_coef (show j < k + 1 by omega)]; exact hd j hj
    have hn : lin C (k + 1) (fct k σ q1) d ≠ 0 := fun e => hne (vt zs h1 z1 hd' e j0 h0)
    by_cases hp : 0 < lin C (k + 1) (fct k σ q1) d
    · exact ⟨d, ⟨j0, h0, hne⟩, hd', hp⟩
    · have neg : ∀ f, lin C (k + 1) f (fun j => 0 + (-1) * d j) = - lin C (k + 1) f d := fun f => by
        rw [lin_lin f (fun _ => 0) d (-1)]
        have : lin C (k + 1) f (fun _ => 0) = 0 := by
          unfold lin
          split
          · rw [sr_zero fun j _ => by grind]; grind
          · rfl
        rw [this]; grind
      refine ⟨fun j => 0 + (-1) * d j, ⟨j0, h0, by dsimp only; grind⟩, fun j hj => by rw [neg, hd' j hj]; grind, by rw [neg]; grind⟩
  obtain ⟨d, ⟨j0, h0, hne⟩, hd, hp⟩ := way
  have ff : ∀ q, GE (k + 2) (slk C (k + 1) (fct k σ q) z) := fun q => zf _ fct_lt _
  obtain ⟨q2, h2, n2, hm⟩ := lexmin (k + 2) (fun q => lin C (k + 1) (fct k σ q) d < 0) (fun q c => slk C (k + 1) (fct k σ q) z c / (- lin C (k + 1) (fct k σ q) d)) (k + 2) (bd C0 C1 hd h0 hne)
  generalize he2 : lin C (k + 1) (fct k σ q2) d = e2 at n2 hm
  -- how far
  have r0 : GE (k + 2) (fun c => slk C (k + 1) (fct k σ q2) z c / (- e2)) := GE.congr (GE.smul (r := 1 / (- e2)) (inv_nn (by grind)) (ff q2)) fun c _ => by grind
  have mv : ∀ f c, slk C (k + 1) f (fun j c => z j c + (slk C (k + 1) (fct k σ q2) z c / (- e2)) * d j) c = slk C (k + 1) f z c + (slk C (k + 1) (fct k σ q2) z c / (- e2)) * lin C (k + 1) f d := fun f c => slk_move f z (fun c => slk C (k + 1) (fct k σ q2) z c / (- e2)) d c
  refine ⟨q2, h2, fun e => by rw [← e, he2] at hp; grind, ⟨fun j c => z j c + (slk C (k + 1) (fct k σ q2) z c / (- e2)) * d j, fun i hi s => ?_, fun j hj c hc => ?_, fun c hc => ?_⟩, ?_⟩
  · have key : ∀ f, GE (k + 2) (slk C (k + 1) f z) → 0 ≤ lin C (k + 1) f d → GE (k + 2) (slk C (k + 1) f (fun j c => z j c + (slk C (k + 1) (fct k σ q2) z c / (- e2)) * d j)) := fun f h1 h2 =>
      GE.congr (h1.add (r0.smul h2)) fun c _ => by rw [mv]; grind
    rcases fct_all σ hi s with ⟨h, e⟩ | ⟨q, hq, e⟩
    · exact key _ (zf i hi s) (by rw [← e, hd i h]; grind)
    · rw [← e]
      by_cases hl : lin C (k + 1) (fct k σ q) d < 0
      · have h3 := hm q hq hl
        refine GE.congr (h3.smul (r := - lin C (k + 1) (fct k σ q) d) (by grind)) fun c _ => ?_
        rw [mv]
        generalize lin C (k + 1) (fct k σ q) d = x at *
        generalize slk C (k + 1) (fct k σ q) z c = y at *
        generalize slk C (k + 1) (fct k σ q2) z c / (- e2) = w at *
        grind
      · exact key _ (ff q) (by grind)
  · rw [mv, hd j hj, zs j hj c hc]; grind
  · rw [mv, he2]; grind
  -- no third one
  · intro q hq ⟨z', zf', zs', zq'⟩
    refine Classical.byContradiction fun hno => ?_
    have nq1 : q ≠ q1 := fun e => hno (.inl e)
    have nq2 : q ≠ q2 := fun e => hno (.inr e)
    generalize he1 : lin C (k + 1) (fct k σ q1) d = e1 at hp
    have ff' : ∀ q, GE (k + 2) (slk C (k + 1) (fct k σ q) z') := fun q => zf' _ fct_lt _
    -- it lies on the way
    have on : ∀ c, c < k + 2 → ∀ j, j < k + 1 → z' j c = z j c + (slk C (k + 1) (fct k σ q1) z' c / e1) * d j := fun c hc => by
      have h3 : ∀ f, lin C (k + 1) f (fun j => (z' j c + (-1) * z j c) + (-(slk C (k + 1) (fct k σ q1) z' c / e1)) * d j) = (slk C (k + 1) f z' c - slk C (k + 1) f z c) - (slk C (k + 1) (fct k σ q1) z' c / e1) * lin C (k + 1) f d := fun f => by
        rw [lin_lin f (fun j => z' j c + (-1) * z j c) d, lin_lin f (fun j => z' j c) (fun j => z j c)]
        unfold slk
        grind
      have h4 := vt zs h1 z1 (d := fun j => (z' j c + (-1) * z j c) + (-(slk C (k + 1) (fct k σ q1) z' c / e1)) * d j) (fun j hj => by rw [h3, hd j hj, zs' j hj c hc, zs j hj c hc]; grind) (by rw [h3, he1, z1 c hc]; grind)
      intro j hj
      have := h4 j hj
      grind
    have sl : ∀ f, f.1 < k + 1 → ∀ c, c < k + 2 → slk C (k + 1) f z' c = slk C (k + 1) f z c + (slk C (k + 1) (fct k σ q1) z' c / e1) * lin C (k + 1) f d := fun f hf c hc => by
      have h5 : lin C (k + 1) f (fun j => z' j c) = lin C (k + 1) f (fun j => z j c + (slk C (k + 1) (fct k σ q1) z' c / e1) * d j) := by
        rw [lin_coef hf, lin_coef hf]
        exact sr_congr fun j hj => by rw [on c hc j hj]
      unfold slk at *
      rw [h5, lin_lin f (fun j => z j c) d]
      grind
    have sg : GE (k + 2) (fun c => slk C (k + 1) (fct k σ q1) z' c / e1) := GE.congr (GE.smul (r := 1 / e1) (inv_nn hp) (ff' q1)) fun c _ => by grind
    by_cases hl : lin C (k + 1) (fct k σ q) d < 0
    · -- the two are as far
      have a1 := hm q hq hl
      have a2 : LZ (k + 2) (fun c => slk C (k + 1) (fct k σ q2) z' c) := by
        refine GE.anti (ff' q2) ?_
        refine GE.congr (a1.smul (r := - e2) (by grind)) fun c hc => ?_
        have b1 := sl (fct k σ q) fct_lt c hc
        have b2 := sl (fct k σ q2) fct_lt c hc
        rw [zq' c hc] at b1
        rw [he2] at b2
        generalize slk C (k + 1) (fct k σ q2) z' c = y2' at *
        generalize slk C (k + 1) (fct k σ q1) z' c / e1 = s at *
        generalize lin C (k + 1) (fct k σ q) d = x at *
        generalize slk C (k + 1) (fct k σ q) z c = y at *
        generalize slk C (k + 1) (fct k σ q2) z c = y2 at *
        have b3 : y / (-x) = s := by grind
        rw [b3, b2]
        grind
      exact nd zs' hq h2 nq2 zq' a2
    · have a1 : LZ (k + 2) (slk C (k + 1) (fct k σ q) z) := by
        refine GE.anti (ff q) ?_
        refine GE.congr (sg.smul (r := lin C (k + 1) (fct k σ q) d) (by grind)) fun c hc => ?_
        have b1 := sl (fct k σ q) fct_lt c hc
        rw [zq' c hc] at b1
        grind
      exact nd zs hq h1 nq1 a1 z1
end Ns

set_option linter.all false
namespace Ns
open Classical in
noncomputable def ind (p : Prop) : Nat := if p then 1 else 0
theorem ind_t {p : Prop} (h : p) : ind p = 1 := by unfold ind; rw [if_pos h]
theorem ind_f {p : Prop} (h : ¬ p) : ind p = 0 := by unfold ind; rw [if_neg h]
theorem ind_congr {p q : Prop} (h : p ↔ q) : ind p = ind q := by rw [propext h]
noncomputable def cn : Nat → (Nat → Prop) → Nat
  | 0, _ => 0
  | n + 1, p => cn n p + ind (p n)
theorem cn_zero {p : Nat → Prop} : ∀ {n : Nat}, (∀ q, q < n → ¬ p q) → cn n p = 0
  | 0, _ => rfl
  | n + 1, h => by
    show cn n p + ind (p n) = 0
    rw [cn_zero fun q hq => h q (by omega), ind_f (h n (by omega))]
theorem cn_one {p : Nat → Prop} {a : Nat} : ∀ {n : Nat}, a < n → p a → (∀ q, q < n → p q → q = a) → cn n p = 1
  | n + 1, ha, pa, h => by
    show cn n p + ind (p n) = 1
    by_cases e : a = n
    · subst e
      rw [cn_zero fun q hq pq => by have := h q (by omega) pq; omega, ind_t pa]
    · rw [cn_one (by omega) pa fun q hq pq => h q (by omega) pq, ind_f fun pn => e (h n (by omega) pn).symm]
theorem cn_two {p : Nat → Prop} {a b : Nat} : ∀ {n : Nat}, a < n → b < n → a ≠ b → p a → p b → (∀ q, q < n → p q → q = a ∨ q = b) → cn n p = 2
  | n + 1, ha, hb, hab, pa, pb, h => by
    show cn n p + ind (p n) = 2
    by_cases e : a = n
    · subst e
      rw [cn_one (a := b) (by omega) pb fun q hq pq => (h q (by omega) pq).resolve_left (by omega), ind_t pa]
    · by_cases e' : b = n
      · subst e'
        rw [cn_one (a := a) (by omega) pa fun q hq pq => (h q (by omega) pq).resolve_right (by omega), ind_t pb]
      · rw [cn_two (by omega) (by omega) hab pa pb fun q hq pq => h q (by omega) pq, ind_f fun pn => by rcases h n (by omega) pn with z | z <;> omega]
/-! ### all choices -/
def st (σ : Nat → Bool) (k : Nat) (b : Bool) : Nat → Bool := fun j => if j = k then b else σ j
theorem st_at (σ : Nat → Bool) (k : Nat) (b : Bool) : st σ k b k = b := by unfold st; rw [if_pos rfl]
theorem st_ne (σ : Nat → Bool) {k j : Nat} (b : Bool) (h : j ≠ k) : st σ k b j = σ j := by unfold st; rw [if_neg h]
theorem st_comm (σ : Nat → Bool) {i k : Nat} (b c : Bool) (h : i ≠ k) : st (st σ i b) k c = st (st σ k c) i b := by
  funext j
  unfold st
  by_cases h1 : j = k
  · subst h1
    rw [if_pos rfl, if_neg (Ne.symm h), if_pos rfl]
  · rw [if_neg h1]
    by_cases h2 : j = i
    · rw [if_pos h2, if_pos h2]
    · rw [if_neg h2, if_neg h2, if_neg h1]
def bs : Nat → ((Nat → Bool) → Nat) → Nat
  | 0, F => F fun _ => false
  | k + 1, F => bs k fun σ => F (st σ k false) + F (st σ k true)
theorem bs_congr {F G : (Nat → Bool) → Nat} : ∀ {k : Nat}, (∀ σ, F σ = G σ) → bs k F = bs k G
  | 0, h => h _
  | k + 1, h => bs_congr (k := k) fun σ => by rw [h, h]
theorem bs_add (F G : (Nat → Bool) → Nat) : ∀ k, bs k (fun σ => F σ + G σ) = bs k F + bs k G
  | 0 => rfl
  | k + 1 => by
    show bs k (fun σ => (F (st σ k false) + G (st σ k false)) + (F (st σ k true) + G (st σ k true))) = bs k _ + bs k _
    rw [← bs_add]
    exact bs_congr fun σ => by omega
theorem bs_even : ∀ {k : Nat} {F : (Nat → Bool) → Nat}, (∀ σ, F σ % 2 = 0) → bs k F % 2 = 0
  | 0, F, h => h _
  | k + 1, F, h => bs_even (k := k) fun σ => by have := h (st σ k false); have := h (st σ k true); omega
theorem bs_indep {i : Nat} : ∀ {k : Nat} {F : (Nat → Bool) → Nat}, i < k → (∀ σ b, F (st σ i b) = F σ) → bs k F % 2 = 0
  | k + 1, F, hi, h => by
    by_cases e : i = k
    · subst e
      exact bs_even (k := i) fun σ => by rw [h, h]; omega
    · exact bs_indep (i := i) (k := k) (by omega) fun σ b => by rw [st_comm σ b false e, st_comm σ b true e, h, h]
theorem bs_only : ∀ {n : Nat} {F : (Nat → Bool) → Nat}, (∀ τ, (∃ i, i < n ∧ τ i = true) → F τ = 0) → (∀ τ, (∀ i, i < n → τ i = false) → F τ = 1) → bs n F = 1
  | 0, F, _, h1 => h1 _ fun i hi => absurd hi (by omega)
  | n + 1, F, h0, h1 => by
    refine bs_only (n := n) (fun τ ⟨i, hi, ht⟩ => ?_) fun τ ht => ?_
    · rw [h0 (st τ n false) ⟨i, by omega, by rw [st_ne _ _ (by omega)]; exact ht⟩, h0 (st τ n true) ⟨n, by omega, st_at ..⟩]
    · rw [h1 (st τ n false) fun i hi => ?_, h0 (st τ n true) ⟨n, by omega, st_at ..⟩]
      by_cases e : i = n
      · rw [e]; exact st_at ..
      · rw [st_ne _ _ e]; exact ht i (by omega)
variable {C : Nat → Nat → Rat}
theorem vx_congr {k : Nat} {σ τ : Nat → Bool} {f : Nat × Bool} (h : ∀ j, j < k → σ j = τ j) : vx C k σ f → vx C k τ f := fun ⟨z, a, b, c⟩ => ⟨z, a, fun j hj => by rw [← h j hj]; exact b j hj, c⟩
/-- both facets of a card are had, whichever is chosen -/
theorem vx_both {k i : Nat} (hi : i < k) (σ : Nat → Bool) (b : Bool) : vx C k (st σ i b) (i, !(st σ i b i)) → vx C k σ (i, !σ i) := by
  rintro ⟨z, z1, z2, z3⟩
  rw [st_at] at z3
  have h2 := z2 i hi
  rw [st_at] at h2
  refine ⟨z, z1, fun j hj => ?_, ?_⟩
  · by_cases e : j = i
    · subst e
      cases hb : b <;> cases hs : σ j <;> rw [hb] at h2 z3
      · exact h2
      · exact z3
      · exact z3
      · exact h2
    · have := z2 j hj
      rw [st_ne _ _ e] at this
      exact this
  · cases hb : b <;> cases hs : σ i <;> rw [hb] at h2 z3
    · exact z3
    · exact h2
    · exact h2
    · exact z3
theorem vx_flip {k i : Nat} (hi : i < k) (σ : Nat → Bool) (b : Bool) : ind (vx C k (st σ i b) (i, !(st σ i b i))) = ind (vx C k σ (i, !σ i)) := by
  refine ind_congr ⟨vx_both hi σ b, fun h => ?_⟩
  have e : st (st σ i b) i (σ i) = σ := by
    funext j
    by_cases h : j = i
    · rw [h]; exact st_at ..
    · rw [st_ne _ _ h, st_ne _ _ h]
  refine vx_both hi (st σ i b) (σ i) ?_
  rw [e]
  exact h
/-- there is a place where each card has no share or gets all, and not all have no share -/
theorem places (k : Nat) (C0 : ∀ i j, i < k + 1 → j < k + 1 → 0 ≤ C i j) (C1 : ∀ j, j < k + 1 → ∃ i, i < k + 1 ∧ 0 < C i j) :
    ∃ τ : Nat → Bool, (∃ i, i < k + 1 ∧ τ i = true) ∧ vx C k τ (k, τ k) := by
  refine Classical.byContradiction fun hno => ?_
  have e1 : bs k (fun σ => cn (k + 2) fun q => vx C k σ (fct k σ q)) % 2 = 0 := bs_even fun σ => by
    by_cases h : ∃ q, q < k + 2 ∧ vx C k σ (fct k σ q)
    · obtain ⟨q1, h1, v1⟩ := h
      obtain ⟨q2, h2, hne, v2, hu⟩ := edge C0 C1 h1 v1
      rw [cn_two h1 h2 (Ne.symm hne) v1 v2 hu]
    · rw [cn_zero fun q hq v => h ⟨q, hq, v⟩]
  have e2 : ∀ n, n ≤ k → bs k (fun σ => cn n fun q => vx C k σ (fct k σ q)) % 2 = 0 := by
    intro n
    induction n with
    | zero => exact fun _ => bs_even fun σ => rfl
    | succ n ih =>
      intro hn
      have h1 : bs k (fun σ => cn (n + 1) fun q => vx C k σ (fct k σ q)) = bs k (fun σ => cn n fun q => vx C k σ (fct k σ q)) + bs k (fun σ => ind (vx C k σ (fct k σ n))) := bs_add _ _ k
      have h2 : bs k (fun σ => ind (vx C k σ (fct k σ n))) % 2 = 0 := by
        have h3 : bs k (fun σ => ind (vx C k σ (fct k σ n))) = bs k (fun σ => ind (vx C k σ (n, !σ n))) := bs_congr fun σ => by
          unfold fct
          rw [if_pos (by omega)]
        rw [h3]
        exact bs_indep (i := n) (by omega) fun σ b => vx_flip (by omega) σ b
      have := ih (by omega)
      omega
  have e3 : bs k (fun σ => cn (k + 2) fun q => vx C k σ (fct k σ q)) = bs k (fun σ => cn k fun q => vx C k σ (fct k σ q)) + bs (k + 1) (fun τ => ind (vx C k τ (k, τ k))) := by
    rw [show bs (k + 1) (fun τ => ind (vx C k τ (k, τ k))) = bs k (fun σ => ind (vx C k (st σ k false) (k, st σ k false k)) + ind (vx C k (st σ k true) (k, st σ k true k))) from rfl, ← bs_add]
    refine bs_congr fun σ => ?_
    show cn k _ + ind (vx C k σ (fct k σ k)) + ind (vx C k σ (fct k σ (k + 1))) = _
    have f1 : fct k σ k = (k, false) := by unfold fct; rw [if_neg (by omega)]; simp
    have f2 : fct k σ (k + 1) = (k, true) := by unfold fct; rw [if_neg (by omega)]; simp
    rw [f1, f2, st_at, st_at, Nat.add_assoc]
    congr 2
    · exact ind_congr ⟨vx_congr fun j hj => (st_ne _ _ (by omega)).symm, vx_congr fun j hj => st_ne _ _ (by omega)⟩
    · exact ind_congr ⟨vx_congr fun j hj => (st_ne _ _ (by omega)).symm, vx_congr fun j hj => st_ne _ _ (by omega)⟩
  have e4 : bs (k + 1) (fun τ => ind (vx C k τ (k, τ k))) = 1 := by
    refine bs_only (fun τ ht => ind_f fun h => hno ⟨τ, ht, h⟩) fun τ ht => ind_t ?_
    have z0 : ∀ f, lin C (k + 1) f (fun _ => (0 : Rat)) = 0 := fun f => by
      unfold lin
      split
      · rw [sr_zero fun j _ => by grind]; grind
      · rfl
    have s0 : ∀ i, LZ (k + 2) (slk C (k + 1) (i, false) fun _ _ => 0) := fun i c _ => by
      unfold slk
      rw [z0]
      show (0 : Rat) + 0 = 0
      grind
    refine ⟨fun _ _ => 0, fun i hi s => ?_, fun j hj => by rw [ht j (by omega)]; exact s0 j, by rw [ht k (by omega)]; exact s0 k⟩
    cases s
    · exact .inl (s0 i)
    · refine .inr ⟨0, by omega, fun c hc => absurd hc (by omega), ?_⟩
      unfold slk
      rw [z0]
      show (0 : Rat) < 0 + 1
      grind
  have := e2 k (Nat.le_refl _)
  omega
/-- the same with numbers alone -/
theorem nash_z (k : Nat) (C0 : ∀ i j, i < k + 1 → j < k + 1 → 0 ≤ C i j) (C1 : ∀ j, j < k + 1 → ∃ i, i < k + 1 ∧ 0 < C i j) :
    ∃ w : Nat → Rat, (∀ i, i < k + 1 → 0 ≤ w i) ∧ (∀ i, i < k + 1 → sr (k + 1) (fun j => C i j * w j) ≤ 1) ∧ (∀ i, i < k + 1 → w i = 0 ∨ sr (k + 1) (fun j => C i j * w j) = 1) ∧ ∃ i, i < k + 1 ∧ sr (k + 1) (fun j => C i j * w j) = 1 := by
  obtain ⟨τ, ⟨i0, hi0, ht0⟩, z, zf, zs, zk⟩ := places k C0 C1
  have all : ∀ j, j < k + 1 → LZ (k + 2) (slk C (k + 1) (j, τ j) z) := fun j hj => by
    by_cases e : j = k
    · rw [e]; exact zk
    · exact zs j (by omega)
  have sF : ∀ i, slk C (k + 1) (i, false) z 0 = z i 0 := fun i => by
    show z i 0 + 0 = z i 0
    grind
  have sT : ∀ i, slk C (k + 1) (i, true) z 0 = 1 - sr (k + 1) (fun j => C i j * z j 0) := fun i => by
    show - sr (k + 1) (fun j => C i j * z j 0) + 1 = _
    grind
  refine ⟨fun j => z j 0, fun i hi => ?_, fun i hi => ?_, fun i hi => ?_, i0, hi0, ?_⟩
  · have := (zf i hi false).lead (by omega)
    rw [sF] at this
    exact this
  · have := (zf i hi true).lead (by omega)
    rw [sT] at this
    grind
  · have := all i hi 0 (by omega)
    cases h : τ i
    · rw [h, sF] at this
      exact .inl this
    · rw [h, sT] at this
      exact .inr (by grind)
  · have := all i0 hi0 0 (by omega)
    rw [ht0, sT] at this
    grind
end Ns
#print axioms Ns.nash_z

set_option linter.all false
namespace Ns
/-! ### two tables -/
theorem wd (w : Rat) : w * ((w.den : Int) : Rat) = (w.num : Rat) := by
  have h : w = (w.num : Rat) / ((w.den : Int) : Rat) := by
    rw [← Rat.divInt_eq_div, Rat.num_divInt_den]
  have hn : ((w.den : Int) : Rat) ≠ 0 := by
    have := w.den_nz
    intro e
    have := Rat.intCast_inj (a := (w.den : Int)) (b := 0) |>.mp e
    omega
  generalize ((w.den : Int) : Rat) = d at *
  generalize (w.num : Rat) = n at *
  grind
/-- one number under all -/
theorem common (w : Nat → Rat) : ∀ n, ∃ (D : Int) (W : Nat → Int), 0 < D ∧ ∀ i, i < n → w i * (D : Rat) = (W i : Rat)
  | 0 => ⟨1, fun _ => 0, by decide, fun i h => absurd h (by omega)⟩
  | n + 1 => by
    obtain ⟨D, W, hD, h⟩ := common w n
    refine ⟨D * (w n).den, fun i => if i = n then (w n).num * D else W i * (w n).den, Int.mul_pos hD (by have := (w n).den_pos; omega), fun i hi => ?_⟩
    dsimp only
    by_cases e : i = n
    · subst e
      rw [if_pos rfl, Rat.intCast_mul, Rat.intCast_mul]
      rw [← wd (w i)]
      grind
    · have := h i (by omega)
      rw [if_neg e, Rat.intCast_mul, Rat.intCast_mul, ← this]
      grind
theorem sr_int (f : Nat → Int) : ∀ n, sr n (fun j => (f j : Rat)) = ((Gm.sm n f : Int) : Rat)
  | 0 => rfl
  | n + 1 => by
    show sr n (fun j => (f j : Rat)) + (f n : Rat) = ((Gm.sm n f + f n : Int) : Rat)
    rw [sr_int f n, Rat.intCast_add]
theorem sm_split (f : Nat → Int) (m : Nat) : ∀ n, Gm.sm (m + n) f = Gm.sm m f + Gm.sm n fun j => f (m + j)
  | 0 => by show Gm.sm m f = Gm.sm m f + 0; omega
  | n + 1 => by
    show Gm.sm (m + n) f + f (m + n) = Gm.sm m f + (Gm.sm n (fun j => f (m + j)) + f (m + n))
    rw [sm_split f m n]
    omega
/-- mixtures from which neither would turn, as points -/
theorem nash {a b : Nat → Nat → Int} {m n : Nat} {s : Int} (hm : 0 < m) (hn : 0 < n) (ha : ∀ i j, i < m → j < n → 0 < a i j + s) (hb : ∀ i j, i < m → j < n → 0 < b j i + s) :
    ∃ (x y : Nat → Int) (X S N M : Int), Gm.Pt a m n y S N ∧ Gm.Pt b n m x X M ∧ (∀ i, i < m → x i = 0 ∨ Gm.sm n (fun j => a i j * y j) = N) ∧ ∀ j, j < n → y j = 0 ∨ Gm.sm m (fun i => b j i * x i) = M := by
  obtain ⟨k, hk⟩ : ∃ k, m + n = k + 1 := ⟨m + n - 1, by omega⟩
  let c : Nat → Nat → Int := fun i j => if i < m then (if j < m then 0 else a i (j - m) + s) else (if j < m then b (i - m) j + s else 0)
  have c0 : ∀ i j, i < m + n → j < m + n → 0 ≤ c i j := fun i j hi hj => by
    show 0 ≤ if i < m then (if j < m then 0 else a i (j - m) + s) else (if j < m then b (i - m) j + s else 0)
    split
    · split
      · omega
      · have := ha i (j - m) (by omega) (by omega); omega
    · split
      · have := hb j (i - m) (by omega) (by omega); omega
      · omega
  obtain ⟨w, w0, w1, w2, i0, hi0, w3⟩ := nash_z (C := fun i j => (c i j : Rat)) k (fun i j hi hj => by have := c0 i j (by omega) (by omega); exact Rat.intCast_nonneg.mpr this) (fun j hj => by
    by_cases h : j < m
    · refine ⟨m, by omega, ?_⟩
      have : 0 < c m j := by
        show 0 < if m < m then (if j < m then 0 else a m (j - m) + s) else (if j < m then b (m - m) j + s else 0)
        rw [if_neg (by omega), if_pos h]
        exact hb j (m - m) h (by omega)
      exact Rat.intCast_pos.mpr this
    · refine ⟨0, by omega, ?_⟩
      have : 0 < c 0 j := by
        show 0 < if 0 < m then (if j < m then 0 else a 0 (j - m) + s) else (if j < m then b (0 - m) j + s else 0)
        rw [if_pos hm, if_neg h]
        exact ha 0 (j - m) hm (by omega)
      exact Rat.intCast_pos.mpr this)
  obtain ⟨D, W, hD, hW⟩ := common w (k + 1)
  have hDq : (0 : Rat) < (D : Rat) := Rat.intCast_pos.mpr hD
  -- the sums, whole
  have sums : ∀ i, sr (k + 1) (fun j => (c i j : Rat) * w j) * (D : Rat) = ((Gm.sm (k + 1) (fun j => c i j * W j) : Int) : Rat) := fun i => by
    rw [← sr_int, Rat.mul_comm, ← sr_mul]
    refine sr_congr fun j hj => ?_
    rw [Rat.intCast_mul, ← hW j hj]
    grind
  have nn : ∀ i, i < m + n → 0 ≤ W i := fun i hi => by
    have h1 := Rat.mul_nonneg (w0 i (by omega)) (Rat.le_of_lt hDq)
    rw [hW i (by omega)] at h1
    exact Rat.intCast_nonneg.mp h1
  have le : ∀ i, i < m + n → Gm.sm (k + 1) (fun j => c i j * W j) ≤ D := fun i hi => by
    have h1 := Rat.mul_le_mul_of_nonneg_right (w1 i (by omega)) (Rat.le_of_lt hDq)
    rw [sums, Rat.one_mul] at h1
    exact Rat.intCast_le_intCast.mp h1
  have eq : ∀ i, i < m + n → sr (k + 1) (fun j => (c i j : Rat) * w j) = 1 → Gm.sm (k + 1) (fun j => c i j * W j) = D := fun i hi h => by
    have h1 := sums i
    rw [h, Rat.one_mul] at h1
    exact (Rat.intCast_inj.mp h1).symm
  have cp : ∀ i, i < m + n → W i = 0 ∨ Gm.sm (k + 1) (fun j => c i j * W j) = D := fun i hi => by
    rcases w2 i (by omega) with h | h
    · have h1 := hW i (by omega)
      rw [h, Rat.zero_mul] at h1
      exact .inl (Rat.intCast_inj.mp (h1.symm))
    · exact .inr (eq i hi h)
  have rowS : ∀ i, i < m → Gm.sm (k + 1) (fun j => c i j * W j) = Gm.sm n (fun j => a i j * W (m + j)) + s * Gm.sm n (fun j => W (m + j)) := fun i hi => by
    rw [← hk, sm_split]
    have e1 : Gm.sm m (fun j => c i j * W j) = 0 := by
      rw [Gm.sm_congr (g := fun _ => 0) fun j hj => ?_, Gm.sm_zero]
      show (if i < m then (if j < m then 0 else a i (j - m) + s) else (if j < m then b (i - m) j + s else 0)) * W j = 0
      rw [if_pos hi, if_pos hj, Int.zero_mul]
    rw [e1, ← Gm.sm_mul, ← Gm.sm_add, Int.zero_add]
    refine Gm.sm_congr fun j hj => ?_
    show (if i < m then (if m + j < m then 0 else a i (m + j - m) + s) else (if m + j < m then b (i - m) (m + j) + s else 0)) * W (m + j) = _
    rw [if_pos hi, if_neg (by omega), show m + j - m = j by omega, Int.add_mul]
  have colS : ∀ j, j < n → Gm.sm (k + 1) (fun i => c (m + j) i * W i) = Gm.sm m (fun i => b j i * W i) + s * Gm.sm m W := fun j hj => by
    rw [← hk, sm_split]
    have e1 : Gm.sm n (fun i => c (m + j) (m + i) * W (m + i)) = 0 := by
      rw [Gm.sm_congr (g := fun _ => 0) fun i hi => ?_, Gm.sm_zero]
      show (if m + j < m then (if m + i < m then 0 else a (m + j) (m + i - m) + s) else (if m + i < m then b (m + j - m) (m + i) + s else 0)) * W (m + i) = 0
      rw [if_neg (by omega), if_neg (by omega), Int.zero_mul]
    rw [e1, ← Gm.sm_mul, ← Gm.sm_add, Int.add_zero]
    refine Gm.sm_congr fun i hi => ?_
    show (if m + j < m then (if i < m then 0 else a (m + j) (i - m) + s) else (if i < m then b (m + j - m) i + s else 0)) * W i = _
    rw [if_neg (by omega), if_pos hi, show m + j - m = j by omega, Int.add_mul]
  -- neither is nought
  have xpos : (∃ i, i < m ∧ 0 < W i) → ∃ j, j < n ∧ 0 < W (m + j) := by
    rintro ⟨i, hi, h⟩
    refine Classical.byContradiction fun hc => ?_
    have z : ∀ j, j < n → W (m + j) = 0 := fun j hj => by
      have := nn (m + j) (by omega)
      refine Classical.byContradiction fun hz => hc ⟨j, hj, by omega⟩
    rcases cp i (by omega) with h' | h'
    · omega
    · rw [rowS i hi, Gm.sm_congr (g := fun _ => 0) (fun j hj => by rw [z j hj, Int.mul_zero]), Gm.sm_zero, Gm.sm_congr (g := fun _ => 0) (fun j hj => z j hj), Gm.sm_zero] at h'
      omega
  have ypos : (∃ j, j < n ∧ 0 < W (m + j)) → ∃ i, i < m ∧ 0 < W i := by
    rintro ⟨j, hj, h⟩
    refine Classical.byContradiction fun hc => ?_
    have z : ∀ i, i < m → W i = 0 := fun i hi => by
      have := nn i (by omega)
      refine Classical.byContradiction fun hz => hc ⟨i, hi, by omega⟩
    rcases cp (m + j) (by omega) with h' | h'
    · omega
    · rw [colS j hj, Gm.sm_congr (g := fun _ => 0) (fun i hi => by rw [z i hi, Int.mul_zero]), Gm.sm_zero, Gm.sm_congr (f := W) (g := fun _ => 0) (fun i hi => z i hi), Gm.sm_zero] at h'
      omega
  have both : (∃ i, i < m ∧ 0 < W i) ∧ ∃ j, j < n ∧ 0 < W (m + j) := by
    have h1 := eq i0 (by omega) w3
    have h2 : ∃ j, j < k + 1 ∧ 0 < W j := by
      refine Classical.byContradiction fun hc => ?_
      have z : ∀ j, j < k + 1 → W j = 0 := fun j hj => by
        have := nn j (by omega)
        refine Classical.byContradiction fun hz => hc ⟨j, hj, by omega⟩
      rw [Gm.sm_congr (g := fun _ => 0) (fun j hj => by rw [z j hj, Int.mul_zero]), Gm.sm_zero] at h1
      omega
    obtain ⟨j, hj, hp⟩ := h2
    by_cases h : j < m
    · exact ⟨⟨j, h, hp⟩, xpos ⟨j, h, hp⟩⟩
    · have : ∃ j, j < n ∧ 0 < W (m + j) := ⟨j - m, by omega, by rw [show m + (j - m) = j by omega]; exact hp⟩
      exact ⟨ypos this, this⟩
  obtain ⟨⟨i1, hi1, p1⟩, j1, hj1, p2⟩ := both
  have S0 : 0 < Gm.sm n fun j => W (m + j) := Gm.sm_pos (fun j hj => nn (m + j) (by omega)) ⟨j1, hj1, p2⟩
  have X0 : 0 < Gm.sm m W := Gm.sm_pos (fun i hi => nn i (by omega)) ⟨i1, hi1, p1⟩
  have tr : ∀ i, i < m → W i = 0 ∨ Gm.sm n (fun j => a i j * W (m + j)) = D - s * Gm.sm n fun j => W (m + j) := fun i hi => by
    rcases cp i (by omega) with h | h
    · exact .inl h
    · rw [rowS i hi] at h; exact .inr (by omega)
  have tc : ∀ j, j < n → W (m + j) = 0 ∨ Gm.sm m (fun i => b j i * W i) = D - s * Gm.sm m W := fun j hj => by
    rcases cp (m + j) (by omega) with h | h
    · exact .inl h
    · rw [colS j hj] at h; exact .inr (by omega)
  refine ⟨W, fun j => W (m + j), Gm.sm m W, Gm.sm n fun j => W (m + j), D - s * Gm.sm n fun j => W (m + j), D - s * Gm.sm m W, ⟨S0, fun j hj => nn (m + j) (by omega), rfl, fun i hi => ?_, i1, hi1, ?_⟩, ⟨X0, fun i hi => nn i (by omega), rfl, fun j hj => ?_, j1, hj1, ?_⟩, tr, tc⟩
  · have := le i (by omega)
    rw [rowS i hi] at this
    omega
  · rcases tr i1 hi1 with h | h
    · omega
    · exact h
  · have := le (m + j) (by omega)
    rw [colS j hj] at this
    omega
  · rcases tc j1 hj1 with h | h
    · omega
    · exact h
end Ns
namespace Gm
/-- two choices from whose mixtures neither would turn -/
structure Sett (U V : List (List Int)) (m n : Nat) (R C R' C' : List Nat) : Prop where
  g : Good2 m n R C
  k : Corner U m n R C
  g' : Good2 n m R' C'
  k' : Corner V n m R' C'
  rows : ∀ i, i < m → yOf C' (shM V R' C') i = 0 ∨ gain U n (yOf C (shM U R C)) i = gain U n (yOf C (shM U R C)) (R.headD 0)
  cols : ∀ j, j < n → yOf C (shM U R C) j = 0 ∨ gain V m (yOf C' (shM V R' C')) j = gain V m (yOf C' (shM V R' C')) (R'.headD 0)
theorem sett {U V : List (List Int)} {m n : Nat} (hm : 0 < m) (hn : 0 < n) (m4 : m ≤ 4) (n4 : n ≤ 4) (ha : ∀ i j, i < m → j < n → -200 ≤ cell U i j) (hb : ∀ i j, i < m → j < n → -200 ≤ cell V j i) : ∃ R C R' C', Sett U V m n R C R' C' := by
  obtain ⟨x, y, X, S, N, M, P, P', tr, tc⟩ := Ns.nash (a := cell U) (b := cell V) (m := m) (n := n) (s := 201) hm hn (fun i j hi hj => by have := ha i j hi hj; omega) (fun i j hi hj => by have := hb i j hi hj; omega)
  obtain ⟨R, C, g, k, _, hs, ht⟩ := complete2 P m4 n4
  obtain ⟨R', C', g', k', _, hs', ht'⟩ := complete2 P' n4 m4
  refine ⟨R, C, R', C', g, k, g', k', fun i hi => ?_, fun j hj => ?_⟩
  · rcases tr i hi with h | h
    · exact .inl (hs' i hi h)
    · exact .inr (ht i hi h)
  · rcases tc j hj with h | h
    · exact .inl (hs j hj h)
    · exact .inr (ht' j hj h)
end Gm

set_option linter.all false
namespace Gm
/-! ### one table: what either is sure of, by two mixtures -/
theorem sm_frontX (f : Nat → Int) : ∀ n, sm (n + 1) f = f 0 + sm n fun j => f (j + 1)
  | 0 => by show (0 : Int) + f 0 = f 0 + 0; omega
  | n + 1 => by
    show sm (n + 1) f + f (n + 1) = f 0 + (sm n (fun j => f (j + 1)) + f (n + 1))
    rw [sm_frontX f n]
    omega
theorem sm_revX (f : Nat → Int) : ∀ n, (sm n fun j => f (n - 1 - j)) = sm n f
  | 0 => rfl
  | n + 1 => by
    rw [sm_frontX]
    show f (n + 1 - 1 - 0) + sm n (fun j => f (n + 1 - 1 - (j + 1))) = sm n f + f n
    rw [show n + 1 - 1 - 0 = n by omega, sm_congr (g := fun j => f (n - 1 - j)) fun j _ => by rw [show n + 1 - 1 - (j + 1) = n - 1 - j by omega], sm_revX f n]
    omega
structure Sd (u : Nat → Nat → Int) (m n : Nat) (N S : Int) (y : Nat → Int) (X : Int) (x : Nat → Int) : Prop where
  pos : 0 < S
  posx : 0 < X
  ny : ∀ j, j < n → 0 ≤ y j
  nx : ∀ i, i < m → 0 ≤ x i
  sy : sm n y = S
  sx : sm m x = X
  rows : ∀ i, i < m → sm n (fun j => u i j * y j) ≤ N
  cls : ∀ j, j < n → N * X ≤ sm m (fun i => u i j * x i) * S
/-- over all places, from either side -/
theorem dbl (u : Nat → Nat → Int) (m n : Nat) (x y : Nat → Int) : sm m (fun i => x i * sm n fun j => u i j * y j) = sm n fun j => y j * sm m fun i => u i j * x i := by
  have e1 : sm m (fun i => x i * sm n fun j => u i j * y j) = sm m fun i => sm n fun j => x i * (u i j * y j) := sm_congr fun i _ => (sm_mul ..).symm
  have e2 : (sm n fun j => y j * sm m fun i => u i j * x i) = sm n fun j => sm m fun i => y j * (u i j * x i) := sm_congr fun j _ => (sm_mul ..).symm
  rw [e1, e2, sm_swap (fun i j => y j * (u i j * x i)) m n]
  exact sm_congr fun i _ => sm_congr fun j _ => by grind
theorem up_rows {u : Nat → Nat → Int} {m n : Nat} {N X : Int} {x y : Nat → Int} (nx : ∀ i, i < m → 0 ≤ x i) (sx : sm m x = X) (rows : ∀ i, i < m → sm n (fun j => u i j * y j) ≤ N) : sm m (fun i => x i * sm n fun j => u i j * y j) ≤ N * X := by
  have : sm m (fun i => x i * sm n fun j => u i j * y j) ≤ sm m fun i => N * x i := sm_le fun i hi => by
    have := Int.mul_le_mul_of_nonneg_left (rows i hi) (nx i hi)
    rw [Int.mul_comm N]
    exact this
  rw [sm_mul, sx] at this
  exact this
theorem up_cls {u : Nat → Nat → Int} {m n : Nat} {N X S Y : Int} {x y : Nat → Int} (ny : ∀ j, j < n → 0 ≤ y j) (sy : sm n y = Y) (cls : ∀ j, j < n → N * X ≤ sm m (fun i => u i j * x i) * S) : N * X * Y ≤ sm m (fun i => x i * sm n fun j => u i j * y j) * S := by
  rw [dbl]
  have e : (sm n fun j => y j * sm m fun i => u i j * x i) * S = sm n fun j => y j * (sm m (fun i => u i j * x i) * S) := by
    rw [Int.mul_comm, ← sm_mul]
    exact sm_congr fun j _ => by grind
  rw [e, ← sy, ← sm_mul]
  refine sm_le fun j hj => ?_
  have := Int.mul_le_mul_of_nonneg_left (cls j hj) (ny j hj)
  rw [Int.mul_comm (N * X)]
  exact this
theorem Sd.le {u : Nat → Nat → Int} {m n : Nat} {N S X N' S' X' : Int} {y x y' x' : Nat → Int} (h : Sd u m n N S y X x) (h' : Sd u m n N' S' y' X' x') : N * S' ≤ N' * S := by
  have a1 := up_rows h.nx h.sx h'.rows
  have a2 := up_cls h'.ny h'.sy h.cls
  have a3 := Int.mul_le_mul_of_nonneg_right a1 (Int.le_of_lt h.pos)
  have a4 : N * S' * X ≤ N' * S * X := by grind
  exact Int.le_of_mul_le_mul_right a4 h.posx
theorem Sd.eq {u : Nat → Nat → Int} {m n : Nat} {N S X N' S' X' : Int} {y x y' x' : Nat → Int} (h : Sd u m n N S y X x) (h' : Sd u m n N' S' y' X' x') : N * S' = N' * S := Int.le_antisymm (h.le h') (h'.le h)
/-- of any one the rows' mixture, of any other one the columns' -/
theorem Sd.cross {u : Nat → Nat → Int} {m n : Nat} {N S X N' S' X' : Int} {y x y' x' : Nat → Int} (h : Sd u m n N S y X x) (h' : Sd u m n N' S' y' X' x') : Sd u m n N' S' y' X x := by
  have e := h.eq h'
  refine ⟨h'.pos, h.posx, h'.ny, h.nx, h'.sy, h.sx, h'.rows, fun j hj => ?_⟩
  have a1 := Int.mul_le_mul_of_nonneg_right (h.cls j hj) (Int.le_of_lt h'.pos)
  generalize sm m (fun i => u i j * x i) = d at *
  have a2 : N' * X * S ≤ d * S' * S := by grind
  exact Int.le_of_mul_le_mul_right a2 h.pos
theorem Sd.val {u : Nat → Nat → Int} {m n : Nat} {N S X : Int} {y x : Nat → Int} (h : Sd u m n N S y X x) : sm m (fun i => x i * sm n fun j => u i j * y j) = N * X := by
  have a1 := up_rows h.nx h.sx h.rows
  have a2 := up_cls h.ny h.sy h.cls
  have a3 : N * X ≤ sm m (fun i => x i * sm n fun j => u i j * y j) := Int.le_of_mul_le_mul_right a2 h.pos
  omega
/-- a sum of what is not below nought is nought: all are -/
theorem sm_all0 {f : Nat → Int} : ∀ {n : Nat}, (∀ j, j < n → 0 ≤ f j) → sm n f = 0 → ∀ j, j < n → f j = 0 := by
  intro n h h0 j hj
  refine Classical.byContradiction fun hne => ?_
  have := sm_pos h ⟨j, hj, by have := h j hj; omega⟩
  omega
theorem Sd.row_best {u : Nat → Nat → Int} {m n : Nat} {N S X : Int} {y x : Nat → Int} (h : Sd u m n N S y X x) {i : Nat} (hi : i < m) : x i = 0 ∨ ∀ i', i' < m → sm n (fun j => u i' j * y j) ≤ sm n (fun j => u i j * y j) := by
  have e : sm m (fun i => x i * (N + -1 * sm n fun j => u i j * y j)) = 0 := by
    have e1 : sm m (fun i => x i * (N + -1 * sm n fun j => u i j * y j)) = sm m (fun i => N * x i) + sm m fun i => -1 * (x i * sm n fun j => u i j * y j) := by
      rw [← sm_add]
      exact sm_congr fun i _ => by grind
    rw [e1, sm_mul, sm_mul, h.sx, h.val]
    omega
  have := sm_all0 (fun i hi => Int.mul_nonneg (h.nx i hi) (by have := h.rows i hi; omega)) e i hi
  rcases Int.mul_eq_zero.mp this with z | z
  · exact .inl z
  · exact .inr fun i' hi' => by have := h.rows i' hi'; omega
theorem Sd.col_best {u : Nat → Nat → Int} {m n : Nat} {N S X : Int} {y x : Nat → Int} (h : Sd u m n N S y X x) {j : Nat} (hj : j < n) : y j = 0 ∨ ∀ j', j' < n → sm m (fun i => u i j * x i) ≤ sm m (fun i => u i j' * x i) := by
  have e : sm n (fun j => y j * (sm m (fun i => u i j * x i) * S + -1 * (N * X))) = 0 := by
    have e1 : sm n (fun j => y j * (sm m (fun i => u i j * x i) * S + -1 * (N * X))) = sm n (fun j => S * (y j * sm m fun i => u i j * x i)) + sm n fun j => -1 * (N * X) * y j := by
      rw [← sm_add]
      exact sm_congr fun j _ => by grind
    rw [e1, sm_mul, sm_mul, ← dbl, h.val, h.sy]
    grind
  have := sm_all0 (fun j hj => Int.mul_nonneg (h.ny j hj) (by have := h.cls j hj; omega)) e j hj
  rcases Int.mul_eq_zero.mp this with z | z
  · exact .inl z
  · refine .inr fun j' hj' => ?_
    have := h.cls j' hj'
    exact Int.le_of_mul_le_mul_right (by omega) h.pos
theorem Sd.of {u : Nat → Nat → Int} {m n : Nat} {S X : Int} {y x : Nat → Int} (pos : 0 < S) (posx : 0 < X) (ny : ∀ j, j < n → 0 ≤ y j) (nx : ∀ i, i < m → 0 ≤ x i) (sy : sm n y = S) (sx : sm m x = X)
    (rb : ∀ i, i < m → x i = 0 ∨ ∀ i', i' < m → sm n (fun j => u i' j * y j) ≤ sm n (fun j => u i j * y j)) (cb : ∀ j, j < n → y j = 0 ∨ ∀ j', j' < n → sm m (fun i => u i j * x i) ≤ sm m (fun i => u i j' * x i)) : ∃ N, Sd u m n N S y X x := by
  obtain ⟨i0, hi0, p0⟩ := sm_ex (f := x) (n := m) (by omega)
  obtain ⟨j0, hj0, q0⟩ := sm_ex (f := y) (n := n) (by omega)
  have r0 := (rb i0 hi0).resolve_left (by omega)
  have c0 := (cb j0 hj0).resolve_left (by omega)
  have e1 : sm m (fun i => x i * sm n fun j => u i j * y j) = sm n (fun j => u i0 j * y j) * X := by
    rw [← sx, ← sm_mul]
    refine sm_congr fun i hi => ?_
    rcases rb i hi with z | z
    · rw [z, Int.zero_mul, Int.mul_zero]
    · have a1 := z i0 hi0
      have a2 := r0 i hi
      rw [show sm n (fun j => u i j * y j) = sm n (fun j => u i0 j * y j) by omega, Int.mul_comm]
  have e2 : (sm n fun j => y j * sm m fun i => u i j * x i) = sm m (fun i => u i j0 * x i) * S := by
    rw [← sy, ← sm_mul]
    refine sm_congr fun j hj => ?_
    rcases cb j hj with z | z
    · rw [z, Int.zero_mul, Int.mul_zero]
    · have a1 := z j0 hj0
      have a2 := c0 j hj
      rw [show sm m (fun i => u i j * x i) = sm m (fun i => u i j0 * x i) by omega, Int.mul_comm]
  rw [dbl, e2] at e1
  refine ⟨sm n (fun j => u i0 j * y j), pos, posx, ny, nx, sy, sx, r0, fun j hj => ?_⟩
  rw [← e1]
  exact Int.mul_le_mul_of_nonneg_right (c0 j hj) (Int.le_of_lt pos)
theorem Sd.congr {u u' : Nat → Nat → Int} {m n : Nat} {N S X : Int} {y x y' x' : Nat → Int} (h : Sd u m n N S y X x) (hu : ∀ i j, i < m → j < n → u' i j = u i j) (hy : ∀ j, j < n → y' j = y j) (hx : ∀ i, i < m → x' i = x i) : Sd u' m n N S y' X x' := by
  refine ⟨h.pos, h.posx, fun j hj => by rw [hy j hj]; exact h.ny j hj, fun i hi => by rw [hx i hi]; exact h.nx i hi, by rw [sm_congr hy]; exact h.sy, by rw [sm_congr hx]; exact h.sx, fun i hi => ?_, fun j hj => ?_⟩
  · rw [sm_congr (g := fun j => u i j * y j) fun j hj => by rw [hu i j hi hj, hy j hj]]
    exact h.rows i hi
  · rw [sm_congr (g := fun i => u i j * x i) fun i hi => by rw [hu i j hi hj, hx i hi]]
    exact h.cls j hj
/-- from the last -/
theorem Sd.rev {u u' : Nat → Nat → Int} {m n : Nat} {N S X : Int} {y x : Nat → Int} (h : Sd u' m n N S y X x) (hu : ∀ i j, i < m → j < n → u' i j = u (m - 1 - i) (n - 1 - j)) : Sd u m n N S (fun j => y (n - 1 - j)) X (fun i => x (m - 1 - i)) := by
  refine ⟨h.pos, h.posx, fun j hj => h.ny _ (by omega), fun i hi => h.nx _ (by omega), by rw [sm_revX]; exact h.sy, by rw [sm_revX]; exact h.sx, fun i hi => ?_, fun j hj => ?_⟩
  · have := h.rows (m - 1 - i) (by omega)
    rw [← sm_revX] at this
    rw [sm_congr (g := fun j => u' (m - 1 - i) (n - 1 - j) * y (n - 1 - j)) fun j hj => by rw [hu _ _ (by omega) (by omega), show m - 1 - (m - 1 - i) = i by omega, show n - 1 - (n - 1 - j) = j by omega]]
    exact this
  · have := h.cls (n - 1 - j) (by omega)
    rw [← sm_revX] at this
    rw [sm_congr (g := fun i => u' (m - 1 - i) (n - 1 - j) * x (m - 1 - i)) fun i hi => by rw [hu _ _ (by omega) (by omega), show m - 1 - (m - 1 - i) = i by omega, show n - 1 - (n - 1 - j) = j by omega]]
    exact this
/-- as the other sees it -/
theorem Sd.turn {u u' : Nat → Nat → Int} {m n : Nat} {N S X : Int} {y x : Nat → Int} (h : Sd u' n m N S y X x) (hm : 0 < m) (hu : ∀ i j, i < m → j < n → u' j i = - u i j) : ∃ N', Sd u m n N' X x S y := by
  obtain ⟨i0, hi0, hmax⟩ := max_of (fun i => sm n fun j => u i j * x j) hm
  have ec : ∀ i, i < m → sm n (fun j => u' j i * x j) = -1 * sm n fun j => u i j * x j := fun i hi => by
    rw [← sm_mul]
    exact sm_congr fun j hj => by rw [hu i j hi hj]; grind
  have er : ∀ j, j < n → sm m (fun i => u' j i * y i) = -1 * sm m fun i => u i j * y i := fun j hj => by
    rw [← sm_mul]
    exact sm_congr fun i hi => by rw [hu i j hi hj]; grind
  refine ⟨sm n (fun j => u i0 j * x j), h.posx, h.pos, h.nx, h.ny, h.sx, h.sy, hmax, fun j hj => ?_⟩
  have a1 := h.cls i0 hi0
  rw [ec i0 hi0] at a1
  have a2 := h.rows j hj
  rw [er j hj] at a2
  have a3 := Int.mul_le_mul_of_nonneg_right a2 (Int.le_of_lt h.posx)
  generalize sm n (fun j => u i0 j * x j) = p at *
  generalize sm m (fun i => u i j * y i) = q at *
  grind
end Gm

set_option Elab.async false
set_option linter.all false
set_option maxRecDepth 100000
/-! SIZES of ints, long products; fractions with denominators of their own. -/
namespace L2
open PySem PySem.Spec PyProof.Rows
def Sz (k : Nat) (x : Int) : Prop := x.natAbs < 2 ^ k
theorem Sz.mono {a b : Nat} {x : Int} (h : Sz a x) (hab : a ≤ b) : Sz b x := Nat.lt_of_lt_of_le h (Nat.pow_le_pow_right (by decide) hab)
theorem Sz.mul {a b : Nat} {x y : Int} (h : Sz a x) (q : Sz b y) : Sz (a + b) (x * y) := by
  unfold Sz at *
  rw [Int.natAbs_mul, Nat.pow_add]
  exact Nat.mul_lt_mul'' h q
theorem Sz.add {k : Nat} {x y : Int} (h : Sz k x) (q : Sz k y) : Sz (k + 1) (x + y) := by
  unfold Sz at *
  rw [Nat.pow_succ]
  have := Int.natAbs_add_le x y
  omega
theorem Sz.fst {k : Nat} {a b : Int} (hb : 0 < b) (h : Sz k a) : Sz k (Fr.mk a b).1 := Nat.lt_of_le_of_lt (Fr.mk_fst_le hb) h
theorem Sz.snd {k : Nat} {a b : Int} (hb : 0 < b) (h : Sz k b) : Sz k (Fr.mk a b).2 := by
  unfold Sz at *
  have h1 := Fr.mk_snd_le (a := a) hb
  have h2 := Fr.mk_pos (a := a) hb
  omega
theorem Sz.log {k : Nat} {x : Int} (h : Sz k x) (hk : 0 < k) : x.natAbs.log2 < k := by
  rcases Nat.eq_zero_or_pos x.natAbs with h0 | hp
  · rw [h0]; simpa using hk
  · exact (Nat.log2_lt (Nat.ne_of_gt hp)).mpr h
theorem Sz.bits {x : Int} (h : Sz 4000 x) : Builtin.Int.intBits x ≤ 2 ^ 20 := by
  unfold Builtin.Int.intBits
  split
  · exact Nat.zero_le _
  · have := h.log (by decide)
    have e : (2 : Nat) ^ 20 = 1048576 := by decide
    omega
variable {X : Cx}
def CMulB (i j : Int) : Prop := Sz 4000 i ∧ Sz 4000 j
theorem op_mulB : OpR X (binaryOp .Mult) (rI CMulB fun i j => .int (i * j)) := opI fun _ _ _ _ _ _ _ hc q => mul_int q (IntMulOk.of_bits hc.1.bits hc.2.bits)
theorem cdivB_sz {i j : Int} (h0 : 0 < j) (h : Sz 8000 j) : CDivB i j := ⟨h0, Nat.lt_of_lt_of_le (h.log (by decide)) (by decide)⟩
/-- a fraction in lowest terms -/
structure Pq (q : Int × Int) : Prop where
  pos : 0 < q.2
  cop : Int.gcd q.1 q.2 = 1
theorem Pq.mk_eq {q : Int × Int} (h : Pq q) : Fr.mk q.1 q.2 = q := by
  have := h.cop
  unfold Fr.mk
  rw [this]
  simp
theorem Pq.of {a b : Int} (h : 0 < b) : Pq (Fr.mk a b) := ⟨Fr.mk_pos h, Fr.mk_cop h⟩
/-- fractions of a list: in lowest terms, not too long -/
structure GQ (qs : List (Int × Int)) : Prop where
  pr : ∀ q ∈ qs, Pq q
  s1 : ∀ q ∈ qs, Sz 60 q.1
  s2 : ∀ q ∈ qs, Sz 60 q.2
  len : qs.length ≤ 8
def stp (a : Int × Int) (x : Int × (Int × Int)) : Int × Int := (a.1 * x.2.2 + x.1 * x.2.1 * a.2, a.2 * x.2.2)
def acc (l : List (Int × (Int × Int))) : Int × Int := l.foldl stp (0, 1)
theorem acc_snoc (l : List (Int × (Int × Int))) (x : Int × (Int × Int)) : acc (l ++ [x]) = stp (acc l) x := by
  unfold acc
  rw [List.foldl_append]
  rfl
theorem acc_take {l : List (Int × (Int × Int))} {i : Nat} {x : Int × (Int × Int)} (h : l[i]? = some x) : acc (l.take (i + 1)) = stp (acc (l.take i)) x := by
  rw [List.take_add_one, h]
  exact acc_snoc _ _
/-- each factor is small -/
def GX (l : List (Int × (Int × Int))) : Prop := ∀ x ∈ l, Sz 9 x.1 ∧ Pq x.2 ∧ Sz 60 x.2.1 ∧ Sz 60 x.2.2
theorem acc_sz : ∀ (k : Nat) (l : List (Int × (Int × Int))), l.length = k → GX l → 0 < (acc l).2 ∧ Sz (70 + 61 * k) (acc l).1 ∧ Sz (1 + 60 * k) (acc l).2
  | 0, l, h, _ => by
    have := List.eq_nil_of_length_eq_zero h
    subst this
    exact ⟨by decide, show Sz 70 0 from by unfold Sz; exact Nat.pow_pos (by decide), show Sz 1 1 from by unfold Sz; decide⟩
  | k + 1, l, h, g => by
    have hne : l ≠ [] := fun e => by rw [e] at h; simp at h
    have e : l = l.dropLast ++ [l.getLast hne] := (List.dropLast_concat_getLast hne).symm
    obtain ⟨h1, h2, h3, h4⟩ := g _ (List.getLast_mem hne)
    have ih := acc_sz k l.dropLast (by rw [List.length_dropLast]; omega) fun x hx => g x (List.dropLast_subset l hx)
    rw [e, acc_snoc]
    unfold stp
    refine ⟨Int.mul_pos ih.1 h2.pos, ?_, ?_⟩
    · have a1 : Sz (130 + 61 * k) ((acc l.dropLast).1 * (l.getLast hne).2.2) := (ih.2.1.mul h4).mono (by omega)
      have a2 : Sz (130 + 61 * k) ((l.getLast hne).1 * (l.getLast hne).2.1 * (acc l.dropLast).2) := ((h1.mul h3).mul ih.2.2).mono (by omega)
      exact (a1.add a2).mono (by omega)
    · exact (ih.2.2.mul h4).mono (by omega)
theorem GX.take {l : List (Int × (Int × Int))} (g : GX l) (i : Nat) : GX (l.take i) := fun x hx => g x (List.mem_of_mem_take hx)
/-- what is got: in lowest terms -/
def rowF (r : List Int) (qs : List (Int × Int)) : Int × Int := Fr.mk (acc (r.zip qs)).1 (acc (r.zip qs)).2
theorem gx_zip {r : List Int} {qs : List (Int × Int)} (hr : ∀ x ∈ r, Sz 9 x) (g : GQ qs) : GX (r.zip qs) := fun x hx => by
  have h1 := List.of_mem_zip hx
  exact ⟨hr _ h1.1, g.pr _ h1.2, g.s1 _ h1.2, g.s2 _ h1.2⟩
theorem acc_pos {l : List (Int × (Int × Int))} (g : GX l) : 0 < (acc l).2 := (acc_sz _ l rfl g).1
theorem acc_s1 {l : List (Int × (Int × Int))} (g : GX l) (h : l.length ≤ 8) : Sz 900 (acc l).1 := (acc_sz _ l rfl g).2.1.mono (by omega)
theorem acc_s2 {l : List (Int × (Int × Int))} (g : GX l) (h : l.length ≤ 8) : Sz 900 (acc l).2 := (acc_sz _ l rfl g).2.2.mono (by omega)
theorem rowF_pq {r : List Int} {qs : List (Int × Int)} (hr : ∀ x ∈ r, Sz 9 x) (g : GQ qs) : Pq (rowF r qs) := Pq.of (acc_pos (gx_zip hr g))
theorem zip_le (r : List Int) {qs : List (Int × Int)} (g : GQ qs) : (r.zip qs).length ≤ 8 := by
  rw [List.length_zip]
  have := g.len
  omega
theorem rowF_s1 {r : List Int} {qs : List (Int × Int)} (hr : ∀ x ∈ r, Sz 9 x) (g : GQ qs) : Sz 900 (rowF r qs).1 := (acc_s1 (gx_zip hr g) (zip_le r g)).fst (acc_pos (gx_zip hr g))
theorem rowF_s2 {r : List Int} {qs : List (Int × Int)} (hr : ∀ x ∈ r, Sz 9 x) (g : GQ qs) : Sz 900 (rowF r qs).2 := (acc_s2 (gx_zip hr g) (zip_le r g)).snd (acc_pos (gx_zip hr g))
/-- one more, in lowest terms -/
theorem mk_stp {A D x c d : Int} (hD : 0 < D) (hq : Pq (c, d)) :
    Fr.mk ((Fr.mk A D).1 * (Fr.mk (x * c) (1 * d)).2 + (Fr.mk (x * c) (1 * d)).1 * (Fr.mk A D).2) ((Fr.mk A D).2 * (Fr.mk (x * c) (1 * d)).2) = Fr.mk (stp (A, D) (x, (c, d))).1 (stp (A, D) (x, (c, d))).2 := by
  have hd : 0 < 1 * d := by have := hq.pos; simp only at this; omega
  rw [Fr.mk_add hD hd]
  unfold stp
  simp only [Int.one_mul]
/-- together -/
def ones (qs : List (Int × Int)) : List (Int × (Int × Int)) := qs.map fun q => (1, q)
def mixB (qs : List (Int × Int)) (n : Nat) : Bool := decide (qs.length = n) && (qs.all fun q => decide (0 ≤ q.1)) && decide (Fr.mk (acc (ones qs)).1 (acc (ones qs)).2 = (1, 1))
theorem gx_ones {qs : List (Int × Int)} (g : GQ qs) : GX (ones qs) := fun x hx => by
  obtain ⟨q, hq, rfl⟩ := List.mem_map.mp hx
  exact ⟨show Sz 9 1 from by unfold Sz; decide, g.pr q hq, g.s1 q hq, g.s2 q hq⟩
theorem ones_zip : ∀ qs : List (Int × Int), (qs.map fun _ => (1 : Int)).zip qs = ones qs
  | [] => rfl
  | q :: qs => by
    have h := ones_zip qs
    show (1, q) :: (qs.map fun _ => (1 : Int)).zip qs = (1, q) :: ones qs
    rw [h]
def ltQ (p q : Int × Int) : Bool := decide (p.1 * q.2 < q.1 * p.2)
/-! ### shares over one sum -/
theorem acc_same (S : Int) (hS : 0 < S) : ∀ (r ws : List Int), (acc (r.zip (mks ws S))).1 * S = Fr.dot r ws * (acc (r.zip (mks ws S))).2 := by
  have go : ∀ (r ws : List Int) (a : Int × Int) (d : Int), a.1 * S = d * a.2 → ((r.zip (mks ws S)).foldl stp a).1 * S = (d + Fr.dot r ws) * ((r.zip (mks ws S)).foldl stp a).2 := by
    intro r
    induction r with
    | nil =>
      intro ws a d h
      have e : Fr.dot [] ws = 0 := by cases ws <;> rfl
      rw [e]
      simpa using h
    | cons x r ih =>
      intro ws a d h
      cases ws with
      | nil =>
        show a.1 * S = (d + 0) * a.2
        rw [Int.add_zero]; exact h
      | cons w ws =>
        show ((r.zip (mks ws S)).foldl stp (stp a (x, Fr.mk w S))).1 * S = _
        have hr := Fr.mk_ratio (a := w) hS
        rw [ih ws (stp a (x, Fr.mk w S)) (d + x * w) ?_]
        · show (d + x * w + Fr.dot r ws) * _ = (d + (x * w + Fr.dot r ws)) * _
          rw [Int.add_assoc]
          rfl
        · unfold stp
          simp only
          generalize Fr.mk w S = q at hr
          grind
  intro r ws
  have := go r ws (0, 1) 0 (by simp)
  rw [Int.zero_add] at this
  exact this
theorem mks_gq {ws : List Int} {S : Int} (hS : 0 < S) (h1 : ∀ x ∈ ws, Sz 60 x) (h2 : Sz 60 S) (hl : ws.length ≤ 8) : GQ (mks ws S) := by
  refine ⟨fun q hq => ?_, fun q hq => ?_, fun q hq => ?_, by rw [mks_len]; exact hl⟩
  · obtain ⟨x, _, rfl⟩ := List.mem_map.mp hq
    exact Pq.of hS
  · obtain ⟨x, hx, rfl⟩ := List.mem_map.mp hq
    exact (h1 x hx).fst hS
  · obtain ⟨x, hx, rfl⟩ := List.mem_map.mp hq
    exact h2.snd hS
theorem rowF_mks {r ws : List Int} {S : Int} (hS : 0 < S) (hr : ∀ x ∈ r, Sz 9 x) (g : GQ (mks ws S)) : rowF r (mks ws S) = Fr.mk (Fr.dot r ws) S := by
  unfold rowF
  exact Fr.mk_cross (acc_pos (gx_zip hr g)) hS (acc_same S hS r ws)
theorem dot_ones : ∀ ws : List Int, Fr.dot (ws.map fun _ => 1) ws = ws.sum
  | [] => rfl
  | w :: ws => by
    show 1 * w + Fr.dot (ws.map fun _ => 1) ws = _
    rw [dot_ones ws, List.sum_cons]; omega
/-- shares from nought on that come to their sum -/
theorem mixB_mks {ws : List Int} {S : Int} {n : Nat} (hS : 0 < S) (g : GQ (mks ws S)) (hl : ws.length = n) (hn : ∀ x ∈ ws, 0 ≤ x) (hs : ws.sum = S) : mixB (mks ws S) n = true := by
  unfold mixB
  have e1 : (mks ws S).length = n := by rw [mks_len, hl]
  have e2 : ((mks ws S).all fun q => decide (0 ≤ q.1)) = true := by
    rw [List.all_eq_true]
    intro q hq
    obtain ⟨x, hx, rfl⟩ := List.mem_map.mp hq
    exact decide_eq_true (Fr.mk_nonneg hS (hn x hx))
  have e3 : Fr.mk (acc (ones (mks ws S))).1 (acc (ones (mks ws S))).2 = (1, 1) := by
    rw [← Fr.mk_self hS]
    refine Fr.mk_cross (acc_pos (gx_ones g)) hS ?_
    rw [← ones_zip]
    have e : ((mks ws S).map fun _ => (1 : Int)) = ws.map fun _ => 1 := by unfold mks; rw [List.map_map]; rfl
    rw [e, acc_same S hS, dot_ones, hs]
  rw [decide_eq_true e1, e2, decide_eq_true e3]
  rfl
theorem sz9 {x : Int} (h : -200 ≤ x ∧ x ≤ 200) : Sz 9 x := by
  show x.natAbs < 512
  omega
theorem IsFr.inj {H : Hp} {v : V} {p q : Int × Int} (h : IsFr H v p) (k : IsFr H v q) : p = q := by
  obtain ⟨a, rfl, e⟩ := h
  obtain ⟨b, eb, f⟩ := k
  cases eb
  rw [e] at f
  simp at f
  exact Prod.ext f.1 f.2
theorem IsFr.at {l : Addr} {H : Hp} {v : V} {q : Int × Int} {xs : List V} {o : HO} (hl : H l = some (.lst xs)) (h : IsFr H v q) : IsFr (upd H l o) v q := by
  obtain ⟨b, e, z⟩ := h
  exact ⟨b, e, by rw [upd_ne (ne_of z hl (by intro z; cases z))]; exact z⟩
end L2
namespace PySem
theorem Paired.drop1 {α β : Type} {F : α → β → Prop} : ∀ {l : List α} {r : List β}, Paired F l r → Paired F (l.drop 1) (r.drop 1)
  | _, _, .nil => .nil
  | _, _, .cons _ t => t
end PySem
namespace L2
open PySem PySem.Spec PyProof.Rows
theorem IsTab.drop1 {H : Hp} {p : Addr} {vs : List V} {M : List (List Int)} (hp : H p = none) (h : Paired (IsRow H) vs M) : IsTab (upd H p (.lst (vs.drop 1))) p (M.drop 1) :=
  ⟨_, upd_same, h.drop1.imp2 fun _ _ z => z.mono (same_upd hp)⟩
/-! ### isinstance of own classes -/
structure Isi (K : PySem.W.Frag) (C : Addr) : Prop where
  ha : PySem.W.findIn K (.ref C) "__class__" = some (some (.builtin "object.__class__"))
  hn : PySem.W.specialIn K (.builtin "object.__class__") "__get__" = some (some (.builtin "getset_descriptor.__get__"))
  htk : PySem.W.takesIn K (.builtin "object.__class__") = some true
  hm : PySem.W.mroIn K C (.type "object") = some true
def rIsiC (K : PySem.W.Frag) : List V → Hp → VK → Prop := fun xs H Q => ∃ x t c b, xs = [x, .ref c] ∧ TyOf K H x t ∧ PySem.W.kitOne K t (.ref c) = some b ∧ Q (.bl b) H
end L2


set_option Elab.async false
set_option linter.all false
set_option maxRecDepth 100000
/-! xs[::-1]. -/
namespace L2
open PySem PySem.Spec PyProof.Rows PySem.W
section
variable {X : Cx} {e sx : Expr} {p2 pos : Pos}
def tRev (K : PySem.W.Frag) (te : TE) (tst : TO) : TE := fun σ H Q => te σ H fun x H1 => tst σ H1 fun st H2 => st = some (-1) ∧ ∃ a xs, x = .ref a ∧ SqL K H2 a xs ∧ ∀ p, H2 p = none → Q (.ref p) (upd H2 p (.lst xs.reverse))
theorem pe_rev (K : PySem.W.Frag) {te : TE} {tst : TO} (he : PE X e te) (hst : PO X (some sx) tst) (hK : X.K = K := by rfl) : PE X (.Subscript e (.Slice none none (some sx) p2) pos) (tRev K te tst) := by
  subst hK
  intro pins s σ H Q I h
  refine Subscript_ (thn (he pins s σ H _ I h) fun v s1 ⟨x, H1, I1, r1, q1⟩ => ?_)
  refine wpAny_Slice ?_
  rw [evalPart_none]
  refine wpAny_pure ?_
  refine wpAny_pure ?_
  refine thn (hst pins s1 σ H1 _ I1 q1) fun vst s3 ⟨st, H3, I3, pst, q3⟩ => ?_
  obtain ⟨rfl, a, xs, rfl, hx, q⟩ := q3
  have I4 : Inv X pins σ H3 { s3 with heap := s3.heap.push { cls := .type "slice", data := .fields #[.none, .none, vst] } } := I3.kept (t' := s3.toks) fun b ob q => Heap.get?_push_of_some _ q
  cases r1
  obtain ⟨its, r, ht, hz⟩ := I4.list hx
  have hlen := r.length
  have hg : wpAny (model X.prog X.w) X.A (getItem (.ref a) (.ref s3.heap.objs.size)) (EP X pins σ Q) X.xe { s3 with heap := s3.heap.push { cls := .type "slice", data := .fields #[.none, .none, vst] } } := by
    refine wpAny_getItem_list_slice ht.isList (Heap.IsSliceOf.new ..) .none .none pst (by simp) ?_ (by rw [List.size_toArray] <;> omega)
    rw [krv_pick]
    refine ⟨.ref _, _, I4.laid (t' := s3.toks) (o := .lst xs.reverse) (fun b ob q => Heap.get?_push_of_some _ q) (Nat.le_refl _) ?_, rfl, q _ (I4.hok.fresh (Nat.le_refl _))⟩
    exact ⟨by rw [List.length_reverse]; exact hz, its.reverse, 0, r.reverse, Heap.get?_push_size _ rfl⟩
  show wpAny (model X.prog X.w) X.A (subscriptTail e (.Slice none none (some sx) p2) (.ref a) (.ref s3.heap.objs.size)) (EP X pins σ Q) X.xe { s3 with heap := s3.heap.push { cls := .type "slice", data := .fields #[.none, .none, vst] } }
  exact tail_any (ops := [.ref a, .ref s3.heap.objs.size]) ht.isList.typeIs slot_list_getitem.lookup hg (by with_unfolding_all rfl)
end
end L2

set_option Elab.async false
set_option linter.all false
set_option maxRecDepth 100000
set_option maxHeartbeats 4000000
namespace K12
open PySem L2
def top (i : Nat) : Stmt := PySem.Challenge.pw_unseen_k12_whole_exchanged.main.body.getD i (.Pass ⟨0, 0, 0, 0⟩)
structure Blt (mg : Str → Option Value) : Prop where
  LEAST_NUMBER : ∃ t, mg "LEAST_NUMBER" = some (.int (-100) t)
  MOST_CARDS : ∃ t, mg "MOST_CARDS" = some (.int (4) t)
  MOST_NUMBER : ∃ t, mg "MOST_NUMBER" = some (.int (100) t)
  abs_ : mg "abs" = none
  all_ : mg "all" = none
  any_ : mg "any" = none
  bool_ : mg "bool" = none
  enumerate_ : mg "enumerate" = none
  int_ : mg "int" = none
  isinstance_ : mg "isinstance" = none
  len_ : mg "len" = none
  list_ : mg "list" = none
  range_ : mg "range" = none
  tuple_ : mg "tuple" = none
  zip_ : mg "zip" = none
/-! ### promises of the common defs -/
def sp_cell (K : PySem.W.Frag) : Sp := fun vs H Q _ => ∃ (a : Addr) (ns : List Int) (k : Int), vs = [.ref a, .int k] ∧ SqL K H a (ns.map V.int) ∧ 0 ≤ k ∧ Q (.int (ns.getD k.toNat 0)) H
def sp_draw : Sp := fun vs H Q _ => ∃ c k m : Int, vs = [.int c, .int k, .int m] ∧ 0 < m ∧ Q (.int (Fr.draw c k m)) H
def sp_whole : Sp := fun vs H Q _ => ∃ i : Int, vs = [.int i] ∧ Q (.bl true) H
def sp_within : Sp := fun vs H Q _ => ∃ i : Int, vs = [.int i] ∧ -100 ≤ i ∧ i ≤ 100 ∧ Q (.bl true) H
def sp_row : Sp := fun vs H Q _ => ∃ (a : Addr) (r : List Int), vs = [.ref a] ∧ H a = some (.lst (r.map V.int)) ∧ 1 ≤ r.length ∧ r.length ≤ 4 ∧ (∀ x ∈ r, -100 ≤ x ∧ x ≤ 100) ∧ ∀ H', Same H H' → Q (.bl true) H'
def sp_table : Sp := fun vs H Q _ => ∃ (a : Addr) (T : List (List Int)) (m n : Nat), vs = [.ref a] ∧ IsTab H a T ∧ Good T m n ∧ ∀ H', Same H H' → Q (.bl true) H'
def sp_check : Sp := fun vs H Q _ => ∃ (a : Addr) (T : List (List Int)) (m n : Nat), vs = [.ref a] ∧ IsTab H a T ∧ Good T m n ∧ ∀ H', Same H H' → Q .non H'
def sp_ltable : Sp := fun vs H Q _ => ∃ (c : Int) (m n : Nat), vs = [.int c, .int m, .int n] ∧ 1 ≤ m ∧ m ≤ 4 ∧ 1 ≤ n ∧ n ≤ 4 ∧ ∀ a T H', Same H H' → IsTab H' a T → Good T m n → Q (.ref a) H'
def sp_shape : Sp := fun vs H Q _ => ∃ c : Int, vs = [.int c] ∧ ∀ (p : Addr) (m n : Nat) H', 1 ≤ m → m ≤ 4 → 1 ≤ n → n ≤ 4 → Same H H' → H' p = some (.tup [.int m, .int n]) → Q (.ref p) H'
def sp_law (K : PySem.W.Frag) : Sp := fun vs H Q _ => ∃ (a : Addr) (ns : List Int), vs = [.ref a] ∧ SqL K H a (ns.map V.int) ∧ ns.length ≤ 63 ∧ ∀ H', Q (.bl true) H'
section
variable {P : Program} {w : World} {K : PySem.W.Frag} {mg : Str → Option Value} {base : Heap}
abbrev s_is_whole : Stmt := top 2
theorem sc_is_whole : FnScope ["thing"] ["thing"] (defScope s_is_whole) := ⟨rfl, rfl, rfl, by decide +kernel, rfl, by decide +kernel, by decide +kernel⟩
theorem ok_is_whole (F : FunM K mg "is_whole" s_is_whole ["thing"]) (T : Blt mg) : Def P w K mg base "is_whole" ["thing"] 1 sp_whole := by
  have S := sc_is_whole
  refine Def.of F S (fun vs H Q E h => ?_) (fun f cdv A outer s H vs Q E hr h => ?_)
  · obtain ⟨i, rfl, _⟩ := h
    rfl
  · obtain ⟨i, rfl, k⟩ := h
    refine ⟨_, (pss_one (ps_ret (pe_and (pe_callB (isiK K) (by rfl) T.isinstance_ bt_isinstance (pa_cons (pv 0) (pa_cons (pe_bltn (v := .ty "int") rfl T.int_ bt_int rfl) pa_nil st_Name) st_Name) (he := st_Name)) (pe_one (pe_not (pe_callB (isiK K) (by rfl) T.isinstance_ bt_isinstance (pa_cons (pv 0) (pa_cons (pe_bltn (v := .ty "bool") rfl T.bool_ bt_bool rfl) pa_nil st_Name) st_Name) (he := st_Name))))))), ?_⟩
    refine ⟨_, rfl, _, _, _, _, rfl, TyOf.int i, rfl, _, rfl, ?_⟩
    refine iteT ?_
    exact ⟨_, rfl, _, _, _, _, rfl, TyOf.int i, rfl, _, rfl, k⟩
abbrev s_is_within : Stmt := top 29
theorem sc_is_within : FnScope ["number"] ["number"] (defScope s_is_within) := ⟨rfl, rfl, rfl, by decide +kernel, rfl, by decide +kernel, by decide +kernel⟩
theorem ok_is_within (F : FunM K mg "is_within" s_is_within ["number"]) (T : Blt mg) : Def P w K mg base "is_within" ["number"] 1 sp_within := by
  have S := sc_is_within
  refine Def.of F S (fun vs H Q E h => ?_) (fun f cdv A outer s H vs Q E hr h => ?_)
  · obtain ⟨i, rfl, _⟩ := h
    rfl
  · obtain ⟨i, rfl, h1, h2, k⟩ := h
    refine ⟨_, (pss_one (ps_ret (pe_chain op_le op_le (peI T.LEAST_NUMBER rfl) (pv 0) (peI T.MOST_NUMBER rfl)))), ?_⟩
    refine ⟨_, rfl, _, _, rfl, rfl, _, rfl, ?_⟩
    refine ifP (decide_eq_true h1) ?_
    exact ⟨_, _, rfl, rfl, bl_true h2 k⟩
abbrev s_is_row : Stmt := top 30
theorem sc_is_row : FnScope ["thing"] ["thing"] (defScope s_is_row) := ⟨rfl, rfl, rfl, by decide +kernel, rfl, by decide +kernel, by decide +kernel⟩
theorem ok_is_row (F : FunM K mg "is_row" s_is_row ["thing"]) (T : Blt mg) (G_is_whole : Def P w K mg base "is_whole" ["thing"] 1 sp_whole) (G_is_within : Def P w K mg base "is_within" ["number"] 1 sp_within) : Def P w K mg base "is_row" ["thing"] 2 sp_row := by
  have S := sc_is_row
  refine Def.of F S (fun vs H Q E h => ?_) (fun f cdv A outer s H vs Q E hr h => ?_)
  · obtain ⟨a, r, rfl, _⟩ := h
    rfl
  · obtain ⟨a, r, rfl, ha, h1, h4, hn, k⟩ := h
    refine ⟨_, (pss_cons (ps_if (PW.pt (pw_or (pt_not (pt_val (pe_callB (isiK K) (by rfl) T.isinstance_ bt_isinstance (pa_cons (pv 0) (pa_cons (pe_bltn (v := .ty "list") rfl T.list_ bt_list rfl) pa_nil st_Name) st_Name) (he := st_Name)))) (pw_or1 (pt_not (pt_chain op_le op_le pe_int (pe_callB (lenK K) (by rfl) T.len_ bt_len (pa_cons (pv 0) pa_nil st_Name) (he := st_Name)) (peI T.MOST_CARDS rfl))))))
        (pss_one (ps_ret pe_bl)) pss_nil)
      (pss_one (ps_ret (pe_callB (allK K) (by rfl) T.all_ bt_all (pa_cons (pe_comp rfl (N' := ["number"]) (src := [none]) rfl (piL K (pv 0)) (fun _ _ _ _ _ => (pg_name (i := 0) (show (["number"] : List Str).Nodup from by decide +kernel) rfl (Or.inl rfl))) (fun _ _ _ _ _ => pts_nil) (fun _ _ _ _ _ => (pe_and (pe_def G_is_whole (hr.mono (by decide)) rfl (pa_cons (pv 0) pa_nil st_Name) (he := st_Name)) (pe_one (pe_def G_is_within (hr.mono (by decide)) rfl (pa_cons (pv 0) pa_nil st_Name) (he := st_Name)))))) pa_nil st_ListComp) (he := st_ListComp))))), ?_⟩
    refine ⟨_, rfl, _, _, _, _, rfl, TyOf.lst ha, rfl, _, rfl, ?_⟩
    refine iteF ?_
    refine ⟨_, rfl, a, _, rfl, .inl (SqL.of ha), _, _, rfl, rfl, _, rfl, ?_⟩
    have hl : (r.map V.int).length = r.length := List.length_map ..
    refine ifP (decide_eq_true (by rw [hl]; omega)) ?_
    refine ⟨_, _, rfl, rfl, _, rfl, ?_⟩
    refine iteNS (by rw [hl]; omega) ?_
    refine ⟨_, rfl, a, rfl, ⟨_, SqL.of ha⟩, comp_each (xs := r.map V.int) (fun _ y _ => y = .bl true) (fun _ _ _ _ _ h => h) (SqL.of ha) (by rw [hl]; exact Nat.le_of_lt (small1000 (by omega))) ?_ ?_⟩
    · intro x hx H1 s1 Q' q
      obtain ⟨i, hi, rfl⟩ := List.mem_map.mp hx
      refine ⟨_, rfl, i, rfl, _, rfl, ?_⟩
      refine iteT ?_
      exact ⟨_, rfl, i, rfl, (hn i hi).1, (hn i hi).2, q _ H1 (Same.refl _) rfl⟩
    · intro ys H' s' p q hq
      have e := reps_true p
      subst e
      refine ⟨q, _, rfl, SqL.of upd_same, ?_⟩
      rw [all_reps]
      exact k _ (s'.trans (same_upd hq))
abbrev s_is_table : Stmt := top 31
theorem sc_is_table : FnScope ["thing"] ["thing"] (defScope s_is_table) := ⟨rfl, rfl, rfl, by decide +kernel, rfl, by decide +kernel, by decide +kernel⟩
theorem ok_is_table (F : FunM K mg "is_table" s_is_table ["thing"]) (T : Blt mg) (G_is_row : Def P w K mg base "is_row" ["thing"] 2 sp_row) : Def P w K mg base "is_table" ["thing"] 3 sp_table := by
  have S := sc_is_table
  refine Def.of F S (fun vs H Q E h => ?_) (fun f cdv A outer s H vs Q E hr h => ?_)
  · obtain ⟨a, r, m, n, rfl, _⟩ := h
    rfl
  · obtain ⟨a, U, m, n, rfl, ⟨vs, ha, hp⟩, g, k⟩ := h
    have hl : vs.length = m := by rw [hp.length, g.rows]
    have m1 := g.m1
    have m4 := g.m4
    have n1 := g.n1
    have n4 := g.n4
    refine ⟨_, (pss_cons (ps_if (PW.pt (pw_or (pt_not (pt_val (pe_callB (isiK K) (by rfl) T.isinstance_ bt_isinstance (pa_cons (pv 0) (pa_cons (pe_bltn (v := .ty "list") rfl T.list_ bt_list rfl) pa_nil st_Name) st_Name) (he := st_Name)))) (pw_or1 (pt_not (pt_chain op_le op_le pe_int (pe_callB (lenK K) (by rfl) T.len_ bt_len (pa_cons (pv 0) pa_nil st_Name) (he := st_Name)) (peI T.MOST_CARDS rfl))))))
        (pss_one (ps_ret pe_bl)) pss_nil)
      (pss_cons (ps_if (pt_not (pt_val (pe_callB (allK K) (by rfl) T.all_ bt_all (pa_cons (pe_comp rfl (N' := ["row"]) (src := [none]) rfl (piL K (pv 0)) (fun _ _ _ _ _ => (pg_name (i := 0) (show (["row"] : List Str).Nodup from by decide +kernel) rfl (Or.inl rfl))) (fun _ _ _ _ _ => pts_nil) (fun _ _ _ _ _ => (pe_def G_is_row (hr.mono (by decide)) rfl (pa_cons (pv 0) pa_nil st_Name) (he := st_Name)))) pa_nil st_ListComp) (he := st_ListComp))))
        (pss_one (ps_ret pe_bl)) pss_nil)
      (pss_one (ps_ret (pe_callB (allK K) (by rfl) T.all_ bt_all (pa_cons (pe_comp rfl (N' := ["row", "thing"]) (src := [none, some 0]) rfl (piL K (pv 0)) (fun _ _ _ _ _ => (pg_name (i := 0) (show (["row", "thing"] : List Str).Nodup from by decide +kernel) rfl (Or.inl rfl))) (fun _ _ _ _ _ => pts_nil) (fun _ _ _ _ _ => (pe_cmpR op_eq (pe_callB (lenK K) (by rfl) T.len_ bt_len (pa_cons (pv 0) pa_nil st_Name) (he := st_Name)) (pe_callB (lenK K) (by rfl) T.len_ bt_len (pa_cons (pe_ix (ixL K) (pv 1) pe_int (fun _ _ => rfl)) pa_nil st_Subscript) (he := st_Subscript)) (nomark _)))) pa_nil st_ListComp) (he := st_ListComp)))))), ?_⟩
    refine ⟨_, rfl, _, _, _, _, rfl, TyOf.lst ha, rfl, _, rfl, ?_⟩
    refine iteF ?_
    refine ⟨_, rfl, a, _, rfl, .inl (SqL.of ha), _, _, rfl, rfl, _, rfl, ?_⟩
    refine ifP (decide_eq_true (by rw [hl]; omega)) ?_
    refine ⟨_, _, rfl, rfl, _, rfl, ?_⟩
    refine iteNS (by rw [hl]; omega) ?_
    refine ⟨_, rfl, a, rfl, ⟨_, SqL.of ha⟩, comp_each (xs := vs) (fun _ y _ => y = .bl true) (fun _ _ _ _ _ h => h) (SqL.of ha) (by rw [hl]; exact Nat.le_of_lt (small1000 (by omega))) ?_ ?_⟩
    · intro x hx H1 s1 Q' q
      obtain ⟨r, hr', b, rfl, hb⟩ := hp.mem2 hx
      exact ⟨_, rfl, b, r, rfl, s1 _ _ hb, by rw [g.cols r hr']; exact n1, by rw [g.cols r hr']; exact n4, g.num r hr', fun H2 s2 => q _ H2 s2 rfl⟩
    · intro ys H' s' p q hq
      have e := reps_true p
      subst e
      refine ⟨q, _, rfl, SqL.of upd_same, ?_⟩
      rw [all_reps]
      refine ⟨_, rfl, ?_⟩
      refine iteF ?_
      have s2 := s'.trans (same_upd (o := .lst ((List.replicate vs.length true).map V.bl)) hq)
      have ha2 := s2 _ _ ha
      refine ⟨_, rfl, a, rfl, ⟨_, SqL.of ha2⟩, comp_each (xs := vs) (fun _ y _ => y = .bl true) (fun _ _ _ _ _ h => h) (SqL.of ha2) (by rw [hl]; exact Nat.le_of_lt (small1000 (by omega))) ?_ ?_⟩
      · intro x hx H1 s1 Q' q'
        obtain ⟨r, hr', b, rfl, hb⟩ := hp.mem2 hx
        have h0 : 0 < vs.length := by omega
        obtain ⟨r0, er0, b0, eb0, hb0⟩ := hp.get2 (List.getElem?_eq_getElem h0)
        have s3 := s2.trans s1
        refine ⟨_, rfl, b, _, rfl, .inl (SqL.of (s3 _ _ hb)), _, rfl, a, vs, 0, _, rfl, rfl, SqL.of (s3 _ _ ha), atI_get' h0, b0, _, (by rw [eb0]), .inl (SqL.of (s3 _ _ hb0)), rfl, ?_⟩
        refine q' _ H1 (Same.refl _) (congrArg V.bl (decide_eq_true ?_))
        rw [List.length_map, List.length_map, g.cols r hr', g.cols r0 (List.mem_of_getElem? er0)]
      · intro ys H3 s3 p q2 hq2
        have e := reps_true p
        subst e
        refine ⟨q2, _, rfl, SqL.of upd_same, ?_⟩
        rw [all_reps]
        exact k _ ((s2.trans s3).trans (same_upd hq2))
abbrev s_check_table : Stmt := top 32
theorem sc_check_table : FnScope ["thing"] ["thing"] (defScope s_check_table) := ⟨rfl, rfl, rfl, by decide +kernel, rfl, by decide +kernel, by decide +kernel⟩
theorem ok_check_table (F : FunM K mg "check_table" s_check_table ["thing"]) (T : Blt mg) (G_is_table : Def P w K mg base "is_table" ["thing"] 3 sp_table) : Def P w K mg base "check_table" ["thing"] 4 sp_check := by
  have S := sc_check_table
  refine Def.of F S (fun vs H Q E h => ?_) (fun f cdv A outer s H vs Q E hr h => ?_)
  · obtain ⟨a, r, m, n, rfl, _⟩ := h
    rfl
  · obtain ⟨a, U, m, n, rfl, hU, g, k⟩ := h
    refine ⟨_, (pss_one (ps_if (pt_not (pt_val (pe_def G_is_table (hr.mono (by decide)) rfl (pa_cons (pv 0) pa_nil st_Name) (he := st_Name))))
        (pss_one ps_never) pss_nil)), ?_⟩
    refine ⟨_, rfl, a, U, m, n, rfl, hU, g, fun H' s' => ⟨_, rfl, ?_⟩⟩
    refine iteF ?_
    exact k H' s'
abbrev s__law_cell_at : Stmt := top 47
theorem sc__law_cell_at : FnScope ["_law_script", "_law_k"] ["_law_script", "_law_k"] (defScope s__law_cell_at) := ⟨rfl, rfl, rfl, by decide +kernel, rfl, by decide +kernel, by decide +kernel⟩
theorem ok__law_cell_at (F : FunM K mg "_law_cell_at" s__law_cell_at ["_law_script", "_law_k"]) (T : Blt mg) : Def P w K mg base "_law_cell_at" ["_law_script", "_law_k"] 1 (sp_cell K) := by
  have S := sc__law_cell_at
  refine Def.of F S (fun vs H Q E h => ?_) (fun f cdv A outer s H vs Q E hr h => ?_)
  · obtain ⟨a, ns, k, rfl, _⟩ := h
    rfl
  · obtain ⟨a, ns, k, rfl, hS, hk, q⟩ := h
    refine ⟨_, (pss_cons (ps_if (pt_cmpR op_lt (pv 1) (pe_callB (lenK K) (by rfl) T.len_ bt_len (pa_cons (pv 0) pa_nil st_Name) (he := st_Name)) (nomark _))
        (pss_one (ps_ret (pe_ix (ixL K) (pv 0) (pv 1) (fun _ _ => rfl)))) pss_nil)
      (pss_one (ps_ret pe_int))), ?_⟩
    refine ⟨_, rfl, _, rfl, _, _, rfl, .inl hS, _, _, rfl, rfl, _, rfl, ?_⟩
    refine ite2 (fun hlt => ?_) (fun hge => ?_)
    · have hlt' : k < (ns.length : Int) := by simpa using hlt
      have hn : k.toNat < ns.length := by omega
      have e : ns.getD k.toNat 0 = ns[k.toNat] := by simp [List.getD_eq_getElem?_getD, hn]
      refine ⟨_, rfl, _, rfl, _, _, _, _, rfl, rfl, hS, ?_, q⟩
      unfold atI ixN
      rw [if_pos hk, if_pos (by simpa using hlt')]
      simp [hn, List.getD_eq_getElem?_getD]
    · have hge' : ¬ k < (ns.length : Int) := by simpa using hge
      have e : ns.getD k.toNat 0 = 0 := by
        rw [List.getD_eq_getElem?_getD, List.getElem?_eq_none (by omega)]
        rfl
      rw [e] at q
      exact q
abbrev s__law_draw : Stmt := top 48
theorem sc__law_draw : FnScope ["_law_cell", "_law_k", "_law_many", "_law_mixed"] ["_law_cell", "_law_k", "_law_many"] (defScope s__law_draw) := ⟨rfl, rfl, rfl, by decide +kernel, rfl, by decide +kernel, by decide +kernel⟩
theorem ok__law_draw (F : FunM K mg "_law_draw" s__law_draw ["_law_cell", "_law_k", "_law_many"]) (T : Blt mg) : Def P w K mg base "_law_draw" ["_law_cell", "_law_k", "_law_many"] 1 sp_draw := by
  have S := sc__law_draw
  refine Def.of F S (fun vs H Q E h => ?_) (fun f cdv A outer s H vs Q E hr h => ?_)
  · obtain ⟨c, k, m, rfl, _⟩ := h
    rfl
  · obtain ⟨c, k, m, rfl, hm, q⟩ := h
    refine ⟨_, (pss_cons (ps_set (i := 3) S.nd rfl (Or.inl rfl) (pe_op op_mod (pe_op op_add (pe_op op_add (pe_op op_mul (pe_op op_mod (pv 0) pe_int) pe_int) (pe_op op_mul (pv 1) pe_int)) pe_int) pe_int))
      (pss_one (ps_ret (pe_op op_mod (pe_op op_mod (pe_op op_fdiv (pe_op op_mul (pv 3) (pv 3)) pe_int) pe_int) (pv 2))))), ?_⟩
    refine ⟨_, rfl, _, _, rfl, rfl, (by show (0 : Int) < 1000000007; decide), _, _, rfl, rfl, .inr ⟨by decide, by decide⟩, _, rfl, _, _, rfl, rfl, .inr ⟨by decide, by decide⟩, _, _, rfl, rfl, _, _, rfl, rfl, _, _, rfl, rfl, (by show (0 : Int) < 1000000007; decide), ?_⟩
    have h1 := Int.emod_nonneg (c % 1000000007 * 48271 + k * 69621 + 7) (show (1000000007 : Int) ≠ 0 by decide)
    have h2 := Int.emod_lt_of_pos (c % 1000000007 * 48271 + k * 69621 + 7) (show (0 : Int) < 1000000007 by decide)
    exact ⟨_, rfl, _, rfl, _, _, rfl, rfl, .inl ⟨by omega, by omega⟩, _, _, rfl, rfl, ⟨by decide, by decide⟩, _, _, rfl, rfl, (by show (0 : Int) < 1000003; decide), _, rfl, _, _, rfl, rfl, hm, q⟩
abbrev s__law_shape : Stmt := top 50
theorem sc__law_shape : FnScope ["_law_cell"] ["_law_cell"] (defScope s__law_shape) := ⟨rfl, rfl, rfl, by decide +kernel, rfl, by decide +kernel, by decide +kernel⟩
theorem body_shape : ∃ es1 es2 k1 k2 k3 p1 p2 p3 p4 p5 p6 p7 p8 p9 p10 p11 p12 p13 p14, defBody s__law_shape = [.Return (some (.Tuple [.Subscript (.Tuple es1 k1 p1) (.BinOp (.Name "_law_cell" p2) .Mod (.Constant (.int 8) 0 p3) p4) p5,
      .Subscript (.Tuple es2 k2 p6) (.BinOp (.BinOp (.Name "_law_cell" p7) .FloorDiv (.Constant (.int 8) 0 p8) p9) .Mod (.Constant (.int 8) 0 p10) p11) p12] k3 p13)) p14] ∧ AllInts es1 [2, 3, 1, 3, 2, 4, 3, 2] ∧ AllInts es2 [3, 2, 3, 1, 2, 4, 2, 3] :=
  ⟨_, _, _, _, _, _, _, _, _, _, _, _, _, _, _, _, _, _, _, rfl, .cons (.cons (.cons (.cons (.cons (.cons (.cons (.cons .nil))))))), .cons (.cons (.cons (.cons (.cons (.cons (.cons (.cons .nil)))))))⟩
theorem ok__law_shape (F : FunM K mg "_law_shape" s__law_shape ["_law_cell"]) (T : Blt mg) : Def P w K mg base "_law_shape" ["_law_cell"] 1 sp_shape := by
  have S := sc__law_shape
  refine Def.of F S (fun vs H Q E h => ?_) (fun f cdv A outer s H vs Q E hr h => ?_)
  · obtain ⟨c, rfl, _⟩ := h
    rfl
  · obtain ⟨c, rfl, k⟩ := h
    have a1 := Int.emod_nonneg c (show (8 : Int) ≠ 0 by decide)
    have a2 := Int.emod_lt_of_pos c (show (0 : Int) < 8 by decide)
    have b1 := Int.emod_nonneg (c / 8) (show (8 : Int) ≠ 0 by decide)
    have b2 := Int.emod_lt_of_pos (c / 8) (show (0 : Int) < 8 by decide)
    obtain ⟨m, hm, m1, m4⟩ := Tb.pickm a1 a2
    obtain ⟨n, hn, n1, n4⟩ := Tb.pickn b1 b2
    obtain ⟨es1, es2, k1, k2, k3, p1, p2, p3, p4, p5, p6, p7, p8, p9, p10, p11, p12, p13, p14, hb, i1, i2⟩ := body_shape
    rw [hb]
    refine ⟨_, (pss_one (ps_ret (pe_tup (pa_cons (pe_ix (ixT K) (pe_tup (pa_ints i1)) (pe_op op_mod (pv 0) pe_int) (fun _ _ => rfl)) (pa_cons (pe_ix (ixT K) (pe_tup (pa_ints i2)) (pe_op op_mod (pe_op op_fdiv (pv 0) pe_int) pe_int) (fun _ _ => rfl)) pa_nil st_Subscript) st_Subscript)))), ?_⟩
    refine ⟨(by show 8 ≤ sizeLine; decide), fun p hp => ?_⟩
    refine ⟨_, rfl, _, _, rfl, rfl, (by show (0 : Int) < 8; decide), p, _, _, _, rfl, rfl, SqT.of upd_same, hm, ?_⟩
    refine ⟨(by show 8 ≤ sizeLine; decide), fun q hq => ?_⟩
    refine ⟨_, rfl, _, _, rfl, rfl, ⟨by decide, by decide⟩, _, _, rfl, rfl, (by show (0 : Int) < 8; decide), q, _, _, _, rfl, rfl, SqT.of upd_same, hn, ?_⟩
    exact ⟨(by show 2 ≤ sizeLine; decide), fun r hr' => k r m n _ m1 m4 n1 n4 (((same_upd hp).trans (same_upd hq)).trans (same_upd hr')) upd_same⟩
abbrev s__law_table : Stmt := top 49
theorem sc__law_table : FnScope ["_law_cell", "_law_rows", "_law_columns", "_law_most", "_law_found", "_law_row", "_law_kind", "_law_less_here"] ["_law_cell", "_law_rows", "_law_columns"] (defScope s__law_table) := ⟨rfl, rfl, rfl, by decide +kernel, rfl, by decide +kernel, by decide +kernel⟩
theorem ok__law_table (F : FunM K mg "_law_table" s__law_table ["_law_cell", "_law_rows", "_law_columns"]) (T : Blt mg) (G__law_draw : Def P w K mg base "_law_draw" ["_law_cell", "_law_k", "_law_many"] 1 sp_draw) : Def P w K mg base "_law_table" ["_law_cell", "_law_rows", "_law_columns"] 2 sp_ltable := by
  have S := sc__law_table
  refine Def.of F S (fun vs H Q E h => ?_) (fun f cdv A outer s H vs Q E hr h => ?_)
  · obtain ⟨c, m, n, rfl, _⟩ := h
    rfl
  · obtain ⟨c, m, n, rfl, m1, m4, n1, n4, k⟩ := h
    refine ⟨_, (pss_cons (ps_set (i := 3) S.nd rfl (Or.inr rfl) (pe_ix (ixT K) (pe_tup (pa_ints (.cons (.cons (.cons (.cons .nil)))))) (pe_def G__law_draw (hr.mono (by decide)) rfl (pa_cons (pv 0) (pa_cons pe_int (pa_cons pe_int pa_nil st_Constant) st_Constant) st_Name) (he := st_Name)) (fun _ _ => rfl)))
      (pss_cons (ps_set (i := 4) S.nd rfl (Or.inr rfl) (pe_lst pa_nil))
      (pss_cons (ps_for PassesOwn.never rfl (pi_range1 rfl T.range_ (pa_cons (pv 1) pa_nil st_Name)) (pg_name (i := 5) S.nd rfl (Or.inr rfl))
        (pss_one (ps_expr (pe_bm PySem.F.plainAttrs_list PySem.F.slot_list_append PySem.F.type_list_append mt_append (pv 4) (pa_cons (pe_comp rfl (N' := ["_law_k", "_law_cell", "_law_row", "_law_most"]) (src := [none, some 0, some 5, some 3]) rfl (pi_range1 rfl T.range_ (pa_cons (pv 2) pa_nil st_Name)) (fun _ _ _ _ _ => (pg_name (i := 0) (show (["_law_k", "_law_cell", "_law_row", "_law_most"] : List Str).Nodup from by decide +kernel) rfl (Or.inl rfl))) (fun _ _ _ _ _ => pts_nil) (fun _ _ _ _ _ => (pe_op op_sub (pe_def G__law_draw (hr.mono (by decide)) rfl (pa_cons (pe_op op_add (pe_op op_add (pv 1) (pe_op op_mul pe_int (pv 2))) (pe_op op_mul pe_int (pv 0))) (pa_cons pe_int (pa_cons (pe_op op_add (pe_op op_mul pe_int (pv 3)) pe_int) pa_nil st_BinOp) st_Constant) st_BinOp) (he := st_BinOp)) (pv 3)))) pa_nil st_ListComp)))))
      (pss_cons (ps_set (i := 6) S.nd rfl (Or.inl rfl) (pe_def G__law_draw (hr.mono (by decide)) rfl (pa_cons (pv 0) (pa_cons pe_int (pa_cons pe_int pa_nil st_Constant) st_Constant) st_Name) (he := st_Name)))
      (pss_cons (ps_if (pt_cmpR op_eq (pv 6) pe_int (nomark _))
        (pss_one (ps_set (i := 4) S.nd rfl (Or.inr rfl) (pe_comp rfl (N' := ["_law_row", "_law_found", "_law_columns"]) (src := [none, some 4, some 2]) rfl (pi_range1 rfl T.range_ (pa_cons (pv 1) pa_nil st_Name)) (fun _ _ _ _ _ => (pg_name (i := 0) (show (["_law_row", "_law_found", "_law_columns"] : List Str).Nodup from by decide +kernel) rfl (Or.inl rfl))) (fun _ _ _ _ _ => pts_nil) (fun _ _ _ _ _ => (pe_op op_cat (pe_slice (slL K) (pe_ix (ixL K) (pv 1) pe_int (fun _ _ => rfl)) (po_some (pe_op op_mod (pv 0) (pv 2))) po_none) (pe_slice (slL K) (pe_ix (ixL K) (pv 1) pe_int (fun _ _ => rfl)) po_none (po_some (pe_op op_mod (pv 0) (pv 2))))))))) pss_nil)
      (pss_cons (ps_if (PW.pt (pw_and (pt_cmpR op_eq (pv 6) pe_int (nomark _)) (pw_and1 (pt_cmpR op_gt (pv 1) pe_int (nomark _)))))
        (pss_cons (ps_set (i := 7) S.nd rfl (Or.inr rfl) (pe_op op_sub (pe_def G__law_draw (hr.mono (by decide)) rfl (pa_cons (pv 0) (pa_cons pe_int (pa_cons pe_int pa_nil st_Constant) st_Constant) st_Name) (he := st_Name)) pe_int))
      (pss_one (ps_asg (pe_comp rfl (N' := ["_law_one", "_law_two", "_law_less_here"]) (src := [none, none, some 7]) rfl (piZip K rfl T.zip_ (pa_cons (pe_ix (ixL K) (pv 4) pe_int (fun _ _ => rfl)) (pa_cons (pe_ix (ixL K) (pv 4) pe_int (fun _ _ => rfl)) pa_nil st_Subscript) st_Subscript)) (fun _ _ _ _ _ => (pgT K (n := 2) (pgs_cons (pg_name (i := 0) (show (["_law_one", "_law_two", "_law_less_here"] : List Str).Nodup from by decide +kernel) rfl (Or.inl rfl)) (pgs_cons (pg_name (i := 1) (show (["_law_one", "_law_two", "_law_less_here"] : List Str).Nodup from by decide +kernel) rfl (Or.inl rfl)) pgs_nil)))) (fun _ _ _ _ _ => pts_nil) (fun _ _ _ _ _ => (pe_op op_sub (pe_op op_fdiv (pe_op op_add (pv 0) (pv 1)) pe_int) (pv 2)))) (pg_sub (pv 4) pe_int set_list)))) pss_nil)
      (pss_one (ps_ret (pv 4))))))))), ?_⟩
    have a1 := Fr.draw_nn c 1 (show (0 : Int) < 4 by decide)
    have a2 := Fr.draw_lt c 1 (show (0 : Int) < 4 by decide)
    obtain ⟨v, hv, v1, v2⟩ := Tb.pick4 a1 a2
    -- the greatest number; an empty list
    refine ⟨(by show 4 ≤ sizeLine; decide), fun p hp => ⟨_, rfl, _, _, _, rfl, (by decide), p, _, _, _, rfl, rfl, SqT.of upd_same, hv, ?_⟩⟩
    refine ⟨Nat.zero_le _, fun l hl => ?_⟩
    have hl0 : H l = none := (same_upd hp).free hl
    have s0 : Same H (upd (upd H p (.tup (([2, 5, 9, 98] : List Int).map V.int))) l (.lst [])) := (same_upd hp).trans (same_upd hl)
    -- row by row
    refine ⟨_, rfl, _, rfl, by omega, by omega, for_range (n := m) (fun i σ H1 => ∃ o5 vs U, σ = [some (.int c), some (.int m), some (.int n), some (.int v), some (.ref l), o5, none, none] ∧ Same H H1 ∧ H1 l = some (.lst vs) ∧ Paired (RowNe l H1) vs U ∧ U.length = i ∧
        (∀ r ∈ U, r.length = n) ∧ ∀ r ∈ U, ∀ x ∈ r, -98 ≤ x ∧ x ≤ 98)
      ⟨_, [], [], rfl, s0, upd_same, .nil, rfl, (fun _ h => nomatch h), fun _ h => nomatch h⟩ ?_ ?_⟩
    · rintro i σ H1 hi ⟨o5, vs, U, rfl, s1, hL, hP, hU, hc, hb⟩
      refine ⟨_, rfl, .inl ⟨rfl, _, SqL.of hL⟩, _, rfl, _, rfl, by omega, by omega, comp_each_r (n := n) (fun _ y _ => ∃ x, y = .int x ∧ -98 ≤ x ∧ x ≤ 98) (fun _ _ _ _ _ h => h) (Nat.le_of_lt (small1000 (by omega))) ?_ ?_⟩
      · intro j hj H2 s2 Q' q
        refine ⟨_, rfl, _, rfl, _, _, rfl, rfl, .inl ⟨by decide, by decide⟩, _, _, rfl, rfl, _, rfl, _, _, rfl, rfl, .inl ⟨by decide, by decide⟩, _, _, rfl, rfl, _, rfl, _, _, rfl, rfl, .inl ⟨by decide, by decide⟩, _, _, rfl, rfl, _, _, _, rfl, ?_, _, rfl, _, _, rfl, rfl, q _ H2 (Same.refl _) ⟨_, rfl, ?_⟩⟩
        · omega
        · have d1 := Fr.draw_nn (c + 31 * (0 + (i : Int)) + 7 * (j : Int)) 2 (show (0 : Int) < 2 * v + 1 by omega)
          have d2 := Fr.draw_lt (c + 31 * (0 + (i : Int)) + 7 * (j : Int)) 2 (show (0 : Int) < 2 * v + 1 by omega)
          exact ⟨by omega, by omega⟩
      · intro ys H2 s2 pr q hq
        obtain ⟨r, rfl, rl, rb⟩ := ints_of (fun x => -98 ≤ x ∧ x ≤ 98) pr
        rw [List.length_range] at rl
        have nql : q ≠ l := fun e => by rw [e, s2 _ _ hL] at hq; cases hq
        have hL2 : upd H2 q (.lst (r.map V.int)) l = some (.lst vs) := by rw [upd_ne (Ne.symm nql)]; exact s2 _ _ hL
        have vl : vs.length = i := by rw [hP.length, hU]
        refine ⟨l, vs, .ref q, rfl, rfl, hL2, small1000 (by omega), ?_⟩
        refine ⟨_, vs ++ [.ref q], U ++ [r], rfl, ?_, upd_same, ?_, ?_, ?_, ?_⟩
        · exact same_at ((s1.trans s2).trans (same_upd hq)) hl0
        · refine (hP.imp2 fun _ _ z => ?_).app2 (.cons ⟨q, rfl, nql, ?_⟩ .nil)
          · exact ((z.mono s2).mono (same_upd hq)).at
          · rw [upd_ne nql, upd_same]
        · rw [List.length_append, hU]; rfl
        · intro r' hr'
          rcases List.mem_append.mp hr' with z | z
          · exact hc r' z
          · rw [List.mem_singleton.mp z]; exact rl
        · intro r' hr'
          rcases List.mem_append.mp hr' with z | z
          · exact hb r' z
          · rw [List.mem_singleton.mp z]; exact rb
    · rintro σ H1 ⟨o5, vs, U, rfl, s1, hL, hP, hU, hc, hb⟩
      -- the kind
      refine ⟨_, rfl, _, _, _, rfl, (by decide), ?_⟩
      refine nx_set ?_
      refine seq_by (fun σ' H' => ∃ (l' : Addr) (o5' : Option V) (vs' : List V) (U' : List (List Int)), σ' = [some (.int c), some (.int m), some (.int n), some (.int v), some (.ref l'), o5', some (.int (Fr.draw c 3 5)), none] ∧ Same H H' ∧ H l' = none ∧ H' l' = some (.lst vs') ∧ Paired (RowNe l' H') vs' U' ∧ U'.length = m ∧
        (∀ r ∈ U', r.length = n) ∧ ∀ r ∈ U', ∀ x ∈ r, -98 ≤ x ∧ x ≤ 98) (fun R hR => ?_) ?_
      · refine ⟨_, rfl, rfl, _, rfl, ?_⟩
        refine ite2 (fun _ => ?_) (fun _ => hR _ _ ⟨l, o5, vs, U, rfl, s1, hl0, hL, hP, hU, hc, hb⟩)
        have vl : vs.length = m := by rw [hP.length, hU]
        have h0 : 0 < vs.length := by omega
        obtain ⟨r0, er0, b0, eb0, nb0, hb0⟩ := hP.get2 (List.getElem?_eq_getElem h0)
        have r0l := hc r0 (List.mem_of_getElem? er0)
        have r0b := hb r0 (List.mem_of_getElem? er0)
        refine ⟨_, rfl, _, rfl, by omega, by omega, comp_each_r (n := m) (fun _ y H' => ∃ r : List Int, OwnRow H1 H' y r ∧ r.length = n ∧ ∀ x ∈ r, -98 ≤ x ∧ x ≤ 98) (fun _ _ _ _ z h => let ⟨r, h1, h2⟩ := h; ⟨r, h1.mono z, h2⟩) (Nat.le_of_lt (small1000 (by omega))) ?_ ?_⟩
        · intro j hj H2 s2 Q' q
          have e1 := Int.emod_nonneg (j : Int) (show (n : Int) ≠ 0 by omega)
          have e2 := Int.emod_lt_of_pos (j : Int) (show (0 : Int) < (n : Int) by omega)
          have hlen : (r0.map V.int).length = n := by rw [List.length_map, r0l]
          refine ⟨_, rfl, l, vs, 0, _, rfl, rfl, SqL.of (s2 _ _ hL), atI_get' h0, _, rfl, _, rfl, _, _, rfl, rfl, (by show (0 : Int) < (n : Int); omega), _, rfl, b0, _, (by rw [eb0]), SqL.of (s2 _ _ hb0), fun q1 hq1 => ?_⟩
          have s3 := s2.trans (same_upd (o := .lst (cutV (r0.map V.int) (some ((j : Int) % (n : Int))) none)) hq1)
          refine ⟨_, rfl, l, vs, 0, _, rfl, rfl, SqL.of (s3 _ _ hL), atI_get' h0, _, rfl, _, rfl, _, _, rfl, rfl, (by show (0 : Int) < (n : Int); omega), _, rfl, b0, _, (by rw [eb0]), SqL.of (s3 _ _ hb0), fun q2 hq2 => ?_⟩
          have g1 : upd (upd H2 q1 (.lst (cutV (r0.map V.int) (some ((j : Int) % (n : Int))) none))) q2 (.lst (cutV (r0.map V.int) none (some ((j : Int) % (n : Int))))) q1 = some (.lst (cutV (r0.map V.int) (some ((j : Int) % (n : Int))) none)) := same_upd hq2 _ _ upd_same
          have c1 := cut_drop (xs := r0.map V.int) (k := (j : Int) % (n : Int)) e1 (by rw [hlen]; omega)
          have c2 := cut_take (xs := r0.map V.int) (k := (j : Int) % (n : Int)) e1 (by rw [hlen]; omega)
          have ln : (cutV (r0.map V.int) (some ((j : Int) % (n : Int))) none).length + (cutV (r0.map V.int) none (some ((j : Int) % (n : Int)))).length = n := by
            rw [c1, c2, List.length_drop, List.length_take, hlen]; omega
          refine ⟨q1, q2, _, _, rfl, rfl, g1, upd_same, (by rw [ln]; exact Nat.le_of_lt (small1000 (by omega))), fun q3 hq3 => ?_⟩
          have s5 : Same H2 _ := (same_upd hq1).trans ((same_upd hq2).trans (same_upd (o := .lst (cutV (r0.map V.int) (some ((j : Int) % (n : Int))) none ++ cutV (r0.map V.int) none (some ((j : Int) % (n : Int))))) hq3))
          refine q _ _ s5 ⟨r0.drop ((j : Int) % (n : Int)).toNat ++ r0.take ((j : Int) % (n : Int)).toNat, ⟨q3, rfl, ?_, ?_⟩, ?_, ?_⟩
          · exact (s2.trans ((same_upd hq1).trans (same_upd hq2))).free hq3
          · rw [upd_same, c1, c2, List.map_append, List.map_drop, List.map_take]
          · rw [List.length_append, List.length_drop, List.length_take, r0l]; omega
          · intro x hx
            rcases List.mem_append.mp hx with z | z
            · exact r0b x (List.mem_of_mem_drop z)
            · exact r0b x (List.mem_of_mem_take z)
        · intro ys H2 s2 pr q hq
          obtain ⟨U', hp', hl', hx'⟩ := rows_of (fun r => r.length = n ∧ ∀ x ∈ r, -98 ≤ x ∧ x ≤ 98) pr
          rw [List.length_range] at hl'
          refine hR _ _ ⟨q, o5, ys, U', rfl, (s1.trans s2).trans (same_upd hq), (s1.trans s2).free hq, upd_same, ?_, hl', fun r hr' => (hx' r hr').1, fun r hr' => (hx' r hr').2⟩
          refine hp'.imp2 fun y r z => ?_
          obtain ⟨b, e, nb, hb'⟩ := z
          exact ⟨b, e, ne_of_none hb' hq, same_upd hq _ _ hb'⟩
      · rintro σ' H2 ⟨l', o5', vs', U', rfl, s2, hl', hL', hP', hU', hc', hb'⟩
        refine seq_by (fun σ' H' => ∃ (o7 : Option V) (vs' : List V) (U' : List (List Int)), σ' = [some (.int c), some (.int m), some (.int n), some (.int v), some (.ref l'), o5', some (.int (Fr.draw c 3 5)), o7] ∧ Same H H' ∧ H' l' = some (.lst vs') ∧ Paired (RowNe l' H') vs' U' ∧ U'.length = m ∧
          (∀ r ∈ U', r.length = n) ∧ ∀ r ∈ U', ∀ x ∈ r, -100 ≤ x ∧ x ≤ 100) (fun R hR => ?_) ?_
        · have no : R [some (.int c), some (.int m), some (.int n), some (.int v), some (.ref l'), o5', some (.int (Fr.draw c 3 5)), none] H2 :=
            hR _ _ ⟨none, vs', U', rfl, s2, hL', hP', hU', hc', fun r hr' x hx => by have := hb' r hr' x hx; omega⟩
          refine ⟨_, rfl, rfl, _, rfl, ?_⟩
          refine ite2 (fun _ => ?_) (fun _ => no)
          refine ⟨_, rfl, _, _, rfl, rfl, _, rfl, ?_⟩
          refine ite2 (fun h2 => ?_) (fun _ => no)
          have m3 : 2 < m := by
            have : (2 : Int) < (m : Int) := by simpa using h2
            omega
          have vl : vs'.length = m := by rw [hP'.length, hU']
          have h0 : 0 < vs'.length := by omega
          have h1 : 1 < vs'.length := by omega
          obtain ⟨r0, er0, b0, eb0, nb0, hb0⟩ := hP'.get2 (List.getElem?_eq_getElem h0)
          obtain ⟨r1, er1, b1, eb1, nb1, hb1⟩ := hP'.get2 (List.getElem?_eq_getElem h1)
          have l0 := hc' r0 (List.mem_of_getElem? er0)
          have l1 := hc' r1 (List.mem_of_getElem? er1)
          have x0 := hb' r0 (List.mem_of_getElem? er0)
          have x1 := hb' r1 (List.mem_of_getElem? er1)
          have d1 := Fr.draw_nn c 4 (show (0 : Int) < 3 by decide)
          have d2 := Fr.draw_lt c 4 (show (0 : Int) < 3 by decide)
          refine ⟨_, rfl, _, _, _, rfl, (by decide), _, _, rfl, rfl, ?_⟩
          refine ⟨_, rfl, l', vs', 0, _, rfl, rfl, SqL.of hL', atI_get' h0, _, rfl, l', vs', 1, _, rfl, rfl, SqL.of hL', atI_get' h1, b0, b1, (by rw [eb0, eb1]), ⟨_, SqL.of hb0⟩, ⟨_, SqL.of hb1⟩,
            comp_zip (xs := r0.map V.int) (ys := r1.map V.int) (fun i zs H' => Same H2 H' ∧ ∃ r : List Int, zs = r.map V.int ∧ r.length = i ∧ ∀ x ∈ r, -100 ≤ x ∧ x ≤ 100) ⟨Same.refl _, [], rfl, rfl, fun _ h => nomatch h⟩ ?_ (by rw [List.length_map]; exact Nat.le_of_lt (small1000 (by omega))) ?_ ?_⟩
          · rintro i zs H3 ⟨s3, r, rfl, rl, _⟩
            exact ⟨SqL.of (s3 _ _ hb0), SqL.of (s3 _ _ hb1), by rw [List.length_map, rl]; exact Nat.le_refl _⟩
          · rintro i x y p' zs H3 hx hy hp' ⟨s3, r, rfl, rl, rb⟩
            obtain ⟨x', ex, rfl⟩ := List.mem_map.mp (List.mem_of_getElem? hx)
            obtain ⟨y', ey, rfl⟩ := List.mem_map.mp (List.mem_of_getElem? hy)
            have b1 := x0 x' ex
            have b2 := x1 y' ey
            refine ⟨p', _, rfl, SqT.of upd_same, rfl, _, _, rfl, _, _, rfl, rfl, ?_⟩
            refine yes_if ?_
            refine ⟨_, rfl, _, rfl, _, _, rfl, rfl, _, _, rfl, rfl, ⟨by decide, by decide⟩, _, rfl, _, _, rfl, rfl, ?_⟩
            refine ⟨s3.trans (same_upd hp'), r ++ [(x' + y') / 2 - (Fr.draw c 4 3 - 1)], by rw [List.map_append]; rfl, by rw [List.length_append, rl]; rfl, fun z hz => ?_⟩
            rcases List.mem_append.mp hz with q | q
            · exact rb z q
            · rw [List.mem_singleton.mp q]
              omega
          · rintro zs H3 ⟨s3, r, rfl, rl, rb⟩ q hq
            rw [List.length_map, List.length_map, l0, l1, Nat.min_self] at rl
            have nql : q ≠ l' := fun e => by rw [e, s3 _ _ hL'] at hq; cases hq
            have hL3 : upd H3 q (.lst (r.map V.int)) l' = some (.lst vs') := by rw [upd_ne (Ne.symm nql)]; exact s3 _ _ hL'
            refine ⟨_, rfl, l', vs', 2, 2, rfl, rfl, hL3, ?_, ?_⟩
            · unfold ixN
              rw [if_pos (by decide), if_pos (by omega)]
              rfl
            · refine hR _ _ ⟨_, vs'.set 2 (.ref q), U'.set 2 r, rfl, ?_, upd_same, ?_, ?_, ?_, ?_⟩
              · exact same_at ((s2.trans s3).trans (same_upd hq)) hl'
              · refine Paired.set2 ⟨q, rfl, nql, by rw [upd_ne nql, upd_same]⟩ 2 (hP'.imp2 fun _ _ z => ((z.mono s3).mono (same_upd hq)).at)
              · rw [List.length_set, hU']
              · intro r' hr'
                rcases List.mem_or_eq_of_mem_set hr' with z | z
                · exact hc' r' z
                · rw [z]; exact rl
              · intro r' hr' x hx
                rcases List.mem_or_eq_of_mem_set hr' with z | z
                · have := hb' r' z x hx
                  omega
                · rw [z] at hx; exact rb x hx
        · rintro σ' H3 ⟨o7, vs3, U3, rfl, s3, hL3, hP3, hU3, hc3, hb3⟩
          exact ⟨_, rfl, k l' U3 H3 s3 ⟨vs3, hL3, hP3.imp2 fun _ _ z => z.row⟩ ⟨m1, m4, n1, n4, hU3, hc3, hb3⟩⟩
/-- a table of m rows and n columns, numbers to 200 -/
structure Gd (T : List (List Int)) (m n : Nat) : Prop where
  m1 : 1 ≤ m
  m4 : m ≤ 4
  n1 : 1 ≤ n
  n4 : n ≤ 4
  rows : T.length = m
  cols : ∀ r ∈ T, r.length = n
  num : ∀ r ∈ T, ∀ x ∈ r, -200 ≤ x ∧ x ≤ 200
theorem good_gd {T : List (List Int)} {m n : Nat} (g : Good T m n) : Gd T m n := ⟨g.m1, g.m4, g.n1, g.n4, g.rows, g.cols, fun r hr x hx => by have := g.num r hr x hx; omega⟩
theorem Gd.row {T : List (List Int)} {m n : Nat} (g : Gd T m n) {i : Nat} (hi : i < m) : T.getD i [] ∈ T ∧ (T.getD i []).length = n := by
  have h : i < T.length := by rw [g.rows]; exact hi
  have e : T.getD i [] = T[i] := by rw [List.getD_eq_getElem?_getD, List.getElem?_eq_getElem h]; rfl
  rw [e]
  exact ⟨List.getElem_mem h, g.cols _ (List.getElem_mem h)⟩
theorem Gd.sz {T : List (List Int)} {m n : Nat} (g : Gd T m n) {r : List Int} (hr : r ∈ T) : ∀ x ∈ r, Sz 9 x := fun x hx => sz9 (g.num r hr x hx)
def sp_gcd : Sp := fun vs H Q _ => ∃ a b : Int, vs = [.int a, .int b] ∧ Q (.int (Int.gcd a b : Int)) H
def sp_made : Sp := fun vs H Q _ => ∃ a b : Int, vs = [.int a, .int b] ∧ 0 < b ∧ Sz 4000 b ∧ ∀ p, H p = none → Q (.ref p) (upd H p (.tup [.int (Fr.mk a b).1, .int (Fr.mk a b).2]))
def sp_plus (K : PySem.W.Frag) : Sp := fun vs H Q _ => ∃ (p q : Addr) (a b c d : Int), vs = [.ref p, .ref q] ∧ SqT K H p [.int a, .int b] ∧ SqT K H q [.int c, .int d] ∧ 0 < b ∧ 0 < d ∧ Sz 1000 a ∧ Sz 1000 b ∧ Sz 1000 c ∧ Sz 1000 d ∧
  ∀ r, H r = none → Q (.ref r) (upd H r (.tup [.int (Fr.mk (a * d + c * b) (b * d)).1, .int (Fr.mk (a * d + c * b) (b * d)).2]))
def sp_times (K : PySem.W.Frag) : Sp := fun vs H Q _ => ∃ (p q : Addr) (a b c d : Int), vs = [.ref p, .ref q] ∧ SqT K H p [.int a, .int b] ∧ SqT K H q [.int c, .int d] ∧ 0 < b ∧ 0 < d ∧ Sz 1000 a ∧ Sz 1000 b ∧ Sz 1000 c ∧ Sz 1000 d ∧
  ∀ r, H r = none → Q (.ref r) (upd H r (.tup [.int (Fr.mk (a * c) (b * d)).1, .int (Fr.mk (a * c) (b * d)).2]))
def sp_below (K : PySem.W.Frag) : Sp := fun vs H Q _ => ∃ (p q : Addr) (a b c d : Int), vs = [.ref p, .ref q] ∧ SqT K H p [.int a, .int b] ∧ SqT K H q [.int c, .int d] ∧ Sz 1000 a ∧ Sz 1000 b ∧ Sz 1000 c ∧ Sz 1000 d ∧ Q (.bl (decide (a * d < c * b))) H
theorem up {k : Nat} {x : Int} (h : Sz k x) (hk : k ≤ 4000 := by decide) : Sz 4000 x := h.mono hk
theorem dec_len {x y : Nat} : decide (V.int (x : Int) = V.int (y : Int)) = decide (x = y) := by
  refine decide_eq_decide.mpr ⟨fun h => ?_, fun h => by rw [h]⟩
  injection h with h
  omega
theorem eqD_pair (x y a b : Int) : eqD (.tup [.int x, .int y]) (.tup [.int a, .int b]) = decide ((x, y) = (a, b)) := by
  rw [Bool.eq_iff_iff]
  simp [eqD, eqDs]
abbrev s_greatest_divisor : Stmt := top 3
theorem sc_greatest_divisor : FnScope ["a", "b", "left", "right", "rest"] ["a", "b"] (defScope s_greatest_divisor) := ⟨rfl, rfl, rfl, by decide +kernel, rfl, by decide +kernel, by decide +kernel⟩
theorem ok_greatest_divisor (F : FunM K mg "greatest_divisor" s_greatest_divisor ["a", "b"]) (T : Blt mg) : Def P w K mg base "greatest_divisor" ["a", "b"] 1 sp_gcd := by
  have S := sc_greatest_divisor
  refine Def.of F S (fun vs H Q E h => ?_) (fun f cdv A outer s H vs Q E hr h => ?_)
  · obtain ⟨a, b, rfl, _⟩ := h
    rfl
  · obtain ⟨a, b, rfl, k⟩ := h
    refine ⟨_, (pss_cons (ps_set (i := 2) S.nd rfl (Or.inl rfl) (pe_callB call_abs (by rfl) T.abs_ bt_abs (pa_cons (pv 0) pa_nil st_Name) (he := st_Name)))
      (pss_cons (ps_set (i := 3) S.nd rfl (Or.inl rfl) (pe_callB call_abs (by rfl) T.abs_ bt_abs (pa_cons (pv 1) pa_nil st_Name) (he := st_Name)))
      (pss_cons (ps_while PassesOwn.never (pt_cmpR op_ne (pv 3) pe_int (nomark _))
        (pss_cons (ps_set (i := 4) S.nd rfl (Or.inl rfl) (pe_op op_mod (pv 2) (pv 3)))
      (pss_cons (ps_set (i := 2) S.nd rfl (Or.inl rfl) (pv 3))
      (pss_one (ps_set (i := 3) S.nd rfl (Or.inl rfl) (pv 4))))))
      (pss_one (ps_ret (pv 2)))))), ?_⟩
    refine ⟨_, rfl, _, rfl, _, rfl, _, rfl, ?_⟩
    refine ⟨fun m σ H' => ∃ (l r : Int) (o : Option V), σ = [some (.int a), some (.int b), some (.int l), some (.int r), o] ∧ H' = H ∧ 0 ≤ l ∧ 0 ≤ r ∧ Int.gcd l r = Int.gcd a b ∧ r.toNat = m,
      ⟨_, _, _, _, rfl, rfl, by split <;> omega, by split <;> omega, ?_, rfl⟩, ?_⟩
    · have e1 : (if a < 0 then -a else a) = (a.natAbs : Int) := by split <;> omega
      have e2 : (if b < 0 then -b else b) = (b.natAbs : Int) := by split <;> omega
      rw [e1, e2]
      simp [Int.gcd]
    · rintro m σ H' ⟨l, r, o, rfl, rfl, hl, hr0, hg, hm⟩
      refine ⟨_, rfl, rfl, _, rfl, ?_⟩
      by_cases hz : r = 0
      · subst hz
        refine ifN (by simp) ?_
        refine ⟨_, rfl, ?_⟩
        have e : (Int.gcd a b : Int) = l := by
          rw [← hg, Int.gcd_zero_right]
          omega
        rw [e] at k
        exact k
      · refine ifP (by simp [hz]) ?_
        have hp : 0 < r := by omega
        refine ⟨fun σ' H'' => ∃ o', σ' = [some (.int a), some (.int b), some (.int r), some (.int (l % r)), o'] ∧ H'' = H', fun σ' H'' h => ?_, ?_⟩
        · obtain ⟨o', rfl, rfl⟩ := h
          have h1 := Int.emod_nonneg l hz
          have h2 := Int.emod_lt_of_pos l hp
          exact ⟨_, by omega, r, l % r, o', rfl, rfl, hr0, h1, (Fr.gcd_step l r).trans hg, rfl⟩
        · refine ⟨_, rfl, _, rfl, _, _, rfl, rfl, hp, _, rfl, _, rfl, _, rfl, rfl⟩
abbrev s_made : Stmt := top 4
theorem sc_made : FnScope ["a", "b", "divisor"] ["a", "b"] (defScope s_made) := ⟨rfl, rfl, rfl, by decide +kernel, rfl, by decide +kernel, by decide +kernel⟩
theorem ok_made (F : FunM K mg "made" s_made ["a", "b"]) (T : Blt mg) (G_greatest_divisor : Def P w K mg base "greatest_divisor" ["a", "b"] 1 sp_gcd) : Def P w K mg base "made" ["a", "b"] 2 sp_made := by
  have S := sc_made
  refine Def.of F S (fun vs H Q E h => ?_) (fun f cdv A outer s H vs Q E hr h => ?_)
  · obtain ⟨a, b, rfl, _⟩ := h
    rfl
  · obtain ⟨a, b, rfl, hb, hb2, k⟩ := h
    have g1 := Fr.gcd_pos (a := a) hb
    have g2 := Fr.gcd_le (a := a) hb
    have g3 : Sz 8000 (Int.gcd a b : Int) := by
      have h8 := hb2.mono (show 4000 ≤ 8000 by decide)
      unfold Sz at h8 ⊢
      exact Nat.lt_of_le_of_lt (by omega) h8
    refine ⟨_, (pss_cons (ps_set (i := 2) S.nd rfl (Or.inl rfl) (pe_def G_greatest_divisor (hr.mono (by decide)) rfl (pa_cons (pv 0) (pa_cons (pv 1) pa_nil st_Name) st_Name) (he := st_Name)))
      (pss_one (ps_ret (pe_tup (pa_cons (pe_op op_fdivB (pv 0) (pv 2)) (pa_cons (pe_op op_fdivB (pv 1) (pv 2)) pa_nil st_BinOp) st_BinOp))))), ?_⟩
    refine ⟨_, rfl, _, rfl, _, _, rfl, ?_⟩
    exact ⟨_, rfl, _, rfl, _, _, rfl, rfl, cdivB_sz g1 g3, _, rfl, _, rfl, _, _, rfl, rfl, cdivB_sz g1 g3, (by show 2 ≤ sizeLine; decide), k⟩
abbrev s_plus : Stmt := top 5
theorem sc_plus : FnScope ["one", "other"] ["one", "other"] (defScope s_plus) := ⟨rfl, rfl, rfl, by decide +kernel, rfl, by decide +kernel, by decide +kernel⟩
theorem ok_plus (F : FunM K mg "plus" s_plus ["one", "other"]) (T : Blt mg) (G_made : Def P w K mg base "made" ["a", "b"] 2 sp_made) : Def P w K mg base "plus" ["one", "other"] 3 (sp_plus K) := by
  have S := sc_plus
  refine Def.of F S (fun vs H Q E h => ?_) (fun f cdv A outer s H vs Q E hr h => ?_)
  · obtain ⟨p, q, a, b, c, d, rfl, _⟩ := h
    rfl
  · obtain ⟨p, q, a, b, c, d, rfl, h1, h2, hb, hd, za, zb, zc, zd, k⟩ := h
    have hbd0 : 0 < b * d := Int.mul_pos hb hd
    refine ⟨_, (pss_one (ps_ret (pe_def G_made (hr.mono (by decide)) rfl (pa_cons (pe_op op_add (pe_op op_mulB (pe_ix (ixT K) (pv 0) pe_int (fun _ _ => rfl)) (pe_ix (ixT K) (pv 1) pe_int (fun _ _ => rfl))) (pe_op op_mulB (pe_ix (ixT K) (pv 1) pe_int (fun _ _ => rfl)) (pe_ix (ixT K) (pv 0) pe_int (fun _ _ => rfl)))) (pa_cons (pe_op op_mulB (pe_ix (ixT K) (pv 0) pe_int (fun _ _ => rfl)) (pe_ix (ixT K) (pv 1) pe_int (fun _ _ => rfl))) pa_nil st_BinOp) st_BinOp) (he := st_BinOp)))), ?_⟩
    refine ⟨_, rfl, _, _, _, _, rfl, rfl, h1, rfl, ?_⟩
    refine ⟨_, rfl, _, _, _, _, rfl, rfl, h2, rfl, _, _, rfl, rfl, ⟨up za, up zd⟩, ?_⟩
    refine ⟨_, rfl, _, _, _, _, rfl, rfl, h2, rfl, ?_⟩
    refine ⟨_, rfl, _, _, _, _, rfl, rfl, h1, rfl, _, _, rfl, rfl, ⟨up zc, up zb⟩, _, _, rfl, rfl, ?_⟩
    refine ⟨_, rfl, _, _, _, _, rfl, rfl, h1, rfl, ?_⟩
    refine ⟨_, rfl, _, _, _, _, rfl, rfl, h2, rfl, _, _, rfl, rfl, ⟨up zb, up zd⟩, ?_⟩
    exact ⟨_, _, rfl, hbd0, (zb.mul zd).mono (by decide), k⟩
abbrev s_times : Stmt := top 6
theorem sc_times : FnScope ["one", "other"] ["one", "other"] (defScope s_times) := ⟨rfl, rfl, rfl, by decide +kernel, rfl, by decide +kernel, by decide +kernel⟩
theorem ok_times (F : FunM K mg "times" s_times ["one", "other"]) (T : Blt mg) (G_made : Def P w K mg base "made" ["a", "b"] 2 sp_made) : Def P w K mg base "times" ["one", "other"] 3 (sp_times K) := by
  have S := sc_times
  refine Def.of F S (fun vs H Q E h => ?_) (fun f cdv A outer s H vs Q E hr h => ?_)
  · obtain ⟨p, q, a, b, c, d, rfl, _⟩ := h
    rfl
  · obtain ⟨p, q, a, b, c, d, rfl, h1, h2, hb, hd, za, zb, zc, zd, k⟩ := h
    have hbd0 : 0 < b * d := Int.mul_pos hb hd
    refine ⟨_, (pss_one (ps_ret (pe_def G_made (hr.mono (by decide)) rfl (pa_cons (pe_op op_mulB (pe_ix (ixT K) (pv 0) pe_int (fun _ _ => rfl)) (pe_ix (ixT K) (pv 1) pe_int (fun _ _ => rfl))) (pa_cons (pe_op op_mulB (pe_ix (ixT K) (pv 0) pe_int (fun _ _ => rfl)) (pe_ix (ixT K) (pv 1) pe_int (fun _ _ => rfl))) pa_nil st_BinOp) st_BinOp) (he := st_BinOp)))), ?_⟩
    refine ⟨_, rfl, _, _, _, _, rfl, rfl, h1, rfl, ?_⟩
    refine ⟨_, rfl, _, _, _, _, rfl, rfl, h2, rfl, _, _, rfl, rfl, ⟨up za, up zc⟩, ?_⟩
    refine ⟨_, rfl, _, _, _, _, rfl, rfl, h1, rfl, ?_⟩
    refine ⟨_, rfl, _, _, _, _, rfl, rfl, h2, rfl, _, _, rfl, rfl, ⟨up zb, up zd⟩, ?_⟩
    exact ⟨_, _, rfl, hbd0, (zb.mul zd).mono (by decide), k⟩
abbrev s_below : Stmt := top 7
theorem sc_below : FnScope ["one", "other"] ["one", "other"] (defScope s_below) := ⟨rfl, rfl, rfl, by decide +kernel, rfl, by decide +kernel, by decide +kernel⟩
theorem ok_below (F : FunM K mg "below" s_below ["one", "other"]) (T : Blt mg) : Def P w K mg base "below" ["one", "other"] 1 (sp_below K) := by
  have S := sc_below
  refine Def.of F S (fun vs H Q E h => ?_) (fun f cdv A outer s H vs Q E hr h => ?_)
  · obtain ⟨p, q, a, b, c, d, rfl, _⟩ := h
    rfl
  · obtain ⟨p, q, a, b, c, d, rfl, h1, h2, za, zb, zc, zd, k⟩ := h
    refine ⟨_, (pss_one (ps_ret (pe_cmpR op_lt (pe_op op_mulB (pe_ix (ixT K) (pv 0) pe_int (fun _ _ => rfl)) (pe_ix (ixT K) (pv 1) pe_int (fun _ _ => rfl))) (pe_op op_mulB (pe_ix (ixT K) (pv 1) pe_int (fun _ _ => rfl)) (pe_ix (ixT K) (pv 0) pe_int (fun _ _ => rfl))) (nomark _)))), ?_⟩
    refine ⟨_, rfl, _, _, _, _, rfl, rfl, h1, rfl, ?_⟩
    refine ⟨_, rfl, _, _, _, _, rfl, rfl, h2, rfl, _, _, rfl, rfl, ⟨up za, up zd⟩, ?_⟩
    refine ⟨_, rfl, _, _, _, _, rfl, rfl, h2, rfl, ?_⟩
    exact ⟨_, rfl, _, _, _, _, rfl, rfl, h1, rfl, _, _, rfl, rfl, ⟨up zc, up zb⟩, _, _, rfl, rfl, k⟩
theorem bools_map {α : Type} (f : α → Bool) {R : V → α → Prop} : ∀ {vs ys : List V} {qs : List α}, Paired (fun x y => ∀ q, R x q → y = V.bl (f q)) vs ys → Paired R vs qs → ys = (qs.map f).map V.bl
  | _, _, _, .nil, .nil => rfl
  | _, _, _, .cons h t, .cons q u => by rw [h _ q, bools_map f t u]; rfl
def sp_common : Sp := fun vs H Q _ => ∃ a b : Int, vs = [.int a, .int b] ∧ 0 ≤ a ∧ 0 ≤ b ∧ Q (.int (Int.gcd a b : Int)) H
abbrev s__law_common : Stmt := top 51
theorem sc__law_common : FnScope ["_law_one", "_law_other"] ["_law_one", "_law_other"] (defScope s__law_common) := ⟨rfl, rfl, rfl, by decide +kernel, rfl, by decide +kernel, by decide +kernel⟩
theorem ok__law_common (F : FunM K mg "_law_common" s__law_common ["_law_one", "_law_other"]) (T : Blt mg) : Def P w K mg base "_law_common" ["_law_one", "_law_other"] 1 sp_common := by
  have S := sc__law_common
  refine Def.of F S (fun vs H Q E h => ?_) (fun f cdv A outer s H vs Q E hr h => ?_)
  · obtain ⟨a, b, rfl, _⟩ := h
    rfl
  · obtain ⟨a, b, rfl, ha, hb, k⟩ := h
    refine ⟨_, (pss_cons (ps_while PassesOwn.never (pt_cmpR op_gt (pv 1) pe_int (nomark _))
        (pss_one (ps_par (i := 0) (j := 1) rfl S.nd rfl rfl (by decide) rfl rfl (pa_cons (pv 1) (pa_cons (pe_op op_mod (pv 0) (pv 1)) pa_nil st_BinOp) st_Name) rfl)))
      (pss_one (ps_ret (pv 0)))), ?_⟩
    refine ⟨fun m σ H' => ∃ (l r : Int), σ = [some (.int l), some (.int r)] ∧ H' = H ∧ 0 ≤ l ∧ 0 ≤ r ∧ Int.gcd l r = Int.gcd a b ∧ r.toNat = m, ⟨_, _, _, rfl, rfl, ha, hb, rfl, rfl⟩, ?_⟩
    rintro m σ H' ⟨l, r, rfl, rfl, hl, hr0, hg, hm⟩
    refine ⟨_, rfl, _, _, rfl, rfl, _, rfl, ?_⟩
    by_cases hp : 0 < r
    · refine ifP (by simpa using hp) ?_
      refine ⟨fun σ' H'' => σ' = [some (.int r), some (.int (l % r))] ∧ H'' = H', fun σ' H'' h => ?_, ?_⟩
      · obtain ⟨rfl, rfl⟩ := h
        have h1 := Int.emod_nonneg l (show r ≠ 0 by omega)
        have h2 := Int.emod_lt_of_pos l hp
        exact ⟨_, by omega, r, l % r, rfl, rfl, hr0, h1, (Fr.gcd_step l r).trans hg, rfl⟩
      · exact ⟨_, rfl, _, rfl, _, rfl, _, _, rfl, rfl, hp, _, _, rfl, rfl, rfl⟩
    · refine ifN (by simpa using hp) ?_
      refine ⟨_, rfl, ?_⟩
      have hz : r = 0 := by omega
      subst hz
      have e : (Int.gcd a b : Int) = l := by
        rw [← hg, Int.gcd_zero_right]
        omega
      rw [e] at k
      exact k
/-! ### what is got -/
def sp_weighed : Sp := fun vs H Q _ => ∃ (a b : Addr) (r : List Int) (qs : List (Int × Int)), vs = [.ref a, .ref b] ∧ IsFrs H a (r.map fun x => (x, 1)) ∧ IsFrs H b qs ∧ GQ qs ∧ (∀ x ∈ r, Sz 9 x) ∧ ∀ p H', New H H' p (.tup [.int (rowF r qs).1, .int (rowF r qs).2]) → Q (.ref p) H'
theorem map1_get {r : List Int} {i : Nat} {f : Int × Int} (h : (r.map fun x => (x, (1 : Int)))[i]? = some f) : ∃ u, r[i]? = some u ∧ f = (u, 1) := by
  rw [List.getElem?_map] at h
  cases e : r[i]? with
  | none => rw [e] at h; cases h
  | some x => rw [e] at h; exact ⟨x, rfl, by cases h; rfl⟩
theorem sz1 : Sz 1000 1 := (show Sz 1 1 from by unfold Sz; decide).mono (by decide)
abbrev s_weighed : Stmt := top 9
theorem sc_weighed : FnScope ["values", "mixture", "total", "value", "share"] ["values", "mixture"] (defScope s_weighed) := ⟨rfl, rfl, rfl, by decide +kernel, rfl, by decide +kernel, by decide +kernel⟩
theorem ok_weighed (F : FunM K mg "weighed" s_weighed ["values", "mixture"]) (T : Blt mg) (G_plus : Def P w K mg base "plus" ["one", "other"] 3 (sp_plus K)) (G_times : Def P w K mg base "times" ["one", "other"] 3 (sp_times K)) : Def P w K mg base "weighed" ["values", "mixture"] 4 sp_weighed := by
  have S := sc_weighed
  refine Def.of F S (fun vs H Q E h => ?_) (fun f cdv A outer s H vs Q E hr h => ?_)
  · obtain ⟨a, b, r, qs, rfl, _⟩ := h
    rfl
  · obtain ⟨a, b, r, qs, rfl, hU, hW, g, hb, k⟩ := h
    obtain ⟨xs, ha, pa⟩ := id hU
    obtain ⟨ys, hbb, pb⟩ := id hW
    have gz := gx_zip hb g
    have zl := zip_le r g
    refine ⟨_, (pss_cons (ps_set (i := 2) S.nd rfl (Or.inl rfl) (pe_tup (pa_cons pe_int (pa_cons pe_int pa_nil st_Constant) st_Constant)))
      (pss_cons (ps_for PassesOwn.never rfl (piZip K rfl T.zip_ (pa_cons (pv 0) (pa_cons (pv 1) pa_nil st_Name) st_Name)) (pgT K (n := 2) (pgs_cons (pg_name (i := 3) S.nd rfl (Or.inl rfl)) (pgs_cons (pg_name (i := 4) S.nd rfl (Or.inl rfl)) pgs_nil)))
        (pss_one (ps_set (i := 2) S.nd rfl (Or.inl rfl) (pe_def G_plus (hr.mono (by decide)) rfl (pa_cons (pv 2) (pa_cons (pe_def G_times (hr.mono (by decide)) rfl (pa_cons (pv 3) (pa_cons (pv 4) pa_nil st_Name) st_Name) (he := st_Name)) pa_nil st_Call) st_Name) (he := st_Name)))))
      (pss_one (ps_ret (pv 2))))), ?_⟩
    refine ⟨(by show 2 ≤ sizeLine; decide), fun t ht => ?_⟩
    have s1 : Same H (upd H t (.tup [.int 0, .int 1])) := same_upd ht
    refine ⟨_, rfl, _, rfl, a, b, rfl, ⟨_, SqL.of (s1 _ _ ha)⟩, ⟨_, SqL.of (s1 _ _ hbb)⟩, for_zip (K := K) (a := a) (b := b) (xs := xs) (ys := ys) (fun i σ H' => ∃ t o1 o2, σ = [some (.ref a), some (.ref b), some (.ref t), o1, o2] ∧ New H H' t (.tup [.int (Fr.mk (acc ((r.zip qs).take i)).1 (acc ((r.zip qs).take i)).2).1, .int (Fr.mk (acc ((r.zip qs).take i)).1 (acc ((r.zip qs).take i)).2).2]))
        ⟨t, _, _, rfl, ht, by rw [upd_same, List.take_zero]; rfl, s1⟩ ?_ ?_ ?_⟩
    · rintro i σ H' ⟨_, _, _, _, nw⟩
      exact ⟨SqL.of (nw.same _ _ ha), SqL.of (nw.same _ _ hbb)⟩
    · rintro i x y p σ H' hx hy hp ⟨t', o1, o2, rfl, nw⟩
      obtain ⟨f1, e1, c1, rfl, h1⟩ := pa.get2 hx
      obtain ⟨u, hu, rfl⟩ := map1_get e1
      obtain ⟨f2, e2, c2, rfl, h2⟩ := pb.get2 hy
      have sp := nw.same.trans (same_upd (o := .tup [.ref c1, .ref c2]) hp)
      have mq := List.mem_of_getElem? e2
      have pq := g.pr _ mq
      have ez : (r.zip qs)[i]? = some (u, f2) := List.getElem?_zip_eq_some.mpr ⟨hu, e2⟩
      have gt := gz.take i
      have lt : ((r.zip qs).take i).length ≤ 8 := by rw [List.length_take]; omega
      have p0 := acc_pos gt
      have szu := hb u (List.mem_of_getElem? hu)
      have d0 : 0 < 1 * f2.2 := by have := pq.pos; omega
      have sn : Sz 69 (u * f2.1) := szu.mul (g.s1 _ mq)
      have sd : Sz 61 (1 * f2.2) := (show Sz 1 1 from by unfold Sz; decide).mul (g.s2 _ mq)
      refine ⟨p, _, rfl, SqT.of upd_same, rfl, _, _, rfl, _, _, rfl, rfl, ?_⟩
      refine ⟨_, rfl, _, rfl, _, rfl, c1, c2, _, _, _, _, rfl, SqT.of (sp _ _ h1), SqT.of (sp _ _ h2), (by show (0 : Int) < 1; decide), pq.pos, szu.mono (by decide), sz1, (g.s1 _ mq).mono (by decide), (g.s2 _ mq).mono (by decide), fun r1 hr' => ?_⟩
      have nr := nw.post (same_upd (o := .tup [.ref c1, .ref c2]) hp)
      refine ⟨t', r1, _, _, _, _, rfl, SqT.of (same_upd hr' _ _ nr.is), SqT.of upd_same, Fr.mk_pos p0, Fr.mk_pos d0, ((acc_s1 gt lt).fst p0).mono (by decide), ((acc_s2 gt lt).snd p0).mono (by decide), (sn.fst d0).mono (by decide), (sd.snd d0).mono (by decide), fun r2 hr2 => ?_⟩
      have sq := sp.trans (same_upd (o := .tup [.int (Fr.mk (u * f2.1) (1 * f2.2)).1, .int (Fr.mk (u * f2.1) (1 * f2.2)).2]) hr')
      refine ⟨r2, _, _, rfl, ?_⟩
      rw [mk_stp p0 pq, acc_take ez]
      exact New.of sq hr2
    · rintro σ H' ⟨t', o1, o2, rfl, nw⟩
      have l1 : (r.zip qs).take (min xs.length ys.length) = r.zip qs := List.take_of_length_le (by rw [List.length_zip, pa.length, pb.length, List.length_map]; exact Nat.le_refl _)
      rw [l1] at nw
      exact ⟨_, rfl, k t' H' nw⟩
theorem fr_ints {H : Hp} (f : Int → Int × Int) : ∀ {r : List Int} {ys : List V}, Paired (fun x y => ∀ i, x = V.int i → IsFr H y (f i)) (r.map V.int) ys → Paired (IsFr H) ys (r.map f)
  | [], _, h => by cases h; exact .nil
  | i :: r, _, h => by
    cases h with
    | cons h t => exact .cons (h i rfl) (fr_ints f t)
theorem fr_rows {H H' : Hp} (f : List Int → Int × Int) : ∀ {vs ys : List V} {T : List (List Int)}, Paired (fun x y => ∀ r, IsRow H x r → IsFr H' y (f r)) vs ys → Paired (IsRow H) vs T → Paired (IsFr H') ys (T.map f)
  | _, _, _, .nil, .nil => .nil
  | _, _, _, .cons h t, .cons q u => .cons (h _ q) (fr_rows f t u)
/-- a fraction of each row of a table -/
theorem comp_rowsf {a : Addr} {T : List (List Int)} {te : TE} {σc : St} {H : Hp} {Fin : List V → Hp → Prop} (f : List Int → Int × Int) (hT : IsTab H a T) (hz : T.length ≤ 1000)
    (hs : ∀ r ∈ T, ∀ b, H b = some (.lst (r.map V.int)) → ∀ H1, Same H H1 → ∀ Q : VK, (∀ y H2, Same H1 H2 → IsFr H2 y (f r) → Q y H2) → te (σc.set 0 (some (.ref b))) H1 Q)
    (hd : ∀ ys H', Same H H' → Paired (IsFr H') ys (T.map f) → Fin ys H') : tCompK (Itl K a) (gName 0) tYes te σc H Fin := by
  obtain ⟨vs, ha, hp⟩ := hT
  refine comp_each (xs := vs) (fun x y H' => ∀ r, IsRow H x r → IsFr H' y (f r)) (fun _ _ _ _ s h r q => (h r q).mono s) (SqL.of ha) (by rw [hp.length]; exact Nat.le_of_lt (small1000 hz)) ?_ ?_
  · intro x hx H1 s1 Q q
    obtain ⟨r, hr, hrow⟩ := hp.mem2 hx
    obtain ⟨b, rfl, hb⟩ := id hrow
    exact hs r hr b hb H1 s1 Q fun y H2 s2 ho => q _ H2 s2 fun r' h' => by rw [← hrow.inj h']; exact ho
  · intro ys H' s' pr
    exact hd ys H' s' (fr_rows f pr hp)
def sp_rowgets : Sp := fun vs H Q _ => ∃ (a b : Addr) (r : List Int) (qs : List (Int × Int)), vs = [.ref a, .ref b] ∧ H a = some (.lst (r.map V.int)) ∧ r.length ≤ 1000 ∧ IsFrs H b qs ∧ GQ qs ∧ (∀ x ∈ r, Sz 9 x) ∧ ∀ p H', New H H' p (.tup [.int (rowF r qs).1, .int (rowF r qs).2]) → Q (.ref p) H'
abbrev s_row_gets : Stmt := top 10
theorem sc_row_gets : FnScope ["row", "mixture"] ["row", "mixture"] (defScope s_row_gets) := ⟨rfl, rfl, rfl, by decide +kernel, rfl, by decide +kernel, by decide +kernel⟩
theorem ok_row_gets (F : FunM K mg "row_gets" s_row_gets ["row", "mixture"]) (T : Blt mg) (G_weighed : Def P w K mg base "weighed" ["values", "mixture"] 4 sp_weighed) : Def P w K mg base "row_gets" ["row", "mixture"] 5 sp_rowgets := by
  have S := sc_row_gets
  refine Def.of F S (fun vs H Q E h => ?_) (fun f cdv A outer s H vs Q E hr h => ?_)
  · obtain ⟨a, b, r, qs, rfl, _⟩ := h
    rfl
  · obtain ⟨a, b, r, qs, rfl, ha, hl, hW, g, hb, k⟩ := h
    refine ⟨_, (pss_one (ps_ret (pe_def G_weighed (hr.mono (by decide)) rfl (pa_cons (pe_comp rfl (N' := ["number"]) (src := [none]) rfl (piL K (pv 0)) (fun _ _ _ _ _ => (pg_name (i := 0) (show (["number"] : List Str).Nodup from by decide +kernel) rfl (Or.inl rfl))) (fun _ _ _ _ _ => pts_nil) (fun _ _ _ _ _ => (pe_tup (pa_cons (pv 0) (pa_cons pe_int pa_nil st_Constant) st_Name)))) (pa_cons (pv 1) pa_nil st_Name) st_ListComp) (he := st_ListComp)))), ?_⟩
    refine ⟨_, rfl, a, rfl, ⟨_, SqL.of ha⟩, comp_each (xs := r.map V.int) (fun x y H' => ∀ i, x = V.int i → IsFr H' y (i, 1)) (fun _ _ _ _ s h i e => (h i e).mono s) (SqL.of ha) (by rw [List.length_map]; exact Nat.le_of_lt (small1000 hl)) ?_ ?_⟩
    · intro x hx H1 s1 Q' q
      obtain ⟨i, hi, rfl⟩ := List.mem_map.mp hx
      refine ⟨_, rfl, (by show 2 ≤ sizeLine; decide), fun p hp => q _ _ (same_upd hp) fun j e => ?_⟩
      cases e
      exact ⟨p, rfl, upd_same⟩
    · intro ys H' s' pr p hp
      have pf := fr_ints (fun i => (i, 1)) pr
      exact ⟨_, rfl, p, b, r, qs, rfl, ⟨ys, upd_same, pf.imp2 fun _ _ z => z.mono (same_upd hp)⟩, (hW.mono s').mono (same_upd hp), g, hb, fun p' H2 nw => k p' H2 (nw.pre (s'.trans (same_upd hp)))⟩
def sp_allget : Sp := fun vs H Q _ => ∃ (a c : Addr) (U : List (List Int)) (m n : Nat) (qs : List (Int × Int)), vs = [.ref a, .ref c] ∧ IsTab H a U ∧ Gd U m n ∧ IsFrs H c qs ∧ GQ qs ∧ ∀ p H', Same H H' → H p = none → IsFrs H' p (U.map fun r => rowF r qs) → Q (.ref p) H'
abbrev s_all_get : Stmt := top 11
theorem sc_all_get : FnScope ["rows", "mixture"] ["rows", "mixture"] (defScope s_all_get) := ⟨rfl, rfl, rfl, by decide +kernel, rfl, by decide +kernel, by decide +kernel⟩
theorem ok_all_get (F : FunM K mg "all_get" s_all_get ["rows", "mixture"]) (T : Blt mg) (G_row_gets : Def P w K mg base "row_gets" ["row", "mixture"] 5 sp_rowgets) : Def P w K mg base "all_get" ["rows", "mixture"] 6 sp_allget := by
  have S := sc_all_get
  refine Def.of F S (fun vs H Q E h => ?_) (fun f cdv A outer s H vs Q E hr h => ?_)
  · obtain ⟨a, c, U, m, n, qs, rfl, _⟩ := h
    rfl
  · obtain ⟨a, c, U, m, n, qs, rfl, hU, g, hC, gc, k⟩ := h
    have m4 := g.m4
    have n4 := g.n4
    obtain ⟨vs, ha, hp⟩ := id hU
    refine ⟨_, (pss_one (ps_ret (pe_comp rfl (N' := ["row", "mixture"]) (src := [none, some 1]) rfl (piL K (pv 0)) (fun _ _ _ _ _ => (pg_name (i := 0) (show (["row", "mixture"] : List Str).Nodup from by decide +kernel) rfl (Or.inl rfl))) (fun _ _ _ _ _ => pts_nil) (fun _ _ _ _ _ => (pe_def G_row_gets (hr.mono (by decide)) rfl (pa_cons (pv 0) (pa_cons (pv 1) pa_nil st_Name) st_Name) (he := st_Name)))))), ?_⟩
    refine ⟨_, rfl, a, rfl, ⟨_, SqL.of ha⟩, comp_rowsf (fun r => rowF r qs) hU (by rw [g.rows]; omega) ?_ ?_⟩
    · intro r hr' x hx H4 s4 Q' q
      exact ⟨_, rfl, _, rfl, x, c, r, qs, rfl, s4 _ _ hx, by rw [g.cols r hr']; omega, hC.mono s4, gc, g.sz hr', fun p H5 nw => q _ H5 nw.same ⟨p, rfl, nw.is⟩⟩
    · intro ys H4 s4 pr p hp
      exact k p _ (s4.trans (same_upd hp)) (s4.free hp) ⟨ys, upd_same, pr.imp2 fun _ _ z => z.mono (same_upd hp)⟩
def cols (T : List (List Int)) (n : Nat) : List (List Int) := (List.range n).map fun j => T.map fun r => r.getD j 0
def sp_col : Sp := fun vs H Q _ => ∃ (a : Addr) (U : List (List Int)) (m n j : Nat), vs = [.ref a, .int j] ∧ IsTab H a U ∧ Gd U m n ∧ j < n ∧ ∀ p H', New H H' p (.lst ((U.map fun r => r.getD j 0).map V.int)) → Q (.ref p) H'
def sp_cols : Sp := fun vs H Q _ => ∃ (a : Addr) (U : List (List Int)) (m n : Nat), vs = [.ref a] ∧ IsTab H a U ∧ Gd U m n ∧ ∀ p H', Same H H' → OwnTab H H' p (cols U n) → Q (.ref p) H'
theorem cols_row {U : List (List Int)} {n : Nat} {r : List Int} (h : r ∈ cols U n) : r.length = U.length := by
  unfold cols at h
  obtain ⟨j, _, rfl⟩ := List.mem_map.mp h
  rw [List.length_map]
theorem cols_len (U : List (List Int)) (n : Nat) : (cols U n).length = n := by
  unfold cols
  rw [List.length_map, List.length_range]
theorem map_getD {α : Type} (f : List Int → α) (U : List (List Int)) (d : α) {i : Nat} (h : i < U.length) : (U.map f).getD i d = f (U.getD i []) := by
  rw [List.getD_eq_getElem?_getD, List.getElem?_map, List.getElem?_eq_getElem h, List.getD_eq_getElem?_getD, List.getElem?_eq_getElem h]
  rfl
abbrev s_column_of : Stmt := top 36
theorem sc_column_of : FnScope ["table", "column"] ["table", "column"] (defScope s_column_of) := ⟨rfl, rfl, rfl, by decide +kernel, rfl, by decide +kernel, by decide +kernel⟩
theorem ok_column_of (F : FunM K mg "column_of" s_column_of ["table", "column"]) (T : Blt mg) : Def P w K mg base "column_of" ["table", "column"] 1 sp_col := by
  have S := sc_column_of
  refine Def.of F S (fun vs H Q E h => ?_) (fun f cdv A outer s H vs Q E hr h => ?_)
  · obtain ⟨a, U, m, n, j, rfl, _⟩ := h
    rfl
  · obtain ⟨a, U, m, n, j, rfl, hU, g, hj, k⟩ := h
    have m4 := g.m4
    obtain ⟨vs, ha, hp⟩ := id hU
    refine ⟨_, (pss_one (ps_ret (pe_comp rfl (N' := ["row", "column"]) (src := [none, some 1]) rfl (piL K (pv 0)) (fun _ _ _ _ _ => (pg_name (i := 0) (show (["row", "column"] : List Str).Nodup from by decide +kernel) rfl (Or.inl rfl))) (fun _ _ _ _ _ => pts_nil) (fun _ _ _ _ _ => (pe_ix (ixL K) (pv 0) (pv 1) (fun _ _ => rfl)))))), ?_⟩
    refine ⟨_, rfl, a, rfl, ⟨_, SqL.of ha⟩, comp_rows (fun r => r.getD j 0) hU (by rw [g.rows]; omega) ?_ ?_⟩
    · intro r hr' b hb H1 s1 Q' q
      exact ⟨_, rfl, _, rfl, b, _, _, _, rfl, rfl, SqL.of (s1 _ _ hb), atI_int (by rw [g.cols r hr']; exact hj), q H1 (Same.refl _)⟩
    · intro H' s' p hp'
      exact k p _ (New.of s' hp')
abbrev s_columns_of : Stmt := top 37
theorem sc_columns_of : FnScope ["table"] ["table"] (defScope s_columns_of) := ⟨rfl, rfl, rfl, by decide +kernel, rfl, by decide +kernel, by decide +kernel⟩
theorem ok_columns_of (F : FunM K mg "columns_of" s_columns_of ["table"]) (T : Blt mg) (G_column_of : Def P w K mg base "column_of" ["table", "column"] 1 sp_col) : Def P w K mg base "columns_of" ["table"] 2 sp_cols := by
  have S := sc_columns_of
  refine Def.of F S (fun vs H Q E h => ?_) (fun f cdv A outer s H vs Q E hr h => ?_)
  · obtain ⟨a, U, m, n, rfl, _⟩ := h
    rfl
  · obtain ⟨a, U, m, n, rfl, hU, g, k⟩ := h
    have n4 := g.n4
    obtain ⟨vs, b0, ha, h0, at0, hb0⟩ := hU.row (i := 0) (by rw [g.rows]; exact g.m1)
    have hl : ((U.getD 0 []).map V.int).length = n := by rw [List.length_map, (g.row g.m1).2]
    refine ⟨_, (pss_one (ps_ret (pe_comp rfl (N' := ["column", "table"]) (src := [none, some 0]) rfl (pi_range1 rfl T.range_ (pa_cons (pe_callB (lenK K) (by rfl) T.len_ bt_len (pa_cons (pe_ix (ixL K) (pv 0) pe_int (fun _ _ => rfl)) pa_nil st_Subscript) (he := st_Subscript)) pa_nil st_Call)) (fun _ _ _ _ _ => (pg_name (i := 0) (show (["column", "table"] : List Str).Nodup from by decide +kernel) rfl (Or.inl rfl))) (fun _ _ _ _ _ => pts_nil) (fun _ _ _ _ _ => (pe_def G_column_of (hr.mono (by decide)) rfl (pa_cons (pv 1) (pa_cons (pv 0) pa_nil st_Name) st_Name) (he := st_Name)))))), ?_⟩
    refine ⟨_, rfl, a, vs, 0, _, rfl, rfl, SqL.of ha, at0, b0, _, rfl, .inl (SqL.of hb0), _, rfl, by omega, by omega, comp_each_r (n := ((U.getD 0 []).map V.int).length) (fun (i : Nat) y H' => OwnRow H H' y (U.map fun (r : List Int) => r.getD i 0)) (fun _ _ _ _ s h => h.mono s) (Nat.le_of_lt (small1000 (by omega))) ?_ ?_⟩
    · intro i hi H1 s1 Q' q
      exact ⟨_, rfl, _, rfl, a, U, m, n, i, rfl, hU.mono s1, g, by omega, fun p H2 nw => q _ H2 nw.same ⟨p, rfl, s1.free nw.new, nw.is⟩⟩
    · intro ys H' s' pr p hp'
      rw [hl] at pr
      exact k p _ (s'.trans (same_upd hp')) (OwnTab.lay s' hp' (range_map _ pr))
theorem cols_gd {U : List (List Int)} {m n : Nat} (g : Gd U m n) : Gd (cols U n) n m := by
  refine ⟨g.n1, g.n4, g.m1, g.m4, cols_len U n, fun r hr => by rw [cols_row hr, g.rows], fun r hr x hx => ?_⟩
  unfold cols at hr
  obtain ⟨j, hj, rfl⟩ := List.mem_map.mp hr
  obtain ⟨r, hr', rfl⟩ := List.mem_map.mp hx
  have hj' : j < r.length := by rw [g.cols r hr']; exact List.mem_range.mp hj
  exact g.num r hr' (r.getD j 0) (by rw [List.getD_eq_getElem?_getD, List.getElem?_eq_getElem hj']; exact List.getElem_mem hj')
theorem mem_getD' {U : List (List Int)} {r : List Int} (h : r ∈ U) : ∃ i, i < U.length ∧ U.getD i [] = r := by
  obtain ⟨i, hi, e⟩ := List.mem_iff_getElem.mp h
  exact ⟨i, hi, by rw [List.getD_eq_getElem?_getD, List.getElem?_eq_getElem hi]; exact e⟩
/-! ### determinants -/
structure Sqr (M : List (List Int)) (t : Nat) : Prop where
  rows : M.length = t
  cols : ∀ r ∈ M, r.length = t
  num : ∀ r ∈ M, ∀ x ∈ r, Sz 9 x
theorem sm_sz {s : Nat} {f : Nat → Int} : ∀ n, (∀ j, j < n → Sz s (f j)) → Sz (s + n) (Gm.sm n f)
  | 0, _ => by
    unfold Sz
    exact Nat.pow_pos (by decide)
  | n + 1, h => ((sm_sz n fun j hj => h j (by omega)).add ((h n (by omega)).mono (by omega)) : Sz (s + n + 1) _)
theorem sg_sz (c : Nat) : Sz 1 (Gm.sg c) := by
  unfold Gm.sg Sz
  split <;> decide
theorem minor_sqr {M : List (List Int)} {t : Nat} (g : Sqr M (t + 1)) {c : Nat} (hc : c < t + 1) : Sqr ((M.drop 1).map fun r => Gm.cut r c) t := by
  refine ⟨by rw [List.length_map, List.length_drop, g.rows]; omega, fun r hr => ?_, fun r hr x hx => ?_⟩
  · obtain ⟨r0, h0, rfl⟩ := List.mem_map.mp hr
    have := g.cols r0 (List.mem_of_mem_drop h0)
    unfold Gm.cut
    rw [List.length_append, List.length_take, List.length_drop, this]
    omega
  · obtain ⟨r0, h0, rfl⟩ := List.mem_map.mp hr
    unfold Gm.cut at hx
    rcases List.mem_append.mp hx with h | h
    · exact g.num r0 (List.mem_of_mem_drop h0) x (List.mem_of_mem_take h)
    · exact g.num r0 (List.mem_of_mem_drop h0) x (List.mem_of_mem_drop h)
theorem getD_sz {r : List Int} (h : ∀ x ∈ r, Sz 9 x) (j : Nat) : Sz 9 (r.getD j 0) := by
  rw [List.getD_eq_getElem?_getD]
  cases e : r[j]? with
  | none => show Sz 9 0; unfold Sz; decide
  | some x => exact h x (List.mem_of_getElem? e)
theorem det_sz : ∀ (t : Nat) (M : List (List Int)), t ≤ 4 → Sqr M t → Sz (14 * t + 2) (Gm.detN t M)
  | 0, M, _, _ => by
    show Sz 2 1
    unfold Sz; decide
  | t + 1, M, ht, g => by
    have h : ∀ c, c < t + 1 → Sz (14 * t + 12) (Gm.sg c * (M.getD 0 []).getD c 0 * Gm.detN t ((M.drop 1).map fun r => Gm.cut r c)) := fun c hc => by
      have h0 : 0 < M.length := by rw [g.rows]; omega
      have hr : M.getD 0 [] ∈ M := by rw [List.getD_eq_getElem?_getD, List.getElem?_eq_getElem h0]; exact List.getElem_mem h0
      have := ((sg_sz c).mul (getD_sz (g.num _ hr) c)).mul (det_sz t _ (by omega) (minor_sqr g hc))
      exact this.mono (by omega)
    exact (sm_sz (t + 1) h).mono (by omega)
def sp_det (k : Nat) : Sp := fun vs H Q _ => ∃ (a : Addr) (M : List (List Int)) (t : Nat), t < k ∧ vs = [.ref a] ∧ IsTab H a M ∧ Sqr M t ∧ ∀ H', Same H H' → Q (.int (Gm.detN t M)) H'
theorem sg_succ (c : Nat) : Gm.sg (c + 1) = - Gm.sg c := by
  unfold Gm.sg
  by_cases h : c % 2 = 0
  · rw [if_neg (by omega), if_pos h]
  · rw [if_pos (by omega), if_neg h]; rfl
theorem cut_row {r : List Int} {c : Nat} (h : c < r.length) : cutV (r.map V.int) none (some (c : Int)) ++ cutV (r.map V.int) (some ((c : Int) + 1)) none = (Gm.cut r c).map V.int := by
  rw [cut_take (by omega) (by rw [List.length_map]; omega), cut_drop (by omega) (by rw [List.length_map]; omega)]
  unfold Gm.cut
  rw [List.map_append, List.map_take, List.map_drop, Int.toNat_natCast, show ((c : Int) + 1).toNat = c + 1 by omega]
theorem never_def {x : Str} {st : Stmt} {ps : List Str} (F : FunM K mg x st ps) : Def P w K mg base x ps 0 (fun _ _ _ _ => False) := by
  obtain ⟨f, fd, F1, hm, hb⟩ := F.ex
  exact ⟨f, fd, ⟨fun _ _ _ _ h => h.elim, fun _ _ _ _ _ _ _ _ _ _ _ _ _ h => h.elim⟩, hm, F1.kp, hb⟩
abbrev s_determinant : Stmt := top 13
theorem sc_determinant : FnScope ["square", "total", "sign", "column", "rest"] ["square"] (defScope s_determinant) := ⟨rfl, rfl, rfl, by decide +kernel, rfl, by decide +kernel, by decide +kernel⟩
theorem det_step (F : FunM K mg "determinant" s_determinant ["square"]) (T : Blt mg) (j k : Nat) (hk : k ≤ 4) (G_determinant : Def P w K mg base "determinant" ["square"] j (sp_det k)) : Def P w K mg base "determinant" ["square"] (j + 1) (sp_det (k + 1)) := by
  have S := sc_determinant
  refine Def.of F S (fun vs H Q E h => ?_) (fun f cdv A outer s H vs Q E hr h => ?_)
  · obtain ⟨a, M, t, _, rfl, _⟩ := h
    rfl
  · obtain ⟨a, M, t, ht, rfl, hM, g, kk⟩ := h
    obtain ⟨vs, ha, hp⟩ := id hM
    have vl : vs.length = t := by rw [hp.length, g.rows]
    refine ⟨_, (pss_cons (ps_if (pt_cmpR op_eq (pe_callB (lenK K) (by rfl) T.len_ bt_len (pa_cons (pv 0) pa_nil st_Name) (he := st_Name)) pe_int (nomark _))
        (pss_one (ps_ret pe_int)) pss_nil)
      (pss_cons (ps_set (i := 1) S.nd rfl (Or.inl rfl) pe_int)
      (pss_cons (ps_set (i := 2) S.nd rfl (Or.inl rfl) pe_int)
      (pss_cons (ps_for PassesOwn.never rfl (pi_range1 rfl T.range_ (pa_cons (pe_callB (lenK K) (by rfl) T.len_ bt_len (pa_cons (pv 0) pa_nil st_Name) (he := st_Name)) pa_nil st_Call)) (pg_name (i := 3) S.nd rfl (Or.inr rfl))
        (pss_cons (ps_setC (i := 4) rfl S.nd rfl rfl (N' := ["row", "column"]) (src := [none, some 3]) rfl (piL K (pe_slice (slL K) (pv 0) (po_some pe_int) po_none)) (fun _ _ _ _ _ => (pg_name (i := 0) (show (["row", "column"] : List Str).Nodup from by decide +kernel) rfl (Or.inl rfl))) (fun _ _ _ _ _ => pts_nil) (fun _ _ _ _ _ => (pe_op op_cat (pe_slice (slL K) (pv 0) po_none (po_some (pv 1))) (pe_slice (slL K) (pv 0) (po_some (pe_op op_add (pv 1) pe_int)) po_none))))
      (pss_cons (ps_set (i := 1) S.nd rfl (Or.inl rfl) (pe_op op_add (pv 1) (pe_op op_mulB (pe_op op_mulB (pv 2) (pe_ix (ixL K) (pe_ix (ixL K) (pv 0) pe_int (fun _ _ => rfl)) (pv 3) (fun _ _ => rfl))) (pe_def G_determinant (hr.mono (by omega)) rfl (pa_cons (pv 4) pa_nil st_Name) (he := st_Name)))))
      (pss_one (ps_set (i := 2) S.nd rfl (Or.inl rfl) (pe_un un_neg (pv 2)))))))
      (pss_one (ps_ret (pv 1))))))), ?_⟩
    refine ⟨_, rfl, a, vs, rfl, .inl (SqL.of ha), rfl, _, rfl, ?_⟩
    cases t with
    | zero =>
      refine ifP (by rw [vl]; rfl) ?_
      exact kk H (Same.refl _)
    | succ t =>
      refine ifN (by rw [vl]; simp; omega) ?_
      refine ⟨_, rfl, a, vs, rfl, .inl (SqL.of ha), _, rfl, by omega, by omega, for_range (n := vs.length) (fun i σ H' => ∃ o3 o4, σ = [some (.ref a), some (.int (Gm.sm i fun c => Gm.sg c * (M.getD 0 []).getD c 0 * Gm.detN t ((M.drop 1).map fun r => Gm.cut r c))), some (.int (Gm.sg i)), o3, o4] ∧ Same H H')
        ⟨_, _, rfl, Same.refl _⟩ ?_ ?_⟩
      · rintro i σ H1 hi ⟨o3, o4, rfl, s1⟩
        rw [vl] at hi
        have ei : (0 : Int) + (i : Int) = (i : Int) := by omega
        rw [ei]
        have hp1 := hp.imp2 fun _ _ z => z.mono s1
        -- the rest
        refine ⟨_, rfl, _, rfl, a, vs, rfl, SqL.of (s1 _ _ ha), fun q hq => ?_⟩
        have ed : cutV vs (some 1) none = vs.drop 1 := cut_drop (k := 1) (by decide) (by rw [vl]; omega)
        rw [ed]
        have hR : IsTab (upd H1 q (.lst (vs.drop 1))) q (M.drop 1) := IsTab.drop1 hq hp1
        have s2 : Same H1 (upd H1 q (.lst (vs.drop 1))) := same_upd hq
        generalize upd H1 q (.lst (vs.drop 1)) = H2 at hR s2 ⊢
        obtain ⟨ws, hqw, _⟩ := id hR
        refine ⟨q, rfl, ⟨_, SqL.of hqw⟩, comp_rowsl (fun r => Gm.cut r i) hR (by rw [List.length_drop, g.rows]; omega) ?_ ?_⟩
        · intro r hr' b hb H3 s3 Q' q'
          have rl : i < r.length := by rw [g.cols r (List.mem_of_mem_drop hr')]; exact hi
          refine ⟨_, rfl, _, rfl, _, rfl, b, _, rfl, SqL.of (s3 _ _ hb), fun q1 hq1 => ?_⟩
          refine ⟨_, rfl, _, rfl, _, _, rfl, rfl, _, rfl, b, _, rfl, SqL.of (same_upd hq1 _ _ (s3 _ _ hb)), fun q2 hq2 => ?_⟩
          have g1 := same_upd (o := .lst (cutV (r.map V.int) (some ((i : Int) + 1)) none)) hq2 _ _ (upd_same (H := H3) (a := q1) (o := .lst (cutV (r.map V.int) none (some (i : Int)))))
          refine ⟨q1, q2, _, _, rfl, rfl, g1, upd_same, ?_, fun q3 hq3 => ?_⟩
          · rw [← List.length_append, cut_row rl, List.length_map]
            unfold Gm.cut
            rw [List.length_append, List.length_take, List.length_drop]
            have := g.cols r (List.mem_of_mem_drop hr')
            exact Nat.le_of_lt (small1000 (by omega))
          · rw [cut_row rl]
            have s5 := (same_upd (o := .lst (cutV (r.map V.int) none (some (i : Int)))) hq1).trans (same_upd (o := .lst (cutV (r.map V.int) (some ((i : Int) + 1)) none)) hq2)
            exact q' _ _ (s5.trans (same_upd hq3)) ⟨q3, rfl, (s3.trans s5).free hq3, upd_same⟩
        · intro ys H3 s3 pr p3 hp3
          have hN := (OwnTab.lay s3 hp3 pr).tab
          have s4 : Same H2 (upd H3 p3 (.lst ys)) := s3.trans (same_upd hp3)
          generalize upd H3 p3 (.lst ys) = H4 at hN s4 ⊢
          have s14 := (s1.trans s2).trans s4
          have h0M : 0 < M.length := by rw [g.rows]; omega
          obtain ⟨vs', b0, ha0, h0, at0, hb0⟩ := (hM.mono s14).row (i := 0) h0M
          have hr0 : M.getD 0 [] ∈ M := by rw [List.getD_eq_getElem?_getD, List.getElem?_eq_getElem h0M]; exact List.getElem_mem h0M
          have c0 : i < (M.getD 0 []).length := by rw [g.cols _ hr0]; exact hi
          have z1 := (sg_sz i)
          have z2 := getD_sz (g.num _ hr0) i
          have gm := minor_sqr g hi
          have z3 := det_sz t _ (by omega) gm
          have z4 := z1.mul z2
          refine ⟨_, rfl, _, rfl, _, rfl, a, _, 0, _, rfl, rfl, SqL.of ha0, at0, _, rfl, b0, _, _, _, rfl, rfl, SqL.of hb0, atI_int c0, _, _, rfl, rfl, ⟨up z1, z2.mono (by decide)⟩, ?_⟩
          refine ⟨_, rfl, p3, _, t, by omega, rfl, hN, gm, fun H5 s5 => ?_⟩
          refine ⟨_, _, rfl, rfl, ⟨z4.mono (by decide), z3.mono (by omega)⟩, _, _, rfl, rfl, ?_⟩
          refine ⟨_, rfl, _, rfl, some (.int (i : Int)), some (.ref p3), ?_, s14.trans s5⟩
          rw [sg_succ]
          rfl
      · rintro σ H1 ⟨o3, o4, rfl, s1⟩
        rw [vl]
        exact ⟨_, rfl, kk H1 s1⟩
def sp_detA : Sp := sp_det 5
theorem ok_determinant (F : FunM K mg "determinant" s_determinant ["square"]) (T : Blt mg) : Def P w K mg base "determinant" ["square"] 5 sp_detA := by
  have d0 : Def P w K mg base "determinant" ["square"] 0 (sp_det 0) := by
    obtain ⟨f, fd, F1, hm, hk, hb⟩ := (never_def (P := P) (w := w) (base := base) F).ex
    exact ⟨f, fd, F1.imp fun _ _ _ _ ⟨_, _, _, h, _⟩ => absurd h (Nat.not_lt_zero _), hm, hk, hb⟩
  exact det_step F T 4 4 (by decide) (det_step F T 3 3 (by decide) (det_step F T 2 2 (by decide) (det_step F T 1 1 (by decide) (det_step F T 0 0 (by decide) d0))))
/-! ### a column put in -/
def sp_withc : Sp := fun vs H Q _ => ∃ (a b : Addr) (M : List (List Int)) (t c : Nat) (xs : List Int), vs = [.ref a, .int c, .ref b] ∧ IsTab H a M ∧ Sqr M t ∧ t ≤ 4 ∧ c < t ∧ H b = some (.lst (xs.map V.int)) ∧ xs.length = t ∧ ∀ p H', Same H H' → OwnTab H H' p (Gm.withC M c xs) → Q (.ref p) H'
theorem put_row {r : List Int} {c : Nat} {x : Int} (h : c < r.length) : cutV (r.map V.int) none (some (c : Int)) ++ [V.int x] ++ cutV (r.map V.int) (some ((c : Int) + 1)) none = (Gm.putC r c x).map V.int := by
  rw [cut_take (by omega) (by rw [List.length_map]; omega), cut_drop (by omega) (by rw [List.length_map]; omega)]
  unfold Gm.putC
  rw [List.map_append, List.map_append, List.map_take, List.map_drop, Int.toNat_natCast, show ((c : Int) + 1).toNat = c + 1 by omega]
  rfl
theorem put_len {r : List Int} {c : Nat} {x : Int} (h : c < r.length) : (Gm.putC r c x).length = r.length := by
  unfold Gm.putC
  rw [List.length_append, List.length_append, List.length_take, List.length_drop, List.length_singleton]
  omega
abbrev s_with_column : Stmt := top 14
theorem sc_with_column : FnScope ["square", "column", "numbers"] ["square", "column", "numbers"] (defScope s_with_column) := ⟨rfl, rfl, rfl, by decide +kernel, rfl, by decide +kernel, by decide +kernel⟩
theorem ok_with_column (F : FunM K mg "with_column" s_with_column ["square", "column", "numbers"]) (T : Blt mg) : Def P w K mg base "with_column" ["square", "column", "numbers"] 1 sp_withc := by
  have S := sc_with_column
  refine Def.of F S (fun vs H Q E h => ?_) (fun f cdv A outer s H vs Q E hr h => ?_)
  · obtain ⟨a, b, M, t, c, xs, rfl, _⟩ := h
    rfl
  · obtain ⟨a, b, M, t, c, xs, rfl, hM, g, t4, hc, hb, xl, kk⟩ := h
    obtain ⟨vs, ha, hp⟩ := id hM
    have vl : vs.length = t := by rw [hp.length, g.rows]
    refine ⟨_, (pss_one (ps_ret (pe_comp rfl (N' := ["row", "number", "column"]) (src := [none, none, some 1]) rfl (piZip K rfl T.zip_ (pa_cons (pv 0) (pa_cons (pv 2) pa_nil st_Name) st_Name)) (fun _ _ _ _ _ => (pgT K (n := 2) (pgs_cons (pg_name (i := 0) (show (["row", "number", "column"] : List Str).Nodup from by decide +kernel) rfl (Or.inl rfl)) (pgs_cons (pg_name (i := 1) (show (["row", "number", "column"] : List Str).Nodup from by decide +kernel) rfl (Or.inl rfl)) pgs_nil)))) (fun _ _ _ _ _ => pts_nil) (fun _ _ _ _ _ => (pe_op op_cat (pe_op op_cat (pe_slice (slL K) (pv 0) po_none (po_some (pv 2))) (pe_lst (pa_cons (pv 1) pa_nil st_Name))) (pe_slice (slL K) (pv 0) (po_some (pe_op op_add (pv 2) pe_int)) po_none)))))), ?_⟩
    refine ⟨_, rfl, _, rfl, a, b, rfl, ⟨_, SqL.of ha⟩, ⟨_, SqL.of hb⟩, comp_zip (xs := vs) (ys := xs.map V.int) (fun i zs H' => Same H H' ∧ Paired (OwnRow H H') zs ((Gm.withC M c xs).take i)) ⟨Same.refl _, by simpa using Paired.nil⟩ ?_ (by rw [vl]; exact Nat.le_of_lt (small1000 (by omega))) ?_ ?_⟩
    · rintro i zs H' ⟨s1, pr⟩
      refine ⟨SqL.of (s1 _ _ ha), SqL.of (s1 _ _ hb), ?_⟩
      rw [pr.length, List.length_take]
      omega
    · rintro i x y p' zs H' hx hy hp' ⟨s1, pr⟩
      obtain ⟨r, er, b1, rfl, hb1⟩ := hp.get2 hx
      rw [List.getElem?_map] at hy
      obtain ⟨y', ey, rfl⟩ : ∃ y', xs[i]? = some y' ∧ y = V.int y' := by
        cases e : xs[i]? with
        | none => rw [e] at hy; cases hy
        | some z => rw [e] at hy; exact ⟨z, rfl, by cases hy; rfl⟩
      have rl : c < r.length := by rw [g.cols r (List.mem_of_getElem? er)]; exact hc
      have s2 := s1.trans (same_upd (o := .tup [.ref b1, .int y']) hp')
      refine ⟨p', _, rfl, SqT.of upd_same, rfl, _, _, rfl, _, _, rfl, rfl, ?_⟩
      refine yes_if ?_
      have t2 : Same H' (upd H' p' (.tup [.ref b1, .int y'])) := same_upd hp'
      generalize upd H' p' (.tup [.ref b1, .int y']) = H2 at s2 t2 ⊢
      have k1 : cutV (r.map V.int) none (some (c : Int)) = (r.take c).map V.int := by
        rw [cut_take (by omega) (by rw [List.length_map]; omega), List.map_take, Int.toNat_natCast]
      have k2 : cutV (r.map V.int) (some ((c : Int) + 1)) none = (r.drop (c + 1)).map V.int := by
        rw [cut_drop (by omega) (by rw [List.length_map]; omega), List.map_drop, show ((c : Int) + 1).toNat = c + 1 by omega]
      have rt := g.cols r (List.mem_of_getElem? er)
      refine ⟨_, rfl, _, rfl, _, rfl, b1, _, rfl, SqL.of (s2 _ _ hb1), fun q1 hq1 => ?_⟩
      rw [k1]
      have s3 := s2.trans (same_upd (o := .lst ((r.take c).map V.int)) hq1)
      have t3 := t2.trans (same_upd (o := .lst ((r.take c).map V.int)) hq1)
      have e1 : upd H2 q1 (.lst ((r.take c).map V.int)) q1 = some (.lst ((r.take c).map V.int)) := upd_same
      generalize upd H2 q1 (.lst ((r.take c).map V.int)) = H3 at s3 t3 e1 ⊢
      refine ⟨_, rfl, (by show 1 ≤ sizeLine; decide), fun q2 hq2 => ?_⟩
      have s4 := s3.trans (same_upd (o := .lst [.int y']) hq2)
      have t4 := t3.trans (same_upd (o := .lst [.int y']) hq2)
      have e2 : upd H3 q2 (.lst [.int y']) q2 = some (.lst [.int y']) := upd_same
      have e1' := same_upd (o := .lst [.int y']) hq2 _ _ e1
      generalize upd H3 q2 (.lst [.int y']) = H4 at s4 t4 e2 e1' ⊢
      refine ⟨q1, q2, _, _, rfl, rfl, e1', e2, (by rw [List.length_map, List.length_take, List.length_singleton]; exact Nat.le_of_lt (small1000 (by omega))), fun q3 hq3 => ?_⟩
      have s5 := s4.trans (same_upd (o := .lst ((r.take c).map V.int ++ [.int y'])) hq3)
      have t5 := t4.trans (same_upd (o := .lst ((r.take c).map V.int ++ [.int y'])) hq3)
      have e3 : upd H4 q3 (.lst ((r.take c).map V.int ++ [.int y'])) q3 = some (.lst ((r.take c).map V.int ++ [.int y'])) := upd_same
      generalize upd H4 q3 (.lst ((r.take c).map V.int ++ [.int y'])) = H5 at s5 t5 e3 ⊢
      refine ⟨_, rfl, _, rfl, _, _, rfl, rfl, _, rfl, b1, _, rfl, SqL.of (s5 _ _ hb1), fun q4 hq4 => ?_⟩
      rw [k2]
      have s6 := s5.trans (same_upd (o := .lst ((r.drop (c + 1)).map V.int)) hq4)
      have t6 := t5.trans (same_upd (o := .lst ((r.drop (c + 1)).map V.int)) hq4)
      have e3' := same_upd (o := .lst ((r.drop (c + 1)).map V.int)) hq4 _ _ e3
      refine ⟨q3, q4, _, _, rfl, rfl, e3', upd_same, (by rw [List.length_append, List.length_map, List.length_map, List.length_take, List.length_drop, List.length_singleton]; exact Nat.le_of_lt (small1000 (by omega))), fun q5 hq5 => ?_⟩
      have er' : (r.take c).map V.int ++ [V.int y'] ++ (r.drop (c + 1)).map V.int = (Gm.putC r c y').map V.int := by
        unfold Gm.putC
        rw [List.map_append, List.map_append]
        rfl
      rw [er']
      have s7 := s6.trans (same_upd (o := .lst ((Gm.putC r c y').map V.int)) hq5)
      refine ⟨s7, ?_⟩
      have et : (Gm.withC M c xs)[i]? = some (Gm.putC r c y') := by
        unfold Gm.withC
        rw [List.getElem?_zipWith, er, ey]
      rw [List.take_add_one, et]
      have t7 := t6.trans (same_upd (o := .lst ((Gm.putC r c y').map V.int)) hq5)
      exact (pr.imp2 fun _ _ z => z.mono t7).app2 (.cons ⟨q5, rfl, s6.free hq5, upd_same⟩ .nil)
    · rintro zs H' ⟨s1, pr⟩ q hq
      rw [List.take_of_length_le (by unfold Gm.withC; rw [List.length_zipWith, List.length_map, vl, g.rows]; omega)] at pr
      exact kk q _ (s1.trans (same_upd hq)) (OwnTab.lay s1 hq pr)
/-! ### the one answer to the equations -/
theorem withC_sqr {M : List (List Int)} {t c : Nat} {xs : List Int} (g : Sqr M t) (hc : c < t) (xl : xs.length = t) (hx : ∀ x ∈ xs, Sz 9 x) : Sqr (Gm.withC M c xs) t := by
  unfold Gm.withC
  refine ⟨by rw [List.length_zipWith, g.rows, xl, Nat.min_self], fun r hr => ?_, fun r hr x hx' => ?_⟩
  · obtain ⟨i, hi, rfl⟩ := List.mem_iff_getElem.mp hr
    rw [List.getElem_zipWith]
    have hm : M[i]'(by rw [List.length_zipWith] at hi; omega) ∈ M := List.getElem_mem _
    rw [put_len (by rw [g.cols _ hm]; exact hc), g.cols _ hm]
  · obtain ⟨i, hi, rfl⟩ := List.mem_iff_getElem.mp hr
    rw [List.getElem_zipWith] at hx'
    have hm : M[i]'(by rw [List.length_zipWith] at hi; omega) ∈ M := List.getElem_mem _
    unfold Gm.putC at hx'
    rcases List.mem_append.mp hx' with h | h
    · rcases List.mem_append.mp h with h | h
      · exact g.num _ hm x (List.mem_of_mem_take h)
      · rw [List.mem_singleton.mp h]
        exact hx _ (List.getElem_mem _)
    · exact g.num _ hm x (List.mem_of_mem_drop h)
/-- the answer's fractions -/
def solQ (M : List (List Int)) (t : Nat) (xs : List Int) : List (Int × Int) := mks ((List.range t).map fun c => Gm.sgn (Gm.detN t M) * Gm.detN t (Gm.withC M c xs)) (Gm.sgn (Gm.detN t M) * Gm.detN t M)
def sp_solution : Sp := fun vs H Q _ => ∃ (a b : Addr) (M : List (List Int)) (t : Nat) (xs : List Int), vs = [.ref a, .ref b] ∧ IsTab H a M ∧ Sqr M t ∧ t ≤ 4 ∧ H b = some (.lst (xs.map V.int)) ∧ xs.length = t ∧ (∀ x ∈ xs, Sz 9 x) ∧
  (Gm.detN t M = 0 → ∀ H', Same H H' → Q .non H') ∧ (Gm.detN t M ≠ 0 → ∀ p H', Same H H' → H p = none → IsFrs H' p (solQ M t xs) → Q (.ref p) H')
abbrev s_solution : Stmt := top 15
theorem sc_solution : FnScope ["square", "numbers", "whole", "sign", "parts"] ["square", "numbers"] (defScope s_solution) := ⟨rfl, rfl, rfl, by decide +kernel, rfl, by decide +kernel, by decide +kernel⟩
theorem ok_solution (F : FunM K mg "solution" s_solution ["square", "numbers"]) (T : Blt mg) (G_determinant : Def P w K mg base "determinant" ["square"] 5 sp_detA) (G_with_column : Def P w K mg base "with_column" ["square", "column", "numbers"] 1 sp_withc) (G_made : Def P w K mg base "made" ["a", "b"] 2 sp_made) : Def P w K mg base "solution" ["square", "numbers"] 6 sp_solution := by
  have S := sc_solution
  refine Def.of F S (fun vs H Q E h => ?_) (fun f cdv A outer s H vs Q E hr h => ?_)
  · obtain ⟨a, b, M, t, xs, rfl, _⟩ := h
    rfl
  · obtain ⟨a, b, M, t, xs, rfl, hM, g, t4, hb, xl, hx, kn, ks⟩ := h
    obtain ⟨vs, ha, hp⟩ := id hM
    have vl : vs.length = t := by rw [hp.length, g.rows]
    refine ⟨_, (pss_cons (ps_set (i := 2) S.nd rfl (Or.inr rfl) (pe_def G_determinant (hr.mono (by decide)) rfl (pa_cons (pv 0) pa_nil st_Name) (he := st_Name)))
      (pss_cons (ps_if (pt_cmpR op_eq (pv 2) pe_int (nomark _))
        (pss_one (ps_ret pe_non)) pss_nil)
      (pss_cons (ps_set (i := 3) S.nd rfl (Or.inr rfl) (pe_ifExp (pt_cmpR op_gt (pv 2) pe_int (nomark _)) pe_int (pe_un un_neg pe_int)))
      (pss_cons (ps_setC (i := 4) rfl S.nd rfl rfl (N' := ["column", "square", "numbers"]) (src := [none, some 0, some 1]) rfl (pi_range1 rfl T.range_ (pa_cons (pe_callB (lenK K) (by rfl) T.len_ bt_len (pa_cons (pv 0) pa_nil st_Name) (he := st_Name)) pa_nil st_Call)) (fun _ _ _ _ _ => (pg_name (i := 0) (show (["column", "square", "numbers"] : List Str).Nodup from by decide +kernel) rfl (Or.inl rfl))) (fun _ _ _ _ _ => pts_nil) (fun _ _ _ _ _ => (pe_def G_determinant (hr.mono (by decide)) rfl (pa_cons (pe_def G_with_column (hr.mono (by decide)) rfl (pa_cons (pv 1) (pa_cons (pv 0) (pa_cons (pv 2) pa_nil st_Name) st_Name) st_Name) (he := st_Name)) pa_nil st_Call) (he := st_Call))))
      (pss_one (ps_ret (pe_comp rfl (N' := ["part", "sign", "whole"]) (src := [none, some 3, some 2]) rfl (piL K (pv 4)) (fun _ _ _ _ _ => (pg_name (i := 0) (show (["part", "sign", "whole"] : List Str).Nodup from by decide +kernel) rfl (Or.inl rfl))) (fun _ _ _ _ _ => pts_nil) (fun _ _ _ _ _ => (pe_def G_made (hr.mono (by decide)) rfl (pa_cons (pe_op op_mulB (pv 1) (pv 0)) (pa_cons (pe_op op_mulB (pv 1) (pv 2)) pa_nil st_BinOp) st_BinOp) (he := st_BinOp)))))))))), ?_⟩
    refine ⟨_, rfl, a, M, t, by omega, rfl, hM, g, fun H1 s1 => ?_⟩
    refine ⟨_, rfl, rfl, _, rfl, ?_⟩
    by_cases hz : Gm.detN t M = 0
    · refine ifP (decide_eq_true (by rw [hz])) ?_
      exact kn hz H1 s1
    refine ifN (by simpa using hz) ?_
    have zw := det_sz t M t4 g
    -- the sign
    have w0 := Gm.sgn_pos hz
    have zs : Sz 1 (Gm.sgn (Gm.detN t M)) := by unfold Gm.sgn Sz; split <;> decide
    have zS := zs.mul zw
    refine ⟨_, rfl, _, _, rfl, rfl, _, rfl, ?_⟩
    by_cases hc : 0 < Gm.detN t M
    · have hs : Gm.sgn (Gm.detN t M) = 1 := if_pos hc
      have w0' := w0
      have zs' := zs
      have zS' := zS
      rw [hs] at w0' zs' zS'
      refine ifP (decide_eq_true hc) ?_
      -- the parts
      refine ⟨_, rfl, a, vs, rfl, .inl (SqL.of (s1 _ _ ha)), _, rfl, by omega, by omega, comp_each_r (n := vs.length) (fun (c : Nat) y _ => y = V.int (Gm.detN t (Gm.withC M c xs))) (fun _ _ _ _ _ h => h) (Nat.le_of_lt (small1000 (by omega))) ?_ ?_⟩
      · intro c hc H2 s2 Q' q
        rw [vl] at hc
        have s12 := s1.trans s2
        refine ⟨_, rfl, _, rfl, _, rfl, a, b, M, t, c, xs, rfl, hM.mono s12, g, t4, hc, s12 _ _ hb, xl, fun p H3 s3 own => ?_⟩
        exact ⟨p, _, t, by omega, rfl, own.tab, withC_sqr g hc xl hx, fun H4 s4 => q _ H4 (s3.trans s4) rfl⟩
      · intro ys H2 s2 pr p hp2
        have e := range_ints (fun c => Gm.detN t (Gm.withC M c xs)) pr
        subst e
        rw [vl]
        have q2 : upd H2 p (.lst (((List.range t).map fun c => Gm.detN t (Gm.withC M c xs)).map V.int)) p = some (.lst (((List.range t).map fun c => Gm.detN t (Gm.withC M c xs)).map V.int)) := upd_same
        have s3 : Same H (upd H2 p (.lst (((List.range t).map fun c => Gm.detN t (Gm.withC M c xs)).map V.int))) := (s1.trans s2).trans (same_upd hp2)
        generalize upd H2 p (.lst (((List.range t).map fun c => Gm.detN t (Gm.withC M c xs)).map V.int)) = H3 at q2 s3 ⊢
        refine ⟨_, rfl, p, rfl, ⟨_, SqL.of q2⟩, comp_each (xs := ((List.range t).map fun c => Gm.detN t (Gm.withC M c xs)).map V.int) (fun x y H' => ∀ i, x = V.int i → IsFr H' y (Fr.mk (Gm.sgn (Gm.detN t M) * i) (Gm.sgn (Gm.detN t M) * Gm.detN t M))) (fun _ _ _ _ s h i e => (h i e).mono s) (SqL.of q2) (by rw [List.length_map, List.length_map, List.length_range]; exact Nat.le_of_lt (small1000 (by omega))) ?_ ?_⟩
        · intro x hx' H4 s4 Q' q
          obtain ⟨d, hd, rfl⟩ := List.mem_map.mp hx'
          obtain ⟨c, hc, rfl⟩ := List.mem_map.mp hd
          have zd := det_sz t _ t4 (withC_sqr g (List.mem_range.mp hc) xl hx)
          refine ⟨_, rfl, _, rfl, _, _, rfl, rfl, ⟨up zs', zd.mono (by omega)⟩, _, rfl, _, rfl, _, _, rfl, rfl, ⟨up zs', zw.mono (by omega)⟩, _, _, rfl, w0', zS'.mono (by omega), fun r hr' => ?_⟩
          refine q _ _ (same_upd hr') fun i e => ?_
          cases e
          exact ⟨r, rfl, by rw [hs]; exact upd_same⟩
        · intro zsl H4 s4 pr2 r hr'
          have pf := fr_ints (fun i => Fr.mk (Gm.sgn (Gm.detN t M) * i) (Gm.sgn (Gm.detN t M) * Gm.detN t M)) pr2
          refine ks hz r _ ((s3.trans s4).trans (same_upd hr')) ((s3.trans s4).free hr') ⟨zsl, upd_same, ?_⟩
          have e : solQ M t xs = ((List.range t).map fun c => Gm.detN t (Gm.withC M c xs)).map fun i => Fr.mk (Gm.sgn (Gm.detN t M) * i) (Gm.sgn (Gm.detN t M) * Gm.detN t M) := by
            unfold solQ mks
            rw [List.map_map, List.map_map]
            rfl
          rw [e]
          exact pf.imp2 fun _ _ z => z.mono (same_upd hr')
    · have hs : Gm.sgn (Gm.detN t M) = -1 := if_neg hc
      have w0' := w0
      have zs' := zs
      have zS' := zS
      rw [hs] at w0' zs' zS'
      refine ifN (by simpa using hc) ?_
      refine ⟨_, rfl, ?_⟩
      -- the parts
      refine ⟨_, rfl, a, vs, rfl, .inl (SqL.of (s1 _ _ ha)), _, rfl, by omega, by omega, comp_each_r (n := vs.length) (fun (c : Nat) y _ => y = V.int (Gm.detN t (Gm.withC M c xs))) (fun _ _ _ _ _ h => h) (Nat.le_of_lt (small1000 (by omega))) ?_ ?_⟩
      · intro c hc H2 s2 Q' q
        rw [vl] at hc
        have s12 := s1.trans s2
        refine ⟨_, rfl, _, rfl, _, rfl, a, b, M, t, c, xs, rfl, hM.mono s12, g, t4, hc, s12 _ _ hb, xl, fun p H3 s3 own => ?_⟩
        exact ⟨p, _, t, by omega, rfl, own.tab, withC_sqr g hc xl hx, fun H4 s4 => q _ H4 (s3.trans s4) rfl⟩
      · intro ys H2 s2 pr p hp2
        have e := range_ints (fun c => Gm.detN t (Gm.withC M c xs)) pr
        subst e
        rw [vl]
        have q2 : upd H2 p (.lst (((List.range t).map fun c => Gm.detN t (Gm.withC M c xs)).map V.int)) p = some (.lst (((List.range t).map fun c => Gm.detN t (Gm.withC M c xs)).map V.int)) := upd_same
        have s3 : Same H (upd H2 p (.lst (((List.range t).map fun c => Gm.detN t (Gm.withC M c xs)).map V.int))) := (s1.trans s2).trans (same_upd hp2)
        generalize upd H2 p (.lst (((List.range t).map fun c => Gm.detN t (Gm.withC M c xs)).map V.int)) = H3 at q2 s3 ⊢
        refine ⟨_, rfl, p, rfl, ⟨_, SqL.of q2⟩, comp_each (xs := ((List.range t).map fun c => Gm.detN t (Gm.withC M c xs)).map V.int) (fun x y H' => ∀ i, x = V.int i → IsFr H' y (Fr.mk (Gm.sgn (Gm.detN t M) * i) (Gm.sgn (Gm.detN t M) * Gm.detN t M))) (fun _ _ _ _ s h i e => (h i e).mono s) (SqL.of q2) (by rw [List.length_map, List.length_map, List.length_range]; exact Nat.le_of_lt (small1000 (by omega))) ?_ ?_⟩
        · intro x hx' H4 s4 Q' q
          obtain ⟨d, hd, rfl⟩ := List.mem_map.mp hx'
          obtain ⟨c, hc, rfl⟩ := List.mem_map.mp hd
          have zd := det_sz t _ t4 (withC_sqr g (List.mem_range.mp hc) xl hx)
          refine ⟨_, rfl, _, rfl, _, _, rfl, rfl, ⟨up zs', zd.mono (by omega)⟩, _, rfl, _, rfl, _, _, rfl, rfl, ⟨up zs', zw.mono (by omega)⟩, _, _, rfl, w0', zS'.mono (by omega), fun r hr' => ?_⟩
          refine q _ _ (same_upd hr') fun i e => ?_
          cases e
          exact ⟨r, rfl, by rw [hs]; exact upd_same⟩
        · intro zsl H4 s4 pr2 r hr'
          have pf := fr_ints (fun i => Fr.mk (Gm.sgn (Gm.detN t M) * i) (Gm.sgn (Gm.detN t M) * Gm.detN t M)) pr2
          refine ks hz r _ ((s3.trans s4).trans (same_upd hr')) ((s3.trans s4).free hr') ⟨zsl, upd_same, ?_⟩
          have e : solQ M t xs = ((List.range t).map fun c => Gm.detN t (Gm.withC M c xs)).map fun i => Fr.mk (Gm.sgn (Gm.detN t M) * i) (Gm.sgn (Gm.detN t M) * Gm.detN t M) := by
            unfold solQ mks
            rw [List.map_map, List.map_map]
            rfl
          rw [e]
          exact pf.imp2 fun _ _ z => z.mono (same_upd hr')
/-! ### choices -/
def IsNats (H : Hp) (v : V) (l : List Nat) : Prop := ∃ b, v = .ref b ∧ H b = some (.lst (l.map fun (i : Nat) => V.int i))
theorem IsNats.mono {H H' : Hp} {v : V} {l : List Nat} (s : Same H H') (h : IsNats H v l) : IsNats H' v l := let ⟨b, e, q⟩ := h; ⟨b, e, s _ _ q⟩
/-- new since H -/
def OwnNats (H H' : Hp) (v : V) (l : List Nat) : Prop := ∃ b, v = .ref b ∧ H b = none ∧ H' b = some (.lst (l.map fun (i : Nat) => V.int i))
theorem OwnNats.mono {H H1 H2 : Hp} {v : V} {l : List Nat} (s : Same H1 H2) (h : OwnNats H H1 v l) : OwnNats H H2 v l := let ⟨b, e, n, q⟩ := h; ⟨b, e, n, s _ _ q⟩
theorem OwnNats.nats {H H' : Hp} {v : V} {l : List Nat} (h : OwnNats H H' v l) : IsNats H' v l := let ⟨b, e, _, q⟩ := h; ⟨b, e, q⟩
def sp_choices : Sp := fun vs H Q _ => ∃ n : Nat, vs = [.int n] ∧ n ≤ 4 ∧ ∀ p xs H', Same H H' → H p = none → H' p = some (.lst xs) → Paired (OwnNats H H') xs (Gm.chM n) → Q (.ref p) H'
theorem chM_len : ∀ n, (Gm.chM n).length = 2 ^ n
  | 0 => rfl
  | n + 1 => by
    show (Gm.chM n ++ (Gm.chM n).map fun c => c ++ [n]).length = _
    rw [List.length_append, List.length_map, chM_len n, Nat.pow_succ]; omega
theorem pow_le16 {n : Nat} (h : n ≤ 4) : 2 ^ n ≤ 16 := Nat.pow_le_pow_right (n := 2) (by decide) h
theorem chM_small {n : Nat} {c : List Nat} (h : c ∈ Gm.chM n) : c.length ≤ n := by
  have := (Gm.mem_chM.mpr h).length_le
  rwa [List.length_range] at this
theorem nats_map {H H1 H' : Hp} (f : List Nat → List Nat) : ∀ {vs ys : List V} {L : List (List Nat)}, Paired (fun x y => ∀ l, OwnNats H H1 x l → OwnNats H H' y (f l)) vs ys → Paired (OwnNats H H1) vs L → Paired (OwnNats H H') ys (L.map f)
  | _, _, _, .nil, .nil => .nil
  | _, _, _, .cons h t, .cons q u => .cons (h _ q) (nats_map f t u)
theorem nat_inj {l r : List Nat} (h : (l.map fun (i : Nat) => V.int i) = r.map fun (i : Nat) => V.int i) : l = r := by
  have inj : ∀ (a b : List Nat), (a.map fun (i : Nat) => V.int i) = (b.map fun (i : Nat) => V.int i) → a = b := by
    intro a
    induction a with
    | nil => intro b h; cases b with
      | nil => rfl
      | cons _ _ => simp at h
    | cons x a ih => intro b h; cases b with
      | nil => simp at h
      | cons y b =>
        simp only [List.map_cons, List.cons.injEq, V.int.injEq] at h
        rw [ih b h.2, show x = y by omega]
  exact inj l r h
theorem IsNats.inj {H : Hp} {v : V} {l r : List Nat} (h : IsNats H v l) (q : IsNats H v r) : l = r := by
  obtain ⟨a, rfl, e⟩ := h
  obtain ⟨b, eb, f⟩ := q
  cases eb
  rw [e] at f
  injection f with f
  injection f with f
  exact nat_inj f
abbrev s_choices : Stmt := top 16
theorem sc_choices : FnScope ["count", "found", "place"] ["count"] (defScope s_choices) := ⟨rfl, rfl, rfl, by decide +kernel, rfl, by decide +kernel, by decide +kernel⟩
theorem ok_choices (F : FunM K mg "choices" s_choices ["count"]) (T : Blt mg) : Def P w K mg base "choices" ["count"] 1 sp_choices := by
  have S := sc_choices
  refine Def.of F S (fun vs H Q E h => ?_) (fun f cdv A outer s H vs Q E hr h => ?_)
  · obtain ⟨n, rfl, _⟩ := h
    rfl
  · obtain ⟨n, rfl, n4, k⟩ := h
    refine ⟨_, (pss_cons (ps_set (i := 1) S.nd rfl (Or.inl rfl) (pe_lst (pa_cons (pe_lst pa_nil) pa_nil st_List)))
      (pss_cons (ps_for PassesOwn.never rfl (pi_range1 rfl T.range_ (pa_cons (pv 0) pa_nil st_Name)) (pg_name (i := 2) S.nd rfl (Or.inr rfl))
        (pss_one (ps_set (i := 1) S.nd rfl (Or.inl rfl) (pe_op op_cat (pv 1) (pe_comp rfl (N' := ["chosen", "place"]) (src := [none, some 2]) rfl (piL K (pv 1)) (fun _ _ _ _ _ => (pg_name (i := 0) (show (["chosen", "place"] : List Str).Nodup from by decide +kernel) rfl (Or.inl rfl))) (fun _ _ _ _ _ => pts_nil) (fun _ _ _ _ _ => (pe_op op_cat (pv 0) (pe_lst (pa_cons (pv 1) pa_nil st_Name)))))))))
      (pss_one (ps_ret (pv 1))))), ?_⟩
    refine ⟨Nat.zero_le _, fun l0 hl0 => ?_⟩
    refine ⟨(by show 1 ≤ sizeLine; decide), fun l1 hl1 => ?_⟩
    have s1 := (same_upd (o := .lst []) hl0).trans (same_upd (o := .lst [.ref l0]) hl1)
    have e0 : Paired (OwnNats H (upd (upd H l0 (.lst [])) l1 (.lst [.ref l0]))) [.ref l0] (Gm.chM 0) := .cons ⟨l0, rfl, hl0, same_upd hl1 _ _ upd_same⟩ .nil
    have e1 : upd (upd H l0 (.lst [])) l1 (.lst [.ref l0]) l1 = some (.lst [.ref l0]) := upd_same
    have hn1 : H l1 = none := (same_upd (o := .lst []) hl0).free hl1
    generalize upd (upd H l0 (.lst [])) l1 (.lst [.ref l0]) = H1 at s1 e0 e1 ⊢
    refine ⟨_, rfl, _, rfl, by omega, by omega, for_range (n := n) (fun i σ H' => ∃ l o xs, σ = [some (.int n), some (.ref l), o] ∧ Same H H' ∧ H l = none ∧ H' l = some (.lst xs) ∧ Paired (OwnNats H H') xs (Gm.chM i)) ⟨l1, _, _, rfl, s1, hn1, e1, e0⟩ ?_ ?_⟩
    · rintro i σ H2 hi ⟨l, o, xs, rfl, s2, hln, hl, pr⟩
      have ei : (0 : Int) + (i : Int) = (i : Int) := by omega
      rw [ei]
      have xl : xs.length ≤ 16 := by rw [pr.length, chM_len]; exact pow_le16 (by omega)
      refine ⟨_, rfl, _, rfl, l, rfl, ⟨_, SqL.of hl⟩, comp_each (xs := xs) (fun x y H' => ∀ c, OwnNats H H2 x c → OwnNats H H' y (c ++ [i])) (fun _ _ _ _ s h c q => (h c q).mono s) (SqL.of hl) (Nat.le_of_lt (small1000 (by omega))) ?_ ?_⟩
      · intro x hx H3 s3 Q' q
        obtain ⟨c, hc, hn⟩ := pr.mem2 hx
        obtain ⟨b, rfl, hbn, hb⟩ := id hn
        refine ⟨_, rfl, _, rfl, (by show 1 ≤ sizeLine; decide), fun q2 hq2 => ?_⟩
        have cl := chM_small hc
        refine ⟨b, q2, _, _, rfl, rfl, same_upd hq2 _ _ (s3 _ _ hb), upd_same, (by rw [List.length_map, List.length_singleton]; exact Nat.le_of_lt (small1000 (by omega))), fun q3 hq3 => ?_⟩
        refine q _ _ ((same_upd hq2).trans (same_upd hq3)) fun c' h' => ?_
        rw [← hn.nats.inj h'.nats]
        exact ⟨q3, rfl, ((s2.trans s3).trans (same_upd hq2)).free hq3, by rw [upd_same, List.map_append]; rfl⟩
      · intro ys H3 s3 prc p hp
        have pn := nats_map (fun c => c ++ [i]) prc pr
        have s4 : Same H2 (upd H3 p (.lst ys)) := s3.trans (same_upd hp)
        have pn' := pn.imp2 fun _ _ z => z.mono (same_upd (o := .lst ys) hp)
        have ep : upd H3 p (.lst ys) p = some (.lst ys) := upd_same
        generalize upd H3 p (.lst ys) = H4 at s4 pn' ep ⊢
        refine ⟨l, p, xs, ys, rfl, rfl, s4 _ _ hl, ep, (by rw [pn'.length, List.length_map, ← pr.length]; exact Nat.le_of_lt (small1000 (by omega))), fun q hq => ?_⟩
        refine ⟨q, _, _, rfl, (s2.trans s4).trans (same_upd hq), (s2.trans s4).free hq, upd_same, ?_⟩
        exact ((pr.imp2 fun _ _ z => (z.mono s4).mono (same_upd hq))).app2 (pn'.imp2 fun _ _ z => z.mono (same_upd hq))
    · rintro σ H2 ⟨l, o, xs, rfl, s2, hln, hl, pr⟩
      exact ⟨_, rfl, k l xs H2 s2 hln hl pr⟩
/-! ### shares spread over the columns -/
def spreadQ (qs : List (Int × Int)) (C : List Nat) (n : Nat) : List (Int × Int) := (qs.zip C).foldl (fun w x => w.set x.2 x.1) (List.replicate n (0, 1))
theorem spreadQ_len (n : Nat) : ∀ (l : List ((Int × Int) × Nat)) (w : List (Int × Int)), (l.foldl (fun w x => w.set x.2 x.1) w).length = w.length
  | [], w => rfl
  | x :: l, w => by
    rw [List.foldl_cons, spreadQ_len n l, List.length_set]
theorem getD_set {α : Type} (w : List α) (c j : Nat) (x d : α) : (w.set c x).getD j d = if c = j ∧ c < w.length then x else w.getD j d := by
  rw [List.getD_eq_getElem?_getD, List.getElem?_set, List.getD_eq_getElem?_getD]
  by_cases h : c = j
  · subst h
    rw [if_pos rfl]
    by_cases q : c < w.length
    · rw [if_pos q, if_pos ⟨rfl, q⟩]; rfl
    · rw [if_neg q, if_neg fun z => q z.2, List.getElem?_eq_none (by omega)]
  · rw [if_neg h, if_neg fun z => h z.1]
theorem spread_get (S : Int) (hS : 0 < S) (j : Nat) : ∀ (C : List Nat) (sh : List Int) (w : List (Int × Int)), C.Nodup → sh.length = C.length → (∀ c ∈ C, c < w.length) →
    (((mks sh S).zip C).foldl (fun w x => w.set x.2 x.1) w).getD j (0, 1) = if j ∈ C then Fr.mk (Gm.yOf C sh j) S else w.getD j (0, 1)
  | [], sh, w, _, _, _ => by
    have : sh = [] ∨ sh ≠ [] := Classical.em _
    simp
  | c :: C, [], w, _, h, _ => by simp at h
  | c :: C, p :: ps, w, hn, hl, hlt => by
    have hn' := List.nodup_cons.mp hn
    show (((mks ps S).zip C).foldl (fun w x => w.set x.2 x.1) (w.set c (Fr.mk p S))).getD j (0, 1) = _
    rw [spread_get S hS j C ps _ hn'.2 (by simpa using hl) (fun x hx => by rw [List.length_set]; exact hlt x (by simp [hx])), Gm.yOf_cons, getD_set]
    by_cases h1 : j ∈ C
    · have hne : j ≠ c := fun e => hn'.1 (by rw [← e]; exact h1)
      rw [if_pos h1, if_pos (by simp [h1]), if_neg hne, Int.zero_add]
    · rw [if_neg h1]
      by_cases h2 : j = c
      · subst h2
        rw [if_pos ⟨rfl, hlt j (by simp)⟩, if_pos (by simp), if_pos rfl, Gm.yOf_out h1, Int.add_zero]
      · rw [if_neg fun z => h2 z.1.symm, if_neg (by simp [h1, h2])]
/-- the weights of all columns -/
def wsM (U : List (List Int)) (n : Nat) (R C : List Nat) : List Int := (List.range n).map (Gm.yOf C (Gm.shM U R C))
theorem wsM_len (U : List (List Int)) (n : Nat) (R C : List Nat) : (wsM U n R C).length = n := by unfold wsM; rw [List.length_map, List.length_range]
theorem spread_eq {n : Nat} {C : List Nat} {sh : List Int} {S : Int} (hS : 0 < S) (hn : C.Nodup) (hl : sh.length = C.length) (hlt : ∀ c ∈ C, c < n) : spreadQ (mks sh S) C n = mks ((List.range n).map (Gm.yOf C sh)) S := by
  have l1 : (spreadQ (mks sh S) C n).length = n := by unfold spreadQ; rw [spreadQ_len n, List.length_replicate]
  have l2 : (mks ((List.range n).map (Gm.yOf C sh)) S).length = n := by rw [mks_len, List.length_map, List.length_range]
  apply List.ext_getElem (by rw [l1, l2])
  intro j h1 h2
  rw [l1] at h1
  have e := spread_get S hS j C sh (List.replicate n (0, 1)) hn hl (fun c hc => by rw [List.length_replicate]; exact hlt c hc)
  have e1 : (spreadQ (mks sh S) C n).getD j (0, 1) = (spreadQ (mks sh S) C n)[j]'(by rw [l1]; exact h1) := by
    rw [List.getD_eq_getElem?_getD, List.getElem?_eq_getElem (by rw [l1]; exact h1)]; rfl
  rw [← e1]
  unfold spreadQ
  rw [e]
  have e3 : (mks ((List.range n).map (Gm.yOf C sh)) S)[j]'h2 = Fr.mk (Gm.yOf C sh j) S := by simp [mks]
  rw [e3]
  by_cases h : j ∈ C
  · rw [if_pos h]
  · rw [if_neg h, Gm.yOf_out h, Fr.mk_zero hS]
    rw [List.getD_eq_getElem?_getD, List.getElem?_replicate, if_pos h1]
    rfl
theorem rep_flat {α : Type} (x : α) : ∀ n, (List.replicate n [x]).flatten = List.replicate n x
  | 0 => rfl
  | n + 1 => by
    rw [List.replicate_succ, List.flatten_cons, rep_flat x n, List.replicate_succ]; rfl
theorem paired_rep {α β : Type} {F : α → β → Prop} {x : α} {y : β} (h : F x y) : ∀ n, Paired F (List.replicate n x) (List.replicate n y)
  | 0 => .nil
  | n + 1 => .cons h (paired_rep h n)
def sp_spread : Sp := fun vs H Q _ => ∃ (a b : Addr) (qs : List (Int × Int)) (C : List Nat) (n : Nat), vs = [.ref a, .ref b, .int n] ∧ IsFrs H a qs ∧ IsNats H (.ref b) C ∧ qs.length = C.length ∧ (∀ c ∈ C, c < n) ∧ n ≤ 4 ∧ ∀ p H', Same H H' → H p = none → IsFrs H' p (spreadQ qs C n) → Q (.ref p) H'
abbrev s_spread : Stmt := top 17
theorem sc_spread : FnScope ["shares", "places", "count", "mixture", "share", "place"] ["shares", "places", "count"] (defScope s_spread) := ⟨rfl, rfl, rfl, by decide +kernel, rfl, by decide +kernel, by decide +kernel⟩
theorem ok_spread (F : FunM K mg "spread" s_spread ["shares", "places", "count"]) (T : Blt mg) : Def P w K mg base "spread" ["shares", "places", "count"] 1 sp_spread := by
  have S := sc_spread
  refine Def.of F S (fun vs H Q E h => ?_) (fun f cdv A outer s H vs Q E hr h => ?_)
  · obtain ⟨a, b, qs, C, n, rfl, _⟩ := h
    rfl
  · obtain ⟨a, b, qs, C, n, rfl, hA, hB, hl, hlt, n4, k⟩ := h
    obtain ⟨xs, ha, pa⟩ := id hA
    obtain ⟨b', eb, hb⟩ := id hB
    cases eb
    refine ⟨_, (pss_cons (ps_set (i := 3) S.nd rfl (Or.inl rfl) (pe_op op_rep (pe_lst (pa_cons (pe_tup (pa_cons pe_int (pa_cons pe_int pa_nil st_Constant) st_Constant)) pa_nil st_Tuple)) (pv 2)))
      (pss_cons (ps_for PassesOwn.never rfl (piZip K rfl T.zip_ (pa_cons (pv 0) (pa_cons (pv 1) pa_nil st_Name) st_Name)) (pgT K (n := 2) (pgs_cons (pg_name (i := 4) S.nd rfl (Or.inl rfl)) (pgs_cons (pg_name (i := 5) S.nd rfl (Or.inl rfl)) pgs_nil)))
        (pss_one (ps_asg (pv 4) (pg_sub (pv 3) (pv 5) set_list))))
      (pss_one (ps_ret (pv 3))))), ?_⟩
    refine ⟨(by show 2 ≤ sizeLine; decide), fun t ht => ⟨(by show 1 ≤ sizeLine; decide), fun l hl' => ?_⟩⟩
    refine ⟨_, rfl, l, (n : Int), _, rfl, rfl, upd_same, by omega, by omega, (by rw [List.length_singleton, Int.toNat_natCast]; exact Nat.le_of_lt (small1000 (by omega))), fun p hp => ?_⟩
    rw [Int.toNat_natCast, rep_flat]
    have s1 := (same_upd (o := .tup [.int 0, .int 1]) ht).trans (same_upd (o := .lst [.ref t]) hl')
    have hpn : H p = none := s1.free hp
    have ft : IsFr (upd (upd H t (.tup [.int 0, .int 1])) l (.lst [.ref t])) (.ref t) (0, 1) := ⟨t, rfl, same_upd hl' _ _ upd_same⟩
    generalize upd (upd H t (.tup [.int 0, .int 1])) l (.lst [.ref t]) = H1 at s1 ft hp ⊢
    have s2 := s1.trans (same_upd (o := .lst (List.replicate n (.ref t))) hp)
    have ft2 := ft.mono (same_upd (o := .lst (List.replicate n (.ref t))) hp)
    have ep : upd H1 p (.lst (List.replicate n (.ref t))) p = some (.lst (List.replicate n (.ref t))) := upd_same
    generalize upd H1 p (.lst (List.replicate n (.ref t))) = H2 at s2 ft2 ep ⊢
    refine ⟨_, rfl, _, rfl, a, b, rfl, ⟨_, SqL.of (s2 _ _ ha)⟩, ⟨_, SqL.of (s2 _ _ hb)⟩, for_zip (K := K) (a := a) (b := b) (xs := xs) (ys := C.map fun (i : Nat) => V.int i) (fun i σ H' => ∃ o4 o5 zs, σ = [some (.ref a), some (.ref b), some (.int n), some (.ref p), o4, o5] ∧ Same H H' ∧ H' p = some (.lst zs) ∧ Paired (IsFr H') zs (((qs.zip C).take i).foldl (fun w x => w.set x.2 x.1) (List.replicate n (0, 1))))
        ⟨_, _, _, rfl, s2, ep, by rw [List.take_zero]; exact paired_rep ft2 n⟩ ?_ ?_ ?_⟩
    · rintro i σ H' ⟨_, _, _, _, s3, _⟩
      exact ⟨SqL.of (s3 _ _ ha), SqL.of (s3 _ _ hb)⟩
    · rintro i x y q σ H' hx hy hq ⟨o4, o5, zs, rfl, s3, hz, pz⟩
      obtain ⟨f1, e1, c1, rfl, h1⟩ := pa.get2 hx
      rw [List.getElem?_map] at hy
      obtain ⟨c, ec, rfl⟩ : ∃ c, C[i]? = some c ∧ y = V.int (c : Nat) := by
        cases e : C[i]? with
        | none => rw [e] at hy; cases hy
        | some z => rw [e] at hy; exact ⟨z, rfl, by cases hy; rfl⟩
      have ez : (qs.zip C)[i]? = some (f1, c) := List.getElem?_zip_eq_some.mpr ⟨e1, ec⟩
      have hc := hlt c (List.mem_of_getElem? ec)
      have zl : zs.length = n := by rw [pz.length, spreadQ_len n, List.length_replicate]
      have sq := same_upd (o := .tup [.ref c1, .int (c : Nat)]) hq
      refine ⟨q, _, rfl, SqT.of upd_same, rfl, _, _, rfl, _, _, rfl, rfl, ?_⟩
      refine ⟨_, rfl, _, rfl, _, rfl, p, zs, (c : Int), c, rfl, rfl, sq _ _ hz, ?_, ?_⟩
      · unfold ixN
        rw [if_pos (by omega), if_pos (by omega), Int.toNat_natCast]
      · refine ⟨_, _, _, rfl, same_at (s3.trans sq) hpn, upd_same, ?_⟩
        rw [List.take_add_one, ez, List.foldl_append]
        refine Paired.set2 ?_ c (pz.imp2 fun _ _ z => (z.mono sq).at (sq _ _ hz))
        exact IsFr.at (sq _ _ hz) ⟨c1, rfl, sq _ _ (s3 _ _ h1)⟩
    · rintro σ H' ⟨o4, o5, zs, rfl, s3, hz, pz⟩
      have l1 : (qs.zip C).take (min xs.length (C.map fun (i : Nat) => V.int i).length) = qs.zip C := List.take_of_length_le (by rw [List.length_zip, pa.length, List.length_map]; exact Nat.le_refl _)
      rw [l1] at pz
      exact ⟨_, rfl, k p H' s3 hpn ⟨zs, hz, pz⟩⟩
/-! ### level -/
theorem nats_ints (l : List Nat) : (l.map fun (i : Nat) => V.int i) = (l.map fun (i : Nat) => (i : Int)).map V.int := by rw [List.map_map]; rfl
theorem at_nat {l : List Nat} {t : Nat} (h : t < l.length) : atI (l.map fun (i : Nat) => V.int i) (t : Int) = some (.int (l.getD t 0 : Nat)) := by
  have e : (l.map fun (i : Nat) => V.int i)[t]? = some (V.int (l.getD t 0 : Nat)) := by
    rw [List.getElem?_map, List.getElem?_eq_getElem h, List.getD_eq_getElem?_getD, List.getElem?_eq_getElem h]; rfl
  exact atI_nat e
theorem eqs_sqr {U : List (List Int)} {m n : Nat} {R C : List Nat} (g : Gd U m n) (g2 : Gm.Good2 m n R C) : Sqr (Gm.eqsM U R C) C.length := by
  unfold Gm.eqsM
  have l := g2.len
  have p := g2.pos
  refine ⟨by rw [List.length_cons, List.length_map, List.length_drop]; omega, fun r hr => ?_, fun r hr x hx => ?_⟩
  · rcases List.mem_cons.mp hr with rfl | hr
    · rw [List.length_replicate]
    · obtain ⟨i, _, rfl⟩ := List.mem_map.mp hr
      rw [List.length_map]
  · rcases List.mem_cons.mp hr with rfl | hr
    · rw [(List.mem_replicate.mp hx).2]
      show (1 : Int).natAbs < 2 ^ 9
      decide
    · obtain ⟨i, hi, rfl⟩ := List.mem_map.mp hr
      obtain ⟨j, hj, rfl⟩ := List.mem_map.mp hx
      have b : ∀ i j, i < m → j < n → -200 ≤ Gm.cell U i j ∧ Gm.cell U i j ≤ 200 := fun i j hi hj => by
        have h1 := g.row hi
        refine g.num _ h1.1 _ ?_
        show (U.getD i []).getD j 0 ∈ U.getD i []
        rw [List.getD_eq_getElem?_getD (l := U.getD i []), List.getElem?_eq_getElem (by rw [h1.2]; exact hj)]
        exact List.getElem_mem _
      have hi' := List.mem_range.mp (g2.rs.subset (List.mem_of_mem_drop hi))
      have b1 := b i j hi' (g2.lt j hj)
      have b2 := b (R.headD 0) j g2.r0m (g2.lt j hj)
      show (Gm.cell U i j - Gm.cell U (R.headD 0) j).natAbs < 512
      omega
theorem sol_sh (U : List (List Int)) (R C : List Nat) : solQ (Gm.eqsM U R C) C.length (Gm.numsM C.length) = mks (Gm.shM U R C) (Gm.smM U R C) := by
  unfold solQ Gm.shM Gm.smM Gm.partsM
  rw [List.map_map]
  rfl
def sp_level : Sp := fun vs H Q _ => ∃ (a b c : Addr) (U : List (List Int)) (m n : Nat) (R C : List Nat), vs = [.ref a, .ref b, .ref c] ∧ IsTab H a U ∧ Gd U m n ∧ IsNats H (.ref b) R ∧ IsNats H (.ref c) C ∧ Gm.Good2 m n R C ∧
  (Gm.wholeM U R C = 0 → ∀ H', Same H H' → Q .non H') ∧ (Gm.wholeM U R C ≠ 0 → ∀ p H', Same H H' → H p = none → IsFrs H' p (mks (Gm.shM U R C) (Gm.smM U R C)) → Q (.ref p) H')
abbrev s_level : Stmt := top 18
theorem sc_level : FnScope ["table", "rows", "columns", "first", "equations", "row"] ["table", "rows", "columns"] (defScope s_level) := ⟨rfl, rfl, rfl, by decide +kernel, rfl, by decide +kernel, by decide +kernel⟩
theorem ok_level (F : FunM K mg "level" s_level ["table", "rows", "columns"]) (T : Blt mg) (G_solution : Def P w K mg base "solution" ["square", "numbers"] 6 sp_solution) : Def P w K mg base "level" ["table", "rows", "columns"] 7 sp_level := by
  have S := sc_level
  refine Def.of F S (fun vs H Q E h => ?_) (fun f cdv A outer s H vs Q E hr h => ?_)
  · obtain ⟨a, b, c, U, m, n, R, C, rfl, _⟩ := h
    rfl
  · obtain ⟨a, b, c, U, m, n, R, C, rfl, hU, g, hB, hC, g2, kn, ks⟩ := h
    obtain ⟨b', eb, hb⟩ := id hB
    cases eb
    obtain ⟨c', ec, hc⟩ := id hC
    cases ec
    have c4 := g2.c4 g.n4
    have cp := g2.pos
    have rl := g2.len
    have r0 : R.getD 0 0 = R.headD 0 := by cases R <;> rfl
    have h0m := g2.r0m
    obtain ⟨vs, f0, ha, h0, at0, hf0⟩ := hU.row (i := R.headD 0) (by rw [g.rows]; exact h0m)
    have rt : atI (R.map fun (i : Nat) => V.int i) (0 : Int) = some (.int (R.headD 0 : Nat)) := by
      have := at_nat (l := R) (t := 0) (by omega)
      rw [r0] at this
      exact this
    refine ⟨_, (pss_cons (ps_set (i := 3) S.nd rfl (Or.inr rfl) (pe_ix (ixL K) (pv 0) (pe_ix (ixL K) (pv 1) pe_int (fun _ _ => rfl)) (fun _ _ => rfl)))
      (pss_cons (ps_set (i := 4) S.nd rfl (Or.inl rfl) (pe_lst (pa_cons (pe_op op_rep (pe_lst (pa_cons pe_int pa_nil st_Constant)) (pe_callB (lenK K) (by rfl) T.len_ bt_len (pa_cons (pv 2) pa_nil st_Name) (he := st_Name))) pa_nil st_BinOp)))
      (pss_cons (ps_for PassesOwn.never rfl (piL K (pe_slice (slL K) (pv 1) (po_some pe_int) po_none)) (pg_name (i := 5) S.nd rfl (Or.inr rfl))
        (pss_one (ps_expr (pe_bm PySem.F.plainAttrs_list PySem.F.slot_list_append PySem.F.type_list_append mt_append (pv 4) (pa_cons (pe_comp rfl (N' := ["column", "table", "row", "first"]) (src := [none, some 0, some 5, some 3]) rfl (piL K (pv 2)) (fun _ _ _ _ _ => (pg_name (i := 0) (show (["column", "table", "row", "first"] : List Str).Nodup from by decide +kernel) rfl (Or.inl rfl))) (fun _ _ _ _ _ => pts_nil) (fun _ _ _ _ _ => (pe_op op_sub (pe_ix (ixL K) (pe_ix (ixL K) (pv 1) (pv 2) (fun _ _ => rfl)) (pv 0) (fun _ _ => rfl)) (pe_ix (ixL K) (pv 3) (pv 0) (fun _ _ => rfl))))) pa_nil st_ListComp)))))
      (pss_one (ps_ret (pe_def G_solution (hr.mono (by decide)) rfl (pa_cons (pv 4) (pa_cons (pe_op op_cat (pe_lst (pa_cons pe_int pa_nil st_Constant)) (pe_op op_rep (pe_lst (pa_cons pe_int pa_nil st_Constant)) (pe_op op_sub (pe_callB (lenK K) (by rfl) T.len_ bt_len (pa_cons (pv 1) pa_nil st_Name) (he := st_Name)) pe_int))) pa_nil st_BinOp) st_Name) (he := st_Name))))))), ?_⟩
    refine ⟨_, rfl, _, rfl, b, _, 0, _, rfl, rfl, SqL.of hb, rt, a, vs, _, _, rfl, rfl, SqL.of ha, at0, ?_⟩
    -- the first equation
    refine ⟨(by show 1 ≤ sizeLine; decide), fun l0 hl0 => ?_⟩
    have s0 : Same H (upd H l0 (.lst [.int 1])) := same_upd hl0
    refine ⟨_, rfl, c, _, rfl, .inl (SqL.of (s0 _ _ hc)), l0, _, _, rfl, rfl, upd_same, by omega, by rw [List.length_map]; omega, (by rw [List.length_singleton, List.length_map]; exact Nat.le_of_lt (small1000 (by omega))), fun l1 hl1 => ?_⟩
    have e1 : (List.replicate ((C.map fun (i : Nat) => V.int i).length : Int).toNat [V.int 1]).flatten = (List.replicate C.length (1 : Int)).map V.int := by
      rw [Int.toNat_natCast, rep_flat, List.length_map, List.map_replicate]
    rw [e1]
    have s1 := s0.trans (same_upd (o := .lst ((List.replicate C.length (1 : Int)).map V.int)) hl1)
    have l1n : H l1 = none := s0.free hl1
    have q1 : upd (upd H l0 (.lst [.int 1])) l1 (.lst ((List.replicate C.length (1 : Int)).map V.int)) l1 = some (.lst ((List.replicate C.length (1 : Int)).map V.int)) := upd_same
    generalize upd (upd H l0 (.lst [.int 1])) l1 (.lst ((List.replicate C.length (1 : Int)).map V.int)) = H1 at s1 q1 ⊢
    refine ⟨(by show 1 ≤ sizeLine; decide), fun e he => ?_⟩
    have he1 : H1 e = none := he
    have hen : H e = none := s1.free he
    have n1e : l1 ≠ e := ne_of_none q1 he
    have s2 := s1.trans (same_upd (o := .lst [.ref l1]) he)
    have q2 : upd H1 e (.lst [.ref l1]) e = some (.lst [.ref l1]) := upd_same
    have q1' := same_upd (o := .lst [.ref l1]) he _ _ q1
    generalize upd H1 e (.lst [.ref l1]) = H2 at s2 q2 q1' ⊢
    -- the others
    refine ⟨_, rfl, _, rfl, b, _, rfl, SqL.of (s2 _ _ hb), fun q hq => ?_⟩
    have ed : cutV (R.map fun (i : Nat) => V.int i) (some 1) none = (R.drop 1).map fun (i : Nat) => V.int i := by
      rw [cut_drop (k := 1) (by decide) (by rw [List.length_map]; omega)]
      exact List.map_drop.symm
    rw [ed]
    have s3 := s2.trans (same_upd (o := .lst ((R.drop 1).map fun (i : Nat) => V.int i)) hq)
    have q3 := same_upd (o := .lst ((R.drop 1).map fun (i : Nat) => V.int i)) hq _ _ q2
    have q1'' := same_upd (o := .lst ((R.drop 1).map fun (i : Nat) => V.int i)) hq _ _ q1'
    have qq : upd H2 q (.lst ((R.drop 1).map fun (i : Nat) => V.int i)) q = some (.lst ((R.drop 1).map fun (i : Nat) => V.int i)) := upd_same
    have nqe : q ≠ e := fun z => by rw [z, q2] at hq; cases hq
    generalize upd H2 q (.lst ((R.drop 1).map fun (i : Nat) => V.int i)) = H3 at s3 q3 q1'' qq ⊢
    refine ⟨q, rfl, ⟨_, SqL.of qq⟩, for_list (K := K) (a := q) (xs := (R.drop 1).map fun (i : Nat) => V.int i) (fun i σ H' => ∃ o5 zs, σ = [some (.ref a), some (.ref b), some (.ref c), some (.ref f0), some (.ref e), o5] ∧ Same H H' ∧ SameX e H3 H' ∧ H' e = some (.lst zs) ∧ Paired (RowX H e H') zs ((Gm.eqsM U R C).take (i + 1)))
      ⟨_, _, rfl, s3, SameX.refl, q3, .cons ⟨l1, rfl, n1e, l1n, q1''⟩ .nil⟩ ?_ ?_ ?_⟩
    · rintro i σ H4 _ ⟨_, _, _, _, sx, _⟩
      exact SqL.of (sx _ _ nqe qq)
    · rintro i y σ H4 hi ⟨o5, zs, rfl, s4, sx, hz, pz⟩
      rw [List.getElem?_map] at hi
      obtain ⟨ρ, eρ, rfl⟩ : ∃ ρ, (R.drop 1)[i]? = some ρ ∧ y = V.int (ρ : Nat) := by
        cases e : (R.drop 1)[i]? with
        | none => rw [e] at hi; cases hi
        | some z => rw [e] at hi; exact ⟨z, rfl, by cases hi; rfl⟩
      have hρ : ρ < m := List.mem_range.mp (g2.rs.subset (List.mem_of_mem_drop (List.mem_of_getElem? eρ)))
      have hc4 := s4 _ _ hc
      rw [nats_ints] at hc4
      refine ⟨_, rfl, .inl ⟨rfl, _, SqL.of hz⟩, _, rfl, c, rfl, ⟨_, SqL.of hc4⟩, comp_ints (fun x => Gm.cell U ρ x.toNat - Gm.cell U (R.headD 0) x.toNat) (SqL.of hc4) (by rw [List.length_map]; omega) ?_ ?_⟩
      · intro x hx H5 s5 Q' q'
        obtain ⟨j, hj, rfl⟩ := List.mem_map.mp hx
        have hjn := g2.lt j hj
        have s45 := s4.trans s5
        obtain ⟨vs5, b5, ha5, h5, at5, hb5⟩ := (hU.mono s45).row (i := ρ) (by rw [g.rows]; exact hρ)
        refine ⟨_, rfl, _, rfl, a, _, _, _, rfl, rfl, SqL.of ha5, at5, _, rfl, b5, _, _, _, rfl, rfl, SqL.of hb5, atI_int (by rw [(g.row hρ).2]; exact hjn), ?_⟩
        refine ⟨_, rfl, _, rfl, f0, _, _, _, rfl, rfl, SqL.of (s45 _ _ hf0), atI_int (by rw [(g.row h0m).2]; exact hjn), _, _, rfl, rfl, ?_⟩
        have := q' H5 (Same.refl _)
        rw [Int.toNat_natCast] at this
        exact this
      · intro H5 s5 p hp
        have hz5 := s5 _ _ hz
        have npe : p ≠ e := fun z => by rw [z, hz5] at hp; cases hp
        have zl : zs.length ≤ 4 := by
          have er : (Gm.eqsM U R C).length = C.length := (eqs_sqr g g2).rows
          rw [pz.length, List.length_take, er]
          omega
        refine ⟨e, zs, .ref p, rfl, rfl, same_upd hp _ _ hz5, small1000 (by omega), ?_⟩
        refine ⟨_, _, rfl, same_at ((s4.trans s5).trans (same_upd hp)) hen, ((sx.then s5).then (same_upd hp)).at, upd_same, ?_⟩
        have et : (Gm.eqsM U R C)[i + 1]? = some (C.map fun j => Gm.cell U ρ j - Gm.cell U (R.headD 0) j) := by
          unfold Gm.eqsM
          rw [List.getElem?_cons_succ, List.getElem?_map, eρ]
          rfl
        rw [List.take_add_one, et]
        refine (pz.imp2 fun _ _ z => ((z.mono s5).mono (same_upd hp)).at).app2 (.cons ⟨p, rfl, npe, (s4.trans s5).free hp, ?_⟩ .nil)
        rw [upd_ne npe, upd_same]
        have el : (C.map fun (i : Nat) => (i : Int)).map (fun x => Gm.cell U ρ x.toNat - Gm.cell U (R.headD 0) x.toNat) = C.map fun j => Gm.cell U ρ j - Gm.cell U (R.headD 0) j := by
          rw [List.map_map]
          exact List.map_congr_left fun j _ => by simp only [Function.comp, Int.toNat_natCast]
        rw [el]
    · rintro σ H4 ⟨o5, zs, rfl, s4, sx, hz, pz⟩
      have er : (Gm.eqsM U R C).length = C.length := (eqs_sqr g g2).rows
      rw [List.length_map, List.length_drop, List.take_of_length_le (by rw [er]; omega)] at pz
      have hE : IsTab H4 e (Gm.eqsM U R C) := ⟨zs, hz, pz.imp2 fun _ _ z => z.own.row⟩
      -- the numbers
      refine ⟨_, rfl, (by show 1 ≤ sizeLine; decide), fun k1 hk1 => ?_⟩
      refine ⟨(by show 1 ≤ sizeLine; decide), fun k2 hk2 => ?_⟩
      have t1 := same_upd (o := .lst [.int 1]) hk1
      have t2 := same_upd (o := .lst [.int 0]) hk2
      refine ⟨_, rfl, b, _, rfl, .inl (SqL.of (t2 _ _ (t1 _ _ (s4 _ _ hb)))), _, _, rfl, rfl, k2, _, _, rfl, rfl, upd_same, by omega, by rw [List.length_map]; omega, ?_, fun k3 hk3 => ?_⟩
      · rw [List.length_singleton, List.length_map]
        exact Nat.le_of_lt (small1000 (by omega))
      have e2 : (List.replicate (((R.map fun (i : Nat) => V.int i).length : Int) - 1).toNat [V.int 0]).flatten = (List.replicate (C.length - 1) (0 : Int)).map V.int := by
        rw [rep_flat, List.length_map, List.map_replicate, show ((R.length : Int) - 1).toNat = C.length - 1 by omega]
      rw [e2]
      have t3 := same_upd (o := .lst ((List.replicate (C.length - 1) (0 : Int)).map V.int)) hk3
      have w1 := t3 _ _ (t2 _ _ (upd_same (H := H4) (a := k1) (o := .lst [.int 1])))
      refine ⟨k1, k3, _, _, rfl, rfl, w1, upd_same, ?_, fun k4 hk4 => ?_⟩
      · rw [List.length_singleton, List.length_map, List.length_replicate]
        exact Nat.le_of_lt (small1000 (by omega))
      have e3 : [V.int 1] ++ (List.replicate (C.length - 1) (0 : Int)).map V.int = (Gm.numsM C.length).map V.int := rfl
      rw [e3]
      have t4 := (t1.trans t2).trans (t3.trans (same_upd (o := .lst ((Gm.numsM C.length).map V.int)) hk4))
      have sT := s4.trans t4
      refine ⟨e, k4, Gm.eqsM U R C, C.length, Gm.numsM C.length, rfl, hE.mono t4, eqs_sqr g g2, c4, upd_same, ?_, ?_, fun hz' H5 s5 => kn hz' H5 (sT.trans s5), fun hz' p H5 s5 hpn hf => ks hz' p H5 (sT.trans s5) (sT.free hpn) (by rw [← sol_sh]; exact hf)⟩
      · unfold Gm.numsM
        rw [List.length_cons, List.length_replicate]; omega
      · intro x hx
        unfold Gm.numsM at hx
        rcases List.mem_cons.mp hx with rfl | hx
        · show (1 : Int).natAbs < 2 ^ 9
          decide
        · rw [(List.mem_replicate.mp hx).2]
          show (0 : Int).natAbs < 2 ^ 9
          decide
/-! ### corners -/
abbrev CorT := List (Int × Int) × (Int × Int)
def corQ (U : List (List Int)) (n : Nat) (R C : List Nat) : CorT := (mks (wsM U n R C) (Gm.smM U R C), Fr.mk (Gm.gain U n (Gm.yOf C (Gm.shM U R C)) (R.headD 0)) (Gm.smM U R C))
/-- a corner's tuple; its list is not the thing at l -/
def IsCor (l : Addr) (H : Hp) (v : V) (q : CorT) : Prop := ∃ t k u, v = .ref t ∧ H t = some (.tup [.ref k, .ref u]) ∧ k ≠ l ∧ IsFrs H k q.1 ∧ H u = some (.tup [.int q.2.1, .int q.2.2])
theorem IsCor.mono {l : Addr} {H H' : Hp} {v : V} {q : CorT} (s : Same H H') (h : IsCor l H v q) : IsCor l H' v q := let ⟨t, k, u, e, a, b, c, d⟩ := h; ⟨t, k, u, e, s _ _ a, b, c.mono s, s _ _ d⟩
theorem IsCor.at {l : Addr} {H : Hp} {v : V} {q : CorT} {xs : List V} {o : HO} (hl : H l = some (.lst xs)) (h : IsCor l H v q) : IsCor l (upd H l o) v q := by
  obtain ⟨t, k, u, e, a, b, ⟨vs, c1, c2⟩, d⟩ := h
  exact ⟨t, k, u, e, by rw [upd_ne (ne_of a hl (by intro z; cases z))]; exact a, b, ⟨vs, by rw [upd_ne b]; exact c1, c2.imp2 fun _ _ z => z.at hl⟩, by rw [upd_ne (ne_of d hl (by intro z; cases z))]; exact d⟩
theorem dot_sm : ∀ (n : Nat) (r : List Int) (y : Nat → Int), r.length = n → Fr.dot r ((List.range n).map y) = Gm.sm n fun j => r.getD j 0 * y j := by
  have go : ∀ (n : Nat) (r : List Int) (y : Nat → Int), r.length = n → Fr.dot r ((List.range n).map y) = Gm.sm n fun j => r.getD j 0 * y j := by
    intro n
    induction n with
    | zero =>
      intro r y h
      have := List.eq_nil_of_length_eq_zero h
      subst this
      rfl
    | succ n ih =>
      intro r y h
      have hne : r ≠ [] := fun e => by rw [e] at h; simp at h
      have e : r = r.dropLast ++ [r.getLast hne] := (List.dropLast_concat_getLast hne).symm
      have dl : r.dropLast.length = n := by rw [List.length_dropLast]; omega
      rw [List.range_succ, List.map_append]
      show Fr.dot r ((List.range n).map y ++ [y n]) = Gm.sm n (fun j => r.getD j 0 * y j) + r.getD n 0 * y n
      have e2 : Gm.sm n (fun j => r.getD j 0 * y j) = Gm.sm n fun j => r.dropLast.getD j 0 * y j := Gm.sm_congr fun j hj => by
        congr 1
        conv => lhs; rw [e]
        rw [List.getD_eq_getElem?_getD, List.getElem?_append_left (by omega), List.getD_eq_getElem?_getD]
      have e3 : r.getD n 0 = r.getLast hne := by
        conv => lhs; rw [e]
        rw [List.getD_eq_getElem?_getD, List.getElem?_append_right (by omega), dl]
        simp
      rw [e2, e3, ← ih r.dropLast y dl]
      conv => lhs; rw [e]
      exact Fr.dot_snoc _ _ _ _ (by rw [dl, List.length_map, List.length_range])
  exact go
theorem dot_gain {U : List (List Int)} {m n : Nat} (g : Gd U m n) {i : Nat} (hi : i < m) (y : Nat → Int) : Fr.dot (U.getD i []) ((List.range n).map y) = Gm.gain U n y i := dot_sm n _ y (g.row hi).2
theorem lt_scale {a c S : Int} (h : 0 < S) : decide ((Fr.mk a S).1 * (Fr.mk c S).2 < (Fr.mk c S).1 * (Fr.mk a S).2) = decide (a < c) := by
  rw [Fr.mk_lt h h]
  exact decide_eq_decide.mpr ⟨fun q => Int.lt_of_mul_lt_mul_right q (by omega), fun q => Int.mul_lt_mul_of_pos_right q h⟩
theorem sm_bound {U : List (List Int)} {m n : Nat} {R C : List Nat} (g : Gd U m n) (g2 : Gm.Good2 m n R C) : Sz 60 (Gm.smM U R C) := by
  have c4 := g2.c4 g.n4
  have zs : Sz 1 (Gm.sgn (Gm.wholeM U R C)) := by unfold Gm.sgn Sz; split <;> decide
  exact (zs.mul (det_sz C.length _ c4 (eqs_sqr g g2))).mono (by omega)
/-- shares of a corner are small: none is above the sum -/
theorem le_sum : ∀ {l : List Int}, (∀ x ∈ l, 0 ≤ x) → ∀ x ∈ l, x ≤ l.sum
  | [], _, x, h => nomatch h
  | y :: l, h, x, hx => by
    have h1 := h y (by simp)
    have h2 : 0 ≤ l.sum := by
      exact le_sum_nn (l := l) fun z hz => h z (List.mem_cons_of_mem _ hz)
    rw [List.sum_cons]
    rcases List.mem_cons.mp hx with rfl | hx
    · omega
    · have := le_sum (fun z hz => h z (by simp [hz])) x hx
      omega
where le_sum_nn : ∀ {l : List Int}, (∀ x ∈ l, 0 ≤ x) → 0 ≤ l.sum
  | [], _ => by simp
  | y :: l, h => by
    have h1 := h y (by simp)
    have h2 := le_sum_nn fun z hz => h z (List.mem_cons_of_mem _ hz)
    rw [List.sum_cons]
    omega
theorem sum_sm (y : Nat → Int) : ∀ n, ((List.range n).map y).sum = Gm.sm n y
  | 0 => rfl
  | n + 1 => by
    rw [List.range_succ, List.map_append, List.sum_append, sum_sm y n]
    show _ = Gm.sm n y + y n
    simp
/-- the mixture of a corner -/
theorem cor_ws {U : List (List Int)} {m n : Nat} {R C : List Nat} (g : Gd U m n) (g2 : Gm.Good2 m n R C) (hw : Gm.wholeM U R C ≠ 0) (hp : ∀ q ∈ Gm.shM U R C, 0 < q) :
    (∀ x ∈ wsM U n R C, 0 ≤ x) ∧ (wsM U n R C).sum = Gm.smM U R C ∧ GQ (mks (wsM U n R C) (Gm.smM U R C)) := by
  have hS := Gm.sgn_pos hw
  have h1 : ∀ x ∈ wsM U n R C, 0 ≤ x := fun x hx => by
    unfold wsM at hx
    obtain ⟨j, _, rfl⟩ := List.mem_map.mp hx
    exact Gm.yOf_nn fun q hq => Int.le_of_lt (hp q hq)
  have h2 : (wsM U n R C).sum = Gm.smM U R C := by
    unfold wsM
    rw [sum_sm, Gm.yOf_sum g2.lt (Gm.shM_len U R C), Gm.shM_sum U g2 g.n4]
  have zb := sm_bound g g2
  have n4 := g.n4
  refine ⟨h1, h2, mks_gq hS (fun x hx => ?_) zb (by rw [wsM_len]; omega)⟩
  have a1 := h1 x hx
  have a2 := le_sum h1 x hx
  rw [h2] at a2
  unfold Sz at zb ⊢
  exact Nat.lt_of_le_of_lt (by omega) zb
def sp_corner : Sp := fun vs H Q _ => ∃ (a b c : Addr) (U : List (List Int)) (m n : Nat) (R C : List Nat), vs = [.ref a, .ref b, .ref c] ∧ IsTab H a U ∧ Gd U m n ∧ IsNats H (.ref b) R ∧ IsNats H (.ref c) C ∧ Gm.Good2 m n R C ∧
  (¬ Gm.Corner U m n R C → ∀ H', Same H H' → Q .non H') ∧ (Gm.Corner U m n R C → ∀ p H', Same H H' → (∀ l, H l ≠ none → IsCor l H' (.ref p) (corQ U n R C)) → Q (.ref p) H')
theorem bools_mks {H : Hp} (f : Int × Int → Bool) : ∀ {vs ys : List V} {qs : List (Int × Int)}, Paired (fun x y => ∀ q, IsFr H x q → y = V.bl (f q)) vs ys → Paired (IsFr H) vs qs → ys = (qs.map f).map V.bl := bools_map f
theorem mk_pos_iff {x S : Int} (h : 0 < S) : 0 < (Fr.mk x S).1 ↔ 0 < x := by
  have h1 := Fr.mk_ratio (a := x) h
  have h2 := Fr.mk_pos (a := x) h
  constructor
  · intro q
    have := Int.mul_pos q h
    rw [h1] at this
    exact Classical.byContradiction fun c => by
      have := Int.mul_nonpos_of_nonpos_of_nonneg (show x ≤ 0 by omega) (Int.le_of_lt h2)
      omega
  · intro q
    have := Int.mul_pos q h2
    rw [← h1] at this
    exact Classical.byContradiction fun c => by
      have := Int.mul_nonpos_of_nonpos_of_nonneg (show (Fr.mk x S).1 ≤ 0 by omega) (Int.le_of_lt h)
      omega
theorem sz0 : Sz 1000 0 := by unfold Sz; exact Nat.pow_pos (by decide)
abbrev s_corner : Stmt := top 19
theorem sc_corner : FnScope ["table", "rows", "columns", "shares", "mixture", "gains", "number"] ["table", "rows", "columns"] (defScope s_corner) := ⟨rfl, rfl, rfl, by decide +kernel, rfl, by decide +kernel, by decide +kernel⟩
theorem ok_corner (F : FunM K mg "corner" s_corner ["table", "rows", "columns"]) (T : Blt mg) (G_level : Def P w K mg base "level" ["table", "rows", "columns"] 7 sp_level) (G_below : Def P w K mg base "below" ["one", "other"] 1 (sp_below K)) (G_spread : Def P w K mg base "spread" ["shares", "places", "count"] 1 sp_spread) (G_all_get : Def P w K mg base "all_get" ["rows", "mixture"] 6 sp_allget) : Def P w K mg base "corner" ["table", "rows", "columns"] 8 sp_corner := by
  have S := sc_corner
  refine Def.of F S (fun vs H Q E h => ?_) (fun f cdv A outer s H vs Q E hr h => ?_)
  · obtain ⟨a, b, c, U, m, n, R, C, rfl, _⟩ := h
    rfl
  · obtain ⟨a, b, c, U, m, n, R, C, rfl, hU, g, hB, hC, g2, kn, ks⟩ := h
    have m4 := g.m4
    have n4 := g.n4
    have c4 := g2.c4 g.n4
    refine ⟨_, (pss_cons (ps_set (i := 3) S.nd rfl (Or.inl rfl) (pe_def G_level (hr.mono (by decide)) rfl (pa_cons (pv 0) (pa_cons (pv 1) (pa_cons (pv 2) pa_nil st_Name) st_Name) st_Name) (he := st_Name)))
      (pss_cons (ps_if (PW.pt (pw_or (pt_cmpR op_isN (pv 3) pe_non (nomark _)) (pw_or1 (pt_not (pt_val (pe_callB (allK K) (by rfl) T.all_ bt_all (pa_cons (pe_comp rfl (N' := ["share"]) (src := [none]) rfl (piL K (pv 3)) (fun _ _ _ _ _ => (pg_name (i := 0) (show (["share"] : List Str).Nodup from by decide +kernel) rfl (Or.inl rfl))) (fun _ _ _ _ _ => pts_nil) (fun _ _ _ _ _ => (pe_def G_below (hr.mono (by decide)) rfl (pa_cons (pe_tup (pa_cons pe_int (pa_cons pe_int pa_nil st_Constant) st_Constant)) (pa_cons (pv 0) pa_nil st_Name) st_Tuple) (he := st_Tuple)))) pa_nil st_ListComp) (he := st_ListComp)))))))
        (pss_one (ps_ret pe_non)) pss_nil)
      (pss_cons (ps_set (i := 4) S.nd rfl (Or.inl rfl) (pe_def G_spread (hr.mono (by decide)) rfl (pa_cons (pv 3) (pa_cons (pv 2) (pa_cons (pe_callB (lenK K) (by rfl) T.len_ bt_len (pa_cons (pe_ix (ixL K) (pv 0) pe_int (fun _ _ => rfl)) pa_nil st_Subscript) (he := st_Subscript)) pa_nil st_Call) st_Name) st_Name) (he := st_Name)))
      (pss_cons (ps_set (i := 5) S.nd rfl (Or.inl rfl) (pe_def G_all_get (hr.mono (by decide)) rfl (pa_cons (pv 0) (pa_cons (pv 4) pa_nil st_Name) st_Name) (he := st_Name)))
      (pss_cons (ps_set (i := 6) S.nd rfl (Or.inr rfl) (pe_ix (ixL K) (pv 5) (pe_ix (ixL K) (pv 1) pe_int (fun _ _ => rfl)) (fun _ _ => rfl)))
      (pss_cons (ps_if (pt_val (pe_callB (anyK K) (by rfl) T.any_ bt_any (pa_cons (pe_comp rfl (N' := ["gain", "number"]) (src := [none, some 6]) rfl (piL K (pv 5)) (fun _ _ _ _ _ => (pg_name (i := 0) (show (["gain", "number"] : List Str).Nodup from by decide +kernel) rfl (Or.inl rfl))) (fun _ _ _ _ _ => pts_nil) (fun _ _ _ _ _ => (pe_def G_below (hr.mono (by decide)) rfl (pa_cons (pv 1) (pa_cons (pv 0) pa_nil st_Name) st_Name) (he := st_Name)))) pa_nil st_ListComp) (he := st_ListComp)))
        (pss_one (ps_ret pe_non)) pss_nil)
      (pss_one (ps_ret (pe_tup (pa_cons (pv 4) (pa_cons (pv 6) pa_nil st_Name) st_Name)))))))))), ?_⟩
    refine ⟨_, rfl, _, rfl, _, rfl, a, b, c, U, m, n, R, C, rfl, hU, g, hB, hC, g2, fun hw H1 s1 => ?_, fun hw p H1 s1 hpn hF => ?_⟩
    · refine ⟨_, rfl, rfl, _, rfl, ?_⟩
      refine iteT ?_
      exact kn (fun k => k.ne hw) H1 s1
    have hS : 0 < Gm.smM U R C := Gm.sgn_pos hw
    obtain ⟨vs, hvs, pr⟩ := id hF
    have shl := Gm.shM_len U R C
    have vl : vs.length = C.length := by rw [pr.length, mks_len, shl]
    refine ⟨_, rfl, rfl, _, rfl, ?_⟩
    refine ifN (by simp) ?_
    have zb := sm_bound g g2
    have zq : ∀ q ∈ mks (Gm.shM U R C) (Gm.smM U R C), Sz 60 q.1 ∧ Sz 60 q.2 := fun q hq => by
      obtain ⟨x, hx, rfl⟩ := List.mem_map.mp hq
      refine ⟨Sz.fst hS ?_, zb.snd hS⟩
      unfold Gm.shM at hx
      obtain ⟨y, hy, rfl⟩ := List.mem_map.mp hx
      unfold Gm.partsM at hy
      obtain ⟨t, ht, rfl⟩ := List.mem_map.mp hy
      have zs : Sz 1 (Gm.sgn (Gm.wholeM U R C)) := by unfold Gm.sgn Sz; split <;> decide
      refine (zs.mul (det_sz C.length _ c4 (withC_sqr (eqs_sqr g g2) (List.mem_range.mp ht) ?_ ?_))).mono (by omega)
      · unfold Gm.numsM
        rw [List.length_cons, List.length_replicate]
        have := g2.pos
        omega
      · intro x hx
        unfold Gm.numsM at hx
        rcases List.mem_cons.mp hx with rfl | hx
        · show (1 : Int).natAbs < 2 ^ 9
          decide
        · rw [(List.mem_replicate.mp hx).2]
          show (0 : Int).natAbs < 2 ^ 9
          decide
    refine ⟨_, rfl, p, rfl, ⟨_, SqL.of hvs⟩, comp_each (xs := vs) (fun x y _ => ∀ q, IsFr H1 x q → y = .bl (decide (0 < q.1))) (fun _ _ _ _ _ h => h) (SqL.of hvs) (by rw [vl]; exact Nat.le_of_lt (small1000 (by omega))) ?_ ?_⟩
    · intro x hx H2 s2 Q' q
      obtain ⟨r, hr', hf⟩ := pr.mem2 hx
      obtain ⟨d, rfl, hd⟩ := id hf
      refine ⟨(by show 2 ≤ sizeLine; decide), fun t ht => ⟨_, rfl, t, d, _, _, _, _, rfl, SqT.of upd_same, SqT.of (same_upd ht _ _ (s2 _ _ hd)), sz0, sz1, (zq r hr').1.mono (by decide), (zq r hr').2.mono (by decide), ?_⟩⟩
      refine q _ _ (same_upd ht) fun q' h' => ?_
      rw [hf.inj h']
      congr 1
      rw [Int.zero_mul, Int.mul_one]
    intro ys H2 s2 prb qb hqb
    have eb := bools_mks (fun q => decide (0 < q.1)) prb pr
    subst eb
    refine ⟨qb, _, rfl, SqL.of upd_same, ?_⟩
    rw [List.all_map]
    have s12 : Same H1 (upd H2 qb (.lst (((mks (Gm.shM U R C) (Gm.smM U R C)).map fun q => decide (0 < q.1)).map V.bl))) := s2.trans (same_upd hqb)
    generalize upd H2 qb (.lst (((mks (Gm.shM U R C) (Gm.smM U R C)).map fun q => decide (0 < q.1)).map V.bl)) = H3 at s12 ⊢
    have s13 := s1.trans s12
    have eall : (mks (Gm.shM U R C) (Gm.smM U R C)).all (id ∘ fun q => decide (0 < q.1)) = true ↔ ∀ q ∈ Gm.shM U R C, 0 < q := by
      rw [List.all_eq_true]
      constructor
      · intro h q hq
        exact (mk_pos_iff hS).mp (of_decide_eq_true (h _ (List.mem_map.mpr ⟨q, hq, rfl⟩)))
      · intro h q hq
        obtain ⟨x, hx, rfl⟩ := List.mem_map.mp hq
        exact decide_eq_true ((mk_pos_iff hS).mpr (h x hx))
    refine ⟨_, rfl, ?_⟩
    by_cases hpos : ∀ q ∈ Gm.shM U R C, 0 < q
    rotate_left
    · have hf : (mks (Gm.shM U R C) (Gm.smM U R C)).all (id ∘ fun q => decide (0 < q.1)) = false := by
        cases e : (mks (Gm.shM U R C) (Gm.smM U R C)).all (id ∘ fun q => decide (0 < q.1)) with
        | false => rfl
        | true => exact absurd (eall.mp e) hpos
      rw [hf]
      refine iteT ?_
      exact kn (fun k => hpos k.pos) H3 s13
    rw [eall.mpr hpos]
    refine iteF ?_
    obtain ⟨w1, w2, w3⟩ := cor_ws g g2 hw hpos
    -- the mixture
    have hU3 := hU.mono s13
    obtain ⟨vs3, b0, ha3, h03, at03, hb03⟩ := hU3.row (i := 0) (by rw [g.rows]; exact g.m1)
    have hl0 : ((U.getD 0 []).map V.int).length = n := by rw [List.length_map, (g.row g.m1).2]
    refine ⟨_, rfl, _, rfl, _, rfl, a, vs3, 0, _, rfl, rfl, SqL.of ha3, at03, b0, _, rfl, .inl (SqL.of hb03), p, c, _, C, n, (by rw [hl0]; rfl), hF.mono s12, hC.mono s13, by rw [mks_len, shl], g2.lt, n4, fun mx H4 s4 hmx hM => ?_⟩
    rw [spread_eq hS g2.nd shl g2.lt] at hM
    have s14 := s13.trans s4
    refine ⟨_, rfl, _, rfl, a, mx, U, m, n, _, rfl, hU.mono s14, g, hM, w3, fun gn H5 s5 hgn hG => ?_⟩
    have s15 := s14.trans s5
    have eg : (U.map fun r => rowF r (mks (wsM U n R C) (Gm.smM U R C))) = mks (U.map fun r => Fr.dot r (wsM U n R C)) (Gm.smM U R C) := by
      unfold mks
      rw [List.map_map]
      exact List.map_congr_left fun r hr' => rowF_mks hS (g.sz hr') w3
    rw [show (mks ((List.range n).map (Gm.yOf C (Gm.shM U R C))) (Gm.smM U R C)) = mks (wsM U n R C) (Gm.smM U R C) from rfl, eg] at hG
    obtain ⟨gv, hgv, prg⟩ := id hG
    have gl : gv.length = m := by rw [prg.length, mks_len, List.length_map, g.rows]
    -- the number
    obtain ⟨b', eb', hb⟩ := id hB
    cases eb'
    have h0m := g2.r0m
    have r0 : R.getD 0 0 = R.headD 0 := by cases R <;> rfl
    have rl := g2.len
    have cp := g2.pos
    have rt : atI (R.map fun (i : Nat) => V.int i) (0 : Int) = some (.int (R.headD 0 : Nat)) := by
      have := at_nat (l := R) (t := 0) (by omega)
      rw [r0] at this
      exact this
    obtain ⟨q0, eq0, nu, enu, hnu⟩ := prg.get2 (List.getElem?_eq_getElem (show R.headD 0 < gv.length by rw [gl]; exact h0m))
    obtain ⟨x0, ex0, rfl⟩ := mks_get eq0
    have ex0' : x0 = Gm.gain U n (Gm.yOf C (Gm.shM U R C)) (R.headD 0) := by
      rw [← dot_gain g h0m]
      rw [List.getElem?_map, List.getElem?_eq_getElem (show R.headD 0 < U.length by rw [g.rows]; exact h0m)] at ex0
      have e2 : U.getD (R.headD 0) [] = U[R.headD 0]'(by rw [g.rows]; exact h0m) := by
        rw [List.getD_eq_getElem?_getD, List.getElem?_eq_getElem]; rfl
      rw [e2]
      exact (Option.some.inj ex0).symm
    refine ⟨_, rfl, _, rfl, b, _, 0, _, rfl, rfl, SqL.of (s15 _ _ hb), rt, gn, gv, _, _, rfl, rfl, SqL.of hgv, (by rw [atI_get' (show R.headD 0 < gv.length by rw [gl]; exact h0m), enu]), ?_⟩
    have zg : ∀ q ∈ mks (U.map fun r => Fr.dot r (wsM U n R C)) (Gm.smM U R C), Sz 1000 q.1 ∧ Sz 1000 q.2 := fun q hq => by
      rw [← eg] at hq
      obtain ⟨r, hr', rfl⟩ := List.mem_map.mp hq
      exact ⟨(rowF_s1 (g.sz hr') w3).mono (by decide), (rowF_s2 (g.sz hr') w3).mono (by decide)⟩
    have z0 := zg _ (List.mem_of_getElem? eq0)
    refine ⟨_, rfl, gn, rfl, ⟨_, SqL.of hgv⟩, comp_each (xs := gv) (fun x y _ => ∀ q, IsFr H5 x q → y = .bl (decide ((Fr.mk x0 (Gm.smM U R C)).1 * q.2 < q.1 * (Fr.mk x0 (Gm.smM U R C)).2))) (fun _ _ _ _ _ h => h) (SqL.of hgv) (by rw [gl]; exact Nat.le_of_lt (small1000 (by omega))) ?_ ?_⟩
    · intro x hx H6 s6 Q' q
      obtain ⟨r, hr', hf⟩ := prg.mem2 hx
      obtain ⟨d, rfl, hd⟩ := id hf
      refine ⟨_, rfl, _, rfl, nu, d, _, _, _, _, rfl, SqT.of (s6 _ _ hnu), SqT.of (s6 _ _ hd), z0.1, z0.2, (zg r hr').1, (zg r hr').2, q _ H6 (Same.refl _) fun q' h' => by rw [hf.inj h']⟩
    intro ys2 H6 s6 prc qc hqc
    have ec := bools_mks (fun q => decide ((Fr.mk x0 (Gm.smM U R C)).1 * q.2 < q.1 * (Fr.mk x0 (Gm.smM U R C)).2)) prc prg
    subst ec
    refine ⟨qc, _, rfl, SqL.of upd_same, ?_⟩
    rw [List.any_map]
    have eany : (mks (U.map fun r => Fr.dot r (wsM U n R C)) (Gm.smM U R C)).any (id ∘ fun q => decide ((Fr.mk x0 (Gm.smM U R C)).1 * q.2 < q.1 * (Fr.mk x0 (Gm.smM U R C)).2)) = true ↔ ∃ i, i < m ∧ x0 < Gm.gain U n (Gm.yOf C (Gm.shM U R C)) i := by
      rw [List.any_eq_true]
      constructor
      · rintro ⟨q, hq, h⟩
        obtain ⟨d, hd, rfl⟩ := List.mem_map.mp hq
        obtain ⟨r, hr', rfl⟩ := List.mem_map.mp hd
        obtain ⟨i, hi, rfl⟩ := List.mem_iff_getElem.mp hr'
        refine ⟨i, by rw [← g.rows]; exact hi, ?_⟩
        have h' : decide ((Fr.mk x0 (Gm.smM U R C)).1 * (Fr.mk (Fr.dot U[i] (wsM U n R C)) (Gm.smM U R C)).2 < (Fr.mk (Fr.dot U[i] (wsM U n R C)) (Gm.smM U R C)).1 * (Fr.mk x0 (Gm.smM U R C)).2) = true := h
        rw [lt_scale hS] at h'
        have e2 : U.getD i [] = U[i] := by rw [List.getD_eq_getElem?_getD, List.getElem?_eq_getElem hi]; rfl
        rw [← dot_gain g (by rw [← g.rows]; exact hi), e2]
        exact of_decide_eq_true h'
      · rintro ⟨i, hi, h⟩
        have hi' : i < U.length := by rw [g.rows]; exact hi
        have e2 : U.getD i [] = U[i] := by rw [List.getD_eq_getElem?_getD, List.getElem?_eq_getElem hi']; rfl
        refine ⟨Fr.mk (Fr.dot U[i] (wsM U n R C)) (Gm.smM U R C), List.mem_map.mpr ⟨_, List.mem_map.mpr ⟨U[i], List.getElem_mem hi', rfl⟩, rfl⟩, ?_⟩
        show decide ((Fr.mk x0 (Gm.smM U R C)).1 * (Fr.mk (Fr.dot U[i] (wsM U n R C)) (Gm.smM U R C)).2 < (Fr.mk (Fr.dot U[i] (wsM U n R C)) (Gm.smM U R C)).1 * (Fr.mk x0 (Gm.smM U R C)).2) = true
        rw [lt_scale hS]
        rw [← dot_gain g hi, e2] at h
        exact decide_eq_true h
    have s6' : Same H5 (upd H6 qc (.lst (((mks (U.map fun r => Fr.dot r (wsM U n R C)) (Gm.smM U R C)).map fun q => decide ((Fr.mk x0 (Gm.smM U R C)).1 * q.2 < q.1 * (Fr.mk x0 (Gm.smM U R C)).2)).map V.bl))) := s6.trans (same_upd hqc)
    generalize upd H6 qc (.lst (((mks (U.map fun r => Fr.dot r (wsM U n R C)) (Gm.smM U R C)).map fun q => decide ((Fr.mk x0 (Gm.smM U R C)).1 * q.2 < q.1 * (Fr.mk x0 (Gm.smM U R C)).2)).map V.bl)) = H7 at s6' ⊢
    have s17 := s15.trans s6'
    refine ⟨_, rfl, ?_⟩
    by_cases hk : ∃ i, i < m ∧ x0 < Gm.gain U n (Gm.yOf C (Gm.shM U R C)) i
    · rw [eany.mpr hk]
      refine iteT ?_
      obtain ⟨i, hi, hlt⟩ := hk
      refine kn (fun k => ?_) H7 s17
      have := k.le i hi
      rw [← ex0'] at this
      omega
    · have hf : (mks (U.map fun r => Fr.dot r (wsM U n R C)) (Gm.smM U R C)).any (id ∘ fun q => decide ((Fr.mk x0 (Gm.smM U R C)).1 * q.2 < q.1 * (Fr.mk x0 (Gm.smM U R C)).2)) = false := by
        cases e : (mks (U.map fun r => Fr.dot r (wsM U n R C)) (Gm.smM U R C)).any (id ∘ fun q => decide ((Fr.mk x0 (Gm.smM U R C)).1 * q.2 < q.1 * (Fr.mk x0 (Gm.smM U R C)).2)) with
        | false => rfl
        | true => exact absurd (eany.mp e) hk
      rw [hf]
      refine iteF ?_
      have hcor : Gm.Corner U m n R C := ⟨hw, hpos, fun i hi => Classical.byContradiction fun c => hk ⟨i, hi, by rw [ex0']; omega⟩⟩
      refine ⟨_, rfl, _, rfl, (by show 2 ≤ sizeLine; decide), fun tp htp => ?_⟩
      have sE := s17.trans (same_upd (o := .tup [.ref mx, .ref nu]) htp)
      refine ks hcor tp _ sE fun l hl => ⟨tp, mx, nu, rfl, upd_same, fun e => ?_, ((hM.mono s5).mono s6').mono (same_upd htp), ?_⟩
      · rw [e] at hmx
        exact hl (s13.free hmx)
      · rw [same_upd htp _ _ (s6' _ _ hnu), ex0']
        rfl
/-! ### all corners -/
def frD (q : Int × Int) : D := .tup [.int q.1, .int q.2]
def corD (q : CorT) : D := .tup [.lst (q.1.map frD), frD q.2]
theorem rep_fr {H : Hp} {p : Addr} {q : Int × Int} (h : H p = some (.tup [.int q.1, .int q.2])) : Rep K H (frD q) (.ref p) := rep_pair h
theorem reps_frs {H : Hp} : ∀ {vs : List V} {qs : List (Int × Int)}, Paired (IsFr H) vs qs → Reps K H (qs.map frD) vs
  | _, _, .nil => by simp [Reps]
  | _, _, .cons h t => by
    rw [List.map_cons]
    unfold Reps
    obtain ⟨b, rfl, q⟩ := h
    exact ⟨_, _, rfl, rep_fr q, reps_frs t⟩
theorem rep_cor {l : Addr} {H : Hp} {v : V} {q : CorT} (h : IsCor l H v q) : Rep K H (corD q) v := by
  obtain ⟨t, k, u, rfl, a, _, ⟨vs, c1, c2⟩, d⟩ := h
  unfold corD Rep
  refine ⟨t, _, rfl, SqT.of a, ?_⟩
  unfold Reps
  refine ⟨_, _, rfl, ?_, ?_⟩
  · unfold Rep
    exact ⟨k, vs, rfl, SqL.of c1, reps_frs c2⟩
  · unfold Reps
    exact ⟨_, _, rfl, rep_fr d, by simp [Reps]⟩
theorem reps_cors {l : Addr} {H : Hp} : ∀ {vs : List V} {qs : List CorT}, Paired (IsCor l H) vs qs → Reps K H (qs.map corD) vs
  | _, _, .nil => by simp [Reps]
  | _, _, .cons h t => by
    rw [List.map_cons]
    unfold Reps
    exact ⟨_, _, rfl, rep_cor h, reps_cors t⟩
theorem likeDs_frs : ∀ ps qs : List (Int × Int), likeDs (ps.map frD) (qs.map frD) = true
  | [], t => by unfold likeDs; cases t <;> rfl
  | _ :: _, [] => by simp [likeDs]
  | x :: r, y :: t => by
    rw [List.map_cons, List.map_cons]
    unfold likeDs
    rw [likeDs_frs r t, Bool.and_true]
    rfl
theorem like_cor (p q : CorT) : likeD (corD p) (corD q) = true := by
  show (likeDs (p.1.map frD) (q.1.map frD) && (likeD (frD p.2) (frD q.2) && true)) = true
  rw [likeDs_frs]
  rfl
theorem depDs_frs : ∀ ps : List (Int × Int), depDs (ps.map frD) ≤ 1
  | [] => by decide
  | x :: r => by
    rw [List.map_cons]
    unfold depDs
    have := depDs_frs r
    have e : depD (frD x) = 1 := rfl
    omega
theorem dep_cor (q : CorT) : depD (corD q) ≤ 40 := by
  unfold corD
  rw [depTup]
  have h1 := depDs_frs q.1
  show max (depD (.lst (q.1.map frD))) (max (depD (frD q.2)) 0) + 1 ≤ 40
  rw [depLst]
  have e : depD (frD q.2) = 1 := rfl
  omega
theorem frD_inj {p q : Int × Int} (h : frD p = frD q) : p = q := by
  unfold frD at h
  simp at h
  exact Prod.ext h.1 h.2
theorem corD_inj {p q : CorT} (h : corD p = corD q) : p = q := by
  have e := h
  unfold corD at e
  injection e with e
  injection e with e1 e2
  injection e1 with e1
  injection e2 with e2
  refine Prod.ext ?_ (frD_inj e2)
  have inj : ∀ (a b : List (Int × Int)), a.map frD = b.map frD → a = b := by
    intro a
    induction a with
    | nil => intro b h; cases b with
      | nil => rfl
      | cons _ _ => simp at h
    | cons x a ih => intro b h; cases b with
      | nil => simp at h
      | cons y b =>
        rw [List.map_cons, List.map_cons] at h
        injection h with h1 h2
        rw [frD_inj h1, ih b h2]
  exact inj _ _ e1
theorem any_cors (p : CorT) (ps : List CorT) : (ps.map corD).any (fun e => eqD e (corD p)) = true ↔ p ∈ ps := by
  rw [List.any_eq_true]
  constructor
  · rintro ⟨d, hd, he⟩
    obtain ⟨q, hq, rfl⟩ := List.mem_map.mp hd
    rw [← corD_inj (eqD_eq he)]
    exact hq
  · intro h
    exact ⟨corD p, List.mem_map_of_mem h, eqD_self _⟩
/-- the corners that are told -/
structure Cors (U : List (List Int)) (m n : Nat) (Ls : List CorT) : Prop where
  of : ∀ q ∈ Ls, ∃ R C, Gm.Good2 m n R C ∧ Gm.Corner U m n R C ∧ q = corQ U n R C
  all : ∀ R C, Gm.Good2 m n R C → Gm.Corner U m n R C → corQ U n R C ∈ Ls
def sp_cors : Sp := fun vs H Q _ => ∃ (a : Addr) (U : List (List Int)) (m n : Nat), vs = [.ref a] ∧ IsTab H a U ∧ Gd U m n ∧ ∀ l zs Ls H', Same H H' → H' l = some (.lst zs) → Paired (IsCor l H') zs Ls → Cors U m n Ls → zs.length ≤ 1000 → Q (.ref l) H'
abbrev s_corners_of : Stmt := top 20
theorem sc_corners_of : FnScope ["table", "found", "columns", "rows", "place"] ["table"] (defScope s_corners_of) := ⟨rfl, rfl, rfl, by decide +kernel, rfl, by decide +kernel, by decide +kernel⟩
theorem ok_corners_of (F : FunM K mg "corners_of" s_corners_of ["table"]) (T : Blt mg) (G_choices : Def P w K mg base "choices" ["count"] 1 sp_choices) (G_corner : Def P w K mg base "corner" ["table", "rows", "columns"] 8 sp_corner) : Def P w K mg base "corners_of" ["table"] 9 sp_cors := by
  have S := sc_corners_of
  refine Def.of F S (fun vs H Q E h => ?_) (fun f cdv A outer s H vs Q E hr h => ?_)
  · obtain ⟨a, U, m, n, rfl, _⟩ := h
    rfl
  · obtain ⟨a, U, m, n, rfl, hU, g, k⟩ := h
    have m4 := g.m4
    have n4 := g.n4
    refine ⟨_, (pss_cons (ps_set (i := 1) S.nd rfl (Or.inl rfl) (pe_lst pa_nil))
      (pss_cons (ps_for PassesOwn.never rfl (piL K (pe_def G_choices (hr.mono (by decide)) rfl (pa_cons (pe_callB (lenK K) (by rfl) T.len_ bt_len (pa_cons (pe_ix (ixL K) (pv 0) pe_int (fun _ _ => rfl)) pa_nil st_Subscript) (he := st_Subscript)) pa_nil st_Call) (he := st_Call))) (pg_name (i := 2) S.nd rfl (Or.inl rfl))
        (pss_one (ps_for PassesOwn.never rfl (piL K (pe_def G_choices (hr.mono (by decide)) rfl (pa_cons (pe_callB (lenK K) (by rfl) T.len_ bt_len (pa_cons (pv 0) pa_nil st_Name) (he := st_Name)) pa_nil st_Call) (he := st_Call))) (pg_name (i := 3) S.nd rfl (Or.inl rfl))
        (pss_one (ps_if (pt_chain op_lt op_eq pe_int (pe_callB (lenK K) (by rfl) T.len_ bt_len (pa_cons (pv 3) pa_nil st_Name) (he := st_Name)) (pe_callB (lenK K) (by rfl) T.len_ bt_len (pa_cons (pv 2) pa_nil st_Name) (he := st_Name)))
        (pss_cons (ps_set (i := 4) S.nd rfl (Or.inl rfl) (pe_def G_corner (hr.mono (by decide)) rfl (pa_cons (pv 0) (pa_cons (pv 3) (pa_cons (pv 2) pa_nil st_Name) st_Name) st_Name) (he := st_Name)))
      (pss_one (ps_if (PW.pt (pw_and (pt_cmpR op_notN (pv 4) pe_non (nomark _)) (pw_and1 (pt_cmpR (ninDK K hr.units) (pv 4) (pv 1) rfl))))
        (pss_one (ps_expr (pe_bm PySem.F.plainAttrs_list PySem.F.slot_list_append PySem.F.type_list_append mt_append (pv 1) (pa_cons (pv 4) pa_nil st_Name)))) pss_nil))) pss_nil)))))
      (pss_one (ps_ret (pv 1))))), ?_⟩
    refine ⟨Nat.zero_le _, fun l hl => ?_⟩
    have hl0 : H l = none := hl
    have s0 := same_upd (o := .lst []) hl
    have q0 : upd H l (.lst []) l = some (.lst []) := upd_same
    generalize upd H l (.lst []) = H0 at s0 q0 ⊢
    have hU0 := hU.mono s0
    obtain ⟨vs0, b0, ha0, h00, at00, hb00⟩ := hU0.row (i := 0) (by rw [g.rows]; exact g.m1)
    have hln : ((U.getD 0 []).map V.int).length = n := by rw [List.length_map, (g.row g.m1).2]
    have hlm : vs0.length = m := by
      obtain ⟨vs', ha', hp⟩ := id hU0
      rw [ha0] at ha'
      cases ha'
      rw [hp.length, g.rows]
    refine ⟨_, rfl, a, vs0, 0, _, rfl, rfl, SqL.of ha0, at00, b0, _, rfl, .inl (SqL.of hb00), n, (by rw [hln]; rfl), n4, fun pc xc H1 s1 hpn hpc prc => ?_⟩
    have s01 := s0.trans s1
    have q1 := s1 _ _ q0
    have npl : pc ≠ l := fun e => by rw [e, q0] at hpn; cases hpn
    -- what the walk keeps
    refine ⟨pc, rfl, ⟨_, SqL.of hpc⟩, for_list (K := K) (a := pc) (xs := xc) (fun i σ H' => ∃ o2 o3 o4 zs Ls, σ = [some (.ref a), some (.ref l), o2, o3, o4] ∧ Same H H' ∧ SameX l H1 H' ∧ H' l = some (.lst zs) ∧ Paired (IsCor l H') zs Ls ∧ zs.length ≤ 16 * i ∧
        (∀ q ∈ Ls, ∃ R C, Gm.Good2 m n R C ∧ Gm.Corner U m n R C ∧ q = corQ U n R C) ∧ ∀ C ∈ (Gm.chM n).take i, ∀ R ∈ Gm.chM m, Gm.Good2 m n R C → Gm.Corner U m n R C → corQ U n R C ∈ Ls)
      ⟨_, _, _, [], [], rfl, s01, SameX.refl, q1, .nil, Nat.zero_le _, (fun q h => nomatch h), fun C h => by simp at h⟩ ?_ ?_ ?_⟩
    · rintro i σ H2 _ ⟨_, _, _, _, _, _, _, sx, _⟩
      exact SqL.of (sx _ _ npl hpc)
    · rintro i x σ H2 hi ⟨o2, o3, o4, zs, Ls, rfl, s2, sx, hz, pz, zl, hof, hall⟩
      obtain ⟨C, hC, bc, rfl, bcn, hbc⟩ := prc.get2 hi
      have nbl : bc ≠ l := fun e => by rw [e, q0] at bcn; cases bcn
      have hbc2 := sx _ _ nbl hbc
      have il : i < 16 := by
        have h1 := (List.getElem?_eq_some_iff.mp hi).1
        rw [prc.length, chM_len] at h1
        have := pow_le16 n4
        omega
      obtain ⟨vs2, ha2, hp2⟩ := hU.mono s2
      have hlm : vs2.length = m := by rw [hp2.length, g.rows]
      refine ⟨_, rfl, a, vs2, rfl, .inl (SqL.of ha2), m, (by rw [hlm]; rfl), m4, fun pr xr H3 s3 hprn hpr prr => ?_⟩
      have s23 := s2.trans s3
      have nrl : pr ≠ l := fun e => by rw [e, hz] at hprn; cases hprn
      refine ⟨pr, rfl, ⟨_, SqL.of hpr⟩, for_list (K := K) (a := pr) (xs := xr) (fun r σ H' => ∃ o3 o4 zs Ls, σ = [some (.ref a), some (.ref l), some (.ref bc), o3, o4] ∧ Same H H' ∧ SameX l H3 H' ∧ H' l = some (.lst zs) ∧ Paired (IsCor l H') zs Ls ∧ zs.length ≤ 16 * i + r ∧
          (∀ q ∈ Ls, ∃ R C, Gm.Good2 m n R C ∧ Gm.Corner U m n R C ∧ q = corQ U n R C) ∧ (∀ C ∈ (Gm.chM n).take i, ∀ R ∈ Gm.chM m, Gm.Good2 m n R C → Gm.Corner U m n R C → corQ U n R C ∈ Ls) ∧
          ∀ R ∈ (Gm.chM m).take r, Gm.Good2 m n R C → Gm.Corner U m n R C → corQ U n R C ∈ Ls)
        ⟨_, _, zs, Ls, rfl, s23, SameX.refl, s3 _ _ hz, pz.imp2 fun _ _ z => z.mono s3, zl, hof, hall, fun R h => by simp at h⟩ ?_ ?_ ?_⟩
      · rintro r σ H4 _ ⟨_, _, _, _, _, _, sx4, _⟩
        exact SqL.of (sx4 _ _ nrl hpr)
      · rintro r y σ H4 hy ⟨o3', o4', zs4, Ls4, rfl, s4, sx4, hz4, pz4, zl4, hof4, hall4, hthis⟩
        obtain ⟨R, hR, br, rfl, brn, hbr⟩ := prr.get2 hy
        have nbrl : br ≠ l := fun e => by rw [e, hz] at brn; cases brn
        have hbr4 := sx4 _ _ nbrl hbr
        have hbc4 := sx4 _ _ nbl (s3 _ _ hbc2)
        have rl16 : r < 16 := by
          have h1 := (List.getElem?_eq_some_iff.mp hy).1
          rw [prr.length, chM_len] at h1
          have := pow_le16 m4
          omega
        have eR : (Gm.chM m).take (r + 1) = (Gm.chM m).take r ++ [R] := by rw [List.take_add_one, hR]; rfl
        have hRm := List.mem_of_getElem? hR
        have hCm := List.mem_of_getElem? hC
        -- on with nothing new
        have skip : ∀ H5, Same H H5 → SameX l H3 H5 → H5 l = some (.lst zs4) → Paired (IsCor l H5) zs4 Ls4 → (Gm.Good2 m n R C → Gm.Corner U m n R C → corQ U n R C ∈ Ls4) → ∀ o4'', ∃ o3 o4 zs Ls, ([some (.ref a), some (.ref l), some (.ref bc), some (.ref br), o4''] : St) = [some (.ref a), some (.ref l), some (.ref bc), o3, o4] ∧ Same H H5 ∧ SameX l H3 H5 ∧ H5 l = some (.lst zs) ∧ Paired (IsCor l H5) zs Ls ∧ zs.length ≤ 16 * i + (r + 1) ∧
          (∀ q ∈ Ls, ∃ R C, Gm.Good2 m n R C ∧ Gm.Corner U m n R C ∧ q = corQ U n R C) ∧ (∀ C ∈ (Gm.chM n).take i, ∀ R ∈ Gm.chM m, Gm.Good2 m n R C → Gm.Corner U m n R C → corQ U n R C ∈ Ls) ∧
          ∀ R ∈ (Gm.chM m).take (r + 1), Gm.Good2 m n R C → Gm.Corner U m n R C → corQ U n R C ∈ Ls := by
          intro H5 a1 a2 a3 a4 a5 o4''
          refine ⟨_, _, zs4, Ls4, rfl, a1, a2, a3, a4, by omega, hof4, hall4, fun R' h' => ?_⟩
          rw [eR] at h'
          rcases List.mem_append.mp h' with h' | h'
          · exact hthis R' h'
          · rw [List.mem_singleton.mp h']
            exact a5
        refine ⟨_, rfl, br, _, rfl, .inl (SqL.of hbr4), _, _, rfl, rfl, _, rfl, ?_⟩
        by_cases h0 : 0 < R.length
        rotate_left
        · refine ifN (by simpa using h0) ?_
          refine ⟨_, rfl, ?_⟩
          refine iteF ?_
          exact skip H4 s4 sx4 hz4 pz4 (fun g2 => absurd (by rw [g2.len]; exact g2.pos) h0) _
        refine ifP (by simpa using h0) ?_
        refine ⟨_, rfl, bc, _, rfl, .inl (SqL.of hbc4), rfl, _, rfl, ?_⟩
        by_cases h1 : R.length = C.length
        rotate_left
        · refine ifN (by rw [dec_len, List.length_map, List.length_map]; simpa using h1) ?_
          exact skip H4 s4 sx4 hz4 pz4 (fun g2 => absurd g2.len h1) _
        refine ifP (by rw [dec_len, List.length_map, List.length_map]; exact decide_eq_true h1) ?_
        have g2 : Gm.Good2 m n R C := ⟨Gm.mem_chM.mpr hRm, Gm.mem_chM.mpr hCm, h1, by omega⟩
        refine ⟨_, rfl, _, rfl, _, rfl, a, br, bc, U, m, n, R, C, rfl, hU.mono s4, g, ⟨br, rfl, hbr4⟩, ⟨bc, rfl, hbc4⟩, g2, fun hnc H5 s5 => ?_, fun hco p H5 s5 hcor => ?_⟩
        · refine ⟨_, rfl, rfl, _, rfl, ?_⟩
          refine ifN (by simp) ?_
          exact skip H5 (s4.trans s5) (sx4.then s5) (s5 _ _ hz4) (pz4.imp2 fun _ _ z => z.mono s5) (fun _ h => absurd h hnc) _
        · have hc := hcor l (by rw [hz4]; simp)
          have pz5 := pz4.imp2 fun _ _ z => z.mono s5
          have hz5 := s5 _ _ hz4
          refine ⟨_, rfl, rfl, _, rfl, ?_⟩
          refine ifP (by simp) ?_
          refine ⟨_, rfl, _, rfl, l, corD (corQ U n R C), Ls4.map corD, zs4, rfl, rep_cor hc, SqL.of hz5, reps_cors pz5, ?_, _, rfl, ?_⟩
          · intro d hd
            obtain ⟨q, _, rfl⟩ := List.mem_map.mp hd
            refine ⟨like_cor _ _, dep_cor _, fun d' hd' => ?_⟩
            obtain ⟨q', _, rfl⟩ := List.mem_map.mp hd'
            exact like_cor _ _
          by_cases hin : corQ U n R C ∈ Ls4
          · refine ifN (by simp [(any_cors (corQ U n R C) Ls4).mpr hin]) ?_
            exact skip H5 (s4.trans s5) (sx4.then s5) hz5 pz5 (fun _ _ => hin) _
          · have hf : ((Ls4.map corD).any fun e => eqD e (corD (corQ U n R C))) = false := by
              cases e : (Ls4.map corD).any fun e => eqD e (corD (corQ U n R C)) with
              | false => rfl
              | true => exact absurd ((any_cors _ _).mp e) hin
            refine ifP (by simp [hf]) ?_
            refine ⟨_, rfl, .inl ⟨rfl, _, SqL.of hz5⟩, _, rfl, l, zs4, .ref p, rfl, rfl, hz5, small1000 (by omega), ?_⟩
            refine ⟨_, _, zs4 ++ [.ref p], Ls4 ++ [corQ U n R C], rfl, same_at (s4.trans s5) hl0, (sx4.then s5).at, upd_same, ?_, ?_, ?_, ?_, ?_⟩
            · exact (pz5.imp2 fun _ _ z => z.at hz5).app2 (.cons (hc.at hz5) .nil)
            · rw [List.length_append, List.length_singleton]; omega
            · intro q hq
              rcases List.mem_append.mp hq with h | h
              · exact hof4 q h
              · rw [List.mem_singleton.mp h]
                exact ⟨R, C, g2, hco, rfl⟩
            · intro C' hC' R' hR' a1 a2
              exact List.mem_append_left _ (hall4 C' hC' R' hR' a1 a2)
            · intro R' hR' a1 a2
              rw [eR] at hR'
              rcases List.mem_append.mp hR' with h | h
              · exact List.mem_append_left _ (hthis R' h a1 a2)
              · rw [List.mem_singleton.mp h]
                exact List.mem_append_right _ (by simp)
      · rintro σ H4 ⟨o3', o4', zs4, Ls4, rfl, s4, sx4, hz4, pz4, zl4, hof4, hall4, hthis⟩
        have xl : xr.length ≤ 16 := by rw [prr.length, chM_len]; exact pow_le16 m4
        rw [prr.length, List.take_length] at hthis
        have sx14 : SameX l H1 H4 := fun b o nb hb => sx4 b o nb (s3 b o (sx b o nb hb))
        refine ⟨_, _, _, zs4, Ls4, rfl, s4, sx14, hz4, pz4, by omega, hof4, fun C' hC' R' hR' a1 a2 => ?_⟩
        rw [List.take_add_one, hC] at hC'
        rcases List.mem_append.mp hC' with h | h
        · exact hall4 C' h R' hR' a1 a2
        · have e : C' = C := by simpa using h
          rw [e] at a1 a2 ⊢
          exact hthis R' hR' a1 a2
    · rintro σ H2 ⟨o2, o3, o4, zs, Ls, rfl, s2, sx, hz, pz, zl, hof, hall⟩
      rw [prc.length, List.take_length] at hall
      have xl : xc.length ≤ 16 := by rw [prc.length, chM_len]; exact pow_le16 n4
      refine ⟨_, rfl, k l zs Ls H2 s2 hz pz ⟨hof, fun R C g2 hc => hall C (Gm.mem_chM.mp g2.cs) R (Gm.mem_chM.mp g2.rs) g2 hc⟩ (by omega)⟩
/-! ### the lowest of them -/
def leQ (p q : Int × Int) : Prop := p.1 * q.2 ≤ q.1 * p.2
theorem leQ_trans {p q r : Int × Int} (hp : 0 < p.2) (hq : 0 < q.2) (hr : 0 < r.2) (h1 : leQ p q) (h2 : leQ q r) : leQ p r := by
  unfold leQ at *
  have a1 : p.1 * q.2 * r.2 ≤ q.1 * p.2 * r.2 := Int.mul_le_mul_of_nonneg_right h1 (Int.le_of_lt hr)
  have a2 : q.1 * r.2 * p.2 ≤ r.1 * q.2 * p.2 := Int.mul_le_mul_of_nonneg_right h2 (Int.le_of_lt hp)
  have a3 : p.1 * r.2 * q.2 ≤ r.1 * p.2 * q.2 := by grind
  exact Int.le_of_mul_le_mul_right a3 hq
def sp_mix : Sp := fun vs H Q _ => ∃ (a : Addr) (qs : List (Int × Int)) (n : Nat), vs = [.ref a, .int n] ∧ IsFrs H a qs ∧ GQ qs ∧ ∀ H', Same H H' → Q (.bl (mixB qs n)) H'
/-! ### the law's own reckoning -/
def sp_lmade : Sp := sp_made
abbrev s__law_made : Stmt := top 52
theorem sc__law_made : FnScope ["_law_a", "_law_b", "_law_far"] ["_law_a", "_law_b"] (defScope s__law_made) := ⟨rfl, rfl, rfl, by decide +kernel, rfl, by decide +kernel, by decide +kernel⟩
theorem ok__law_made (F : FunM K mg "_law_made" s__law_made ["_law_a", "_law_b"]) (T : Blt mg) (G__law_common : Def P w K mg base "_law_common" ["_law_one", "_law_other"] 1 sp_common) : Def P w K mg base "_law_made" ["_law_a", "_law_b"] 2 sp_lmade := by
  have S := sc__law_made
  refine Def.of F S (fun vs H Q E h => ?_) (fun f cdv A outer s H vs Q E hr h => ?_)
  · obtain ⟨a, b, rfl, _⟩ := h
    rfl
  · obtain ⟨a, b, rfl, hb, hb2, k⟩ := h
    have g1 := Fr.gcd_pos (a := a) hb
    have g2 := Fr.gcd_le (a := a) hb
    have g3 : Sz 8000 (Int.gcd a b : Int) := by
      have h8 := hb2.mono (show 4000 ≤ 8000 by decide)
      unfold Sz at h8 ⊢
      exact Nat.lt_of_le_of_lt (by omega) h8
    have e : (Int.gcd (if a < 0 then -a else a) b : Int) = (Int.gcd a b : Int) := by
      have e1 : (if a < 0 then -a else a) = (a.natAbs : Int) := by split <;> omega
      rw [e1]
      simp [Int.gcd]
    refine ⟨_, (pss_cons (ps_set (i := 2) S.nd rfl (Or.inl rfl) (pe_def G__law_common (hr.mono (by decide)) rfl (pa_cons (pe_callB call_abs (by rfl) T.abs_ bt_abs (pa_cons (pv 0) pa_nil st_Name) (he := st_Name)) (pa_cons (pv 1) pa_nil st_Name) st_Call) (he := st_Call)))
      (pss_one (ps_ret (pe_tup (pa_cons (pe_op op_fdivB (pv 0) (pv 2)) (pa_cons (pe_op op_fdivB (pv 1) (pv 2)) pa_nil st_BinOp) st_BinOp))))), ?_⟩
    refine ⟨_, rfl, _, rfl, _, rfl, _, _, rfl, by split <;> omega, by omega, ?_⟩
    rw [e]
    exact ⟨_, rfl, _, rfl, _, _, rfl, rfl, cdivB_sz g1 g3, _, rfl, _, rfl, _, _, rfl, rfl, cdivB_sz g1 g3, (by show 2 ≤ sizeLine; decide), k⟩
abbrev s__law_less : Stmt := top 54
theorem sc__law_less : FnScope ["_law_one", "_law_other"] ["_law_one", "_law_other"] (defScope s__law_less) := ⟨rfl, rfl, rfl, by decide +kernel, rfl, by decide +kernel, by decide +kernel⟩
theorem ok__law_less (F : FunM K mg "_law_less" s__law_less ["_law_one", "_law_other"]) (T : Blt mg) : Def P w K mg base "_law_less" ["_law_one", "_law_other"] 1 (sp_below K) := by
  have S := sc__law_less
  refine Def.of F S (fun vs H Q E h => ?_) (fun f cdv A outer s H vs Q E hr h => ?_)
  · obtain ⟨p, q, a, b, c, d, rfl, _⟩ := h
    rfl
  · obtain ⟨p, q, a, b, c, d, rfl, h1, h2, za, zb, zc, zd, k⟩ := h
    refine ⟨_, (pss_one (ps_ret (pe_cmpR op_lt (pe_op op_mulB (pe_ix (ixT K) (pv 0) pe_int (fun _ _ => rfl)) (pe_ix (ixT K) (pv 1) pe_int (fun _ _ => rfl))) (pe_op op_mulB (pe_ix (ixT K) (pv 1) pe_int (fun _ _ => rfl)) (pe_ix (ixT K) (pv 0) pe_int (fun _ _ => rfl))) (nomark _)))), ?_⟩
    refine ⟨_, rfl, _, _, _, _, rfl, rfl, h1, rfl, ?_⟩
    refine ⟨_, rfl, _, _, _, _, rfl, rfl, h2, rfl, _, _, rfl, rfl, ⟨up za, up zd⟩, ?_⟩
    refine ⟨_, rfl, _, _, _, _, rfl, rfl, h2, rfl, ?_⟩
    exact ⟨_, rfl, _, _, _, _, rfl, rfl, h1, rfl, _, _, rfl, rfl, ⟨up zc, up zb⟩, _, _, rfl, rfl, k⟩
def sp_lsum : Sp := fun vs H Q _ => ∃ (a b : Addr) (r : List Int) (qs : List (Int × Int)), vs = [.ref a, .ref b] ∧ H a = some (.lst (r.map V.int)) ∧ IsFrs H b qs ∧ GQ qs ∧ (∀ x ∈ r, Sz 9 x) ∧ ∀ p H', New H H' p (.tup [.int (rowF r qs).1, .int (rowF r qs).2]) → Q (.ref p) H'
abbrev s__law_sum : Stmt := top 53
theorem sc__law_sum : FnScope ["_law_worths", "_law_shares", "_law_over", "_law_under", "_law_worth", "_law_share"] ["_law_worths", "_law_shares"] (defScope s__law_sum) := ⟨rfl, rfl, rfl, by decide +kernel, rfl, by decide +kernel, by decide +kernel⟩
theorem ok__law_sum (F : FunM K mg "_law_sum" s__law_sum ["_law_worths", "_law_shares"]) (T : Blt mg) (G__law_made : Def P w K mg base "_law_made" ["_law_a", "_law_b"] 2 sp_lmade) : Def P w K mg base "_law_sum" ["_law_worths", "_law_shares"] 3 sp_lsum := by
  have S := sc__law_sum
  refine Def.of F S (fun vs H Q E h => ?_) (fun f cdv A outer s H vs Q E hr h => ?_)
  · obtain ⟨a, b, r, qs, rfl, _⟩ := h
    rfl
  · obtain ⟨a, b, r, qs, rfl, ha, hB, g, hb, k⟩ := h
    obtain ⟨ys, hbb, pb⟩ := id hB
    have gz := gx_zip hb g
    have zl := zip_le r g
    refine ⟨_, (pss_cons (ps_asg (pe_tup (pa_cons pe_int (pa_cons pe_int pa_nil st_Constant) st_Constant)) (pgT K (n := 2) (pgs_cons (pg_name (i := 2) S.nd rfl (Or.inl rfl)) (pgs_cons (pg_name (i := 3) S.nd rfl (Or.inl rfl)) pgs_nil))))
      (pss_cons (ps_for PassesOwn.never rfl (piZip K rfl T.zip_ (pa_cons (pv 0) (pa_cons (pv 1) pa_nil st_Name) st_Name)) (pgT K (n := 2) (pgs_cons (pg_name (i := 4) S.nd rfl (Or.inl rfl)) (pgs_cons (pg_name (i := 5) S.nd rfl (Or.inl rfl)) pgs_nil)))
        (pss_cons (ps_set (i := 2) S.nd rfl (Or.inl rfl) (pe_op op_add (pe_op op_mulB (pv 2) (pe_ix (ixT K) (pv 5) pe_int (fun _ _ => rfl))) (pe_op op_mulB (pe_op op_mulB (pv 4) (pe_ix (ixT K) (pv 5) pe_int (fun _ _ => rfl))) (pv 3))))
      (pss_one (ps_set (i := 3) S.nd rfl (Or.inl rfl) (pe_op op_mulB (pv 3) (pe_ix (ixT K) (pv 5) pe_int (fun _ _ => rfl)))))))
      (pss_one (ps_ret (pe_def G__law_made (hr.mono (by decide)) rfl (pa_cons (pv 2) (pa_cons (pv 3) pa_nil st_Name) st_Name) (he := st_Name)))))), ?_⟩
    refine ⟨(by show 2 ≤ sizeLine; decide), fun t ht => ⟨t, _, rfl, SqT.of upd_same, rfl, _, _, rfl, _, _, rfl, rfl, ?_⟩⟩
    have s0 : Same H (upd H t (.tup [.int 0, .int 1])) := same_upd ht
    refine ⟨_, rfl, _, rfl, a, b, rfl, ⟨_, SqL.of (s0 _ _ ha)⟩, ⟨_, SqL.of (s0 _ _ hbb)⟩, for_zip (K := K) (a := a) (b := b) (xs := r.map V.int) (ys := ys) (fun i σ H' => ∃ (o1 o2 : Option V), σ = [some (.ref a), some (.ref b), some (.int (acc ((r.zip qs).take i)).1), some (.int (acc ((r.zip qs).take i)).2), o1, o2] ∧ Same H H')
        ⟨_, _, rfl, s0⟩ ?_ ?_ ?_⟩
    · rintro i σ H' ⟨_, _, _, s1⟩
      exact ⟨SqL.of (s1 _ _ ha), SqL.of (s1 _ _ hbb)⟩
    · rintro i x y p σ H' hx hy hp ⟨o1, o2, rfl, s1⟩
      obtain ⟨f2, e2, c2, rfl, h2⟩ := pb.get2 hy
      rw [List.getElem?_map] at hx
      obtain ⟨u, hu, rfl⟩ := Option.map_eq_some_iff.mp hx
      have mq := List.mem_of_getElem? e2
      have ez : (r.zip qs)[i]? = some (u, f2) := List.getElem?_zip_eq_some.mpr ⟨hu, e2⟩
      have gt := gz.take i
      have lt : ((r.zip qs).take i).length ≤ 8 := by rw [List.length_take]; omega
      have za := acc_s1 gt lt
      have zd := acc_s2 gt lt
      have zu := hb u (List.mem_of_getElem? hu)
      have z1 := g.s1 _ mq
      have z2 := g.s2 _ mq
      have s2 := s1.trans (same_upd (o := .tup [.int u, .ref c2]) hp)
      have h2' := s2 _ _ h2
      refine ⟨p, _, rfl, SqT.of upd_same, rfl, _, _, rfl, _, _, rfl, rfl, ?_⟩
      refine ⟨_, rfl, _, rfl, _, _, _, _, rfl, rfl, SqT.of h2', rfl, _, _, rfl, rfl, ⟨up za, up z2⟩, ?_⟩
      refine ⟨_, rfl, _, rfl, _, _, _, _, rfl, rfl, SqT.of h2', rfl, _, _, rfl, rfl, ⟨up zu, up z1⟩, _, rfl, _, _, rfl, rfl, ⟨(zu.mul z1).mono (by decide), up zd⟩, _, _, rfl, rfl, ?_⟩
      refine ⟨_, rfl, _, rfl, _, _, _, _, rfl, rfl, SqT.of h2', rfl, _, _, rfl, rfl, ⟨up zd, up z2⟩, ?_⟩
      refine ⟨some (.int u), some (.ref c2), ?_, s2⟩
      rw [acc_take ez]
      rfl
    · rintro σ H' ⟨o1, o2, rfl, s1⟩
      have l1 : (r.zip qs).take (min (r.map V.int).length ys.length) = r.zip qs := List.take_of_length_le (by rw [List.length_zip, pb.length, List.length_map]; exact Nat.le_refl _)
      rw [l1]
      exact ⟨_, rfl, _, rfl, _, _, rfl, acc_pos gz, (acc_s2 gz zl).mono (by decide), fun p hp => k p _ (New.of s1 hp)⟩
abbrev s__law_across : Stmt := top 55
theorem sc__law_across : FnScope ["_law_table_here"] ["_law_table_here"] (defScope s__law_across) := ⟨rfl, rfl, rfl, by decide +kernel, rfl, by decide +kernel, by decide +kernel⟩
theorem ok__law_across (F : FunM K mg "_law_across" s__law_across ["_law_table_here"]) (T : Blt mg) : Def P w K mg base "_law_across" ["_law_table_here"] 1 sp_cols := by
  have S := sc__law_across
  refine Def.of F S (fun vs H Q E h => ?_) (fun f cdv A outer s H vs Q E hr h => ?_)
  · obtain ⟨a, U, m, n, rfl, _⟩ := h
    rfl
  · obtain ⟨a, U, m, n, rfl, hU, g, k⟩ := h
    have n4 := g.n4
    have m4 := g.m4
    obtain ⟨vs, b0, ha, h0, at0, hb0⟩ := hU.row (i := 0) (by rw [g.rows]; exact g.m1)
    have hl : ((U.getD 0 []).map V.int).length = n := by rw [List.length_map, (g.row g.m1).2]
    refine ⟨_, (pss_one (ps_ret (pe_comp rfl (N' := ["_law_column", "_law_table_here"]) (src := [none, some 0]) rfl (pi_range1 rfl T.range_ (pa_cons (pe_callB (lenK K) (by rfl) T.len_ bt_len (pa_cons (pe_ix (ixL K) (pv 0) pe_int (fun _ _ => rfl)) pa_nil st_Subscript) (he := st_Subscript)) pa_nil st_Call)) (fun _ _ _ _ _ => (pg_name (i := 0) (show (["_law_column", "_law_table_here"] : List Str).Nodup from by decide +kernel) rfl (Or.inr rfl))) (fun _ _ _ _ _ => pts_nil) (fun _ _ _ _ _ => (pe_comp rfl (N' := ["_law_row", "_law_column"]) (src := [none, some 0]) rfl (piL K (pv 1)) (fun _ _ _ _ _ => (pg_name (i := 0) (show (["_law_row", "_law_column"] : List Str).Nodup from by decide +kernel) rfl (Or.inl rfl))) (fun _ _ _ _ _ => pts_nil) (fun _ _ _ _ _ => (pe_ix (ixL K) (pv 0) (pv 1) (fun _ _ => rfl)))))))), ?_⟩
    refine ⟨_, rfl, a, vs, 0, _, rfl, rfl, SqL.of ha, at0, b0, _, rfl, .inl (SqL.of hb0), _, rfl, by omega, by omega, comp_each_r (n := ((U.getD 0 []).map V.int).length) (fun (i : Nat) y H' => OwnRow H H' y (U.map fun (r : List Int) => r.getD i 0)) (fun _ _ _ _ s h => h.mono s) (Nat.le_of_lt (small1000 (by omega))) ?_ ?_⟩
    · intro i hi H1 s1 Q' q
      obtain ⟨vs1, ha1, _⟩ := hU.mono s1
      refine ⟨_, rfl, a, rfl, ⟨_, SqL.of ha1⟩, comp_rows (fun r => r.getD i 0) (hU.mono s1) (by rw [g.rows]; omega) ?_ ?_⟩
      · intro r hr' b hb H2 s2 Q2 q2
        exact ⟨_, rfl, _, rfl, b, _, _, _, rfl, rfl, SqL.of (s2 _ _ hb), atI_int (by rw [g.cols r hr', ← hl]; exact hi), q2 H2 (Same.refl _)⟩
      · intro H2 s2 l hl'
        exact q _ _ (s2.trans (same_upd hl')) ⟨l, rfl, (s1.trans s2).free hl', upd_same⟩
    · intro ys H' s' pr p hp'
      rw [hl] at pr
      exact k p _ (s'.trans (same_upd hp')) (OwnTab.lay s' hp' (range_map _ pr))
abbrev s__law_mixture : Stmt := top 56
theorem sc__law_mixture : FnScope ["_law_mixture_here", "_law_many", "_law_share"] ["_law_mixture_here", "_law_many"] (defScope s__law_mixture) := ⟨rfl, rfl, rfl, by decide +kernel, rfl, by decide +kernel, by decide +kernel⟩
theorem ok__law_mixture (F : FunM K mg "_law_mixture" s__law_mixture ["_law_mixture_here", "_law_many"]) (T : Blt mg) (G__law_made : Def P w K mg base "_law_made" ["_law_a", "_law_b"] 2 sp_lmade) (G__law_sum : Def P w K mg base "_law_sum" ["_law_worths", "_law_shares"] 3 sp_lsum) : Def P w K mg base "_law_mixture" ["_law_mixture_here", "_law_many"] 4 sp_mix := by
  have S := sc__law_mixture
  refine Def.of F S (fun vs H Q E h => ?_) (fun f cdv A outer s H vs Q E hr h => ?_)
  · obtain ⟨a, qs, n, rfl, _⟩ := h
    rfl
  · obtain ⟨a, qs, n, rfl, hW, g, k⟩ := h
    obtain ⟨vs, ha, pr⟩ := id hW
    have hl : vs.length = qs.length := pr.length
    have n8 := g.len
    refine ⟨_, (pss_cons (ps_if (PW.pt (pw_or (pt_not (pt_val (pe_callB (isiK K) (by rfl) T.isinstance_ bt_isinstance (pa_cons (pv 0) (pa_cons (pe_bltn (v := .ty "list") rfl T.list_ bt_list rfl) pa_nil st_Name) st_Name) (he := st_Name)))) (pw_or1 (pt_cmpR op_ne (pe_callB (lenK K) (by rfl) T.len_ bt_len (pa_cons (pv 0) pa_nil st_Name) (he := st_Name)) (pv 1) (nomark _)))))
        (pss_one (ps_ret pe_bl)) pss_nil)
      (pss_cons (ps_for PassesOwn.never rfl (piL K (pv 0)) (pg_name (i := 2) S.nd rfl (Or.inl rfl))
        (pss_cons (ps_if (PW.pt (pw_or (pt_not (pt_val (pe_callB (isiK K) (by rfl) T.isinstance_ bt_isinstance (pa_cons (pv 2) (pa_cons (pe_bltn (v := .ty "tuple") rfl T.tuple_ bt_tuple rfl) pa_nil st_Name) st_Name) (he := st_Name)))) (pw_or1 (pt_cmpR op_ne (pe_callB (lenK K) (by rfl) T.len_ bt_len (pa_cons (pv 2) pa_nil st_Name) (he := st_Name)) pe_int (nomark _)))))
        (pss_one (ps_ret pe_bl)) pss_nil)
      (pss_cons (ps_if (pt_val (pe_callB (anyK K) (by rfl) T.any_ bt_any (pa_cons (pe_comp rfl (N' := ["_law_one"]) (src := [none]) rfl (piT K (pv 2)) (fun _ _ _ _ _ => (pg_name (i := 0) (show (["_law_one"] : List Str).Nodup from by decide +kernel) rfl (Or.inl rfl))) (fun _ _ _ _ _ => pts_nil) (fun _ _ _ _ _ => (pe_or (pe_callB (isiK K) (by rfl) T.isinstance_ bt_isinstance (pa_cons (pv 0) (pa_cons (pe_bltn (v := .ty "bool") rfl T.bool_ bt_bool rfl) pa_nil st_Name) st_Name) (he := st_Name)) (pe_one (pe_not (pe_callB (isiK K) (by rfl) T.isinstance_ bt_isinstance (pa_cons (pv 0) (pa_cons (pe_bltn (v := .ty "int") rfl T.int_ bt_int rfl) pa_nil st_Name) st_Name) (he := st_Name))))))) pa_nil st_ListComp) (he := st_ListComp)))
        (pss_one (ps_ret pe_bl)) pss_nil)
      (pss_one (ps_if (PW.pt (pw_or (pt_cmpR op_lt (pe_ix (ixT K) (pv 2) pe_int (fun _ _ => rfl)) pe_int (nomark _)) (pw_or (pt_cmpR op_lt (pe_ix (ixT K) (pv 2) pe_int (fun _ _ => rfl)) pe_int (nomark _)) (pw_or1 (pt_cmpR (neDK K hr.units) (pe_def G__law_made (hr.mono (by decide)) rfl (pa_cons (pe_ix (ixT K) (pv 2) pe_int (fun _ _ => rfl)) (pa_cons (pe_ix (ixT K) (pv 2) pe_int (fun _ _ => rfl)) pa_nil st_Subscript) st_Subscript) (he := st_Subscript)) (pv 2) (nomark _))))))
        (pss_one (ps_ret pe_bl)) pss_nil)))))
      (pss_one (ps_ret (pe_cmpR (eqDK K hr.units) (pe_def G__law_sum (hr.mono (by decide)) rfl (pa_cons (pe_comp rfl (N' := ["_law_share"]) (src := [none]) rfl (piL K (pv 0)) (fun _ _ _ _ _ => (pg_name (i := 0) (show (["_law_share"] : List Str).Nodup from by decide +kernel) rfl (Or.inl rfl))) (fun _ _ _ _ _ => pts_nil) (fun _ _ _ _ _ => pe_int)) (pa_cons (pv 0) pa_nil st_Name) st_ListComp) (he := st_ListComp)) (pe_tup (pa_cons pe_int (pa_cons pe_int pa_nil st_Constant) st_Constant)) (nomark _)))))), ?_⟩
    refine ⟨_, rfl, _, _, _, _, rfl, TyOf.lst ha, rfl, _, rfl, ?_⟩
    refine iteF ?_
    refine ⟨_, rfl, a, _, rfl, .inl (SqL.of ha), _, rfl, rfl, _, rfl, ?_⟩
    by_cases hn : qs.length = n
    rotate_left
    · refine ifP ?_ ?_
      · rw [dec_len, hl, decide_eq_false hn]; rfl
      · have e : mixB qs n = false := by unfold mixB; rw [decide_eq_false hn]; rfl
        rw [e] at k
        exact k H (Same.refl _)
    refine ifN (by rw [dec_len, hl, decide_eq_true hn]; decide) ?_
    refine ⟨_, rfl, a, rfl, ⟨_, SqL.of ha⟩, for_list (K := K) (a := a) (xs := vs) (fun i σ H' => ∃ o, σ = [some (.ref a), some (.int n), o] ∧ Same H H' ∧ ∀ q ∈ qs.take i, 0 ≤ q.1)
      ⟨_, rfl, Same.refl _, fun q h => by simp at h⟩ ?_ ?_ ?_⟩
    · rintro i σ H' _ ⟨_, _, s3, _⟩
      exact SqL.of (s3 _ _ ha)
    · rintro i x σ H1 hi ⟨o, rfl, s1, hnn⟩
      obtain ⟨y, hy, b, rfl, hb⟩ := pr.get2 hi
      have my := List.mem_of_getElem? hy
      have py := g.pr y my
      have hb1 := s1 _ _ hb
      have et : qs.take (i + 1) = qs.take i ++ [y] := by rw [List.take_add_one, hy]; rfl
      refine ⟨_, rfl, _, _, _, _, rfl, TyOf.tup hb1, rfl, _, rfl, ?_⟩
      refine iteF ?_
      refine ⟨_, rfl, b, _, rfl, .inr (SqT.of hb1), rfl, _, rfl, ?_⟩
      refine iteF ?_
      -- no truths
      refine ⟨_, rfl, b, rfl, ⟨_, SqT.of hb1⟩, comp_each_t (xs := [.int y.1, .int y.2]) (fun _ z _ => z = .bl false) (fun _ _ _ _ _ h => h) (SqT.of hb1) (by show 2 ≤ sizeLine; decide) ?_ ?_⟩
      · intro x hx H2 s2 Q' q
        obtain ⟨z, rfl⟩ : ∃ z, x = V.int z := by
          rcases List.mem_cons.mp hx with e | e
          · exact ⟨_, e⟩
          · exact ⟨_, List.mem_singleton.mp e⟩
        refine ⟨_, rfl, _, _, _, _, rfl, TyOf.int z, rfl, _, rfl, ?_⟩
        refine iteF ?_
        exact ⟨_, rfl, _, _, _, _, rfl, TyOf.int z, rfl, _, rfl, q _ H2 (Same.refl _) rfl⟩
      intro ysC H2 s2 prC q9 hq9
      have e := reps_false prC
      subst e
      refine ⟨q9, _, rfl, SqL.of upd_same, ?_⟩
      rw [any_reps]
      refine ⟨_, rfl, ?_⟩
      refine iteF ?_
      have s3 : Same H (upd H2 q9 (.lst ((List.replicate ([V.int y.1, V.int y.2] : List V).length false).map V.bl))) := (s1.trans s2).trans (same_upd hq9)
      generalize upd H2 q9 (.lst ((List.replicate ([V.int y.1, V.int y.2] : List V).length false).map V.bl)) = H3 at s3 ⊢
      have hb3 := s3 _ _ hb
      refine ⟨_, rfl, b, _, 0, _, rfl, rfl, SqT.of hb3, rfl, _, _, rfl, rfl, _, rfl, ?_⟩
      by_cases hneg : y.1 < 0
      · refine ifP (decide_eq_true hneg) ?_
        have e : mixB qs n = false := by
          unfold mixB
          have : (qs.all fun q => decide (0 ≤ q.1)) = false := by
            rw [List.all_eq_false]
            exact ⟨y, my, by simp; omega⟩
          rw [this, Bool.and_false, Bool.false_and]
        rw [e] at k
        exact k H3 s3
      refine ifN (by simpa using hneg) ?_
      refine ⟨_, rfl, b, _, 1, _, rfl, rfl, SqT.of hb3, rfl, _, _, rfl, rfl, _, rfl, ?_⟩
      have y0 := py.pos
      refine ifN (by simp; omega) ?_
      refine ⟨_, rfl, b, _, 0, _, rfl, rfl, SqT.of hb3, rfl, _, rfl, b, _, 1, _, rfl, rfl, SqT.of hb3, rfl, _, _, rfl, y0, (g.s2 y my).mono (by decide), fun r hr' => ?_⟩
      refine ⟨_, rfl, _, _, rep_pair upd_same, rep_pair (same_upd hr' _ _ hb3), rfl, (by show 1 ≤ 40; decide), _, rfl, ?_⟩
      refine iteNE ?_ ?_
      · rw [eqD_pair, py.mk_eq]
        exact decide_eq_true rfl
      · refine ⟨_, rfl, s3.trans (same_upd hr'), fun q hq => ?_⟩
        rw [et] at hq
        rcases List.mem_append.mp hq with h | h
        · exact hnn q h
        · rw [List.mem_singleton.mp h]; omega
    · rintro σ H1 ⟨o, rfl, s1, hnn⟩
      rw [hl, List.take_length] at hnn
      have ha1 := s1 _ _ ha
      refine ⟨_, rfl, a, rfl, ⟨_, SqL.of ha1⟩, comp_each (xs := vs) (fun _ y _ => y = .int 1) (fun _ _ _ _ _ h => h) (SqL.of ha1) (by rw [hl]; exact Nat.le_of_lt (small1000 (by omega))) ?_ ?_⟩
      · intro x hx H2 s2 Q' q
        exact q _ H2 (Same.refl _) rfl
      intro ys H2 s2 p1 q hq
      have e : ys = (qs.map fun _ => (1 : Int)).map V.int := by
        have go : ∀ {vs ys : List V} {qs : List (Int × Int)}, Paired (fun _ y => y = V.int 1) vs ys → vs.length = qs.length → ys = (qs.map fun _ => (1 : Int)).map V.int := by
          intro vs
          induction vs with
          | nil =>
            intro ys qs h e
            cases h
            have := List.eq_nil_of_length_eq_zero e.symm
            subst this
            rfl
          | cons v vs ih =>
            intro ys qs h e
            cases h with
            | cons h t =>
              cases qs with
              | nil => simp at e
              | cons q qs =>
                rw [h, ih t (by simpa using e)]
                rfl
        exact go p1 hl
      subst e
      have s3 : Same H (upd H2 q (.lst ((qs.map fun _ => (1 : Int)).map V.int))) := (s1.trans s2).trans (same_upd hq)
      have q3 : upd H2 q (.lst ((qs.map fun _ => (1 : Int)).map V.int)) q = some (.lst ((qs.map fun _ => (1 : Int)).map V.int)) := upd_same
      generalize upd H2 q (.lst ((qs.map fun _ => (1 : Int)).map V.int)) = H3 at s3 q3 ⊢
      refine ⟨_, rfl, q, a, _, qs, rfl, q3, hW.mono s3, g, fun x hx => ?_, fun p H4 nw => ?_⟩
      · obtain ⟨_, _, rfl⟩ := List.mem_map.mp hx
        show (1 : Int).natAbs < 2 ^ 9
        decide
      · refine ⟨(by show 2 ≤ sizeLine; decide), fun r hr' => ?_⟩
        refine ⟨_, _, rep_pair (same_upd hr' _ _ nw.is), rep_pair upd_same, rfl, (by show 1 ≤ 40; decide), ?_⟩
        rw [eqD_pair]
        have e : mixB qs n = decide (((rowF (qs.map fun _ => 1) qs).1, (rowF (qs.map fun _ => 1) qs).2) = (1, 1)) := by
          unfold mixB rowF
          rw [ones_zip, decide_eq_true hn]
          have : (qs.all fun q => decide (0 ≤ q.1)) = true := by
            rw [List.all_eq_true]
            exact fun q hq => decide_eq_true (hnn q hq)
          rw [this]
          rfl
        rw [e] at k
        exact k _ ((s3.trans nw.same).trans (same_upd hr'))
theorem mixB_len {qs : List (Int × Int)} {n : Nat} (h : mixB qs n = true) : qs.length = n := by
  unfold mixB at h
  simp only [Bool.and_eq_true, decide_eq_true_eq] at h
  exact h.1.1
theorem tk_succ {α : Type} {l : List α} {i : Nat} {x : α} (h : l[i]? = some x) : l.take (i + 1) = l.take i ++ [x] := by rw [List.take_add_one, h]; rfl
theorem Paired_take {α β : Type} {F : α → β → Prop} : ∀ {l : List α} {r : List β} (i : Nat), Paired F l r → Paired F (l.take i) (r.take i)
  | _, _, _, .nil => by simpa using Paired.nil
  | _, _, 0, .cons _ _ => .nil
  | _, _, i + 1, .cons h t => .cons h (Paired_take i t)
theorem Paired_drop {α β : Type} {F : α → β → Prop} : ∀ {l : List α} {r : List β} (i : Nat), Paired F l r → Paired F (l.drop i) (r.drop i)
  | _, _, _, .nil => by simpa using Paired.nil
  | _, _, 0, .cons h t => .cons h t
  | _, _, i + 1, .cons _ t => Paired_drop i t
theorem int_at {r : List Int} {i : Nat} {x : V} (h : (r.map V.int)[i]? = some x) : x = V.int (r.getD i 0) ∧ i < r.length := by
  rw [List.getElem?_map] at h
  cases e : r[i]? with
  | none => rw [e] at h; cases h
  | some z =>
    rw [e] at h
    refine ⟨?_, (List.getElem?_eq_some_iff.mp e).1⟩
    cases h
    rw [List.getD_eq_getElem?_getD, e]
    rfl
/-! ### best answers -/
theorem leQ_of_nlt {p q : Int × Int} (h : ltQ p q = false) : leQ q p := by
  unfold ltQ at h
  have := of_decide_eq_false h
  unfold leQ
  omega
theorem nlt_of_leQ {p q : Int × Int} (h : leQ q p) : ltQ p q = false := by
  unfold leQ at h
  unfold ltQ
  exact decide_eq_false (by omega)
theorem leQ_antisymm {p q : Int × Int} (hp : Pq p) (hq : Pq q) (h1 : leQ p q) (h2 : leQ q p) : p = q := by
  rw [← hp.mk_eq, ← hq.mk_eq]
  unfold leQ at *
  exact Fr.mk_cross hp.pos hq.pos (by omega)
def sp_greatest : Sp := fun vs H Q _ => ∃ (a : Addr) (gs : List (Int × Int)), vs = [.ref a] ∧ IsFrs H a gs ∧ gs ≠ [] ∧ (∀ q ∈ gs, Pq q ∧ Sz 1000 q.1 ∧ Sz 1000 q.2) ∧ ∀ p q, H p = some (.tup [.int q.1, .int q.2]) → q ∈ gs → (∀ q' ∈ gs, leQ q' q) → Q (.ref p) H
abbrev s_greatest : Stmt := top 12
theorem sc_greatest : FnScope ["values", "most", "value"] ["values"] (defScope s_greatest) := ⟨rfl, rfl, rfl, by decide +kernel, rfl, by decide +kernel, by decide +kernel⟩
theorem ok_greatest (F : FunM K mg "greatest" s_greatest ["values"]) (T : Blt mg) (G_below : Def P w K mg base "below" ["one", "other"] 1 (sp_below K)) : Def P w K mg base "greatest" ["values"] 2 sp_greatest := by
  have S := sc_greatest
  refine Def.of F S (fun vs H Q E h => ?_) (fun f cdv A outer s H vs Q E hr h => ?_)
  · obtain ⟨a, gs, rfl, _⟩ := h
    rfl
  · obtain ⟨a, gs, rfl, hX, hne, hz, k⟩ := h
    obtain ⟨vs, ha, pr⟩ := id hX
    have hl : vs.length = gs.length := pr.length
    have h0 : 0 < vs.length := by rw [hl]; exact List.length_pos_iff.mpr hne
    obtain ⟨q0, e0, b0, eb0, hb0⟩ := pr.get2 (List.getElem?_eq_getElem h0)
    refine ⟨_, (pss_cons (ps_set (i := 1) S.nd rfl (Or.inl rfl) (pe_ix (ixL K) (pv 0) pe_int (fun _ _ => rfl)))
      (pss_cons (ps_for PassesOwn.never rfl (piL K (pv 0)) (pg_name (i := 2) S.nd rfl (Or.inl rfl))
        (pss_one (ps_if (pt_val (pe_def G_below (hr.mono (by decide)) rfl (pa_cons (pv 1) (pa_cons (pv 2) pa_nil st_Name) st_Name) (he := st_Name)))
        (pss_one (ps_set (i := 1) S.nd rfl (Or.inl rfl) (pv 2))) pss_nil)))
      (pss_one (ps_ret (pv 1))))), ?_⟩
    refine ⟨_, rfl, a, vs, 0, _, rfl, rfl, SqL.of ha, atI_get' h0, ?_⟩
    rw [eb0]
    refine ⟨_, rfl, a, rfl, ⟨_, SqL.of ha⟩, for_list (K := K) (a := a) (xs := vs) (fun i σ H' => ∃ (p : Addr) (q : Int × Int) (o : Option V), σ = [some (.ref a), some (.ref p), o] ∧ H' = H ∧ H p = some (.tup [.int q.1, .int q.2]) ∧ q ∈ gs ∧ ∀ q' ∈ gs.take i, leQ q' q)
      ⟨b0, q0, _, rfl, rfl, hb0, List.mem_of_getElem? e0, fun x hx => by simp at hx⟩ ?_ ?_ ?_⟩
    · rintro i σ H' _ ⟨_, _, _, _, rfl, _⟩
      exact SqL.of ha
    · rintro i x σ H' hi ⟨p, q, o, rfl, rfl, hp, hM, hle⟩
      obtain ⟨y, hy, b, rfl, hb⟩ := pr.get2 hi
      have my := List.mem_of_getElem? hy
      obtain ⟨q1, q2, q3⟩ := hz q hM
      obtain ⟨y1, y2, y3⟩ := hz y my
      have et : gs.take (i + 1) = gs.take i ++ [y] := by rw [List.take_add_one, hy]; rfl
      refine ⟨_, rfl, _, rfl, p, b, _, _, _, _, rfl, SqT.of hp, SqT.of hb, q2, q3, y2, y3, _, rfl, ?_⟩
      by_cases hlt : q.1 * y.2 < y.1 * q.2
      · refine ifP (decide_eq_true hlt) ?_
        refine ⟨_, rfl, b, y, _, rfl, rfl, hb, my, fun x hx => ?_⟩
        rw [et] at hx
        rcases List.mem_append.mp hx with h | h
        · exact leQ_trans (hz x (List.mem_of_mem_take h)).1.pos q1.pos y1.pos (hle x h) (Int.le_of_lt hlt)
        · rw [List.mem_singleton.mp h]; exact Int.le_refl _
      · refine ifN (by simpa using hlt) ?_
        refine ⟨p, q, _, rfl, rfl, hp, hM, fun x hx => ?_⟩
        rw [et] at hx
        rcases List.mem_append.mp hx with h | h
        · exact hle x h
        · rw [List.mem_singleton.mp h]
          unfold leQ
          omega
    · rintro σ H' ⟨p, q, o, rfl, rfl, hp, hM, hle⟩
      rw [hl, List.take_length] at hle
      exact ⟨_, rfl, k p q hp hM hle⟩
/-- the places of the greatest -/
def plQ (gs : List (Int × Int)) (mx : Int × Int) (i : Nat) : List Int := ((List.range i).filter fun j => decide (gs.getD j (0, 0) = mx)).map fun (j : Nat) => (j : Int)
theorem mem_plQ {gs : List (Int × Int)} {mx : Int × Int} {m i : Nat} : (i : Int) ∈ plQ gs mx m ↔ i < m ∧ gs.getD i (0, 0) = mx := by
  unfold plQ
  simp only [List.mem_map, List.mem_filter, List.mem_range, decide_eq_true_eq]
  constructor
  · rintro ⟨j, ⟨hj, hz⟩, e⟩
    have : j = i := by omega
    subst this
    exact ⟨hj, hz⟩
  · rintro ⟨h1, h2⟩
    exact ⟨i, ⟨h1, h2⟩, rfl⟩
def sp_bestrows : Sp := fun vs H Q _ => ∃ (a c : Addr) (U : List (List Int)) (m n : Nat) (qs : List (Int × Int)), vs = [.ref a, .ref c] ∧ IsTab H a U ∧ Gd U m n ∧ IsFrs H c qs ∧ GQ qs ∧
  ∀ l p q (mx : Int × Int) H', Same H H' → H l = none → H' l = some (.lst ((plQ (U.map fun r => rowF r qs) mx m).map V.int)) → mx ∈ U.map (fun r => rowF r qs) → (∀ g ∈ U.map (fun r => rowF r qs), leQ g mx) → H' q = some (.tup [.ref l, .ref p]) → Q (.ref q) H'
abbrev s_best_rows : Stmt := top 35
theorem sc_best_rows : FnScope ["table", "theirs", "gains", "most"] ["table", "theirs"] (defScope s_best_rows) := ⟨rfl, rfl, rfl, by decide +kernel, rfl, by decide +kernel, by decide +kernel⟩
theorem ok_best_rows (F : FunM K mg "best_rows" s_best_rows ["table", "theirs"]) (T : Blt mg) (G_all_get : Def P w K mg base "all_get" ["rows", "mixture"] 6 sp_allget) (G_greatest : Def P w K mg base "greatest" ["values"] 2 sp_greatest) : Def P w K mg base "best_rows" ["table", "theirs"] 7 sp_bestrows := by
  have S := sc_best_rows
  refine Def.of F S (fun vs H Q E h => ?_) (fun f cdv A outer s H vs Q E hr h => ?_)
  · obtain ⟨a, c, U, m, n, qs, rfl, _⟩ := h
    rfl
  · obtain ⟨a, c, U, m, n, qs, rfl, hU, g, hC, gc, k⟩ := h
    have m4 := g.m4
    have m1 := g.m1
    refine ⟨_, (pss_cons (ps_set (i := 2) S.nd rfl (Or.inl rfl) (pe_def G_all_get (hr.mono (by decide)) rfl (pa_cons (pv 0) (pa_cons (pv 1) pa_nil st_Name) st_Name) (he := st_Name)))
      (pss_cons (ps_set (i := 3) S.nd rfl (Or.inr rfl) (pe_def G_greatest (hr.mono (by decide)) rfl (pa_cons (pv 2) pa_nil st_Name) (he := st_Name)))
      (pss_one (ps_ret (pe_tup (pa_cons (pe_comp rfl (N' := ["place", "gain", "most"]) (src := [none, none, some 3]) rfl (piEnum K rfl T.enumerate_ (pa_cons (pv 2) pa_nil st_Name)) (fun _ _ _ _ _ => (pgT K (n := 2) (pgs_cons (pg_name (i := 0) (show (["place", "gain", "most"] : List Str).Nodup from by decide +kernel) rfl (Or.inl rfl)) (pgs_cons (pg_name (i := 1) (show (["place", "gain", "most"] : List Str).Nodup from by decide +kernel) rfl (Or.inl rfl)) pgs_nil)))) (fun _ _ _ _ _ => (pts_one (pt_cmpR (eqDK K hr.units) (pv 1) (pv 2) (nomark _)))) (fun _ _ _ _ _ => (pv 0))) (pa_cons (pv 3) pa_nil st_Name) st_ListComp)))))), ?_⟩
    refine ⟨_, rfl, _, rfl, a, c, U, m, n, qs, rfl, hU, g, hC, gc, fun p H5 sz hpn hP => ?_⟩
    obtain ⟨ys, hys, pr⟩ := id hP
    have yl : ys.length = m := by rw [pr.length, List.length_map, g.rows]
    have zg : ∀ q ∈ U.map (fun r => rowF r qs), Pq q ∧ Sz 1000 q.1 ∧ Sz 1000 q.2 := fun q hq => by
      obtain ⟨r, hr', rfl⟩ := List.mem_map.mp hq
      exact ⟨rowF_pq (g.sz hr') gc, (rowF_s1 (g.sz hr') gc).mono (by decide), (rowF_s2 (g.sz hr') gc).mono (by decide)⟩
    refine ⟨_, rfl, p, _, rfl, hP, fun e => by have := congrArg List.length e; rw [List.length_map, g.rows] at this; simp at this; omega, zg, fun t mx ht hmx hle => ?_⟩
    refine ⟨_, rfl, p, ys, rfl, hys, comp_enum (K := K) (xs := ys) (fun i zs H' => zs = (plQ (U.map fun r => rowF r qs) mx i).map V.int ∧ Same H5 H') ⟨rfl, Same.refl _⟩ ?_ (by rw [yl]; exact Nat.le_of_lt (small1000 (by omega))) ?_ ?_⟩
    · rintro i zs H' ⟨rfl, s5⟩
      refine ⟨SqL.of (s5 _ _ hys), ?_⟩
      rw [List.length_map]
      unfold plQ
      rw [List.length_map]
      exact Nat.le_trans (List.length_filter_le _ _) (by rw [List.length_range]; exact Nat.le_refl _)
    · rintro i x q zs H' hi hq ⟨rfl, s5⟩
      obtain ⟨y, hy, b, rfl, hb⟩ := pr.get2 hi
      have eu : (U.map fun r => rowF r qs).getD i (0, 0) = y := getD_of hy
      have s6 := s5.trans (same_upd (o := .tup [.int i, .ref b]) hq)
      refine ⟨q, _, rfl, SqT.of upd_same, rfl, _, _, rfl, _, _, rfl, rfl, ?_⟩
      refine ⟨_, rfl, _, rfl, _, _, rep_pair (s6 _ _ hb), rep_pair (s6 _ _ ht), rfl, (by show 1 ≤ 40; decide), _, rfl, ?_⟩
      rw [eqD_pair]
      have ei : plQ (U.map fun r => rowF r qs) mx (i + 1) = plQ (U.map fun r => rowF r qs) mx i ++ (if y = mx then [(i : Int)] else []) := by
        unfold plQ
        rw [List.range_succ, List.filter_append, List.map_append]
        congr 1
        by_cases e : y = mx
        · rw [List.filter_cons_of_pos (by rw [eu]; exact decide_eq_true e), if_pos e]
          rfl
        · rw [List.filter_cons_of_neg (by rw [eu]; simp [e]), if_neg e]
          rfl
      by_cases e : y = mx
      · refine ifP (by rw [e]; exact decide_eq_true rfl) ?_
        refine ⟨_, rfl, ?_, s6⟩
        rw [ei, if_pos e, List.map_append]
        rfl
      · refine ifN (by rw [decide_eq_false (fun z => e (Prod.ext (congrArg Prod.fst z) (congrArg Prod.snd z)))]; decide) ?_
        refine ⟨?_, s6⟩
        rw [ei, if_neg e, List.append_nil]
    · rintro zs H' ⟨rfl, s5⟩ l hl'
      refine ⟨_, rfl, (by show 2 ≤ sizeLine; decide), fun q hq => ?_⟩
      rw [yl] at hq ⊢
      have s6 := s5.trans (same_upd (o := .lst ((plQ (U.map fun r => rowF r qs) mx m).map V.int)) hl')
      exact k l t q mx _ ((sz.trans s6).trans (same_upd hq)) (sz.free (s5.free hl')) (same_upd hq _ _ upd_same) hmx hle upd_same
theorem ans_iff {U : List (List Int)} {m n row : Nat} {qs : List (Int × Int)} {mx : Int × Int} (g : Gd U m n) (gq : GQ qs) (hr : row < m) (hmx : mx ∈ U.map fun r => rowF r qs) (hle : ∀ x ∈ U.map (fun r => rowF r qs), leQ x mx) :
    decide ((row : Int) ∈ plQ (U.map fun r => rowF r qs) mx m) = !(U.any fun r => ltQ (rowF (U.getD row []) qs) (rowF r qs)) := by
  have hrow := g.row hr
  have eg : (U.map fun r => rowF r qs).getD row (0, 0) = rowF (U.getD row []) qs := map_getD (fun r => rowF r qs) U (0, 0) (by rw [g.rows]; exact hr)
  have pr := rowF_pq (g.sz hrow.1) gq
  have pm : Pq mx := by
    obtain ⟨r, hr', rfl⟩ := List.mem_map.mp hmx
    exact rowF_pq (g.sz hr') gq
  rw [Bool.eq_iff_iff, decide_eq_true_iff, mem_plQ, eg, Bool.not_eq_true', List.any_eq_false]
  constructor
  · rintro ⟨_, e⟩ r hr'
    rw [e, nlt_of_leQ (hle _ (List.mem_map.mpr ⟨r, hr', rfl⟩))]
    decide
  · intro h
    refine ⟨hr, leQ_antisymm pr pm (hle _ (List.mem_map.mpr ⟨_, hrow.1, rfl⟩)) ?_⟩
    obtain ⟨r, hr', rfl⟩ := List.mem_map.mp hmx
    have := h r hr'
    exact leQ_of_nlt (by simpa using this)
/-! ### who has a share, who is a best answer -/
def shQ (qs : List (Int × Int)) (i : Nat) : List Int := ((List.range i).filter fun j => decide (qs.getD j (0, 0) ≠ (0, 1))).map fun (j : Nat) => (j : Int)
def sp_shared : Sp := fun vs H Q _ => ∃ (a : Addr) (qs : List (Int × Int)), vs = [.ref a] ∧ IsFrs H a qs ∧ qs.length ≤ 1000 ∧ ∀ p H', New H H' p (.lst ((shQ qs qs.length).map V.int)) → Q (.ref p) H'
theorem shQ_len (qs : List (Int × Int)) (n : Nat) : (shQ qs n).length ≤ n := by
  unfold shQ
  rw [List.length_map]
  exact Nat.le_trans (List.length_filter_le _ _) (by rw [List.length_range]; exact Nat.le_refl _)
theorem mem_shQ {qs : List (Int × Int)} {n i : Nat} : (i : Int) ∈ shQ qs n ↔ i < n ∧ qs.getD i (0, 0) ≠ (0, 1) := by
  unfold shQ
  simp only [List.mem_map, List.mem_filter, List.mem_range, decide_eq_true_eq]
  constructor
  · rintro ⟨j, ⟨hj, hz⟩, e⟩
    have : j = i := by omega
    subst this
    exact ⟨hj, hz⟩
  · rintro ⟨h1, h2⟩
    exact ⟨i, ⟨h1, h2⟩, rfl⟩
abbrev s_shared : Stmt := top 39
theorem sc_shared : FnScope ["mixture"] ["mixture"] (defScope s_shared) := ⟨rfl, rfl, rfl, by decide +kernel, rfl, by decide +kernel, by decide +kernel⟩
theorem ok_shared (F : FunM K mg "shared" s_shared ["mixture"]) (T : Blt mg) : Def P w K mg base "shared" ["mixture"] 1 sp_shared := by
  have S := sc_shared
  refine Def.of F S (fun vs H Q E h => ?_) (fun f cdv A outer s H vs Q E hr h => ?_)
  · obtain ⟨a, qs, rfl, _⟩ := h
    rfl
  · obtain ⟨a, qs, rfl, hW, n4, k⟩ := h
    obtain ⟨vs, ha, pr⟩ := id hW
    have hl : vs.length = qs.length := pr.length
    refine ⟨_, (pss_one (ps_ret (pe_comp rfl (N' := ["card", "share"]) (src := [none, none]) rfl (piEnum K rfl T.enumerate_ (pa_cons (pv 0) pa_nil st_Name)) (fun _ _ _ _ _ => (pgT K (n := 2) (pgs_cons (pg_name (i := 0) (show (["card", "share"] : List Str).Nodup from by decide +kernel) rfl (Or.inl rfl)) (pgs_cons (pg_name (i := 1) (show (["card", "share"] : List Str).Nodup from by decide +kernel) rfl (Or.inl rfl)) pgs_nil)))) (fun _ _ _ _ _ => (pts_one (pt_cmpR (neDK K hr.units) (pv 1) (pe_tup (pa_cons pe_int (pa_cons pe_int pa_nil st_Constant) st_Constant)) (nomark _)))) (fun _ _ _ _ _ => (pv 0))))), ?_⟩
    refine ⟨_, rfl, a, vs, rfl, ha, comp_enum (K := K) (xs := vs) (fun i zs H' => zs = (shQ qs i).map V.int ∧ Same H H') ⟨rfl, Same.refl _⟩ ?_ (by rw [hl]; exact Nat.le_of_lt (small1000 (by omega))) ?_ ?_⟩
    · rintro i zs H' ⟨rfl, s5⟩
      refine ⟨SqL.of (s5 _ _ ha), ?_⟩
      rw [List.length_map]
      exact shQ_len qs i
    · rintro i x q zs H' hi hq ⟨rfl, s5⟩
      obtain ⟨y, hy, b, rfl, hb⟩ := pr.get2 hi
      have eu : qs.getD i (0, 0) = y := getD_of hy
      have s6 := s5.trans (same_upd (o := .tup [.int i, .ref b]) hq)
      refine ⟨q, _, rfl, SqT.of upd_same, rfl, _, _, rfl, _, _, rfl, rfl, ?_⟩
      refine ⟨_, rfl, (by show 2 ≤ sizeLine; decide), fun t ht => ?_⟩
      have s7 := s6.trans (same_upd (o := .tup [.int 0, .int 1]) ht)
      refine ⟨_, _, rep_pair (s7 _ _ hb), rep_pair upd_same, rfl, (by show 1 ≤ 40; decide), _, rfl, ?_⟩
      rw [eqD_pair]
      have ei : shQ qs (i + 1) = shQ qs i ++ (if y ≠ (0, 1) then [(i : Int)] else []) := by
        unfold shQ
        rw [List.range_succ, List.filter_append, List.map_append]
        congr 1
        by_cases e : y = (0, 1)
        · rw [List.filter_cons_of_neg (by show ¬ decide (qs.getD i (0, 0) ≠ (0, 1)) = true; rw [eu]; simp [e]), if_neg (by simpa using e)]
          rfl
        · rw [List.filter_cons_of_pos (by show decide (qs.getD i (0, 0) ≠ (0, 1)) = true; rw [eu]; simpa using e), if_pos e]
          rfl
      by_cases e : y = (0, 1)
      · refine ifN (by rw [e]; decide) ?_
        refine ⟨?_, s7⟩
        rw [ei, if_neg (by simpa using e), List.append_nil]
      · refine ifP (by rw [decide_eq_false (fun z => e (Prod.ext (congrArg Prod.fst z) (congrArg Prod.snd z)))]; rfl) ?_
        refine ⟨_, rfl, ?_, s7⟩
        rw [ei, if_pos e, List.map_append]
        rfl
    · rintro zs H' ⟨rfl, s5⟩ l hl'
      rw [hl]
      exact k l _ (New.of s5 hl')
theorem bools_mapV (f : Int → Bool) : ∀ {r : List Int} {ys : List V}, Paired (fun x y => ∀ i, x = V.int i → y = V.bl (f i)) (r.map V.int) ys → ys = (r.map f).map V.bl
  | [], _, h => by cases h; rfl
  | i :: r, _, h => by
    cases h with
    | cons h t => rw [h i rfl, bools_mapV f t]; rfl
def sp_among : Sp := fun vs H Q _ => ∃ (a b : Addr) (xs ys : List Int), vs = [.ref a, .ref b] ∧ H a = some (.lst (xs.map V.int)) ∧ H b = some (.lst (ys.map V.int)) ∧ xs.length ≤ 1000 ∧ ∀ H', Same H H' → Q (.bl (xs.all fun x => decide (x ∈ ys))) H'
abbrev s_all_among : Stmt := top 40
theorem sc_all_among : FnScope ["cards", "others"] ["cards", "others"] (defScope s_all_among) := ⟨rfl, rfl, rfl, by decide +kernel, rfl, by decide +kernel, by decide +kernel⟩
theorem ok_all_among (F : FunM K mg "all_among" s_all_among ["cards", "others"]) (T : Blt mg) : Def P w K mg base "all_among" ["cards", "others"] 1 sp_among := by
  have S := sc_all_among
  refine Def.of F S (fun vs H Q E h => ?_) (fun f cdv A outer s H vs Q E hr h => ?_)
  · obtain ⟨a, b, xs, ys, rfl, _⟩ := h
    rfl
  · obtain ⟨a, b, xs, ys, rfl, ha, hb, hl, k⟩ := h
    refine ⟨_, (pss_one (ps_ret (pe_callB (allK K) (by rfl) T.all_ bt_all (pa_cons (pe_comp rfl (N' := ["card", "others"]) (src := [none, some 1]) rfl (piL K (pv 0)) (fun _ _ _ _ _ => (pg_name (i := 0) (show (["card", "others"] : List Str).Nodup from by decide +kernel) rfl (Or.inl rfl))) (fun _ _ _ _ _ => pts_nil) (fun _ _ _ _ _ => (pe_cmpR (inK K) (pv 0) (pv 1) rfl))) pa_nil st_ListComp) (he := st_ListComp)))), ?_⟩
    refine ⟨_, rfl, a, rfl, ⟨_, SqL.of ha⟩, comp_each (xs := xs.map V.int) (fun x y _ => ∀ i, x = V.int i → y = .bl (decide (i ∈ ys))) (fun _ _ _ _ _ h => h) (SqL.of ha) (by rw [List.length_map]; exact Nat.le_of_lt (small1000 hl)) ?_ ?_⟩
    · intro x hx H1 s1 Q' q
      obtain ⟨i, hi, rfl⟩ := List.mem_map.mp hx
      refine ⟨_, rfl, _, rfl, b, _, rfl, .inl (SqL.of (s1 _ _ hb)), rfl, flat_ints ys, q _ H1 (Same.refl _) fun j e => ?_⟩
      cases e
      exact congrArg V.bl (inV_ints i ys)
    · intro zs H' s' pr q hq
      have e := bools_mapV (fun i => decide (i ∈ ys)) pr
      subst e
      refine ⟨q, _, rfl, SqL.of upd_same, ?_⟩
      rw [List.all_map]
      exact k _ (s'.trans (same_upd hq))
/-- a best answer -/
def bestB (U : List (List Int)) (qs : List (Int × Int)) (i : Nat) : Bool := !(U.any fun r => ltQ (rowF (U.getD i []) qs) (rowF r qs))
/-- all with a share are best answers -/
def abB (U : List (List Int)) (m : Nat) (ps qs : List (Int × Int)) : Bool := (List.range m).all fun i => decide (ps.getD i (0, 0) = (0, 1)) || bestB U qs i
theorem ab_eq {U : List (List Int)} {m n : Nat} {ps qs : List (Int × Int)} {mx : Int × Int} (g : Gd U m n) (gq : GQ qs) (hmx : mx ∈ U.map fun r => rowF r qs) (hle : ∀ x ∈ U.map (fun r => rowF r qs), leQ x mx) :
    ((shQ ps m).all fun x => decide (x ∈ plQ (U.map fun r => rowF r qs) mx m)) = abB U m ps qs := by
  rw [Bool.eq_iff_iff, List.all_eq_true]
  unfold abB
  rw [List.all_eq_true]
  constructor
  · intro h i hi
    have hi := List.mem_range.mp hi
    by_cases e : ps.getD i (0, 0) = (0, 1)
    · rw [decide_eq_true e]; rfl
    · have := h i (mem_shQ.mpr ⟨hi, e⟩)
      rw [ans_iff g gq hi hmx hle] at this
      show (_ || bestB U qs i) = true
      unfold bestB
      rw [this, Bool.or_true]
  · intro h x hx
    obtain ⟨i, hi, rfl⟩ : ∃ i : Nat, i < m ∧ x = (i : Int) := by
      unfold shQ at hx
      obtain ⟨j, hj, rfl⟩ := List.mem_map.mp hx
      exact ⟨j, List.mem_range.mp (List.mem_filter.mp hj).1, rfl⟩
    have h1 := h i (List.mem_range.mpr hi)
    rw [decide_eq_false (mem_shQ.mp hx).2, Bool.false_or] at h1
    rw [ans_iff g gq hi hmx hle]
    exact h1
/-! ### Settled -/
def fldS (l1 l2 : Addr) : List (Str × V) := putF "theirs" (.ref l2) (putF "mine" (.ref l1) [])
theorem fS_ne : ¬ (("mine" : Str) = "theirs") := by decide +kernel
theorem fldS_eq (l1 l2 : Addr) : fldS l1 l2 = ([("mine", V.ref l1), ("theirs", V.ref l2)] : List (Str × V)) := by
  show (if ("mine" : Str) = "theirs" then [(("mine" : Str), V.ref l2)] else (("mine" : Str), V.ref l1) :: putF "theirs" (V.ref l2) []) = _
  rw [if_neg fS_ne]
  rfl
theorem fldS_mine (l1 l2 : Addr) : (fldS l1 l2).lookup ("mine" : Str) = some (.ref l1) := by
  unfold fldS
  rw [lookup_putF, if_neg fS_ne, lookup_putF, if_pos rfl]
theorem fldS_theirs (l1 l2 : Addr) : (fldS l1 l2).lookup ("theirs" : Str) = some (.ref l2) := by
  unfold fldS
  rw [lookup_putF, if_pos rfl]
theorem fldS_no (l1 l2 : Addr) {x : Str} (h1 : ¬ x = "theirs") (h2 : ¬ x = "mine") : (fldS l1 l2).lookup x = none := by
  unfold fldS
  rw [lookup_putF, if_neg h1, lookup_putF, if_neg h2]
  rfl
def sp_sinit (C : Addr) : Sp := fun vs H Q _ => ∃ (p dx b c : Addr) (xs ys : List V), vs = [.ref p, .ref b, .ref c] ∧ H p = some (.ins C dx []) ∧ H b = some (.lst xs) ∧ H c = some (.lst ys) ∧
  ∀ l1 l2 H', H l1 = none → H l2 = none → l1 ≠ l2 → H' l1 = some (.lst xs) → H' l2 = some (.lst ys) → H' p = some (.ins C dx (fldS l1 l2)) → (∀ q o, H q = some o → q ≠ p → H' q = some o) → Q .non H'
abbrev s_Settled_init : Stmt := inClass (top 42) 0
theorem sc_Settled_init : FnScope ["self", "mine", "theirs"] ["self", "mine", "theirs"] (defScope s_Settled_init) := ⟨rfl, rfl, rfl, by decide +kernel, rfl, by decide +kernel, by decide +kernel⟩
theorem ok_Settled_init {C : Addr} (F : FunC K C "__init__" "Settled.__init__" s_Settled_init ["self", "mine", "theirs"]) (T : Blt mg) (C_Settled : Cl K mg "Settled" ["mine", "theirs"] [] C) : DefC P w K mg base C "__init__" ["self", "mine", "theirs"] 1 (sp_sinit C) := by
  have S := sc_Settled_init
  refine DefC.of F S (fun vs H Q E h => ?_) (fun f cdv A outer s H vs Q E hr h => ?_)
  · obtain ⟨p, dx, b, c, xs, ys, rfl, _⟩ := h
    rfl
  · obtain ⟨p, dx, b, c, xs, ys, rfl, hp, hb, hc, k⟩ := h
    have nbp : b ≠ p := ne_of hb hp (by intro z; cases z)
    have ncp : c ≠ p := ne_of hc hp (by intro z; cases z)
    refine ⟨_, (pss_cons (ps_fld (pv 0) (pe_callTy (listOfK K) (by rfl) T.list_ bt_list (pa_cons (pv 1) pa_nil st_Name) (he := st_Name)) rfl)
      (pss_one (ps_fld (pv 0) (pe_callTy (listOfK K) (by rfl) T.list_ bt_list (pa_cons (pv 2) pa_nil st_Name) (he := st_Name)) rfl))), ?_⟩
    refine ⟨_, rfl, b, xs, rfl, .inl (SqL.of hb), fun l1 h1 => ?_⟩
    have np1 : p ≠ l1 := ne_of_none hp h1
    have nc1 : c ≠ l1 := ne_of_none hc h1
    refine ⟨_, rfl, p, C, dx, [], rfl, same_upd h1 _ _ hp, C_Settled.cl, C_Settled.no _ (by simp), (by show 0 < 1000; decide), ?_⟩
    refine ⟨_, rfl, c, ys, rfl, .inl (SqL.of (by rw [upd_ne ncp, upd_ne nc1]; exact hc)), fun l2 h2 => ?_⟩
    have np2 : p ≠ l2 := fun e => by rw [← e, upd_same] at h2; cases h2
    have n12 : l1 ≠ l2 := fun e => by rw [← e, upd_ne np1.symm, upd_same] at h2; cases h2
    have h2' : H l2 = none := by rw [upd_ne np2.symm, upd_ne n12.symm] at h2; exact h2
    refine ⟨_, rfl, p, C, dx, _, rfl, (by rw [upd_ne np2, upd_same]), C_Settled.cl, C_Settled.no _ (by simp), (by show 1 < 1000; decide), ?_⟩
    refine k l1 l2 _ h1 h2' n12 ?_ ?_ upd_same fun q o e nq => ?_
    · rw [upd_ne np1.symm, upd_ne n12, upd_ne np1.symm, upd_same]
    · rw [upd_ne np2.symm, upd_same]
    · rw [upd_ne nq, upd_ne (ne_of_none e h2'), upd_ne nq, upd_ne (ne_of_none e h1)]
      exact e
def sp_same : Sp := fun vs H Q _ => ∃ (a b : Addr) (U W : List (List Int)) (m n m' n' : Nat), vs = [.ref a, .ref b] ∧ IsTab H a U ∧ Good U m n ∧ IsTab H b W ∧ Good W m' n' ∧ Q (.bl (decide (m = m') && decide (n = n'))) H
abbrev s_of_same_counts : Stmt := top 33
theorem sc_of_same_counts : FnScope ["one", "other"] ["one", "other"] (defScope s_of_same_counts) := ⟨rfl, rfl, rfl, by decide +kernel, rfl, by decide +kernel, by decide +kernel⟩
theorem ok_of_same_counts (F : FunM K mg "of_same_counts" s_of_same_counts ["one", "other"]) (T : Blt mg) : Def P w K mg base "of_same_counts" ["one", "other"] 1 sp_same := by
  have S := sc_of_same_counts
  refine Def.of F S (fun vs H Q E h => ?_) (fun f cdv A outer s H vs Q E hr h => ?_)
  · obtain ⟨a, b, U, W, m, n, m', n', rfl, _⟩ := h
    rfl
  · obtain ⟨a, b, U, W, m, n, m', n', rfl, hU, g, hW, g', k⟩ := h
    obtain ⟨vs, b0, ha, h0, at0, hb0⟩ := hU.row (i := 0) (by rw [g.rows]; exact g.m1)
    obtain ⟨ws, c0, hb, k0, bt0, hc0⟩ := hW.row (i := 0) (by rw [g'.rows]; exact g'.m1)
    have el : vs.length = m := by
      obtain ⟨vs', ha', hp⟩ := id hU
      rw [ha] at ha'
      cases ha'
      rw [hp.length, g.rows]
    have fl : ws.length = m' := by
      obtain ⟨vs', ha', hp⟩ := id hW
      rw [hb] at ha'
      cases ha'
      rw [hp.length, g'.rows]
    have rl : ((U.getD 0 []).map V.int).length = n := by rw [List.length_map, (g.row g.m1).2]
    have tl : ((W.getD 0 []).map V.int).length = n' := by rw [List.length_map, (g'.row g'.m1).2]
    refine ⟨_, (pss_one (ps_ret (pe_and (pe_cmpR op_eq (pe_callB (lenK K) (by rfl) T.len_ bt_len (pa_cons (pv 0) pa_nil st_Name) (he := st_Name)) (pe_callB (lenK K) (by rfl) T.len_ bt_len (pa_cons (pv 1) pa_nil st_Name) (he := st_Name)) (nomark _)) (pe_one (pe_cmpR op_eq (pe_callB (lenK K) (by rfl) T.len_ bt_len (pa_cons (pe_ix (ixL K) (pv 0) pe_int (fun _ _ => rfl)) pa_nil st_Subscript) (he := st_Subscript)) (pe_callB (lenK K) (by rfl) T.len_ bt_len (pa_cons (pe_ix (ixL K) (pv 1) pe_int (fun _ _ => rfl)) pa_nil st_Subscript) (he := st_Subscript)) (nomark _)))))), ?_⟩
    refine ⟨_, rfl, a, vs, rfl, .inl (SqL.of ha), _, rfl, b, ws, rfl, .inl (SqL.of hb), rfl, _, rfl, ?_⟩
    by_cases e : m = m'
    · refine ifP (by rw [dec_len, el, fl]; exact decide_eq_true e) ?_
      refine ⟨_, rfl, a, vs, 0, _, rfl, rfl, SqL.of ha, at0, b0, _, rfl, .inl (SqL.of hb0), _, rfl, b, ws, 0, _, rfl, rfl, SqL.of hb, bt0, c0, _, rfl, .inl (SqL.of hc0), rfl, ?_⟩
      rw [dec_len, rl, tl]
      rw [decide_eq_true e, Bool.true_and] at k
      exact k
    · have e1 : decide (V.int (vs.length : Int) = V.int (ws.length : Int)) = false := by rw [dec_len, el, fl]; exact decide_eq_false e
      rw [e1]
      refine iteF ?_
      rw [decide_eq_false e, Bool.false_and] at k
      exact k
def sp_alike : Sp := fun vs H Q _ => ∃ (a b : Addr) (U W : List (List Int)) (m n : Nat), vs = [.ref a, .ref b] ∧ IsTab H a U ∧ Good U m n ∧ IsTab H b W ∧ Good W m n ∧ ∀ H', Same H H' → Q .non H'
abbrev s_check_alike : Stmt := top 34
theorem sc_check_alike : FnScope ["one", "other"] ["one", "other"] (defScope s_check_alike) := ⟨rfl, rfl, rfl, by decide +kernel, rfl, by decide +kernel, by decide +kernel⟩
theorem ok_check_alike (F : FunM K mg "check_alike" s_check_alike ["one", "other"]) (T : Blt mg) (G_check_table : Def P w K mg base "check_table" ["thing"] 4 sp_check) (G_of_same_counts : Def P w K mg base "of_same_counts" ["one", "other"] 1 sp_same) : Def P w K mg base "check_alike" ["one", "other"] 5 sp_alike := by
  have S := sc_check_alike
  refine Def.of F S (fun vs H Q E h => ?_) (fun f cdv A outer s H vs Q E hr h => ?_)
  · obtain ⟨a, b, U, W, m, n, rfl, _⟩ := h
    rfl
  · obtain ⟨a, b, U, W, m, n, rfl, hU, g, hW, g', k⟩ := h
    refine ⟨_, (pss_cons (ps_expr (pe_def G_check_table (hr.mono (by decide)) rfl (pa_cons (pv 0) pa_nil st_Name) (he := st_Name)))
      (pss_cons (ps_expr (pe_def G_check_table (hr.mono (by decide)) rfl (pa_cons (pv 1) pa_nil st_Name) (he := st_Name)))
      (pss_one (ps_if (pt_not (pt_val (pe_def G_of_same_counts (hr.mono (by decide)) rfl (pa_cons (pv 0) (pa_cons (pv 1) pa_nil st_Name) st_Name) (he := st_Name))))
        (pss_one ps_never) pss_nil)))), ?_⟩
    refine ⟨_, rfl, a, U, m, n, rfl, hU, g, fun H1 s1 => ?_⟩
    refine ⟨_, rfl, b, W, m, n, rfl, hW.mono s1, g', fun H2 s2 => ?_⟩
    have s12 := s1.trans s2
    refine ⟨_, rfl, _, rfl, a, b, U, W, m, n, m, n, rfl, hU.mono s12, g, hW.mono s12, g', ⟨_, rfl, ?_⟩⟩
    refine ifN (by simp) ?_
    exact k H2 s12
/-- as [6] tells -/
def stB (U V : List (List Int)) (m n : Nat) (ps qs : List (Int × Int)) : Bool := mixB ps m && mixB qs n && abB U m ps qs && abB (cols V n) n qs ps
/-! ### corners with who has a share and who is a best answer -/
def IsAc (U : List (List Int)) (m n : Nat) (H : Hp) (v : V) (q : CorT) : Prop := ∃ t k s b mx, v = .ref t ∧ H t = some (.tup [.ref k, .ref s, .ref b]) ∧ IsFrs H k q.1 ∧ H s = some (.lst ((shQ q.1 n).map V.int)) ∧
  H b = some (.lst ((plQ (U.map fun r => rowF r q.1) mx m).map V.int)) ∧ mx ∈ U.map (fun r => rowF r q.1) ∧ ∀ g ∈ U.map (fun r => rowF r q.1), leQ g mx
theorem IsAc.mono {U : List (List Int)} {m n : Nat} {H H' : Hp} {v : V} {q : CorT} (s : Same H H') (h : IsAc U m n H v q) : IsAc U m n H' v q :=
  let ⟨t, k, a, b, mx, e, h1, h2, h3, h4, h5⟩ := h
  ⟨t, k, a, b, mx, e, s _ _ h1, h2.mono s, s _ _ h3, s _ _ h4, h5⟩
def sp_acs : Sp := fun vs H Q _ => ∃ (a : Addr) (U : List (List Int)) (m n : Nat), vs = [.ref a] ∧ IsTab H a U ∧ Gd U m n ∧ ∀ l zs Ls H', Same H H' → H' l = some (.lst zs) → Paired (IsAc U m n H') zs Ls → Cors U m n Ls → Q (.ref l) H'
theorem cor_gq {U : List (List Int)} {m n : Nat} {Ls : List CorT} (g : Gd U m n) (hC : Cors U m n Ls) {q : CorT} (hq : q ∈ Ls) : GQ q.1 ∧ q.1.length = n := by
  obtain ⟨R, C, g2, k, rfl⟩ := hC.of q hq
  exact ⟨(cor_ws g g2 k.ne k.pos).2.2, by show (mks _ _).length = n; rw [mks_len, wsM_len]⟩
theorem paired_via {α : Type} {F : V → α → Prop} {G : V → α → Prop} : ∀ {zs ys : List V} {Ls : List α}, Paired (fun x y => ∀ q ∈ Ls, F x q → G y q) zs ys → Paired F zs Ls → Paired G ys Ls := by
  have go : ∀ {zs ys : List V} {Ls Ms : List α}, (∀ q ∈ Ls, q ∈ Ms) → Paired (fun x y => ∀ q ∈ Ms, F x q → G y q) zs ys → Paired F zs Ls → Paired G ys Ls := by
    intro zs ys Ls Ms hs h1 h2
    induction h2 generalizing ys with
    | nil => cases h1; exact .nil
    | cons h t ih =>
      cases h1 with
      | cons a b => exact .cons (a _ (hs _ List.mem_cons_self) h) (ih (fun q hq => hs q (List.mem_cons_of_mem _ hq)) b)
  intro zs ys Ls h1 h2
  exact go (fun _ h => h) h1 h2
abbrev s_answered_corners : Stmt := top 44
theorem sc_answered_corners : FnScope ["table", "mixtures"] ["table"] (defScope s_answered_corners) := ⟨rfl, rfl, rfl, by decide +kernel, rfl, by decide +kernel, by decide +kernel⟩
theorem ok_answered_corners (F : FunM K mg "answered_corners" s_answered_corners ["table"]) (T : Blt mg) (G_corners_of : Def P w K mg base "corners_of" ["table"] 9 sp_cors) (G_shared : Def P w K mg base "shared" ["mixture"] 1 sp_shared) (G_best_rows : Def P w K mg base "best_rows" ["table", "theirs"] 7 sp_bestrows) :
    Def P w K mg base "answered_corners" ["table"] 10 sp_acs := by
  have S := sc_answered_corners
  refine Def.of F S (fun vs H Q E h => ?_) (fun f cdv A outer s H vs Q E hr h => ?_)
  · obtain ⟨a, U, m, n, rfl, _⟩ := h
    rfl
  · obtain ⟨a, U, m, n, rfl, hU, g, k⟩ := h
    have n4 := g.n4
    refine ⟨_, (pss_cons (ps_setC (i := 1) rfl S.nd rfl rfl (N' := ["place"]) (src := [none]) rfl (piL K (pe_def G_corners_of (hr.mono (by decide)) rfl (pa_cons (pv 0) pa_nil st_Name) (he := st_Name))) (fun _ _ _ _ _ => (pg_name (i := 0) (show (["place"] : List Str).Nodup from by decide +kernel) rfl (Or.inl rfl))) (fun _ _ _ _ _ => pts_nil) (fun _ _ _ _ _ => (pe_ix (ixT K) (pv 0) pe_int (fun _ _ => rfl))))
      (pss_one (ps_ret (pe_comp rfl (N' := ["mixture", "table"]) (src := [none, some 0]) rfl (piL K (pv 1)) (fun _ _ _ _ _ => (pg_name (i := 0) (show (["mixture", "table"] : List Str).Nodup from by decide +kernel) rfl (Or.inl rfl))) (fun _ _ _ _ _ => pts_nil) (fun _ _ _ _ _ => (pe_tup (pa_cons (pv 0) (pa_cons (pe_def G_shared (hr.mono (by decide)) rfl (pa_cons (pv 0) pa_nil st_Name) (he := st_Name)) (pa_cons (pe_ix (ixT K) (pe_def G_best_rows (hr.mono (by decide)) rfl (pa_cons (pv 1) (pa_cons (pv 0) pa_nil st_Name) st_Name) (he := st_Name)) pe_int (fun _ _ => rfl)) pa_nil st_Subscript) st_Call) st_Name))))))), ?_⟩
    refine ⟨_, rfl, a, U, m, n, rfl, hU, g, fun l zs Ls H1 s1 hl pz hC zl => ?_⟩
    refine ⟨l, rfl, ⟨_, SqL.of hl⟩, comp_each (xs := zs) (fun x y H' => ∀ q ∈ Ls, IsCor l H1 x q → ∃ k, y = .ref k ∧ IsFrs H' k q.1) (fun _ _ _ _ s h q hq hc => let ⟨k, e, z⟩ := h q hq hc; ⟨k, e, z.mono s⟩) (SqL.of hl) (Nat.le_of_lt (small1000 zl)) ?_ ?_⟩
    · intro x hx H2 s2 Q' q
      obtain ⟨c, hc, t, kk, u, rfl, t1, _, hF, t2⟩ := pz.mem2 hx
      refine ⟨_, rfl, t, _, 0, _, rfl, rfl, SqT.of (s2 _ _ t1), rfl, q _ H2 (Same.refl _) fun q' _ hc' => ?_⟩
      obtain ⟨t', k', u', e, t1', _, hF', _⟩ := hc'
      cases e
      rw [t1] at t1'
      cases t1'
      exact ⟨_, rfl, hF'.mono s2⟩
    intro ys H2 s2 pr pm hpm
    have pf : Paired (fun y (q : CorT) => ∃ k, y = .ref k ∧ IsFrs H2 k q.1) ys Ls := paired_via pr pz
    have yl : ys.length ≤ 1000 := by rw [pf.length, ← pz.length]; exact zl
    have s3 := (s1.trans s2).trans (same_upd (o := .lst ys) hpm)
    have s23 : Same H2 (upd H2 pm (.lst ys)) := same_upd hpm
    have e3 : upd H2 pm (.lst ys) pm = some (.lst ys) := upd_same
    generalize upd H2 pm (.lst ys) = H3 at s3 s23 e3 ⊢
    refine ⟨_, rfl, pm, rfl, ⟨_, SqL.of e3⟩, comp_each (xs := ys) (fun x y H' => ∀ q ∈ Ls, (∃ k, x = .ref k ∧ IsFrs H2 k q.1) → IsAc U m n H' y q) (fun _ _ _ _ s h q hq hc => (h q hq hc).mono s) (SqL.of e3) (Nat.le_of_lt (small1000 yl)) ?_ ?_⟩
    · intro x hx H4 s4 Q' q
      obtain ⟨c, hc, kk, rfl, hF⟩ := pf.mem2 hx
      obtain ⟨gc, cl⟩ := cor_gq g hC hc
      have hF4 := (hF.mono s23).mono s4
      refine ⟨_, rfl, _, rfl, kk, c.1, rfl, hF4, by omega, fun ps H5 nw => ?_⟩
      have s45 := nw.same
      refine ⟨_, rfl, _, rfl, a, kk, U, m, n, c.1, rfl, ((hU.mono s3).mono s4).mono s45, g, hF4.mono s45, gc, fun bl bp bq mx H6 s6 hbn hbl hmx hle hbq => ?_⟩
      refine ⟨bq, _, 0, _, rfl, rfl, SqT.of hbq, rfl, (by show 3 ≤ sizeLine; decide), fun tt htt => ?_⟩
      have s67 := same_upd (o := .tup [.ref kk, .ref ps, .ref bl]) htt
      refine q _ _ ((s45.trans s6).trans s67) fun q' hq' hc' => ?_
      obtain ⟨k', e, hF'⟩ := hc'
      cases e
      have eq : q'.1 = c.1 := by
        obtain ⟨z1, a1, p1⟩ := hF
        obtain ⟨z2, a2, p2⟩ := hF'
        rw [a1] at a2
        cases a2
        have go : ∀ {zs : List V} {as bs : List (Int × Int)}, Paired (IsFr H2) zs as → Paired (IsFr H2) zs bs → as = bs := by
          intro zs as bs h1
          induction h1 generalizing bs with
          | nil => intro h; cases h; rfl
          | cons h t ih => intro h'; cases h' with
            | cons h2 t2 => rw [h.inj h2, ih t2]
        exact go p2 p1
      have hps := s67 _ _ (s6 _ _ nw.is)
      rw [cl] at hps
      refine ⟨tt, kk, ps, bl, mx, rfl, upd_same, ?_, ?_, ?_, ?_, ?_⟩
      · rw [eq]; exact ((hF4.mono s45).mono s6).mono s67
      · rw [eq]; exact hps
      · rw [eq]; exact s67 _ _ hbl
      · rw [eq]; exact hmx
      · rw [eq]; exact hle
    · intro ws H4 s4 pr2 pl hpl
      have pa : Paired (IsAc U m n H4) ws Ls := paired_via pr2 pf
      exact k pl ws Ls _ ((s3.trans s4).trans (same_upd hpl)) upd_same (pa.imp2 fun _ _ z => z.mono (same_upd hpl)) hC
/-! ### settled -/
/-- two corners from which neither would turn -/
def okQ (U V : List (List Int)) (m n : Nat) (p q : CorT) : Bool := abB U m p.1 q.1 && abB V n q.1 p.1
theorem sett_ok {U V : List (List Int)} {m n : Nat} {R C R' C' : List Nat} (g : Gd U m n) (g' : Gd V n m) (h : Gm.Sett U V m n R C R' C') : okQ U V m n (corQ V m R' C') (corQ U n R C) = true := by
  have one : ∀ {U V : List (List Int)} {m n : Nat} {R C R' C' : List Nat}, Gd U m n → Gd V n m → Gm.Good2 m n R C → Gm.Corner U m n R C → Gm.Good2 n m R' C' → Gm.Corner V n m R' C' →
      (∀ i, i < m → Gm.yOf C' (Gm.shM V R' C') i = 0 ∨ Gm.gain U n (Gm.yOf C (Gm.shM U R C)) i = Gm.gain U n (Gm.yOf C (Gm.shM U R C)) (R.headD 0)) → abB U m (mks (wsM V m R' C') (Gm.smM V R' C')) (mks (wsM U n R C) (Gm.smM U R C)) = true := by
    intro U V m n R C R' C' g g' g2 k g2' k' hr
    have hS : 0 < Gm.smM U R C := Gm.sgn_pos k.ne
    have hX : 0 < Gm.smM V R' C' := Gm.sgn_pos k'.ne
    obtain ⟨_, _, gq⟩ := cor_ws g g2 k.ne k.pos
    unfold abB
    rw [List.all_eq_true]
    intro i hi
    have hi := List.mem_range.mp hi
    rcases hr i hi with h | h
    · have e : (mks (wsM V m R' C') (Gm.smM V R' C')).getD i (0, 0) = (0, 1) := by
        refine getD_of ?_
        unfold mks wsM
        rw [List.map_map, List.getElem?_map, List.getElem?_range hi]
        show some (Fr.mk (Gm.yOf C' (Gm.shM V R' C') i) _) = _
        rw [h, Fr.mk_zero hX]
      rw [decide_eq_true e]
      rfl
    · have e : bestB U (mks (wsM U n R C) (Gm.smM U R C)) i = true := by
        unfold bestB
        rw [Bool.not_eq_true', List.any_eq_false]
        intro r hr'
        obtain ⟨j, hj, rfl⟩ := mem_getD' hr'
        rw [g.rows] at hj
        rw [rowF_mks hS (g.sz (g.row hi).1) gq, rowF_mks hS (g.sz (g.row hj).1) gq]
        unfold ltQ
        rw [lt_scale hS, decide_eq_true_iff]
        have e1 : Fr.dot (U.getD i []) (wsM U n R C) = _ := dot_gain g hi (Gm.yOf C (Gm.shM U R C))
        have e2 : Fr.dot (U.getD j []) (wsM U n R C) = _ := dot_gain g hj (Gm.yOf C (Gm.shM U R C))
        have := k.le j hj
        omega
      rw [e, Bool.or_true]
  unfold okQ
  rw [show abB U m (corQ V m R' C').1 (corQ U n R C).1 = true from one g g' h.g h.k h.g' h.k' h.rows, show abB V n (corQ U n R C).1 (corQ V m R' C').1 = true from one g' g h.g' h.k' h.g h.k h.cols]
  rfl
def sp_settled (CT : Addr) : Sp := fun vs H Q _ => ∃ (a b : Addr) (U V : List (List Int)) (m n : Nat), vs = [.ref a, .ref b] ∧ IsTab H a U ∧ Good U m n ∧ IsTab H b V ∧ Good V m n ∧
  ∀ p dx l1 l2 H' R C R' C', Same H H' → H p = none → H l1 = none → H l2 = none → l1 ≠ l2 → H' p = some (.ins CT dx (fldS l1 l2)) → IsFrs H' l1 (corQ (cols V n) m R' C').1 → IsFrs H' l2 (corQ U n R C).1 →
    Gm.Good2 m n R C → Gm.Corner U m n R C → Gm.Good2 n m R' C' → Gm.Corner (cols V n) n m R' C' → okQ U (cols V n) m n (corQ (cols V n) m R' C') (corQ U n R C) = true → Q (.ref p) H'
theorem cell_ge {U : List (List Int)} {m n : Nat} (g : Gd U m n) {i j : Nat} (hi : i < m) (hj : j < n) : -200 ≤ Gm.cell U i j := by
  have h1 := g.row hi
  refine (g.num _ h1.1 _ ?_).1
  show (U.getD i []).getD j 0 ∈ U.getD i []
  rw [List.getD_eq_getElem?_getD (l := U.getD i []), List.getElem?_eq_getElem (by rw [h1.2]; exact hj)]
  exact List.getElem_mem _
abbrev s_settled : Stmt := top 45
theorem sc_settled : FnScope ["one", "other", "by_columns", "mine", "rows", "columns_best", "theirs", "columns", "rows_best"] ["one", "other"] (defScope s_settled) := ⟨rfl, rfl, rfl, by decide +kernel, rfl, by decide +kernel, by decide +kernel⟩
theorem ok_settled {CT : Addr} (F : FunM K mg "settled" s_settled ["one", "other"]) (T : Blt mg) (C_Settled : Cl K mg "Settled" ["mine", "theirs"] [] CT) (G_check_alike : Def P w K mg base "check_alike" ["one", "other"] 5 sp_alike) (G_answered_corners : Def P w K mg base "answered_corners" ["table"] 10 sp_acs)
    (G_columns_of : Def P w K mg base "columns_of" ["table"] 2 sp_cols) (G_all_among : Def P w K mg base "all_among" ["cards", "others"] 1 sp_among) (G_Settled_init : DefC P w K mg base CT "__init__" ["self", "mine", "theirs"] 1 (sp_sinit CT)) : Def P w K mg base "settled" ["one", "other"] 11 (sp_settled CT) := by
  have S := sc_settled
  refine Def.of F S (fun vs H Q E h => ?_) (fun f cdv A outer s H vs Q E hr h => ?_)
  · obtain ⟨a, b, U, Z, m, n, rfl, _⟩ := h
    rfl
  · obtain ⟨a, b, U, Z, m, n, rfl, hU, gG, hV, gG', k⟩ := h
    have g := good_gd gG
    have gV := cols_gd (good_gd gG')
    have m4 := g.m4
    have n4 := g.n4
    refine ⟨_, (pss_cons (ps_expr (pe_def G_check_alike (hr.mono (by decide)) rfl (pa_cons (pv 0) (pa_cons (pv 1) pa_nil st_Name) st_Name) (he := st_Name)))
      (pss_cons (ps_set (i := 2) S.nd rfl (Or.inl rfl) (pe_def G_answered_corners (hr.mono (by decide)) rfl (pa_cons (pv 0) pa_nil st_Name) (he := st_Name)))
      (pss_one (ps_for PassesOwn.never rfl (piL K (pe_def G_answered_corners (hr.mono (by decide)) rfl (pa_cons (pe_def G_columns_of (hr.mono (by decide)) rfl (pa_cons (pv 1) pa_nil st_Name) (he := st_Name)) pa_nil st_Call) (he := st_Call))) (pgT K (n := 3) (pgs_cons (pg_name (i := 3) S.nd rfl (Or.inl rfl)) (pgs_cons (pg_name (i := 4) S.nd rfl (Or.inl rfl)) (pgs_cons (pg_name (i := 5) S.nd rfl (Or.inl rfl)) pgs_nil))))
        (pss_one (ps_for PassesOwn.never rfl (piL K (pv 2)) (pgT K (n := 3) (pgs_cons (pg_name (i := 6) S.nd rfl (Or.inl rfl)) (pgs_cons (pg_name (i := 7) S.nd rfl (Or.inl rfl)) (pgs_cons (pg_name (i := 8) S.nd rfl (Or.inl rfl)) pgs_nil))))
        (pss_one (ps_if (PW.pt (pw_and (pt_val (pe_def G_all_among (hr.mono (by decide)) rfl (pa_cons (pv 4) (pa_cons (pv 8) pa_nil st_Name) st_Name) (he := st_Name))) (pw_and1 (pt_val (pe_def G_all_among (hr.mono (by decide)) rfl (pa_cons (pv 7) (pa_cons (pv 5) pa_nil st_Name) st_Name) (he := st_Name))))))
        (pss_one (ps_ret (pe_makeD G_Settled_init C_Settled (hr.mono (by decide)) rfl (pa_cons (pv 3) (pa_cons (pv 6) pa_nil st_Name) st_Name) (he := st_Name)))) pss_nil)))))))), ?_⟩
    refine ⟨_, rfl, _, rfl, a, b, U, Z, m, n, rfl, hU, gG, hV, gG', fun H1 s1 => ?_⟩
    refine ⟨_, rfl, a, U, m, n, rfl, hU.mono s1, g, fun by_ zs Ls H2 s2 hz pz hC => ?_⟩
    have s12 := s1.trans s2
    refine ⟨_, rfl, b, Z, m, n, rfl, hV.mono s12, good_gd gG', fun pc H3 s3 own => ?_⟩
    refine ⟨pc, cols Z n, n, m, rfl, own.tab, gV, fun q zs' Ls' H4 s4 hz' pz' hC' => ?_⟩
    have s14 := (s12.trans s3).trans s4
    have s24 := s3.trans s4
    refine ⟨q, rfl, ⟨_, SqL.of hz'⟩, for_list (K := K) (a := q) (xs := zs') (fun i σ H' => ∃ (o3 o4 o5 o6 o7 o8 : Option V), σ = [some (.ref a), some (.ref b), some (.ref by_), o3, o4, o5, o6, o7, o8] ∧ Same H4 H' ∧ ∀ p' ∈ Ls'.take i, ∀ p ∈ Ls, okQ U (cols Z n) m n p' p = false)
      ⟨_, _, _, _, _, _, rfl, Same.refl _, fun p' h => by simp at h⟩ ?_ ?_ ?_⟩
    · rintro i σ H5 _ ⟨_, _, _, _, _, _, _, s5, _⟩
      exact SqL.of (s5 _ _ hz')
    · rintro i x σ H5 hi ⟨o3, o4, o5, o6, o7, o8, rfl, s5, hno⟩
      obtain ⟨p', ep', t, kk, ss, bb, mx, rfl, ht, hk, hs, hb, hmx, hle⟩ := pz'.get2 hi
      have mp' := List.mem_of_getElem? ep'
      obtain ⟨gp', pl'⟩ := cor_gq gV hC' mp'
      refine ⟨t, _, rfl, SqT.of (s5 _ _ ht), rfl, _, _, rfl, _, _, rfl, _, _, rfl, rfl, ?_⟩
      have hz5 := (s24.trans s5) _ _ hz
      refine ⟨_, rfl, by_, rfl, ⟨_, SqL.of hz5⟩, for_list (K := K) (a := by_) (xs := zs) (fun j σ H' => ∃ (o6 o7 o8 : Option V), σ = [some (.ref a), some (.ref b), some (.ref by_), some (.ref kk), some (.ref ss), some (.ref bb), o6, o7, o8] ∧ Same H5 H' ∧ ∀ p ∈ Ls.take j, okQ U (cols Z n) m n p' p = false)
        ⟨_, _, _, rfl, Same.refl _, fun p h => by simp at h⟩ ?_ ?_ ?_⟩
      · rintro j σ H6 _ ⟨_, _, _, _, s6, _⟩
        exact SqL.of (s6 _ _ hz5)
      · rintro j x σ H6 hj ⟨o6, o7, o8, rfl, s6, hno6⟩
        obtain ⟨p, ep, t2, k2, ss2, bb2, mx2, rfl, ht2, hk2, hs2, hb2, hmx2, hle2⟩ := pz.get2 hj
        have mp := List.mem_of_getElem? ep
        obtain ⟨gp, pl⟩ := cor_gq g hC mp
        have s26 := (s24.trans s5).trans s6
        have s46 := s5.trans s6
        refine ⟨t2, _, rfl, SqT.of (s26 _ _ ht2), rfl, _, _, rfl, _, _, rfl, _, _, rfl, rfl, ?_⟩
        have ea : ((shQ p'.1 m).all fun x => decide (x ∈ plQ (U.map fun r => rowF r p.1) mx2 m)) = abB U m p'.1 p.1 := ab_eq g gp hmx2 hle2
        have eb : ((shQ p.1 n).all fun x => decide (x ∈ plQ ((cols Z n).map fun r => rowF r p'.1) mx n)) = abB (cols Z n) n p.1 p'.1 := ab_eq gV gp' hmx hle
        have step : okQ U (cols Z n) m n p' p = false → ∀ p1 ∈ Ls.take (j + 1), okQ U (cols Z n) m n p' p1 = false := fun h p1 h1 => by
          rw [tk_succ ep] at h1
          rcases List.mem_append.mp h1 with z | z
          · exact hno6 p1 z
          · rw [List.mem_singleton.mp z]; exact h
        refine ⟨_, rfl, _, rfl, ss, bb2, _, _, rfl, s46 _ _ hs, s26 _ _ hb2, Nat.le_trans (shQ_len _ _) (by omega), fun H7 s7 => ⟨_, rfl, ?_⟩⟩
        rw [ea]
        cases h1 : abB U m p'.1 p.1 with
        | false =>
          refine iteF ?_
          exact ⟨_, _, _, rfl, s6.trans s7, step (by unfold okQ; rw [h1]; rfl)⟩
        | true =>
        refine iteT ?_
        have s27 := s26.trans s7
        have s47 := s46.trans s7
        refine ⟨_, rfl, _, rfl, ss2, bb, _, _, rfl, s27 _ _ hs2, s47 _ _ hb, Nat.le_trans (shQ_len _ _) (by omega), fun H8 s8 => ⟨_, rfl, ?_⟩⟩
        rw [eb]
        cases h2 : abB (cols Z n) n p.1 p'.1 with
        | false =>
          refine iteF ?_
          exact ⟨_, _, _, rfl, (s6.trans s7).trans s8, step (by unfold okQ; rw [h1, h2]; rfl)⟩
        | true =>
        refine iteT ?_
        -- found
        have s28 := s27.trans s8
        have s48 := s47.trans s8
        have s18 := s14.trans s48
        obtain ⟨vs1, e1, pr1⟩ := hk.mono s48
        obtain ⟨vs2, e2, pr2⟩ := hk2.mono s28
        refine ⟨_, rfl, _, rfl, ?_⟩
        intro x dx nx ndx nex
        have sm0 : Same H8 (upd (upd H8 dx (.own x)) x (.ins CT dx [])) := fun c o e => by
          rw [upd_ne (ne_of_none e nx), upd_ne (ne_of_none e ndx)]
          exact e
        refine ⟨x, dx, kk, k2, vs1, vs2, rfl, upd_same, sm0 _ _ e1, sm0 _ _ e2, fun l1 l2 HU n1' n2' n12 hl1 hl2 hins kp => ⟨rfl, ?_⟩⟩
        have sU : Same H8 HU := fun c o e => kp c o (sm0 c o e) (ne_of_none e nx)
        have sm1 := s18.trans sm0
        obtain ⟨R, C, g2, hk', rfl⟩ := hC.of p mp
        obtain ⟨R', C', g2', hk'', rfl⟩ := hC'.of p' mp'
        exact k x dx l1 l2 HU R C R' C' (s18.trans sU) (s18.free nx) (sm1.free n1') (sm1.free n2') n12 hins ⟨vs1, hl1, pr1.imp2 fun _ _ z => z.mono sU⟩ ⟨vs2, hl2, pr2.imp2 fun _ _ z => z.mono sU⟩ g2 hk' g2' hk'' (by unfold okQ; rw [h1, h2]; rfl)
      · rintro σ H6 ⟨o6, o7, o8, rfl, s6, hno6⟩
        rw [pz.length, List.take_length] at hno6
        refine ⟨_, _, _, _, _, _, rfl, s5.trans s6, fun p1 h1 => ?_⟩
        rw [tk_succ ep'] at h1
        rcases List.mem_append.mp h1 with z | z
        · exact hno p1 z
        · rw [List.mem_singleton.mp z]; exact hno6
    · rintro σ H5 ⟨o3, o4, o5, o6, o7, o8, rfl, s5, hno⟩
      rw [pz'.length, List.take_length] at hno
      obtain ⟨R, C, R', C', hs⟩ := Gm.sett (U := U) (V := cols Z n) (m := m) (n := n) g.m1 g.n1 m4 n4 (fun i j hi hj => cell_ge g hi hj) (fun i j hi hj => cell_ge gV hj hi)
      have := hno _ (hC'.all R' C' hs.g' hs.k') _ (hC.all R C hs.g hs.k)
      rw [sett_ok g gV hs] at this
      cases this
theorem cor_mix {U : List (List Int)} {m n : Nat} {R C : List Nat} (g : Gd U m n) (g2 : Gm.Good2 m n R C) (k : Gm.Corner U m n R C) : mixB (corQ U n R C).1 n = true ∧ GQ (corQ U n R C).1 := by
  have hS : 0 < Gm.smM U R C := Gm.sgn_pos k.ne
  obtain ⟨a1, a2, a3⟩ := cor_ws g g2 k.ne k.pos
  exact ⟨mixB_mks hS a3 (wsM_len ..) a1 a2, a3⟩
theorem cor_stB {U V : List (List Int)} {m n : Nat} {R C R' C' : List Nat} (g : Gd U m n) (g' : Gd V m n) (g2 : Gm.Good2 m n R C) (k : Gm.Corner U m n R C) (g2' : Gm.Good2 n m R' C') (k' : Gm.Corner (cols V n) n m R' C') (h : okQ U (cols V n) m n (corQ (cols V n) m R' C') (corQ U n R C) = true) :
    stB U V m n (corQ (cols V n) m R' C').1 (corQ U n R C).1 = true := by
  unfold okQ at h
  rw [Bool.and_eq_true] at h
  unfold stB
  rw [(cor_mix (cols_gd g') g2' k').1, (cor_mix g g2 k).1, h.1, h.2]
  rfl
/-! ### the law's own word of two mixtures -/
theorem pq_zero {q : Int × Int} (h : Pq q) (h0 : q.1 = 0) : q = (0, 1) := by
  have h1 := h.cop
  have h2 := h.pos
  rw [h0] at h1
  refine Prod.ext h0 ?_
  have : Int.gcd 0 q.2 = q.2.natAbs := Int.gcd_zero_left ..
  show q.2 = 1
  omega
theorem mixB_nn {qs : List (Int × Int)} {n : Nat} (h : mixB qs n = true) : ∀ q ∈ qs, 0 ≤ q.1 := by
  unfold mixB at h
  simp only [Bool.and_eq_true, List.all_eq_true, decide_eq_true_eq] at h
  exact h.1.2
def sp_lsett : Sp := fun vs H Q _ => ∃ (a b l1 l2 : Addr) (U V : List (List Int)) (m n : Nat) (ps qs : List (Int × Int)), vs = [.ref a, .ref b, .ref l1, .ref l2] ∧ IsTab H a U ∧ Gd U m n ∧ IsTab H b V ∧ Gd V m n ∧ IsFrs H l1 ps ∧ GQ ps ∧ IsFrs H l2 qs ∧ GQ qs ∧ ∀ H', Same H H' → Q (.bl (stB U V m n ps qs)) H'
abbrev s__law_settled : Stmt := top 57
theorem sc__law_settled : FnScope ["_law_one", "_law_other", "_law_mine", "_law_theirs", "_law_rows", "_law_columns", "_law_told", "_law_shares", "_law_place"] ["_law_one", "_law_other", "_law_mine", "_law_theirs"] (defScope s__law_settled) := ⟨rfl, rfl, rfl, by decide +kernel, rfl, by decide +kernel, by decide +kernel⟩
theorem ok__law_settled (F : FunM K mg "_law_settled" s__law_settled ["_law_one", "_law_other", "_law_mine", "_law_theirs"]) (T : Blt mg) (G__law_mixture : Def P w K mg base "_law_mixture" ["_law_mixture_here", "_law_many"] 4 sp_mix) (G__law_sum : Def P w K mg base "_law_sum" ["_law_worths", "_law_shares"] 3 sp_lsum) (G__law_across : Def P w K mg base "_law_across" ["_law_table_here"] 1 sp_cols)
    (G__law_less : Def P w K mg base "_law_less" ["_law_one", "_law_other"] 1 (sp_below K)) : Def P w K mg base "_law_settled" ["_law_one", "_law_other", "_law_mine", "_law_theirs"] 5 sp_lsett := by
  have S := sc__law_settled
  refine Def.of F S (fun vs H Q E h => ?_) (fun f cdv A outer s H vs Q E hr h => ?_)
  · obtain ⟨a, b, l1, l2, U, Z, m, n, ps, qs, rfl, _⟩ := h
    rfl
  · obtain ⟨a, b, l1, l2, U, Z, m, n, ps, qs, rfl, hU, g, hV, g', h1, gp, h2, gq, k⟩ := h
    have m4 := g.m4
    have n4 := g.n4
    obtain ⟨vs, b0, ha, h0, at0, hb0⟩ := hU.row (i := 0) (by rw [g.rows]; exact g.m1)
    have hn : ((U.getD 0 []).map V.int).length = n := by rw [List.length_map, (g.row g.m1).2]
    have hm : vs.length = m := by
      obtain ⟨vs', ha', hp'⟩ := id hU
      rw [ha] at ha'
      cases ha'
      rw [hp'.length, g.rows]
    refine ⟨_, (pss_cons (ps_if (PW.pt (pw_or (pt_not (pt_val (pe_def G__law_mixture (hr.mono (by decide)) rfl (pa_cons (pv 2) (pa_cons (pe_callB (lenK K) (by rfl) T.len_ bt_len (pa_cons (pv 0) pa_nil st_Name) (he := st_Name)) pa_nil st_Call) st_Name) (he := st_Name)))) (pw_or1 (pt_not (pt_val (pe_def G__law_mixture (hr.mono (by decide)) rfl (pa_cons (pv 3) (pa_cons (pe_callB (lenK K) (by rfl) T.len_ bt_len (pa_cons (pe_ix (ixL K) (pv 0) pe_int (fun _ _ => rfl)) pa_nil st_Subscript) (he := st_Subscript)) pa_nil st_Call) st_Name) (he := st_Name)))))))
        (pss_one (ps_ret pe_bl)) pss_nil)
      (pss_cons (ps_setC (i := 4) rfl S.nd rfl rfl (N' := ["_law_row", "_law_theirs"]) (src := [none, some 3]) rfl (piL K (pv 0)) (fun _ _ _ _ _ => (pg_name (i := 0) (show (["_law_row", "_law_theirs"] : List Str).Nodup from by decide +kernel) rfl (Or.inl rfl))) (fun _ _ _ _ _ => pts_nil) (fun _ _ _ _ _ => (pe_def G__law_sum (hr.mono (by decide)) rfl (pa_cons (pv 0) (pa_cons (pv 1) pa_nil st_Name) st_Name) (he := st_Name))))
      (pss_cons (ps_setC (i := 5) rfl S.nd rfl rfl (N' := ["_law_column", "_law_mine"]) (src := [none, some 2]) rfl (piL K (pe_def G__law_across (hr.mono (by decide)) rfl (pa_cons (pv 1) pa_nil st_Name) (he := st_Name))) (fun _ _ _ _ _ => (pg_name (i := 0) (show (["_law_column", "_law_mine"] : List Str).Nodup from by decide +kernel) rfl (Or.inl rfl))) (fun _ _ _ _ _ => pts_nil) (fun _ _ _ _ _ => (pe_def G__law_sum (hr.mono (by decide)) rfl (pa_cons (pv 0) (pa_cons (pv 1) pa_nil st_Name) st_Name) (he := st_Name))))
      (pss_cons (ps_for PassesOwn.never rfl (piL K (pe_lst (pa_cons (pe_tup (pa_cons (pv 4) (pa_cons (pv 2) pa_nil st_Name) st_Name)) (pa_cons (pe_tup (pa_cons (pv 5) (pa_cons (pv 3) pa_nil st_Name) st_Name)) pa_nil st_Tuple) st_Tuple))) (pgT K (n := 2) (pgs_cons (pg_name (i := 6) S.nd rfl (Or.inr rfl)) (pgs_cons (pg_name (i := 7) S.nd rfl (Or.inl rfl)) pgs_nil)))
        (pss_one (ps_for PassesOwn.never rfl (pi_range1 rfl T.range_ (pa_cons (pe_callB (lenK K) (by rfl) T.len_ bt_len (pa_cons (pv 6) pa_nil st_Name) (he := st_Name)) pa_nil st_Call)) (pg_name (i := 8) S.nd rfl (Or.inr rfl))
        (pss_one (ps_if (PW.pt (pw_and (pt_cmpR op_gt (pe_ix (ixT K) (pe_ix (ixL K) (pv 7) (pv 8) (fun _ _ => rfl)) pe_int (fun _ _ => rfl)) pe_int (nomark _)) (pw_and1 (pt_val (pe_callB (anyK K) (by rfl) T.any_ bt_any (pa_cons (pe_comp rfl (N' := ["_law_more", "_law_told", "_law_place"]) (src := [none, some 6, some 8]) rfl (piL K (pv 6)) (fun _ _ _ _ _ => (pg_name (i := 0) (show (["_law_more", "_law_told", "_law_place"] : List Str).Nodup from by decide +kernel) rfl (Or.inl rfl))) (fun _ _ _ _ _ => pts_nil) (fun _ _ _ _ _ => (pe_def G__law_less (hr.mono (by decide)) rfl (pa_cons (pe_ix (ixL K) (pv 1) (pv 2) (fun _ _ => rfl)) (pa_cons (pv 0) pa_nil st_Name) st_Subscript) (he := st_Subscript)))) pa_nil st_ListComp) (he := st_ListComp))))))
        (pss_one (ps_ret pe_bl)) pss_nil)))))
      (pss_one (ps_ret pe_bl)))))), ?_⟩
    refine ⟨_, rfl, _, rfl, a, vs, rfl, .inl (SqL.of ha), l1, ps, vs.length, rfl, h1, gp, fun H1 s1 => ⟨_, rfl, ?_⟩⟩
    rw [hm]
    cases hx : mixB ps m with
    | false =>
      refine iteT ?_
      have e : stB U Z m n ps qs = false := by unfold stB; rw [hx]; rfl
      rw [e] at k
      exact k H1 s1
    | true =>
    refine iteF ?_
    refine ⟨_, rfl, _, rfl, a, vs, 0, _, rfl, rfl, SqL.of (s1 _ _ ha), at0, b0, _, rfl, .inl (SqL.of (s1 _ _ hb0)), l2, qs, _, rfl, h2.mono s1, gq, fun H2 s2 => ⟨_, rfl, ?_⟩⟩
    rw [hn]
    have s12 := s1.trans s2
    cases hy : mixB qs n with
    | false =>
      refine iteT ?_
      have e : stB U Z m n ps qs = false := by unfold stB; rw [hx, hy]; rfl
      rw [e] at k
      exact k H2 s12
    | true =>
    refine iteF ?_
    -- what the rows get
    refine ⟨_, rfl, a, rfl, ⟨_, SqL.of (s12 _ _ ha)⟩, comp_rowsf (fun r => rowF r qs) (hU.mono s12) (by rw [g.rows]; omega) ?_ ?_⟩
    · intro r hr' x hx' H3 s3 Q' q
      exact ⟨_, rfl, _, rfl, x, l2, r, qs, rfl, s3 _ _ hx', h2.mono (s12.trans s3), gq, g.sz hr', fun p H4 nw => q _ H4 nw.same ⟨p, rfl, nw.is⟩⟩
    intro ys H3 s3 pr p1 hp1
    have s04 := (s12.trans s3).trans (same_upd (o := .lst ys) hp1)
    have f1 : IsFrs (upd H3 p1 (.lst ys)) p1 (U.map fun r => rowF r qs) := ⟨ys, upd_same, pr.imp2 fun _ _ z => z.mono (same_upd hp1)⟩
    generalize upd H3 p1 (.lst ys) = H4 at s04 f1 ⊢
    -- what the columns get
    refine ⟨_, rfl, b, Z, m, n, rfl, hV.mono s04, g', fun pc H5 s5 own => ?_⟩
    have s05 := s04.trans s5
    obtain ⟨cv, hcv, _⟩ := id own.tab
    refine ⟨pc, rfl, ⟨_, SqL.of hcv⟩, comp_rowsf (fun r => rowF r ps) own.tab (by rw [cols_len]; omega) ?_ ?_⟩
    · intro r hr' x hx' H6 s6 Q' q
      exact ⟨_, rfl, _, rfl, x, l1, r, ps, rfl, s6 _ _ hx', h1.mono (s05.trans s6), gp, (cols_gd g').sz hr', fun p H7 nw => q _ H7 nw.same ⟨p, rfl, nw.is⟩⟩
    intro ys2 H6 s6 pr2 p2 hp2
    have s56 := (s5.trans s6).trans (same_upd (o := .lst ys2) hp2)
    have s07 := (s05.trans s6).trans (same_upd (o := .lst ys2) hp2)
    have f2 : IsFrs (upd H6 p2 (.lst ys2)) p2 ((cols Z n).map fun r => rowF r ps) := ⟨ys2, upd_same, pr2.imp2 fun _ _ z => z.mono (same_upd hp2)⟩
    generalize upd H6 p2 (.lst ys2) = H7 at s56 s07 f2 ⊢
    have f1' := f1.mono s56
    -- both
    refine ⟨_, rfl, _, rfl, (by show 2 ≤ sizeLine; decide), fun t1 ht1 => ⟨_, rfl, _, rfl, (by show 2 ≤ sizeLine; decide), fun t2 ht2 => ⟨(by show 2 ≤ sizeLine; decide), fun q hq => ?_⟩⟩⟩
    have sa := same_upd (o := .tup [.ref p1, .ref l1]) ht1
    have sb := same_upd (o := .tup [.ref p2, .ref l2]) ht2
    have sc := same_upd (o := .lst [.ref t1, .ref t2]) hq
    have e1 : upd (upd (upd H7 t1 (.tup [.ref p1, .ref l1])) t2 (.tup [.ref p2, .ref l2])) q (.lst [.ref t1, .ref t2]) t1 = some (.tup [.ref p1, .ref l1]) := sc _ _ (sb _ _ upd_same)
    have e2 : upd (upd (upd H7 t1 (.tup [.ref p1, .ref l1])) t2 (.tup [.ref p2, .ref l2])) q (.lst [.ref t1, .ref t2]) t2 = some (.tup [.ref p2, .ref l2]) := sc _ _ upd_same
    have e3 : upd (upd (upd H7 t1 (.tup [.ref p1, .ref l1])) t2 (.tup [.ref p2, .ref l2])) q (.lst [.ref t1, .ref t2]) q = some (.lst [.ref t1, .ref t2]) := upd_same
    have s78 := (sa.trans sb).trans sc
    generalize upd (upd (upd H7 t1 (.tup [.ref p1, .ref l1])) t2 (.tup [.ref p2, .ref l2])) q (.lst [.ref t1, .ref t2]) = H8 at e1 e2 e3 s78 ⊢
    have s08 := s07.trans s78
    let fl : Nat → Bool := fun i => if i = 0 then abB U m ps qs else abB (cols Z n) n qs ps
    have what : ∀ i x, ([.ref t1, .ref t2] : List V)[i]? = some x → ∃ (t td sh : Addr) (W : List (List Int)) (kk nn : Nat) (ps' qs' : List (Int × Int)), x = .ref t ∧ H8 t = some (.tup [.ref td, .ref sh]) ∧ IsFrs H8 td (W.map fun r => rowF r qs') ∧ Gd W kk nn ∧ GQ qs' ∧ IsFrs H8 sh ps' ∧ GQ ps' ∧ ps'.length = kk ∧ (∀ q ∈ ps', 0 ≤ q.1) ∧ fl i = abB W kk ps' qs' ∧ (fl i = false → stB U Z m n ps qs = false) := by
      intro i x hi
      match i, hi with
      | 0, hi =>
        cases hi
        exact ⟨t1, p1, l1, U, m, n, ps, qs, rfl, e1, f1'.mono s78, g, gq, h1.mono s08, gp, mixB_len hx, mixB_nn hx, rfl, fun h => by
          have h : abB U m ps qs = false := h
          unfold stB; rw [hx, hy, h]; rfl⟩
      | 1, hi =>
        cases hi
        exact ⟨t2, p2, l2, cols Z n, n, m, qs, ps, rfl, e2, f2.mono s78, cols_gd g', gp, h2.mono s08, gq, mixB_len hy, mixB_nn hy, rfl, fun h => by
          have h : abB (cols Z n) n qs ps = false := h
          unfold stB; rw [h, Bool.and_false]⟩
    refine ⟨q, rfl, ⟨_, SqL.of e3⟩, for_list (K := K) (a := q) (xs := [.ref t1, .ref t2]) (fun i σ H' => ∃ (o6 o7 o8 : Option V), σ = [some (.ref a), some (.ref b), some (.ref l1), some (.ref l2), some (.ref p1), some (.ref p2), o6, o7, o8] ∧ Same H8 H' ∧ ∀ i', i' < i → fl i' = true)
      ⟨_, _, _, rfl, Same.refl _, fun i' h => absurd h (by omega)⟩ ?_ ?_ ?_⟩
    · rintro i σ H9 _ ⟨_, _, _, _, s9, _⟩
      exact SqL.of (s9 _ _ e3)
    · rintro i x σ H9 hi ⟨o6, o7, o8, rfl, s9, hfl⟩
      obtain ⟨t, td, sh, W, kk, nn, ps', qs', rfl, ht, hT, gW, gq', hS, gp', pl, pn, efl, hst⟩ := what i x hi
      have w4 := gW.m4
      refine ⟨t, _, rfl, SqT.of (s9 _ _ ht), rfl, _, _, rfl, _, _, rfl, rfl, ?_⟩
      obtain ⟨tv, htv, ptv⟩ := hT.mono s9
      obtain ⟨sv, hsv, psv⟩ := hS.mono s9
      have tl : tv.length = kk := by rw [ptv.length, List.length_map, gW.rows]
      have svl : sv.length = kk := by rw [psv.length, pl]
      have zg : ∀ q ∈ W.map (fun r => rowF r qs'), Sz 1000 q.1 ∧ Sz 1000 q.2 := fun q hq => by
        obtain ⟨r, hr', rfl⟩ := List.mem_map.mp hq
        exact ⟨(rowF_s1 (gW.sz hr') gq').mono (by decide), (rowF_s2 (gW.sz hr') gq').mono (by decide)⟩
      refine ⟨_, rfl, td, tv, rfl, .inl (SqL.of htv), _, rfl, by omega, by omega, for_range (n := tv.length) (fun j σ H' => ∃ (o8 : Option V), σ = [some (.ref a), some (.ref b), some (.ref l1), some (.ref l2), some (.ref p1), some (.ref p2), some (.ref td), some (.ref sh), o8] ∧ Same H9 H' ∧ ∀ j', j' < j → (decide (ps'.getD j' (0, 0) = (0, 1)) || bestB W qs' j') = true)
        ⟨_, rfl, Same.refl _, fun j' h => absurd h (by omega)⟩ ?_ ?_⟩
      · rintro j σ H10 hj ⟨o8, rfl, s10, hb⟩
        have ej : (0 : Int) + (j : Int) = (j : Int) := by omega
        rw [ej]
        rw [tl] at hj
        have hsj : j < sv.length := by omega
        obtain ⟨y, ey, yb, eyb, hyb⟩ := psv.get2 (List.getElem?_eq_getElem hsj)
        have my := List.mem_of_getElem? ey
        have ay : atI sv (j : Int) = some (.ref yb) := atI_nat (by rw [List.getElem?_eq_getElem hsj, eyb])
        have gy : ps'.getD j (0, 0) = y := getD_of ey
        have y0 := pn y my
        have next : ∀ H', Same H10 H' → (decide (ps'.getD j (0, 0) = (0, 1)) || bestB W qs' j) = true → ∀ j', j' < j + 1 → (decide (ps'.getD j' (0, 0) = (0, 1)) || bestB W qs' j') = true := fun H' _ h j' hj' => by
          by_cases e : j' = j
          · rw [e]; exact h
          · exact hb j' (by omega)
        refine ⟨_, rfl, _, rfl, sh, sv, (j : Int), _, rfl, rfl, SqL.of (s10 _ _ hsv), ay, yb, _, 0, _, rfl, rfl, SqT.of (s10 _ _ hyb), rfl, _, _, rfl, rfl, _, rfl, ?_⟩
        by_cases hpos : 0 < y.1
        rotate_left
        · refine ifN (by simp; omega) ?_
          refine iteF ?_
          exact ⟨_, rfl, s10, next H10 (Same.refl _) (by rw [gy, pq_zero (gp'.pr y my) (by omega)]; rfl)⟩
        refine ifP (by simpa using hpos) ?_
        have htj : j < tv.length := by omega
        obtain ⟨u, eu, ub, eub, hub⟩ := ptv.get2 (List.getElem?_eq_getElem htj)
        have mu := List.mem_of_getElem? eu
        have au : atI tv (j : Int) = some (.ref ub) := atI_nat (by rw [List.getElem?_eq_getElem htj, eub])
        have euv : u = rowF (W.getD j []) qs' := by
          have := getD_of (d := ((0 : Int), (0 : Int))) eu
          rw [← this]
          exact map_getD (fun r => rowF r qs') W (0, 0) (by rw [gW.rows]; exact hj)
        refine ⟨_, rfl, td, rfl, ⟨_, SqL.of (s10 _ _ htv)⟩, comp_each (xs := tv) (fun x y _ => ∀ q, IsFr H9 x q → y = .bl (ltQ u q)) (fun _ _ _ _ _ h => h) (SqL.of (s10 _ _ htv)) (by rw [tl]; exact Nat.le_of_lt (small1000 (by omega))) ?_ ?_⟩
        · intro x hx' H11 s11 Q' q'
          obtain ⟨r, hr', hf⟩ := ptv.mem2 hx'
          obtain ⟨d, rfl, hd⟩ := id hf
          have s1B := s10.trans s11
          exact ⟨_, rfl, _, rfl, td, tv, (j : Int), _, rfl, rfl, SqL.of (s1B _ _ htv), au, _, rfl, ub, d, _, _, _, _, rfl, SqT.of (s1B _ _ hub), SqT.of (s1B _ _ hd), (zg u mu).1, (zg u mu).2, (zg r hr').1, (zg r hr').2, q' _ H11 (Same.refl _) fun q2 h2' => by rw [hf.inj h2']; rfl⟩
        intro ysb H11 s11 prb qb hqb
        have eb := bools_map (fun q => ltQ u q) prb ptv
        subst eb
        refine ⟨qb, _, rfl, SqL.of upd_same, ?_⟩
        have eany : (((W.map fun r => rowF r qs').map fun q => ltQ u q).any id) = W.any fun r => ltQ (rowF (W.getD j []) qs') (rowF r qs') := by
          rw [List.any_map, List.any_map, euv]
          rfl
        rw [eany]
        have s1C : Same H10 (upd H11 qb (.lst (((W.map fun r => rowF r qs').map fun q => ltQ u q).map V.bl))) := s11.trans (same_upd hqb)
        generalize upd H11 qb (.lst (((W.map fun r => rowF r qs').map fun q => ltQ u q).map V.bl)) = H12 at s1C ⊢
        refine ⟨_, rfl, ?_⟩
        cases hany : W.any fun r => ltQ (rowF (W.getD j []) qs') (rowF r qs') with
        | true =>
          refine iteT ?_
          have e0 : abB W kk ps' qs' = false := by
            unfold abB
            rw [List.all_eq_false]
            refine ⟨j, List.mem_range.mpr hj, ?_⟩
            rw [gy, decide_eq_false (fun e => by rw [e] at hpos; exact absurd hpos (by decide))]
            unfold bestB
            rw [hany]
            decide
          have e := hst (by rw [efl]; exact e0)
          rw [e] at k
          exact k H12 ((s08.trans s9).trans (s10.trans s1C))
        | false =>
          refine iteF ?_
          exact ⟨_, rfl, s10.trans s1C, next H12 s1C (by unfold bestB; rw [hany, Bool.not_false, Bool.or_true])⟩
      · rintro σ H10 ⟨o8, rfl, s10, hb⟩
        rw [tl] at hb
        refine ⟨_, _, _, rfl, s9.trans s10, fun i' hi' => ?_⟩
        by_cases e : i' = i
        · rw [e, efl]
          unfold abB
          rw [List.all_eq_true]
          exact fun j' hj' => hb j' (List.mem_range.mp hj')
        · exact hfl i' (by omega)
    · rintro σ H9 ⟨o6, o7, o8, rfl, s9, hfl⟩
      have e : stB U Z m n ps qs = true := by
        have a1 : abB U m ps qs = true := hfl 0 (by show 0 < 2; decide)
        have a2 : abB (cols Z n) n qs ps = true := hfl 1 (by show 1 < 2; decide)
        unfold stB
        rw [hx, hy, a1, a2]
        rfl
      rw [e] at k
      exact k H9 (s08.trans s9)
/-! ### the sum over all places -/
def GB (l : List (Int × (Int × Int))) : Prop := ∀ x ∈ l, Sz 9 x.1 ∧ 0 < x.2.2 ∧ Sz 120 x.2.1 ∧ Sz 120 x.2.2
theorem acc_szB : ∀ (k : Nat) (l : List (Int × (Int × Int))), l.length = k → GB l → 0 < (acc l).2 ∧ Sz (130 + 121 * k) (acc l).1 ∧ Sz (1 + 120 * k) (acc l).2
  | 0, l, h, _ => by
    have := List.eq_nil_of_length_eq_zero h
    subst this
    exact ⟨by decide, show Sz 130 0 from by unfold Sz; exact Nat.pow_pos (by decide), show Sz 1 1 from by unfold Sz; decide⟩
  | k + 1, l, h, g => by
    have hne : l ≠ [] := fun e => by rw [e] at h; simp at h
    have e : l = l.dropLast ++ [l.getLast hne] := (List.dropLast_concat_getLast hne).symm
    obtain ⟨h1, h2, h3, h4⟩ := g _ (List.getLast_mem hne)
    have ih := acc_szB k l.dropLast (by rw [List.length_dropLast]; omega) fun x hx => g x (List.dropLast_subset l hx)
    rw [e, acc_snoc]
    unfold stp
    refine ⟨Int.mul_pos ih.1 h2, ?_, ?_⟩
    · have a1 : Sz (250 + 121 * k) ((acc l.dropLast).1 * (l.getLast hne).2.2) := (ih.2.1.mul h4).mono (by omega)
      have a2 : Sz (250 + 121 * k) ((l.getLast hne).1 * (l.getLast hne).2.1 * (acc l.dropLast).2) := ((h1.mul h3).mul ih.2.2).mono (by omega)
      exact (a1.add a2).mono (by omega)
    · exact (ih.2.2.mul h4).mono (by omega)
theorem GB.take {l : List (Int × (Int × Int))} (g : GB l) (i : Nat) : GB (l.take i) := fun x hx => g x (List.mem_of_mem_take hx)
/-- a share over a sum -/
structure ShB (M : Int) (q : Int × Int) (c : Int) : Prop where
  ra : q.1 * M = c * q.2
  pos : 0 < q.2
  s1 : Sz 120 q.1
  s2 : Sz 120 q.2
theorem acc_gen (M : Int) : ∀ {r ws : List Int} {qs : List (Int × Int)}, Paired (ShB M) qs ws → (acc (r.zip qs)).1 * M = Fr.dot r ws * (acc (r.zip qs)).2 := by
  have go : ∀ (r : List Int) {ws : List Int} {qs : List (Int × Int)} (a : Int × Int) (d : Int), Paired (ShB M) qs ws → a.1 * M = d * a.2 → ((r.zip qs).foldl stp a).1 * M = (d + Fr.dot r ws) * ((r.zip qs).foldl stp a).2 := by
    intro r
    induction r with
    | nil =>
      intro ws qs a d _ h
      have e : Fr.dot [] ws = 0 := by cases ws <;> rfl
      rw [e]
      simpa using h
    | cons x r ih =>
      intro ws qs a d hp h
      cases hp with
      | nil =>
        show a.1 * M = (d + 0) * a.2
        rw [Int.add_zero]; exact h
      | @cons q w qs ws hq hp =>
        show ((r.zip qs).foldl stp (stp a (x, q))).1 * M = _
        have hr := hq.ra
        rw [ih (stp a (x, q)) (d + x * w) hp ?_]
        · show (d + x * w + Fr.dot r ws) * _ = (d + (x * w + Fr.dot r ws)) * _
          rw [Int.add_assoc]
          rfl
        · unfold stp
          simp only
          grind
  intro r ws qs hp
  have := go r (0, 1) 0 hp (by simp)
  rw [Int.zero_add] at this
  exact this
theorem shB_gb {M : Int} {r ws : List Int} {qs : List (Int × Int)} (hp : Paired (ShB M) qs ws) (hr : ∀ x ∈ r, Sz 9 x) : GB (r.zip qs) := fun x hx => by
  have h1 := List.of_mem_zip hx
  obtain ⟨_, _, h2⟩ := hp.mem2 h1.2
  exact ⟨hr _ h1.1, h2.pos, h2.s1, h2.s2⟩
def sp_lsumB : Sp := fun vs H Q _ => ∃ (a b : Addr) (r : List Int) (qs : List (Int × Int)) (ws : List Int) (M : Int), vs = [.ref a, .ref b] ∧ H a = some (.lst (r.map V.int)) ∧ IsFrs H b qs ∧ Paired (ShB M) qs ws ∧ qs.length ≤ 16 ∧ (∀ x ∈ r, Sz 9 x) ∧ 0 < M ∧ ∀ p H', New H H' p (.tup [.int (Fr.mk (Fr.dot r ws) M).1, .int (Fr.mk (Fr.dot r ws) M).2]) → Q (.ref p) H'
theorem ok__law_sum__B (F : FunM K mg "_law_sum" s__law_sum ["_law_worths", "_law_shares"]) (T : Blt mg) (G__law_made : Def P w K mg base "_law_made" ["_law_a", "_law_b"] 2 sp_lmade) : Def P w K mg base "_law_sum" ["_law_worths", "_law_shares"] 3 sp_lsumB := by
  have S := sc__law_sum
  refine Def.of F S (fun vs H Q E h => ?_) (fun f cdv A outer s H vs Q E hr h => ?_)
  · obtain ⟨a, b, r, qs, ws, M, rfl, _⟩ := h
    rfl
  · obtain ⟨a, b, r, qs, ws, M, rfl, ha, hB, hsh, h16, hb, hM, k⟩ := h
    obtain ⟨ys, hbb, pb⟩ := id hB
    have gz := shB_gb hsh hb
    have zl : (r.zip qs).length ≤ 16 := by rw [List.length_zip]; omega
    refine ⟨_, (pss_cons (ps_asg (pe_tup (pa_cons pe_int (pa_cons pe_int pa_nil st_Constant) st_Constant)) (pgT K (n := 2) (pgs_cons (pg_name (i := 2) S.nd rfl (Or.inl rfl)) (pgs_cons (pg_name (i := 3) S.nd rfl (Or.inl rfl)) pgs_nil))))
      (pss_cons (ps_for PassesOwn.never rfl (piZip K rfl T.zip_ (pa_cons (pv 0) (pa_cons (pv 1) pa_nil st_Name) st_Name)) (pgT K (n := 2) (pgs_cons (pg_name (i := 4) S.nd rfl (Or.inl rfl)) (pgs_cons (pg_name (i := 5) S.nd rfl (Or.inl rfl)) pgs_nil)))
        (pss_cons (ps_set (i := 2) S.nd rfl (Or.inl rfl) (pe_op op_add (pe_op op_mulB (pv 2) (pe_ix (ixT K) (pv 5) pe_int (fun _ _ => rfl))) (pe_op op_mulB (pe_op op_mulB (pv 4) (pe_ix (ixT K) (pv 5) pe_int (fun _ _ => rfl))) (pv 3))))
      (pss_one (ps_set (i := 3) S.nd rfl (Or.inl rfl) (pe_op op_mulB (pv 3) (pe_ix (ixT K) (pv 5) pe_int (fun _ _ => rfl)))))))
      (pss_one (ps_ret (pe_def G__law_made (hr.mono (by decide)) rfl (pa_cons (pv 2) (pa_cons (pv 3) pa_nil st_Name) st_Name) (he := st_Name)))))), ?_⟩
    refine ⟨(by show 2 ≤ sizeLine; decide), fun t ht => ⟨t, _, rfl, SqT.of upd_same, rfl, _, _, rfl, _, _, rfl, rfl, ?_⟩⟩
    have s0 : Same H (upd H t (.tup [.int 0, .int 1])) := same_upd ht
    refine ⟨_, rfl, _, rfl, a, b, rfl, ⟨_, SqL.of (s0 _ _ ha)⟩, ⟨_, SqL.of (s0 _ _ hbb)⟩, for_zip (K := K) (a := a) (b := b) (xs := r.map V.int) (ys := ys) (fun i σ H' => ∃ (o1 o2 : Option V), σ = [some (.ref a), some (.ref b), some (.int (acc ((r.zip qs).take i)).1), some (.int (acc ((r.zip qs).take i)).2), o1, o2] ∧ Same H H')
        ⟨_, _, rfl, s0⟩ ?_ ?_ ?_⟩
    · rintro i σ H' ⟨_, _, _, s1⟩
      exact ⟨SqL.of (s1 _ _ ha), SqL.of (s1 _ _ hbb)⟩
    · rintro i x y p σ H' hx hy hp ⟨o1, o2, rfl, s1⟩
      obtain ⟨f2, e2, c2, rfl, h2⟩ := pb.get2 hy
      rw [List.getElem?_map] at hx
      obtain ⟨u, hu, rfl⟩ := Option.map_eq_some_iff.mp hx
      have mq := List.mem_of_getElem? e2
      have ez : (r.zip qs)[i]? = some (u, f2) := List.getElem?_zip_eq_some.mpr ⟨hu, e2⟩
      have gt := gz.take i
      have lt : ((r.zip qs).take i).length ≤ 16 := by rw [List.length_take]; omega
      have za : Sz 2100 _ := (acc_szB _ _ rfl gt).2.1.mono (by omega)
      have zd : Sz 2100 _ := (acc_szB _ _ rfl gt).2.2.mono (by omega)
      have zu := hb u (List.mem_of_getElem? hu)
      obtain ⟨_, _, hsq⟩ := hsh.mem2 mq
      have z1 := hsq.s1
      have z2 := hsq.s2
      have s2 := s1.trans (same_upd (o := .tup [.int u, .ref c2]) hp)
      have h2' := s2 _ _ h2
      refine ⟨p, _, rfl, SqT.of upd_same, rfl, _, _, rfl, _, _, rfl, rfl, ?_⟩
      refine ⟨_, rfl, _, rfl, _, _, _, _, rfl, rfl, SqT.of h2', rfl, _, _, rfl, rfl, ⟨up za, up z2⟩, ?_⟩
      refine ⟨_, rfl, _, rfl, _, _, _, _, rfl, rfl, SqT.of h2', rfl, _, _, rfl, rfl, ⟨up zu, up z1⟩, _, rfl, _, _, rfl, rfl, ⟨(zu.mul z1).mono (by decide), up zd⟩, _, _, rfl, rfl, ?_⟩
      refine ⟨_, rfl, _, rfl, _, _, _, _, rfl, rfl, SqT.of h2', rfl, _, _, rfl, rfl, ⟨up zd, up z2⟩, ?_⟩
      refine ⟨some (.int u), some (.ref c2), ?_, s2⟩
      rw [acc_take ez]
      rfl
    · rintro σ H' ⟨o1, o2, rfl, s1⟩
      have l1 : (r.zip qs).take (min (r.map V.int).length ys.length) = r.zip qs := List.take_of_length_le (by rw [List.length_zip, pb.length, List.length_map]; exact Nat.le_refl _)
      rw [l1]
      have ap := (acc_szB _ _ rfl gz).1
      have az : Sz 2100 _ := (acc_szB _ _ rfl gz).2.2.mono (by omega)
      refine ⟨_, rfl, _, rfl, _, _, rfl, ap, az.mono (by decide), fun p hp => ?_⟩
      rw [Fr.mk_cross ap hM (acc_gen M hsh)]
      exact k p _ (New.of s1 hp)
theorem dot_app : ∀ (xs ys xs' ys' : List Int), xs.length = ys.length → Fr.dot (xs ++ xs') (ys ++ ys') = Fr.dot xs ys + Fr.dot xs' ys'
  | [], [], xs', ys', _ => by simp [Fr.dot]
  | x :: xs, y :: ys, xs', ys', h => by
    have := dot_app xs ys xs' ys' (by simpa using h)
    simp only [List.cons_append, Fr.dot]
    omega
theorem dot_scale (u : Int) : ∀ (xs ys : List Int), Fr.dot xs (ys.map fun y => y * u) = Fr.dot xs ys * u
  | [], [] => by simp [Fr.dot]
  | [], _ :: _ => by simp [Fr.dot]
  | _ :: _, [] => by simp [Fr.dot]
  | x :: xs, y :: ys => by
    have := dot_scale u xs ys
    simp only [List.map_cons, Fr.dot, Int.add_mul, this, Int.mul_assoc]
def fl (us ws : List Int) : List Int := us.flatMap fun u => ws.map fun x => x * u
theorem dot_flat (ws : List Int) : ∀ (U : List (List Int)) (us : List Int), U.length = us.length → (∀ r ∈ U, r.length = ws.length) → Fr.dot (U.flatMap fun r => r) (fl us ws) = Fr.dot (U.map fun r => Fr.dot r ws) us
  | [], [], _, _ => by simp [Fr.dot, fl]
  | r :: U, u :: us, h, hr => by
    have := dot_flat ws U us (by simpa using h) fun z hz => hr z (by simp [hz])
    unfold fl at *
    rw [List.flatMap_cons, List.flatMap_cons, List.map_cons, dot_app _ _ _ _ (by rw [List.length_map]; exact hr r (by simp)), dot_scale, this]
    rfl
theorem fr_at {l : Addr} {H : Hp} {v : V} {p : Int × Int} {xs : List V} {o : HO} (hl : H l = some (.lst xs)) (h : IsFr H v p) : IsFr (upd H l o) v p := by
  obtain ⟨b, e, q⟩ := h
  refine ⟨b, e, ?_⟩
  rw [upd_ne]
  · exact q
  · intro e'
    rw [e', hl] at q
    cases q
theorem frs_at {H : Hp} {a : Addr} {qs : List (Int × Int)} (h : IsFrs H a qs) {i : Nat} (hi : i < qs.length) : ∃ vs b q, H a = some (.lst vs) ∧ vs.length = qs.length ∧ atI vs (i : Int) = some (.ref b) ∧ qs[i]? = some q ∧ H b = some (.tup [.int q.1, .int q.2]) := by
  obtain ⟨vs, ha, pr⟩ := h
  have hl : vs.length = qs.length := pr.length
  have hv : i < vs.length := by omega
  obtain ⟨q, hq, b, eb, hb⟩ := pr.get2 (List.getElem?_eq_getElem hv)
  exact ⟨vs, b, q, ha, hl, by rw [atI_get' hv, eb], hq, hb⟩
def sp_both : Sp := fun vs H Q _ => ∃ (a b c : Addr) (U : List (List Int)) (us ws : List Int) (R S : Int) (m n : Nat), vs = [.ref a, .ref b, .ref c] ∧ IsTab H a U ∧ Gd U m n ∧ IsFrs H b (mks us R) ∧ GQ (mks us R) ∧ us.length = m ∧ 0 < R ∧ IsFrs H c (mks ws S) ∧ GQ (mks ws S) ∧ ws.length = n ∧ 0 < S ∧
  ∀ p H', New H H' p (.tup [.int (Fr.mk (Fr.dot (U.map fun r => Fr.dot r ws) us) (S * R)).1, .int (Fr.mk (Fr.dot (U.map fun r => Fr.dot r ws) us) (S * R)).2]) → Q (.ref p) H'
theorem shB_of {u x R S : Int} (hR : 0 < R) (hS : 0 < S) (z1 : Sz 60 (Fr.mk u R).1) (z2 : Sz 60 (Fr.mk u R).2) (z3 : Sz 60 (Fr.mk x S).1) (z4 : Sz 60 (Fr.mk x S).2) : ShB (S * R) ((Fr.mk u R).1 * (Fr.mk x S).1, (Fr.mk u R).2 * (Fr.mk x S).2) (x * u) := by
  have r1 := Fr.mk_ratio (a := u) hR
  have r2 := Fr.mk_ratio (a := x) hS
  refine ⟨?_, Int.mul_pos (Fr.mk_pos hR) (Fr.mk_pos hS), z1.mul z3, z2.mul z4⟩
  generalize Fr.mk u R = p at *
  generalize Fr.mk x S = q at *
  obtain ⟨p1, p2⟩ := p
  obtain ⟨q1, q2⟩ := q
  show p1 * q1 * (S * R) = x * u * (p2 * q2)
  have e : p1 * q1 * (S * R) = (p1 * R) * (q1 * S) := by ac_rfl
  rw [e, show p1 * R = u * p2 from r1, show q1 * S = x * q2 from r2]
  ac_rfl
abbrev s__law_both : Stmt := top 58
theorem sc__law_both : FnScope ["_law_table_here", "_law_mine", "_law_theirs", "_law_worths", "_law_shares", "_law_row", "_law_column"] ["_law_table_here", "_law_mine", "_law_theirs"] (defScope s__law_both) := ⟨rfl, rfl, rfl, by decide +kernel, rfl, by decide +kernel, by decide +kernel⟩
theorem ok__law_both (F : FunM K mg "_law_both" s__law_both ["_law_table_here", "_law_mine", "_law_theirs"]) (T : Blt mg) (G__law_sum__B : Def P w K mg base "_law_sum" ["_law_worths", "_law_shares"] 3 sp_lsumB) : Def P w K mg base "_law_both" ["_law_table_here", "_law_mine", "_law_theirs"] 4 sp_both := by
  have S := sc__law_both
  refine Def.of F S (fun vs H Q E h => ?_) (fun f cdv A outer s H vs Q E hr h => ?_)
  · obtain ⟨a, b, c, U, us, ws, R, Z, m, n, rfl, _⟩ := h
    rfl
  · obtain ⟨a, b, c, U, us, ws, R, Z, m, n, rfl, hU, g, hB, gb, ubl, R0, hC, gc, wcl, Z0, k⟩ := h
    have m4 := g.m4
    have n4 := g.n4
    have flen : ∀ i, (fl (us.take i) ws).length = (us.take i).length * n := fun i => flat_len _ n fun x _ => by rw [List.length_map, wcl]
    have Ulen : ∀ i, ((U.take i).flatMap fun r => r).length = (U.take i).length * n := fun i => flat_len _ n fun r hr' => g.cols r (List.mem_of_mem_take hr')
    refine ⟨_, (pss_cons (ps_set (i := 3) S.nd rfl (Or.inl rfl) (pe_lst pa_nil))
      (pss_cons (ps_set (i := 4) S.nd rfl (Or.inl rfl) (pe_lst pa_nil))
      (pss_cons (ps_for PassesOwn.never rfl (pi_range1 rfl T.range_ (pa_cons (pe_callB (lenK K) (by rfl) T.len_ bt_len (pa_cons (pv 1) pa_nil st_Name) (he := st_Name)) pa_nil st_Call)) (pg_name (i := 5) S.nd rfl (Or.inl rfl))
        (pss_one (ps_for PassesOwn.never rfl (pi_range1 rfl T.range_ (pa_cons (pe_callB (lenK K) (by rfl) T.len_ bt_len (pa_cons (pv 2) pa_nil st_Name) (he := st_Name)) pa_nil st_Call)) (pg_name (i := 6) S.nd rfl (Or.inl rfl))
        (pss_cons (ps_expr (pe_bm PySem.F.plainAttrs_list PySem.F.slot_list_append PySem.F.type_list_append mt_append (pv 3) (pa_cons (pe_ix (ixL K) (pe_ix (ixL K) (pv 0) (pv 5) (fun _ _ => rfl)) (pv 6) (fun _ _ => rfl)) pa_nil st_Subscript)))
      (pss_one (ps_expr (pe_bm PySem.F.plainAttrs_list PySem.F.slot_list_append PySem.F.type_list_append mt_append (pv 4) (pa_cons (pe_tup (pa_cons (pe_op op_mulB (pe_ix (ixT K) (pe_ix (ixL K) (pv 1) (pv 5) (fun _ _ => rfl)) pe_int (fun _ _ => rfl)) (pe_ix (ixT K) (pe_ix (ixL K) (pv 2) (pv 6) (fun _ _ => rfl)) pe_int (fun _ _ => rfl))) (pa_cons (pe_op op_mulB (pe_ix (ixT K) (pe_ix (ixL K) (pv 1) (pv 5) (fun _ _ => rfl)) pe_int (fun _ _ => rfl)) (pe_ix (ixT K) (pe_ix (ixL K) (pv 2) (pv 6) (fun _ _ => rfl)) pe_int (fun _ _ => rfl))) pa_nil st_BinOp) st_BinOp)) pa_nil st_Tuple))))))))
      (pss_one (ps_ret (pe_def G__law_sum__B (hr.mono (by decide)) rfl (pa_cons (pv 3) (pa_cons (pv 4) pa_nil st_Name) st_Name) (he := st_Name))))))), ?_⟩
    refine ⟨Nat.zero_le _, fun lw hlw => ⟨Nat.zero_le _, fun ls hls => ?_⟩⟩
    have hls0 : H ls = none := (same_upd hlw).free hls
    have nls : lw ≠ ls := fun e => by rw [← e, upd_same] at hls; cases hls
    have s0 : Same H (upd (upd H lw (.lst [])) ls (.lst [])) := (same_upd hlw).trans (same_upd hls)
    have q1 : upd (upd H lw (.lst [])) ls (.lst []) lw = some (.lst []) := same_upd hls _ _ upd_same
    have q2 : upd (upd H lw (.lst [])) ls (.lst []) ls = some (.lst []) := upd_same
    generalize upd (upd H lw (.lst [])) ls (.lst []) = H0 at s0 q1 q2 ⊢
    obtain ⟨vb, hbb, pb⟩ := id hB
    obtain ⟨vc, hcc, pc⟩ := id hC
    have bl : vb.length = m := by rw [pb.length, mks_len, ubl]
    have cl : vc.length = n := by rw [pc.length, mks_len, wcl]
    refine ⟨_, rfl, b, vb, rfl, .inl (SqL.of (s0 _ _ hbb)), _, rfl, by omega, by omega, for_range (n := vb.length) (fun i σ H' => ∃ o5 o6 vs qs, σ = [some (.ref a), some (.ref b), some (.ref c), some (.ref lw), some (.ref ls), o5, o6] ∧ Same H H' ∧ H' lw = some (.lst (((U.take i).flatMap fun r => r).map V.int)) ∧ H' ls = some (.lst vs) ∧ Paired (IsFr H') vs qs ∧ Paired (ShB (Z * R)) qs (fl (us.take i) ws))
      ⟨_, _, [], [], rfl, s0, q1, q2, .nil, .nil⟩ ?_ ?_⟩
    · rintro i σ H1 hi ⟨o5, o6, vs, qs, rfl, s1, w1, w2, pv, pq⟩
      have im : i < m := by omega
      refine ⟨_, rfl, c, vc, rfl, .inl (SqL.of (s1 _ _ hcc)), _, rfl, by omega, by omega, for_range (n := vc.length) (fun j σ H' => ∃ o6 vs qs, σ = [some (.ref a), some (.ref b), some (.ref c), some (.ref lw), some (.ref ls), some (.int (0 + (i : Int))), o6] ∧ Same H H' ∧ H' lw = some (.lst (((U.take i).flatMap (fun r => r) ++ (U.getD i []).take j).map V.int)) ∧ H' ls = some (.lst vs) ∧ Paired (IsFr H') vs qs ∧ Paired (ShB (Z * R)) qs (fl (us.take i) ws ++ (ws.take j).map fun x => x * us.getD i 0))
        ⟨_, vs, qs, rfl, s1, by rw [List.take_zero, List.append_nil]; exact w1, w2, pv, by rw [List.take_zero, List.map_nil, List.append_nil]; exact pq⟩ ?_ ?_⟩
      · rintro j σ H2 hj ⟨o6', vs', qs', rfl, s2, x1, x2, pv', pq'⟩
        have jn : j < n := by omega
        obtain ⟨va, rb, ha, hv, at1, hrb⟩ := hU.row (i := i) (by rw [g.rows]; exact im)
        have grow := g.row im
        obtain ⟨vb', p1, f1, hb', _, at2, e2, hp1⟩ := frs_at hB (i := i) (by rw [mks_len, ubl]; exact im)
        obtain ⟨u, hu, rfl⟩ := mks_get e2
        obtain ⟨vc', p2, f2, hc', _, at3, e3, hp2⟩ := frs_at hC (i := j) (by rw [mks_len, wcl]; exact jn)
        obtain ⟨x, hx, rfl⟩ := mks_get e3
        have eu : us.getD i 0 = u := getD_of hu
        have lim : i * n ≤ 3 * 4 := Nat.mul_le_mul (by omega) n4
        have tk : (U.take i).length = i := by rw [List.length_take, g.rows]; omega
        have tk2 : (us.take i).length = i := by rw [List.length_take, ubl]; omega
        have l1 : (((U.take i).flatMap (fun r => r) ++ (U.getD i []).take j).map V.int).length ≤ 1000 := by
          rw [List.length_map, List.length_append, Ulen, tk, List.length_take, grow.2]
          omega
        have l2 : vs'.length ≤ 1000 := by
          rw [pv'.length, pq'.length, List.length_append, flen, tk2, List.length_map, List.length_take, wcl]
          omega
        have mu := List.mem_of_getElem? e2
        have mx := List.mem_of_getElem? e3
        have z1 := gb.s1 _ mu
        have z2' := gb.s2 _ mu
        have z3 := gc.s1 _ mx
        have z4 := gc.s2 _ mx
        have sh := shB_of R0 Z0 z1 z2' z3 z4
        refine ⟨_, rfl, .inl ⟨rfl, _, SqL.of x1⟩, _, rfl, _, rfl, a, va, _, _, rfl, rfl, SqL.of (s2 _ _ ha), (by rw [Int.zero_add]; exact at1), _, rfl, rb, _, _, _, rfl, rfl, SqL.of (s2 _ _ hrb), (by rw [Int.zero_add]; exact atI_int (by rw [grow.2]; exact jn)), lw, _, _, rfl, rfl, x1, small1000 l1, ?_⟩
        have s3 := same_at (o := .lst (((U.take i).flatMap (fun r => r) ++ (U.getD i []).take j).map V.int ++ [.int ((U.getD i []).getD j 0)])) s2 hlw
        have y1 : upd H2 lw (.lst (((U.take i).flatMap (fun r => r) ++ (U.getD i []).take j).map V.int ++ [.int ((U.getD i []).getD j 0)])) lw = some _ := upd_same
        have y2 : upd H2 lw (.lst (((U.take i).flatMap (fun r => r) ++ (U.getD i []).take j).map V.int ++ [.int ((U.getD i []).getD j 0)])) ls = some (.lst vs') := by rw [upd_ne (Ne.symm nls)]; exact x2
        have pv3 := pv'.imp2 fun _ _ z => fr_at (o := .lst (((U.take i).flatMap (fun r => r) ++ (U.getD i []).take j).map V.int ++ [.int ((U.getD i []).getD j 0)])) x1 z
        generalize upd H2 lw (.lst (((U.take i).flatMap (fun r => r) ++ (U.getD i []).take j).map V.int ++ [.int ((U.getD i []).getD j 0)])) = H3 at s3 y1 y2 pv3 ⊢
        refine ⟨_, rfl, .inl ⟨rfl, _, SqL.of y2⟩, ?_⟩
        refine ⟨_, rfl, _, rfl, b, vb', _, _, rfl, rfl, SqL.of (s3 _ _ hb'), (by rw [Int.zero_add]; exact at2), p1, _, _, _, rfl, rfl, SqT.of (s3 _ _ hp1), rfl, ?_⟩
        refine ⟨_, rfl, _, rfl, c, vc', _, _, rfl, rfl, SqL.of (s3 _ _ hc'), (by rw [Int.zero_add]; exact at3), p2, _, _, _, rfl, rfl, SqT.of (s3 _ _ hp2), rfl, _, _, rfl, rfl, ⟨up z1, up z3⟩, ?_⟩
        refine ⟨_, rfl, _, rfl, b, vb', _, _, rfl, rfl, SqL.of (s3 _ _ hb'), (by rw [Int.zero_add]; exact at2), p1, _, _, _, rfl, rfl, SqT.of (s3 _ _ hp1), rfl, ?_⟩
        refine ⟨_, rfl, _, rfl, c, vc', _, _, rfl, rfl, SqL.of (s3 _ _ hc'), (by rw [Int.zero_add]; exact at3), p2, _, _, _, rfl, rfl, SqT.of (s3 _ _ hp2), rfl, _, _, rfl, rfl, ⟨up z2', up z4⟩, ?_⟩
        refine ⟨(by show 2 ≤ sizeLine; decide), fun q hq => ?_⟩
        have s4 := s3.trans (same_upd (o := .tup [.int ((Fr.mk u R).1 * (Fr.mk x Z).1), .int ((Fr.mk u R).2 * (Fr.mk x Z).2)]) hq)
        have z2 : upd H3 q (.tup [.int ((Fr.mk u R).1 * (Fr.mk x Z).1), .int ((Fr.mk u R).2 * (Fr.mk x Z).2)]) ls = some (.lst vs') := same_upd hq _ _ y2
        have zz1 := same_upd (o := .tup [.int ((Fr.mk u R).1 * (Fr.mk x Z).1), .int ((Fr.mk u R).2 * (Fr.mk x Z).2)]) hq _ _ y1
        have zq : upd H3 q (.tup [.int ((Fr.mk u R).1 * (Fr.mk x Z).1), .int ((Fr.mk u R).2 * (Fr.mk x Z).2)]) q = some _ := upd_same
        have pv4 := pv3.imp2 fun _ _ z => z.mono (same_upd (o := .tup [.int ((Fr.mk u R).1 * (Fr.mk x Z).1), .int ((Fr.mk u R).2 * (Fr.mk x Z).2)]) hq)
        refine ⟨ls, vs', .ref q, rfl, rfl, z2, small1000 l2, ?_⟩
        refine ⟨_, vs' ++ [.ref q], qs' ++ [((Fr.mk u R).1 * (Fr.mk x Z).1, (Fr.mk u R).2 * (Fr.mk x Z).2)], rfl, same_at s4 hls0, ?_, upd_same, ?_, ?_⟩
        · rw [upd_ne nls, zz1, List.take_add_one, getD_lt 0 (show j < (U.getD i []).length by rw [grow.2]; exact jn), ← List.append_assoc]
          simp
        · exact (pv4.imp2 fun _ _ z => fr_at z2 z).app2 (.cons (fr_at z2 ⟨q, rfl, zq⟩) .nil)
        · rw [List.take_add_one, hx, List.map_append, ← List.append_assoc]
          refine pq'.app2 (.cons ?_ .nil)
          rw [eu]
          exact sh
      · rintro σ H2 ⟨o6', vs', qs', rfl, s2, x1, x2, pv', pq'⟩
        have grow := g.row im
        refine ⟨_, _, vs', qs', rfl, s2, ?_, x2, pv', ?_⟩
        · have e1 : (U.getD i []).take n = U.getD i [] := List.take_of_length_le (by rw [grow.2]; exact Nat.le_refl _)
          have e2 : U.take (i + 1) = U.take i ++ [U.getD i []] := by
            rw [List.take_add_one, getD_lt [] (show i < U.length by rw [g.rows]; exact im)]
            rfl
          rw [x1, cl, e1, e2, List.flatMap_append, List.flatMap_singleton]
        · have e1 : ws.take n = ws := List.take_of_length_le (by rw [wcl]; exact Nat.le_refl _)
          have e2 : us.take (i + 1) = us.take i ++ [us.getD i 0] := by
            rw [List.take_add_one, getD_lt 0 (show i < us.length by rw [ubl]; exact im)]
            rfl
          rw [cl, e1] at pq'
          unfold fl at pq' ⊢
          rw [e2, List.flatMap_append, List.flatMap_singleton]
          exact pq'
    · rintro σ H1 ⟨o5, o6, vs, qs, rfl, s1, w1, w2, pv, pq⟩
      rw [bl, List.take_of_length_le (by rw [g.rows]; exact Nat.le_refl _)] at w1
      rw [bl, List.take_of_length_le (by rw [ubl]; exact Nat.le_refl _)] at pq
      have l1 : (U.flatMap fun r => r).length = m * n := by rw [flat_len _ n g.cols, g.rows]
      have l2 : (fl us ws).length = m * n := by
        unfold fl
        rw [flat_len _ n fun x _ => by rw [List.length_map, wcl], ubl]
      have lim : m * n ≤ 4 * 4 := Nat.mul_le_mul m4 n4
      refine ⟨_, rfl, _, rfl, lw, ls, _, qs, _, Z * R, rfl, w1, ⟨vs, w2, pv⟩, pq, by rw [pq.length, l2]; omega, fun x hx => ?_, Int.mul_pos Z0 R0, fun p H2 nw => ?_⟩
      · obtain ⟨r, hr', hx'⟩ := List.mem_flatMap.mp hx
        exact g.sz hr' x hx'
      · rw [dot_flat ws U us (by rw [g.rows, ubl]) fun r hr' => by rw [g.cols r hr', wcl]] at nw
        exact k p H2 (nw.pre s1)
theorem rev_get {r : List Int} {n j : Nat} (hr : r.length = n) (hj : j < n) : r.reverse.getD j 0 = r.getD (n - 1 - j) 0 := by
  rw [List.getD_eq_getElem?_getD, List.getElem?_reverse (by omega), List.getD_eq_getElem?_getD, hr]
theorem revl_get {U : List (List Int)} {m i : Nat} (hU : U.length = m) (hi : i < m) : U.reverse.getD i [] = U.getD (m - 1 - i) [] := by
  rw [List.getD_eq_getElem?_getD, List.getElem?_reverse (by omega), List.getD_eq_getElem?_getD, hU]
theorem paired_rev {α β : Type} {F : α → β → Prop} {l : List α} {r : List β} (h : Paired F l r) : Paired F l.reverse r.reverse := by
  induction h with
  | nil => exact .nil
  | cons h t ih =>
    rw [List.reverse_cons, List.reverse_cons]
    exact ih.app2 (.cons h .nil)
/-! ### one table and itself the other way round nought -/
structure Mx (xs : List Int) (X : Int) (m : Nat) : Prop where
  pos : 0 < X
  gq : GQ (mks xs X)
  len : xs.length = m
  nn : ∀ x ∈ xs, 0 ≤ x
  sum : xs.sum = X
def fx (xs : List Int) : Nat → Int := fun i => xs.getD i 0
theorem cor_mx {U : List (List Int)} {m n : Nat} {R C : List Nat} (g : Gd U m n) (g2 : Gm.Good2 m n R C) (k : Gm.Corner U m n R C) : Mx (wsM U n R C) (Gm.smM U R C) n := by
  obtain ⟨a1, a2, a3⟩ := cor_ws g g2 k.ne k.pos
  exact ⟨Gm.sgn_pos k.ne, a3, wsM_len .., a1, a2⟩
theorem mks_rev (xs : List Int) (X : Int) : (mks xs X).reverse = mks xs.reverse X := by
  unfold mks
  rw [List.map_reverse]
theorem Mx.rev {xs : List Int} {X : Int} {m : Nat} (h : Mx xs X m) : Mx xs.reverse X m := by
  refine ⟨h.pos, ?_, by rw [List.length_reverse]; exact h.len, fun x hx => h.nn x (List.mem_reverse.mp hx), by rw [List.sum_reverse]; exact h.sum⟩
  rw [← mks_rev]
  exact ⟨fun q hq => h.gq.pr q (List.mem_reverse.mp hq), fun q hq => h.gq.s1 q (List.mem_reverse.mp hq), fun q hq => h.gq.s2 q (List.mem_reverse.mp hq), by rw [List.length_reverse]; exact h.gq.len⟩
theorem fx_list {xs : List Int} {m : Nat} (h : xs.length = m) : xs = (List.range m).map (fx xs) := by
  rw [← h]
  exact (range_getD 0 xs).symm
theorem fx_rev {xs : List Int} {m i : Nat} (h : xs.length = m) (hi : i < m) : fx xs.reverse i = fx xs (m - 1 - i) := rev_get h hi
theorem sum_fx : ∀ (xs : List Int), xs.sum = Gm.sm xs.length (fx xs) := by
  intro xs
  have h := dot_ones xs
  have e : xs.map (fun _ => (1 : Int)) = xs.map fun _ => 1 := rfl
  have h2 := dot_sm xs.length (xs.map fun _ => 1) (fx xs) (List.length_map ..)
  rw [← fx_list rfl, h] at h2
  rw [h2]
  refine Gm.sm_congr fun j hj => ?_
  have : (xs.map fun _ => (1 : Int)).getD j 0 = 1 := by
    rw [List.getD_eq_getElem?_getD, List.getElem?_map, List.getElem?_eq_getElem hj]
    rfl
  rw [this, Int.one_mul]
theorem Mx.sm {xs : List Int} {X : Int} {m : Nat} (h : Mx xs X m) : Gm.sm m (fx xs) = X := by
  rw [← h.sum, sum_fx, h.len]
theorem Mx.fn {xs : List Int} {X : Int} {m : Nat} (h : Mx xs X m) {i : Nat} (hi : i < m) : 0 ≤ fx xs i := h.nn _ (by
  unfold fx
  rw [List.getD_eq_getElem?_getD, List.getElem?_eq_getElem (by rw [h.len]; exact hi)]
  exact List.getElem_mem _)
theorem dot_fx {U : List (List Int)} {m n : Nat} (g : Gd U m n) {i : Nat} (hi : i < m) {ys : List Int} (hy : ys.length = n) : Fr.dot (U.getD i []) ys = Gm.sm n fun j => Gm.cell U i j * fx ys j := by
  have := dot_gain g hi (fx ys)
  rw [← fx_list hy] at this
  exact this
theorem mk_at {xs : List Int} {X : Int} {m i : Nat} (h : Mx xs X m) (hi : i < m) : (mks xs X).getD i (0, 0) = (0, 1) ↔ fx xs i = 0 := by
  have e : (mks xs X).getD i (0, 0) = Fr.mk (fx xs i) X := by
    refine getD_of ?_
    unfold mks
    rw [List.getElem?_map, List.getElem?_eq_getElem (by rw [h.len]; exact hi)]
    unfold fx
    rw [List.getD_eq_getElem?_getD, List.getElem?_eq_getElem (by rw [h.len]; exact hi)]
    rfl
  rw [e]
  constructor
  · intro z
    have := Fr.mk_ratio (a := fx xs i) h.pos
    rw [z] at this
    simp at this
    exact this.symm
  · intro z
    rw [z, Fr.mk_zero h.pos]
theorem ab_int {U : List (List Int)} {m n : Nat} {xs ys : List Int} {X S : Int} (g : Gd U m n) (hx : Mx xs X m) (hy : Mx ys S n) :
    abB U m (mks xs X) (mks ys S) = true ↔ ∀ i, i < m → fx xs i = 0 ∨ ∀ i', i' < m → Gm.sm n (fun j => Gm.cell U i' j * fx ys j) ≤ Gm.sm n (fun j => Gm.cell U i j * fx ys j) := by
  unfold abB
  rw [List.all_eq_true]
  have best : ∀ i, i < m → (bestB U (mks ys S) i = true ↔ ∀ i', i' < m → Gm.sm n (fun j => Gm.cell U i' j * fx ys j) ≤ Gm.sm n (fun j => Gm.cell U i j * fx ys j)) := fun i hi => by
    unfold bestB
    rw [Bool.not_eq_true', List.any_eq_false]
    constructor
    · intro h i' hi'
      have := h _ (g.row hi').1
      rw [rowF_mks hy.pos (g.sz (g.row hi).1) hy.gq, rowF_mks hy.pos (g.sz (g.row hi').1) hy.gq] at this
      unfold ltQ at this
      rw [lt_scale hy.pos, decide_eq_true_iff, dot_fx g hi hy.len, dot_fx g hi' hy.len] at this
      omega
    · intro h r hr'
      obtain ⟨i', hi', rfl⟩ := mem_getD' hr'
      rw [g.rows] at hi'
      rw [rowF_mks hy.pos (g.sz (g.row hi).1) hy.gq, rowF_mks hy.pos (g.sz (g.row hi').1) hy.gq]
      unfold ltQ
      rw [lt_scale hy.pos, decide_eq_true_iff, dot_fx g hi hy.len, dot_fx g hi' hy.len]
      have := h i' hi'
      omega
  constructor
  · intro h i hi
    have := h i (List.mem_range.mpr hi)
    rw [Bool.or_eq_true, decide_eq_true_iff] at this
    rcases this with z | z
    · exact .inl ((mk_at hx hi).mp z)
    · exact .inr ((best i hi).mp z)
  · intro h i hi
    have hi := List.mem_range.mp hi
    rw [Bool.or_eq_true, decide_eq_true_iff]
    rcases h i hi with z | z
    · exact .inl ((mk_at hx hi).mpr z)
    · exact .inr ((best i hi).mpr z)
def negT (U : List (List Int)) : List (List Int) := U.map fun r => r.map fun x => -x
theorem negT_good {U : List (List Int)} {m n : Nat} (g : Good U m n) : Good (negT U) m n := by
  refine ⟨g.m1, g.m4, g.n1, g.n4, by unfold negT; rw [List.length_map, g.rows], fun r hr => ?_, fun r hr x hx => ?_⟩
  · obtain ⟨r0, h0, rfl⟩ := List.mem_map.mp hr
    rw [List.length_map, g.cols r0 h0]
  · obtain ⟨r0, h0, rfl⟩ := List.mem_map.mp hr
    obtain ⟨y, hy, rfl⟩ := List.mem_map.mp hx
    have := g.num r0 h0 y hy
    omega
theorem cols_cell {U : List (List Int)} {m n i j : Nat} (g : Gd U m n) (hi : i < m) (hj : j < n) : Gm.cell (cols U n) j i = Gm.cell U i j := by
  show ((cols U n).getD j []).getD i 0 = (U.getD i []).getD j 0
  have e : (cols U n).getD j [] = U.map fun r => r.getD j 0 := by
    refine getD_of ?_
    unfold cols
    rw [List.getElem?_map, List.getElem?_range hj]
    rfl
  rw [e]
  exact map_getD (fun r => r.getD j 0) U 0 (by rw [g.rows]; exact hi)
theorem neg_get (r : List Int) (j : Nat) : (r.map fun x => -x).getD j 0 = - r.getD j 0 := by
  rw [List.getD_eq_getElem?_getD, List.getElem?_map, List.getD_eq_getElem?_getD]
  cases r[j]? <;> simp
theorem negT_cell {U : List (List Int)} {m n i : Nat} (g : Gd U m n) (hi : i < m) (j : Nat) : Gm.cell (negT U) i j = - Gm.cell U i j := by
  show ((negT U).getD i []).getD j 0 = - (U.getD i []).getD j 0
  rw [show (negT U).getD i [] = (U.getD i []).map fun x => -x from map_getD (fun r => r.map fun x => -x) U [] (by rw [g.rows]; exact hi), neg_get]
theorem st_sd {U : List (List Int)} {m n : Nat} {xs ys : List Int} {X S : Int} (gG : Good U m n) (hx : Mx xs X m) (hy : Mx ys S n) (h : stB U (negT U) m n (mks xs X) (mks ys S) = true) : ∃ N, Gm.Sd (Gm.cell U) m n N S (fx ys) X (fx xs) := by
  have g := good_gd gG
  have gn := good_gd (negT_good gG)
  unfold stB at h
  rw [Bool.and_eq_true, Bool.and_eq_true] at h
  have h1 := (ab_int g hx hy).mp h.1.2
  have h2 := (ab_int (cols_gd gn) hy hx).mp h.2
  refine Gm.Sd.of hy.pos hx.pos (fun j hj => hy.fn hj) (fun i hi => hx.fn hi) hy.sm hx.sm h1 fun j hj => ?_
  have e : ∀ j, j < n → (Gm.sm m fun i => Gm.cell (cols (negT U) n) j i * fx xs i) = -1 * Gm.sm m fun i => Gm.cell U i j * fx xs i := fun j hj => by
    rw [← Gm.sm_mul]
    exact Gm.sm_congr fun i hi => by rw [cols_cell gn hi hj, negT_cell g hi]; grind
  rcases h2 j hj with z | z
  · exact .inl z
  · refine .inr fun j' hj' => ?_
    have := z j' hj'
    rw [e j hj, e j' hj'] at this
    omega
theorem sd_st {U : List (List Int)} {m n : Nat} {xs ys : List Int} {X S N : Int} (gG : Good U m n) (hx : Mx xs X m) (hy : Mx ys S n) (h : Gm.Sd (Gm.cell U) m n N S (fx ys) X (fx xs)) : stB U (negT U) m n (mks xs X) (mks ys S) = true := by
  have g := good_gd gG
  have gn := good_gd (negT_good gG)
  unfold stB
  have e : ∀ j, j < n → (Gm.sm m fun i => Gm.cell (cols (negT U) n) j i * fx xs i) = -1 * Gm.sm m fun i => Gm.cell U i j * fx xs i := fun j hj => by
    rw [← Gm.sm_mul]
    exact Gm.sm_congr fun i hi => by rw [cols_cell gn hi hj, negT_cell g hi]; grind
  have h1 : abB U m (mks xs X) (mks ys S) = true := (ab_int g hx hy).mpr fun i hi => h.row_best hi
  have h2 : abB (cols (negT U) n) n (mks ys S) (mks xs X) = true := (ab_int (cols_gd gn) hy hx).mpr fun j hj => by
    rcases h.col_best hj with z | z
    · exact .inl z
    · refine .inr fun j' hj' => ?_
      have := z j' hj'
      rw [e j hj, e j' hj']
      omega
  rw [mixB_mks hx.pos hx.gq hx.len hx.nn hx.sum, mixB_mks hy.pos hy.gq hy.len hy.nn hy.sum, h1, h2]
  rfl
/-- what is got by both -/
theorem both_val {U : List (List Int)} {m n : Nat} {xs ys : List Int} {X S N : Int} (gG : Good U m n) (hx : Mx xs X m) (hy : Mx ys S n) (h : Gm.Sd (Gm.cell U) m n N S (fx ys) X (fx xs)) : Fr.mk (Fr.dot (U.map fun r => Fr.dot r ys) xs) (S * X) = Fr.mk N S := by
  have g := good_gd gG
  have e : Fr.dot (U.map fun r => Fr.dot r ys) xs = N * X := by
    have h1 := dot_sm m (U.map fun r => Fr.dot r ys) (fx xs) (by rw [List.length_map, g.rows])
    rw [← fx_list hx.len] at h1
    rw [h1, ← h.val]
    refine Gm.sm_congr fun i hi => ?_
    rw [map_getD (fun r => Fr.dot r ys) U 0 (by rw [g.rows]; exact hi), dot_fx g hi hy.len, Int.mul_comm]
  rw [e, Fr.mk_mul hx.pos]
theorem rev_good {U : List (List Int)} {m n : Nat} (g : Good U m n) : Good (U.reverse.map fun r => r.reverse) m n := by
  refine ⟨g.m1, g.m4, g.n1, g.n4, by rw [List.length_map, List.length_reverse, g.rows], fun r hr' => ?_, fun r hr' x hx => ?_⟩
  · obtain ⟨c, hc, rfl⟩ := List.mem_map.mp hr'
    rw [List.length_reverse, g.cols c (List.mem_reverse.mp hc)]
  · obtain ⟨c, hc, rfl⟩ := List.mem_map.mp hr'
    exact g.num c (List.mem_reverse.mp hc) x (List.mem_reverse.mp hx)
theorem rev_cell {U : List (List Int)} {m n i j : Nat} (g : Good U m n) (hi : i < m) (hj : j < n) : Gm.cell (U.reverse.map fun r => r.reverse) i j = Gm.cell U (m - 1 - i) (n - 1 - j) := by
  show ((U.reverse.map fun r => r.reverse).getD i []).getD j 0 = (U.getD (m - 1 - i) []).getD (n - 1 - j) 0
  have e1 : (U.reverse.map fun r => r.reverse).getD i [] = (U.reverse.getD i []).reverse := map_getD (fun r => r.reverse) U.reverse [] (by rw [List.length_reverse, g.rows]; exact hi)
  rw [e1, revl_get g.rows hi, rev_get ((good_gd g).row (show m - 1 - i < m by omega)).2 hj]
/-- told from the last -/
theorem sd_rev {U : List (List Int)} {m n : Nat} {xs ys : List Int} {X S N : Int} (gG : Good U m n) (hx : Mx xs X m) (hy : Mx ys S n) (h : Gm.Sd (Gm.cell (U.reverse.map fun r => r.reverse)) m n N S (fx ys) X (fx xs)) : Gm.Sd (Gm.cell U) m n N S (fx ys.reverse) X (fx xs.reverse) :=
  (h.rev (u := Gm.cell U) fun i j hi hj => rev_cell gG hi hj).congr (fun _ _ _ _ => rfl) (fun j hj => fx_rev hy.len hj) (fun i hi => fx_rev hx.len hi)
/-- turned -/
theorem sd_turn {U : List (List Int)} {m n : Nat} {xs ys : List Int} {X S N : Int} (gG : Good U m n) (h : Gm.Sd (Gm.cell (negT (cols U n))) n m N S (fx ys) X (fx xs)) : ∃ N', Gm.Sd (Gm.cell U) m n N' X (fx xs) S (fx ys) :=
  h.turn gG.m1 fun i j hi hj => by rw [negT_cell (cols_gd (good_gd gG)) hj, cols_cell (good_gd gG) hi hj]
theorem nx_next {σ : St} {H : Hp} {a : St → Hp → Prop} {b : VK} {c d : St → Hp → Prop} (h : a σ H) : tNext (Ends.mk a b c d) σ H := h
def sp_back : Sp := fun vs H Q _ => ∃ (a : Addr) (U : List (List Int)) (m n : Nat), vs = [.ref a] ∧ IsTab H a U ∧ Gd U m n ∧ ∀ p H', Same H H' → OwnTab H H' p (negT U) → Q (.ref p) H'
abbrev s__law_back : Stmt := top 59
theorem sc__law_back : FnScope ["_law_table_here"] ["_law_table_here"] (defScope s__law_back) := ⟨rfl, rfl, rfl, by decide +kernel, rfl, by decide +kernel, by decide +kernel⟩
theorem ok__law_back (F : FunM K mg "_law_back" s__law_back ["_law_table_here"]) (T : Blt mg) : Def P w K mg base "_law_back" ["_law_table_here"] 1 sp_back := by
  have S := sc__law_back
  refine Def.of F S (fun vs H Q E h => ?_) (fun f cdv A outer s H vs Q E hr h => ?_)
  · obtain ⟨a, U, m, n, rfl, _⟩ := h
    rfl
  · obtain ⟨a, U, m, n, rfl, hU, g, k⟩ := h
    have m4 := g.m4
    have n4 := g.n4
    obtain ⟨vs, ht, _⟩ := id hU
    refine ⟨_, (pss_one (ps_ret (pe_comp rfl (N' := ["_law_row"]) (src := [none]) rfl (piL K (pv 0)) (fun _ _ _ _ _ => (pg_name (i := 0) (show (["_law_row"] : List Str).Nodup from by decide +kernel) rfl (Or.inl rfl))) (fun _ _ _ _ _ => pts_nil) (fun _ _ _ _ _ => (pe_comp rfl (N' := ["_law_worth"]) (src := [none]) rfl (piL K (pv 0)) (fun _ _ _ _ _ => (pg_name (i := 0) (show (["_law_worth"] : List Str).Nodup from by decide +kernel) rfl (Or.inl rfl))) (fun _ _ _ _ _ => pts_nil) (fun _ _ _ _ _ => (pe_un un_neg (pv 0)))))))), ?_⟩
    refine ⟨_, rfl, a, rfl, ⟨_, SqL.of ht⟩, comp_rowsl (fun r => r.map fun x => -x) hU (by rw [g.rows]; omega) ?_ ?_⟩
    · intro r hr' b hb H5 s5 Q' q
      refine ⟨_, rfl, b, rfl, ⟨_, SqL.of (s5 _ _ hb)⟩, comp_ints (fun x => -x) (SqL.of (s5 _ _ hb)) (by rw [g.cols r hr']; omega) ?_ ?_⟩
      · intro x hx H6 s6 Q2 q2
        exact ⟨_, rfl, _, rfl, q2 H6 (Same.refl _)⟩
      · intro H6 s6 l hl
        exact q _ _ (s6.trans (same_upd hl)) ⟨l, rfl, (s5.trans s6).free hl, upd_same⟩
    intro ys H5 s5 pr hd hhd
    exact k hd _ (s5.trans (same_upd hhd)) (OwnTab.lay s5 hhd pr)
theorem cut_but {xs : List V} : cutV xs none (some (-1)) = xs.take (xs.length - 1) := by
  have e : HT.sIx xs.length xs.length (some (-1)) = xs.length - 1 := by
    unfold HT.sIx
    simp only
    split <;> omega
  have e2 : HT.sIx xs.length 0 none = 0 := rfl
  unfold cutV
  rw [e, e2, List.drop_zero]
  rfl
/-- a pair of mixtures that are such -/
def PairOk (U : List (List Int)) (m n : Nat) (pl : Addr) (H : Hp) (v : V) : Prop := ∃ (t b c : Addr) (xs : List Int) (X : Int) (ys : List Int) (Z N : Int), v = .ref t ∧ H t = some (.tup [.ref b, .ref c]) ∧ b ≠ pl ∧ c ≠ pl ∧ IsFrs H b (mks xs X) ∧ IsFrs H c (mks ys Z) ∧ Mx xs X m ∧ Mx ys Z n ∧ Gm.Sd (Gm.cell U) m n N Z (fx ys) X (fx xs)
theorem PairOk.mono {U : List (List Int)} {m n : Nat} {pl : Addr} {H H' : Hp} {v : V} (s : Same H H') (h : PairOk U m n pl H v) : PairOk U m n pl H' v :=
  let ⟨t, b, c, xs, X, ys, Z, N, e, h1, n1, n2, h2, h3, h4⟩ := h
  ⟨t, b, c, xs, X, ys, Z, N, e, s _ _ h1, n1, n2, h2.mono s, h3.mono s, h4⟩
theorem IsFrs_at {l : Addr} {H : Hp} {a : Addr} {qs : List (Int × Int)} {xs : List V} {o : HO} (hl : H l = some (.lst xs)) (ha : a ≠ l) (h : IsFrs H a qs) : IsFrs (upd H l o) a qs := by
  obtain ⟨vs, e, p⟩ := h
  exact ⟨vs, by rw [upd_ne ha]; exact e, p.imp2 fun _ _ z => z.at hl⟩
theorem PairOk.at {U : List (List Int)} {m n : Nat} {pl : Addr} {H : Hp} {v : V} {xs : List V} {o : HO} (hl : H pl = some (.lst xs)) (h : PairOk U m n pl H v) : PairOk U m n pl (upd H pl o) v := by
  obtain ⟨t, b, c, xs, X, ys, Z, N, e, h1, n1, n2, h2, h3, h4⟩ := h
  exact ⟨t, b, c, xs, X, ys, Z, N, e, by rw [upd_ne (ne_of h1 hl (by intro z; cases z))]; exact h1, n1, n2, IsFrs_at hl n1 h2, IsFrs_at hl n2 h3, h4⟩
theorem rev_frs {H : Hp} {l p : Addr} {zs : List V} {xs : List Int} {X : Int} (hp : H p = none) (pr : Paired (IsFr H) zs (mks xs X)) : IsFrs (upd H p (.lst zs.reverse)) p (mks xs.reverse X) := by
  refine ⟨_, upd_same, ?_⟩
  rw [← mks_rev]
  exact (paired_rev pr).imp2 fun _ _ z => z.mono (same_upd hp)
theorem tab_ne {H : Hp} {t b : Addr} {vs : List V} {U : List (List Int)} {r : List Int} (ht : H t = some (.lst vs)) (hp : Paired (IsRow H) vs U) (h1 : 0 < vs.length) (hb : H b = some (.lst (r.map V.int))) : b ≠ t := by
  intro e
  rw [e, ht] at hb
  cases vs with
  | nil => simp at h1
  | cons v vs =>
    cases hp with
    | cons h _ =>
      obtain ⟨c, rfl, _⟩ := h
      cases r with
      | nil => cases hb
      | cons x r => injection hb with hb; injection hb with hb; injection hb with hb _; cases hb
theorem but_good {U : List (List Int)} {m n : Nat} (g : Good U m n) : Good ((U.set (m - 1) (U.getD 0 [])).map fun r => r.take (r.length - 1) ++ [r.getD 0 0]) m n := by
  have gd := good_gd g
  have n1 := g.n1
  have mem : ∀ r ∈ U.set (m - 1) (U.getD 0 []), r ∈ U := fun r hr => by
    rcases List.mem_or_eq_of_mem_set hr with h | h
    · exact h
    · rw [h]; exact (gd.row g.m1).1
  refine ⟨g.m1, g.m4, g.n1, g.n4, by rw [List.length_map, List.length_set, g.rows], fun r hr => ?_, fun r hr x hx => ?_⟩
  · obtain ⟨r0, h0, rfl⟩ := List.mem_map.mp hr
    rw [List.length_append, List.length_take, List.length_singleton, g.cols r0 (mem r0 h0)]
    omega
  · obtain ⟨r0, h0, rfl⟩ := List.mem_map.mp hr
    rcases List.mem_append.mp hx with h | h
    · exact g.num r0 (mem r0 h0) x (List.mem_of_mem_take h)
    · rw [List.mem_singleton.mp h]
      refine g.num r0 (mem r0 h0) _ ?_
      have : 0 < r0.length := by rw [g.cols r0 (mem r0 h0)]; omega
      rw [List.getD_eq_getElem?_getD, List.getElem?_eq_getElem this]
      exact List.getElem_mem _
abbrev s_law : Stmt := top 60
theorem sc_law : FnScope ["_law_script", "_law_rows", "_law_columns", "_law_table_here", "_law_found", "_law_pairs", "_law_other", "_law_worth", "_law_mine", "_law_others", "_law_more", "_law_theirs"] ["_law_script"] (defScope s_law) := ⟨rfl, rfl, rfl, by decide +kernel, rfl, by decide +kernel, by decide +kernel⟩
theorem ok_law {f CT : Addr} {fd : FuncData} (F : Fun K "law" "law" s_law f fd) (T : Blt mg) (C_Settled : Cl K mg "Settled" ["mine", "theirs"] [] CT)
    (G__law_cell_at : Def P w K mg base "_law_cell_at" ["_law_script", "_law_k"] 1 (sp_cell K)) (G__law_shape : Def P w K mg base "_law_shape" ["_law_cell"] 1 sp_shape) (G__law_table : Def P w K mg base "_law_table" ["_law_cell", "_law_rows", "_law_columns"] 2 sp_ltable) (G_settled : Def P w K mg base "settled" ["one", "other"] 11 (sp_settled CT))
    (G__law_settled : Def P w K mg base "_law_settled" ["_law_one", "_law_other", "_law_mine", "_law_theirs"] 5 sp_lsett) (G__law_both : Def P w K mg base "_law_both" ["_law_table_here", "_law_mine", "_law_theirs"] 4 sp_both) (G__law_back : Def P w K mg base "_law_back" ["_law_table_here"] 1 sp_back) (G__law_across : Def P w K mg base "_law_across" ["_law_table_here"] 1 sp_cols) : FnOk P w K mg base CX0 13 f fd ["_law_script"] (sp_law K) := by
  have S := sc_law
  refine F.ok S (fun vs H Q E h => ?_) (fun cdv A outer s H vs Q E hr h => ?_)
  · obtain ⟨a, ns, rfl, _⟩ := h
    rfl
  · obtain ⟨a, ns, rfl, hS, hlen, k⟩ := h
    have c1 := C_Settled.no "mine" (by simp)
    have c2 := C_Settled.no "theirs" (by simp)
    refine ⟨_, (pss_cons (ps_asg (pe_def G__law_shape (hr.mono (by decide)) rfl (pa_cons (pe_def G__law_cell_at (hr.mono (by decide)) rfl (pa_cons (pv 0) (pa_cons pe_int pa_nil st_Constant) st_Name) (he := st_Name)) pa_nil st_Call) (he := st_Call)) (pgT K (n := 2) (pgs_cons (pg_name (i := 1) S.nd rfl (Or.inl rfl)) (pgs_cons (pg_name (i := 2) S.nd rfl (Or.inl rfl)) pgs_nil))))
      (pss_cons (ps_set (i := 3) S.nd rfl (Or.inl rfl) (pe_def G__law_table (hr.mono (by decide)) rfl (pa_cons (pe_def G__law_cell_at (hr.mono (by decide)) rfl (pa_cons (pv 0) (pa_cons pe_int pa_nil st_Constant) st_Name) (he := st_Name)) (pa_cons (pv 1) (pa_cons (pv 2) pa_nil st_Name) st_Name) st_Call) (he := st_Call)))
      (pss_cons (ps_if (pt_cmpR op_eq (pe_op op_mod (pe_def G__law_cell_at (hr.mono (by decide)) rfl (pa_cons (pv 0) (pa_cons pe_int pa_nil st_Constant) st_Name) (he := st_Name)) pe_int) pe_int (nomark _))
        (pss_cons (ps_asg (pe_callTy (listOfK K) (by rfl) T.list_ bt_list (pa_cons (pe_ix (ixL K) (pv 3) pe_int (fun _ _ => rfl)) pa_nil st_Subscript) (he := st_Subscript)) (pg_sub (pv 3) (pe_un un_neg pe_int) set_list))
      (pss_one (ps_setC (i := 3) rfl S.nd rfl rfl (N' := ["_law_row"]) (src := [none]) rfl (piL K (pv 3)) (fun _ _ _ _ _ => (pg_name (i := 0) (show (["_law_row"] : List Str).Nodup from by decide +kernel) rfl (Or.inl rfl))) (fun _ _ _ _ _ => pts_nil) (fun _ _ _ _ _ => (pe_op op_cat (pe_slice (slL K) (pv 0) po_none (po_some (pe_un un_neg pe_int))) (pe_lst (pa_cons (pe_ix (ixL K) (pv 0) pe_int (fun _ _ => rfl)) pa_nil st_Subscript))))))) pss_nil)
      (pss_cons (ps_set (i := 4) S.nd rfl (Or.inl rfl) (pe_def G_settled (hr.mono (by decide)) rfl (pa_cons (pv 3) (pa_cons (pe_def G__law_back (hr.mono (by decide)) rfl (pa_cons (pv 3) pa_nil st_Name) (he := st_Name)) pa_nil st_Call) st_Name) (he := st_Name)))
      (pss_cons (ps_set (i := 5) S.nd rfl (Or.inl rfl) (pe_lst (pa_cons (pe_tup (pa_cons (pe_fld (pv 4) rfl) (pa_cons (pe_fld (pv 4) rfl) pa_nil st_Attribute) st_Attribute)) pa_nil st_Tuple)))
      (pss_cons (ps_setC (i := 6) rfl S.nd rfl rfl (N' := ["_law_row"]) (src := [none]) rfl (piL K (pe_rev K (pv 3) (po_some (pe_un un_neg pe_int)))) (fun _ _ _ _ _ => (pg_name (i := 0) (show (["_law_row"] : List Str).Nodup from by decide +kernel) rfl (Or.inl rfl))) (fun _ _ _ _ _ => pts_nil) (fun _ _ _ _ _ => (pe_rev K (pv 0) (po_some (pe_un un_neg pe_int)))))
      (pss_cons (ps_set (i := 4) S.nd rfl (Or.inl rfl) (pe_def G_settled (hr.mono (by decide)) rfl (pa_cons (pv 6) (pa_cons (pe_def G__law_back (hr.mono (by decide)) rfl (pa_cons (pv 6) pa_nil st_Name) (he := st_Name)) pa_nil st_Call) st_Name) (he := st_Name)))
      (pss_cons (ps_expr (pe_bm PySem.F.plainAttrs_list PySem.F.slot_list_append PySem.F.type_list_append mt_append (pv 5) (pa_cons (pe_tup (pa_cons (pe_rev K (pe_fld (pv 4) rfl) (po_some (pe_un un_neg pe_int))) (pa_cons (pe_rev K (pe_fld (pv 4) rfl) (po_some (pe_un un_neg pe_int))) pa_nil st_Subscript) st_Subscript)) pa_nil st_Tuple)))
      (pss_cons (ps_set (i := 6) S.nd rfl (Or.inl rfl) (pe_def G__law_back (hr.mono (by decide)) rfl (pa_cons (pe_def G__law_across (hr.mono (by decide)) rfl (pa_cons (pv 3) pa_nil st_Name) (he := st_Name)) pa_nil st_Call) (he := st_Call)))
      (pss_cons (ps_set (i := 4) S.nd rfl (Or.inl rfl) (pe_def G_settled (hr.mono (by decide)) rfl (pa_cons (pv 6) (pa_cons (pe_def G__law_back (hr.mono (by decide)) rfl (pa_cons (pv 6) pa_nil st_Name) (he := st_Name)) pa_nil st_Call) st_Name) (he := st_Name)))
      (pss_cons (ps_expr (pe_bm PySem.F.plainAttrs_list PySem.F.slot_list_append PySem.F.type_list_append mt_append (pv 5) (pa_cons (pe_tup (pa_cons (pe_fld (pv 4) rfl) (pa_cons (pe_fld (pv 4) rfl) pa_nil st_Attribute) st_Attribute)) pa_nil st_Tuple)))
      (pss_cons (ps_set (i := 7) S.nd rfl (Or.inl rfl) (pe_def G__law_both (hr.mono (by decide)) rfl (pa_cons (pv 3) (pa_cons (pe_ix (ixT K) (pe_ix (ixL K) (pv 5) pe_int (fun _ _ => rfl)) pe_int (fun _ _ => rfl)) (pa_cons (pe_ix (ixT K) (pe_ix (ixL K) (pv 5) pe_int (fun _ _ => rfl)) pe_int (fun _ _ => rfl)) pa_nil st_Subscript) st_Subscript) st_Name) (he := st_Name)))
      (pss_cons (ps_for PassesOwn.never rfl (piL K (pv 5)) (pgT K (n := 2) (pgs_cons (pg_name (i := 8) S.nd rfl (Or.inl rfl)) (pgs_cons (pg_name (i := 9) S.nd rfl (Or.inl rfl)) pgs_nil)))
        (pss_one (ps_for PassesOwn.never rfl (piL K (pv 5)) (pgT K (n := 2) (pgs_cons (pg_name (i := 10) S.nd rfl (Or.inl rfl)) (pgs_cons (pg_name (i := 11) S.nd rfl (Or.inl rfl)) pgs_nil)))
        (pss_cons (ps_if (pt_not (pt_val (pe_def G__law_settled (hr.mono (by decide)) rfl (pa_cons (pv 3) (pa_cons (pe_def G__law_back (hr.mono (by decide)) rfl (pa_cons (pv 3) pa_nil st_Name) (he := st_Name)) (pa_cons (pv 8) (pa_cons (pv 11) pa_nil st_Name) st_Name) st_Call) st_Name) (he := st_Name))))
        (pss_one (ps_ret pe_bl)) pss_nil)
      (pss_one (ps_if (pt_cmpR (neDK K hr.units) (pe_def G__law_both (hr.mono (by decide)) rfl (pa_cons (pv 3) (pa_cons (pv 8) (pa_cons (pv 11) pa_nil st_Name) st_Name) st_Name) (he := st_Name)) (pv 7) (nomark _))
        (pss_one (ps_ret pe_bl)) pss_nil))))))
      (pss_one (ps_ret pe_bl))))))))))))))), ?_⟩
    -- the shape, the table
    refine ⟨_, rfl, a, ns, 0, rfl, hS, by decide, _, rfl, fun p m n H1 m1 m4 n1 n4 s1 hp => ⟨p, _, rfl, SqT.of hp, rfl, _, _, rfl, _, _, rfl, rfl, ?_⟩⟩
    refine ⟨_, rfl, a, ns, 1, rfl, s1.seq hS, by decide, _, rfl, _, rfl, _, m, n, rfl, m1, m4, n1, n4, fun t0 U0 H2 s2 hU0 gG0 => ?_⟩
    have s12 := s1.trans s2
    refine nx_set ?_
    refine seq_by (fun σ' H' => ∃ (t : Addr) (U : List (List Int)), σ' = [some (.ref a), some (.int m), some (.int n), some (.ref t), none, none, none, none, none, none, none, none] ∧ IsTab H' t U ∧ Good U m n) (fun R hR => ?_) ?_
    · refine ⟨_, rfl, a, ns, 2, rfl, s12.seq hS, by decide, _, _, rfl, rfl, (by show (0 : Int) < 3; decide), rfl, _, rfl, ?_⟩
      refine ite2 (fun _ => ?_) (fun _ => hR _ _ ⟨t0, U0, rfl, hU0, gG0⟩)
      have g0 := good_gd gG0
      obtain ⟨vs, b0, ht, h0, at0, hb0⟩ := hU0.row (i := 0) (by rw [g0.rows]; exact g0.m1)
      have pr : Paired (IsRow H2) vs U0 := by
        obtain ⟨vs', ha', hp'⟩ := id hU0
        rw [ht] at ha'
        cases ha'
        exact hp'
      have vl : vs.length = m := by rw [pr.length, g0.rows]
      refine ⟨_, rfl, t0, vs, 0, _, rfl, rfl, SqL.of ht, at0, b0, _, rfl, .inl (SqL.of hb0), fun l hl => ?_⟩
      have sl := same_upd (o := .lst ((U0.getD 0 []).map V.int)) hl
      have el : upd H2 l (.lst ((U0.getD 0 []).map V.int)) l = some (.lst ((U0.getD 0 []).map V.int)) := upd_same
      have pr' := pr.imp2 fun _ _ z => z.mono sl
      have ht' := sl _ _ ht
      generalize upd H2 l (.lst ((U0.getD 0 []).map V.int)) = H3 at sl el pr' ht' ⊢
      refine ⟨_, rfl, _, rfl, t0, vs, (-1 : Int), vs.length - 1, rfl, rfl, ht', ?_, ?_⟩
      · unfold ixN
        rw [if_neg (by decide), if_pos (by omega)]
        congr 1
        omega
      have hU3 : IsTab (upd H3 t0 (.lst (vs.set (vs.length - 1) (.ref l)))) t0 (U0.set (m - 1) (U0.getD 0 [])) := by
        refine ⟨_, upd_same, ?_⟩
        rw [vl]
        refine Paired.set2 ?_ (m - 1) (pr'.imp2 fun v r z => ?_)
        · refine ⟨l, rfl, ?_⟩
          rw [upd_ne (tab_ne ht' pr' h0 el)]
          exact el
        · obtain ⟨b, rfl, hb⟩ := z
          refine ⟨b, rfl, ?_⟩
          rw [upd_ne (tab_ne ht' pr' h0 hb)]
          exact hb
      generalize upd H3 t0 (.lst (vs.set (vs.length - 1) (.ref l))) = H4 at hU3 ⊢
      obtain ⟨vs4, ht4, _⟩ := id hU3
      have mem : ∀ r ∈ U0.set (m - 1) (U0.getD 0 []), r ∈ U0 := fun r hr => by
        rcases List.mem_or_eq_of_mem_set hr with h | h
        · exact h
        · rw [h]; exact (g0.row g0.m1).1
      refine ⟨_, rfl, t0, rfl, ⟨_, SqL.of ht4⟩, comp_rowsl (fun r => r.take (r.length - 1) ++ [r.getD 0 0]) hU3 (by rw [List.length_set, g0.rows]; omega) ?_ ?_⟩
      · intro r hr' b hb H5 s5 Q' q
        have rl : r.length = n := g0.cols r (mem r hr')
        refine ⟨_, rfl, _, rfl, _, rfl, b, _, rfl, SqL.of (s5 _ _ hb), fun q1 hq1 => ?_⟩
        rw [cut_but]
        have sq := same_upd (o := .lst ((r.map V.int).take ((r.map V.int).length - 1))) hq1
        have e1 : upd H5 q1 (.lst ((r.map V.int).take ((r.map V.int).length - 1))) q1 = some (.lst ((r.map V.int).take ((r.map V.int).length - 1))) := upd_same
        generalize upd H5 q1 (.lst ((r.map V.int).take ((r.map V.int).length - 1))) = H6 at sq e1 ⊢
        refine ⟨_, rfl, b, _, 0, _, rfl, rfl, SqL.of (sq _ _ (s5 _ _ hb)), atI_int (j := 0) (by omega), (by show 1 ≤ sizeLine; decide), fun q2 hq2 => ?_⟩
        have sq2 := same_upd (o := .lst [.int (r.getD 0 0)]) hq2
        refine ⟨q1, q2, _, _, rfl, rfl, sq2 _ _ e1, upd_same, (by rw [List.length_take, List.length_singleton, List.length_map]; exact Nat.le_of_lt (small1000 (by omega))), fun q3 hq3 => ?_⟩
        have er : (r.map V.int).take ((r.map V.int).length - 1) ++ [V.int (r.getD 0 0)] = (r.take (r.length - 1) ++ [r.getD 0 0]).map V.int := by
          rw [List.map_append, List.map_take, List.length_map]
          rfl
        rw [er]
        exact q _ _ ((sq.trans sq2).trans (same_upd hq3)) ⟨q3, rfl, ((s5.trans sq).trans sq2).free hq3, upd_same⟩
      intro ys H5 s5 pr5 hd hhd
      exact hR _ _ ⟨hd, _, rfl, (OwnTab.lay s5 hhd pr5).tab, but_good gG0⟩
    rintro σ' H5 ⟨t, U, rfl, hU, gG⟩
    clear hU0 gG0 s12 s2
    have g := good_gd gG
    have gn := good_gd (negT_good gG)
    -- the first
    refine ⟨_, rfl, _, rfl, t, U, m, n, rfl, hU, g, fun pb H6 s6 own => ?_⟩
    refine ⟨t, pb, U, negT U, m, n, rfl, hU.mono s6, gG, own.tab, negT_good gG, fun x dx l1 l2 H7 R C R' C' s7 nx nl1 nl2 n12 hins f1 f2 g2 kc g2' kc' hok => ?_⟩
    have mx1 := cor_mx (cols_gd gn) g2' kc'
    have mx2 := cor_mx g g2 kc
    obtain ⟨N1, sd1⟩ := st_sd gG mx1 mx2 (cor_stB g gn g2 kc g2' kc' hok)
    have hU7 := hU.mono (s6.trans s7)
    refine nx_set ?_
    refine seq_by (fun σ' H' => ∃ (o4 : Option V) (pl : Addr) (v1 : V), σ' = [some (.ref a), some (.int m), some (.int n), some (.ref t), o4, some (.ref pl), none, none, none, none, none, none] ∧ IsTab H' t U ∧ H' pl = some (.lst [v1]) ∧ PairOk U m n pl H' v1) (fun R0 hR0 => ?_) ?_
    · refine ⟨_, rfl, x, CT, dx, _, _, rfl, hins, C_Settled.cl, c1, fldS_mine l1 l2, _, rfl, x, CT, dx, _, _, rfl, hins, C_Settled.cl, c2, fldS_theirs l1 l2, (by show 2 ≤ sizeLine; decide), fun t1 ht1 => ⟨(by show 1 ≤ sizeLine; decide), fun pl hpl => ?_⟩⟩
      have sa := same_upd (o := .tup [.ref l1, .ref l2]) ht1
      have e1 : upd H7 t1 (.tup [.ref l1, .ref l2]) t1 = some (.tup [.ref l1, .ref l2]) := upd_same
      generalize upd H7 t1 (.tup [.ref l1, .ref l2]) = H8 at sa e1 hpl ⊢
      have sb := same_upd (o := .lst [.ref t1]) hpl
      have f1' := f1.mono sa
      have f2' := f2.mono sa
      have n1p : l1 ≠ pl := fun e => by obtain ⟨z, ez, _⟩ := f1'; rw [e, hpl] at ez; cases ez
      have n2p : l2 ≠ pl := fun e => by obtain ⟨z, ez, _⟩ := f2'; rw [e, hpl] at ez; cases ez
      exact hR0 _ _ ⟨_, pl, .ref t1, rfl, hU7.mono (sa.trans sb), upd_same, t1, l1, l2, _, _, _, _, N1, rfl, sb _ _ e1, n1p, n2p, f1'.mono sb, f2'.mono sb, mx1, mx2, sd1⟩
    rintro σ' H8 ⟨o4, pl, v1, rfl, hU8, epl, ok1⟩
    clear hins f1 f2 sd1 mx1 mx2 hok kc kc' g2 g2' own hU7 nx nl1 nl2 n12
    -- from the last
    obtain ⟨vsA, htA, prA⟩ := id hU8
    refine ⟨_, rfl, _, rfl, _, rfl, rfl, t, vsA, rfl, SqL.of htA, fun qr hqr => ?_⟩
    have hR : IsTab (upd H8 qr (.lst vsA.reverse)) qr U.reverse := ⟨_, upd_same, (paired_rev prA).imp2 fun _ _ z => z.mono (same_upd hqr)⟩
    have sAB : Same H8 (upd H8 qr (.lst vsA.reverse)) := same_upd hqr
    generalize upd H8 qr (.lst vsA.reverse) = HB at hR sAB ⊢
    obtain ⟨vsB, htB, _⟩ := id hR
    refine ⟨qr, rfl, ⟨_, SqL.of htB⟩, comp_rowsl (fun r => r.reverse) hR (by rw [List.length_reverse, g.rows]; omega) ?_ ?_⟩
    · intro r hr' b hb H10 s10 Q' q
      refine ⟨_, rfl, _, rfl, _, rfl, rfl, b, _, rfl, SqL.of (s10 _ _ hb), fun l hl => ?_⟩
      rw [← List.map_reverse]
      exact q _ _ (same_upd hl) ⟨l, rfl, s10.free hl, upd_same⟩
    intro ysC HC sC prC lC hlC
    have hRv := (OwnTab.lay sC hlC prC).tab
    have s8D := (sAB.trans sC).trans (same_upd (o := .lst ysC) hlC)
    generalize upd HC lC (.lst ysC) = HD at hRv s8D ⊢
    have gR := rev_good gG
    have gRn := good_gd (negT_good gR)
    refine ⟨_, rfl, _, rfl, lC, _, m, n, rfl, hRv, good_gd gR, fun pb2 HE sE own2 => ?_⟩
    refine ⟨lC, pb2, _, _, m, n, rfl, hRv.mono sE, gR, own2.tab, negT_good gR, fun x dx l1 l2 HF R C R' C' sF nx nl1 nl2 n12 hins f1 f2 g2 kc g2' kc' hok => ?_⟩
    have mx1 := cor_mx (cols_gd gRn) g2' kc'
    have mx2 := cor_mx (good_gd gR) g2 kc
    obtain ⟨N2, sd2⟩ := st_sd gR mx1 mx2 (cor_stB (good_gd gR) gRn g2 kc g2' kc' hok)
    have s8F := (s8D.trans sE).trans sF
    refine nx_set ?_
    refine seq_by (fun σ' H' => ∃ (o4 o6 : Option V) (v2 : V), σ' = [some (.ref a), some (.int m), some (.int n), some (.ref t), o4, some (.ref pl), o6, none, none, none, none, none] ∧ IsTab H' t U ∧ H' pl = some (.lst [v1, v2]) ∧ PairOk U m n pl H' v1 ∧ PairOk U m n pl H' v2) (fun R0 hR0 => ?_) ?_
    · have eplF := s8F _ _ epl
      obtain ⟨z1, e1, p1⟩ := id f1
      refine ⟨_, rfl, .inl ⟨rfl, _, SqL.of eplF⟩, _, rfl, x, CT, dx, _, _, rfl, hins, C_Settled.cl, c1, fldS_mine l1 l2, _, rfl, _, rfl, rfl, l1, z1, rfl, SqL.of e1, fun r1 hr1 => ?_⟩
      have fr1 := rev_frs (l := l1) hr1 p1
      have sa := same_upd (o := .lst z1.reverse) hr1
      generalize upd HF r1 (.lst z1.reverse) = HG at fr1 sa ⊢
      obtain ⟨z2, e2, p2⟩ := f2.mono sa
      refine ⟨_, rfl, x, CT, dx, _, _, rfl, sa _ _ hins, C_Settled.cl, c2, fldS_theirs l1 l2, _, rfl, _, rfl, rfl, l2, z2, rfl, SqL.of e2, fun r2 hr2 => ?_⟩
      have fr2 := rev_frs (l := l2) hr2 p2
      have sb := same_upd (o := .lst z2.reverse) hr2
      have fr1' := fr1.mono sb
      have n1p : r1 ≠ pl := fun e => by rw [e, eplF] at hr1; cases hr1
      have n2p : r2 ≠ pl := fun e => by rw [e, sa _ _ eplF] at hr2; cases hr2
      generalize upd HG r2 (.lst z2.reverse) = HI at fr2 sb fr1' ⊢
      refine ⟨(by show 2 ≤ sizeLine; decide), fun t1 ht1 => ?_⟩
      have sc := same_upd (o := .tup [.ref r1, .ref r2]) ht1
      have e3 : upd HI t1 (.tup [.ref r1, .ref r2]) t1 = some (.tup [.ref r1, .ref r2]) := upd_same
      generalize upd HI t1 (.tup [.ref r1, .ref r2]) = HJ at sc e3 ⊢
      have sFJ := (sa.trans sb).trans sc
      have s8J := s8F.trans sFJ
      have eplJ := s8J _ _ epl
      refine ⟨pl, [v1], .ref t1, rfl, rfl, eplJ, small1000 (by show 1 ≤ 1000; decide), ?_⟩
      have npt : t ≠ pl := fun e => by
        obtain ⟨vs, e1, pr⟩ := id hU8
        rw [e, epl] at e1
        cases e1
        obtain ⟨tt, _, _, _, _, _, _, _, rfl, h1, _⟩ := ok1
        cases pr with
        | cons h _ =>
          obtain ⟨b, eb, hb⟩ := h
          cases eb
          rw [h1] at hb
          cases hb
      have hUJ := hU8.mono s8J
      refine hR0 _ _ ⟨_, _, .ref t1, rfl, ?_, upd_same, (ok1.mono s8J).at eplJ, PairOk.at eplJ ⟨t1, r1, r2, _, _, _, _, N2, rfl, e3, n1p, n2p, fr1'.mono sc, fr2.mono sc, mx1.rev, mx2.rev, sd_rev gG mx1 mx2 sd2⟩⟩
      obtain ⟨vs, e1, pr⟩ := id hUJ
      refine ⟨vs, by rw [upd_ne npt]; exact e1, pr.imp2 fun v r z => ?_⟩
      obtain ⟨b, rfl, hb⟩ := z
      refine ⟨b, rfl, ?_⟩
      have : b ≠ pl := fun e => by
        rw [e, eplJ] at hb
        obtain ⟨tt, _, _, _, _, _, _, _, rfl, _⟩ := ok1
        cases r with
        | nil => cases hb
        | cons x r => injection hb with hb; injection hb with hb; injection hb with hb _; cases hb
      rw [upd_ne this]
      exact hb
    rintro σ' H9 ⟨o4, o6, v2, rfl, hU9, epl9, ok1', ok2⟩
    clear hins f1 f2 sd2 mx1 mx2 hok kc kc' g2 g2' own2 nx nl1 nl2 n12 ok1 epl hU8
    -- turned
    refine ⟨_, rfl, t, U, m, n, rfl, hU9, g, fun pc HA sA ownA => ?_⟩
    have gC : Good (cols U n) n m := by
      refine ⟨g.n1, g.n4, g.m1, g.m4, cols_len U n, fun r hr => by rw [cols_row hr, g.rows], fun r hr x hx => ?_⟩
      unfold cols at hr
      obtain ⟨j, hj, rfl⟩ := List.mem_map.mp hr
      obtain ⟨r, hr', rfl⟩ := List.mem_map.mp hx
      have hj' : j < r.length := by rw [g.cols r hr']; exact List.mem_range.mp hj
      exact gG.num r hr' (r.getD j 0) (by rw [List.getD_eq_getElem?_getD, List.getElem?_eq_getElem hj']; exact List.getElem_mem hj')
    refine ⟨pc, cols U n, n, m, rfl, ownA.tab, good_gd gC, fun pw HB sB ownB => ?_⟩
    have gW := negT_good gC
    have gWn := good_gd (negT_good gW)
    refine ⟨_, rfl, _, rfl, pw, _, n, m, rfl, ownB.tab, good_gd gW, fun pb3 HE sE own3 => ?_⟩
    refine ⟨pw, pb3, _, _, n, m, rfl, ownB.tab.mono sE, gW, own3.tab, negT_good gW, fun x dx l1 l2 HF R C R' C' sF nx nl1 nl2 n12 hins f1 f2 g2 kc g2' kc' hok => ?_⟩
    have mx1 := cor_mx (cols_gd gWn) g2' kc'
    have mx2 := cor_mx (good_gd gW) g2 kc
    obtain ⟨N3', sd3'⟩ := st_sd gW mx1 mx2 (cor_stB (good_gd gW) gWn g2 kc g2' kc' hok)
    obtain ⟨N3, sd3⟩ := sd_turn gG sd3'
    have s9F := ((sA.trans sB).trans sE).trans sF
    refine nx_set ?_
    refine seq_by (fun σ' H' => ∃ (o4 o6 : Option V) (v3 : V), σ' = [some (.ref a), some (.int m), some (.int n), some (.ref t), o4, some (.ref pl), o6, none, none, none, none, none] ∧ IsTab H' t U ∧ H' pl = some (.lst [v1, v2, v3]) ∧ PairOk U m n pl H' v1 ∧ PairOk U m n pl H' v2 ∧ PairOk U m n pl H' v3) (fun R0 hR0 => ?_) ?_
    · have eplF := s9F _ _ epl9
      refine ⟨_, rfl, .inl ⟨rfl, _, SqL.of eplF⟩, _, rfl, x, CT, dx, _, _, rfl, hins, C_Settled.cl, c2, fldS_theirs l1 l2, _, rfl, x, CT, dx, _, _, rfl, hins, C_Settled.cl, c1, fldS_mine l1 l2, (by show 2 ≤ sizeLine; decide), fun t1 ht1 => ?_⟩
      have sc := same_upd (o := .tup [.ref l2, .ref l1]) ht1
      have e3 : upd HF t1 (.tup [.ref l2, .ref l1]) t1 = some (.tup [.ref l2, .ref l1]) := upd_same
      generalize upd HF t1 (.tup [.ref l2, .ref l1]) = HJ at sc e3 ⊢
      have s9J := s9F.trans sc
      have eplJ := s9J _ _ epl9
      have eplE := ((sA.trans sB).trans sE) _ _ epl9
      have n1p : l1 ≠ pl := fun e => by rw [e, eplE] at nl1; cases nl1
      have n2p : l2 ≠ pl := fun e => by rw [e, eplE] at nl2; cases nl2
      refine ⟨pl, [v1, v2], .ref t1, rfl, rfl, eplJ, small1000 (by show 2 ≤ 1000; decide), ?_⟩
      have npt : t ≠ pl := fun e => by
        obtain ⟨vs, e1, pr⟩ := id hU9
        rw [e, epl9] at e1
        cases e1
        obtain ⟨tt, _, _, _, _, _, _, _, rfl, h1, _⟩ := ok1'
        cases pr with
        | cons h _ =>
          obtain ⟨b, eb, hb⟩ := h
          cases eb
          rw [h1] at hb
          cases hb
      have hUJ := hU9.mono s9J
      refine hR0 _ _ ⟨_, _, .ref t1, rfl, ?_, upd_same, (ok1'.mono s9J).at eplJ, (ok2.mono s9J).at eplJ, PairOk.at eplJ ⟨t1, l2, l1, _, _, _, _, N3, rfl, e3, n2p, n1p, f2.mono sc, f1.mono sc, mx2, mx1, sd3⟩⟩
      obtain ⟨vs, e1, pr⟩ := id hUJ
      refine ⟨vs, by rw [upd_ne npt]; exact e1, pr.imp2 fun v r z => ?_⟩
      obtain ⟨b, rfl, hb⟩ := z
      refine ⟨b, rfl, ?_⟩
      have : b ≠ pl := fun e => by
        rw [e, eplJ] at hb
        obtain ⟨tt, _, _, _, _, _, _, _, rfl, _⟩ := ok1'
        cases r with
        | nil => cases hb
        | cons x r => injection hb with hb; injection hb with hb; injection hb with hb _; cases hb
      rw [upd_ne this]
      exact hb
    rintro σ' H10 ⟨o4, o6, v3, rfl, hU10, eplA, okA1, okA2, okA3⟩
    clear hins f1 f2 sd3 sd3' mx1 mx2 hok kc kc' g2 g2' own3 ownA ownB nx nl1 nl2 n12 ok1' ok2 epl9 hU9
    have all : ∀ v ∈ [v1, v2, v3], PairOk U m n pl H10 v := fun v hv => by
      rcases List.mem_cons.mp hv with rfl | hv
      · exact okA1
      · rcases List.mem_cons.mp hv with rfl | hv
        · exact okA2
        · rw [List.mem_singleton.mp hv]; exact okA3
    -- what it is worth
    obtain ⟨tt, bb, cc, xs0, X0, ys0, Z0, N0, rfl, ht0, _, _, hb0, hc0, mxa, mxb, sd0⟩ := id okA1
    refine ⟨_, rfl, _, rfl, pl, _, 0, _, rfl, rfl, SqL.of eplA, rfl, tt, _, 0, _, rfl, rfl, SqT.of ht0, rfl, _, rfl, pl, _, 0, _, rfl, rfl, SqL.of eplA, rfl, tt, _, 1, _, rfl, rfl, SqT.of ht0, rfl, t, bb, cc, U, xs0, ys0, X0, Z0, m, n, rfl, hU10, g, hb0, mxa.gq, mxa.len, mxa.pos, hc0, mxb.gq, mxb.len, mxb.pos, fun pw H11 nw => ?_⟩
    rw [both_val gG mxa mxb sd0] at nw
    have s11 := nw.same
    refine nx_set ?_
    refine seq_by (fun σ' H' => True) (fun R0 hR0 => ?_) ?_
    rotate_left
    · intro σ' H' _
      exact k _
    have epl11 := s11 _ _ eplA
    refine ⟨_, rfl, pl, rfl, ⟨_, SqL.of epl11⟩, for_list (K := K) (a := pl) (xs := [.ref tt, v2, v3]) (fun i σ H' => ∃ (o8 o9 o10 o11 : Option V), σ = [some (.ref a), some (.int m), some (.int n), some (.ref t), o4, some (.ref pl), o6, some (.ref pw), o8, o9, o10, o11] ∧ Same H11 H')
      ⟨_, _, _, _, rfl, Same.refl _⟩ ?_ ?_ ?_⟩
    · rintro i σ H' _ ⟨_, _, _, _, _, s'⟩
      exact SqL.of (s' _ _ epl11)
    · rintro i v σ H12 hi ⟨o8, o9, o10, o11, rfl, s12⟩
      obtain ⟨ti, bi, ci, xi, Xi, yi, Zi, Ni, rfl, hti, _, _, hbi, hci, mxi, myi, sdi⟩ := all v (List.mem_of_getElem? hi)
      have s0C := s11.trans s12
      refine ⟨ti, _, rfl, SqT.of (s0C _ _ hti), rfl, _, _, rfl, _, _, rfl, rfl, ?_⟩
      have epl12 := s12 _ _ epl11
      refine ⟨_, rfl, pl, rfl, ⟨_, SqL.of epl12⟩, for_list (K := K) (a := pl) (xs := [.ref tt, v2, v3]) (fun j σ H' => ∃ (o10 o11 : Option V), σ = [some (.ref a), some (.int m), some (.int n), some (.ref t), o4, some (.ref pl), o6, some (.ref pw), some (.ref bi), some (.ref ci), o10, o11] ∧ Same H12 H')
        ⟨_, _, rfl, Same.refl _⟩ ?_ ?_ ?_⟩
      · rintro j σ H' _ ⟨_, _, _, s'⟩
        exact SqL.of (s' _ _ epl12)
      · rintro j v σ H13 hj ⟨o10, o11, rfl, s13⟩
        obtain ⟨tj, bj, cj, xj, Xj, yj, Zj, Nj, rfl, htj, _, _, hbj, hcj, mxj, myj, sdj⟩ := all v (List.mem_of_getElem? hj)
        have s0D := s0C.trans s13
        have sd := sdi.cross sdj
        refine ⟨tj, _, rfl, SqT.of (s0D _ _ htj), rfl, _, _, rfl, _, _, rfl, rfl, ?_⟩
        have hUD := hU10.mono s0D
        refine ⟨_, rfl, _, rfl, t, U, m, n, rfl, hUD, g, fun pb HE sE own => ?_⟩
        have s0E := s0D.trans sE
        refine ⟨_, rfl, _, rfl, t, pb, bi, cj, U, negT U, m, n, _, _, rfl, hUD.mono sE, g, own.tab, gn, hbi.mono s0E, mxi.gq, hcj.mono s0E, myj.gq, fun HF sF => ⟨_, rfl, ?_⟩⟩
        rw [sd_st gG mxi myj sd]
        refine iteF ?_
        have s0F := s0E.trans sF
        refine ⟨_, rfl, _, rfl, _, rfl, t, bi, cj, U, xi, yj, Xi, Zj, m, n, rfl, hU10.mono s0F, g, hbi.mono s0F, mxi.gq, mxi.len, mxi.pos, hcj.mono s0F, myj.gq, myj.len, myj.pos, fun pq HG nwG => ?_⟩
        rw [both_val gG mxi myj sd] at nwG
        have sDG := ((s12.trans s13).trans sE).trans (sF.trans nwG.same)
        refine ⟨_, rfl, _, _, rep_pair nwG.is, rep_pair (sDG _ _ nw.is), rfl, (by show 1 ≤ 40; decide), _, rfl, ?_⟩
        refine iteNE ?_ ?_
        · rw [eqD_pair, Fr.mk_cross sdj.pos sd0.pos (sdj.eq sd0)]
          exact decide_eq_true rfl
        · exact ⟨_, _, rfl, (s13.trans sE).trans (sF.trans nwG.same)⟩
      · rintro σ H13 ⟨o10, o11, rfl, s13⟩
        exact ⟨_, _, _, _, rfl, s12.trans s13⟩
    · rintro σ H12 ⟨o8, o9, o10, o11, rfl, s12⟩
      exact hR0 _ _ trivial
end
theorem all_mk {l : PySem.W.OpenLaw} {w : World} {K : PySem.W.Frag} {h : Heap} {mg : Str → Option Value} {fa f0 f1 f2 f3 f4 f5 f6 f7 f8 f9 f10 f11 f12 f13 f14 f15 f16 f17 f18 f19 f20 f21 f22 f23 f24 f25 f26 f27 f28 f29 f30 f31 f32 f33 f34 f35 f36 f37 f38 f39 f40 f41 f42 f43 f44 f45 A_Settled : Addr} (X : K.In h) (G : h.Ns mainGlobals mg) (hfa : mg "law" = some (.ref fa))
    {od0 an0 od1 an1 od2 an2 od3 an3 od4 an4 od5 an5 od6 an6 od7 an7 od8 an8 od9 an9 od10 an10 od11 an11 od12 an12 od13 an13 od14 an14 od15 an15 od16 an16 od17 an17 od18 an18 od19 an19 od20 an20 od21 an21 od22 an22 od23 an23 od24 an24 od25 an25 od26 an26 od27 an27 od28 an28 od29 an29 od30 an30 od31 an31 od32 an32 od33 an33 od34 an34 od35 an35 od36 an36 od37 an37 od38 an38 od39 an39 od40 an40 od41 an41 od42 an42 od43 an43 od44 an44 od45 an45 : Option Addr} {sl0 sl1 sl2 sl3 sl4 sl5 sl6 sl7 sl8 sl9 sl10 sl11 sl12 sl13 sl14 sl15 sl16 sl17 sl18 sl19 sl20 sl21 sl22 sl23 sl24 sl25 sl26 sl27 sl28 sl29 sl30 sl31 sl32 sl33 sl34 sl35 sl36 sl37 sl38 sl39 sl40 sl41 sl42 sl43 sl44 sl45 : Array (Option Value)} {oc0 kV0 dc0 pm0 cd0 ct0 oc1 kV1 dc1 pm1 cd1 ct1 oc2 kV2 dc2 pm2 cd2 ct2 oc3 kV3 dc3 pm3 cd3 ct3 oc4 kV4 dc4 pm4 cd4 ct4 oc5 kV5 dc5 pm5 cd5 ct5 oc6 kV6 dc6 pm6 cd6 ct6 oc7 kV7 dc7 pm7 cd7 ct7 oc8 kV8 dc8 pm8 cd8 ct8 oc9 kV9 dc9 pm9 cd9 ct9 oc10 kV10 dc10 pm10 cd10 ct10 oc11 kV11 dc11 pm11 cd11 ct11 oc12 kV12 dc12 pm12 cd12 ct12 oc13 kV13 dc13 pm13 cd13 ct13 oc14 kV14 dc14 pm14 cd14 ct14 oc15 kV15 dc15 pm15 cd15 ct15 oc16 kV16 dc16 pm16 cd16 ct16 oc17 kV17 dc17 pm17 cd17 ct17 oc18 kV18 dc18 pm18 cd18 ct18 oc19 kV19 dc19 pm19 cd19 ct19 oc20 kV20 dc20 pm20 cd20 ct20 oc21 kV21 dc21 pm21 cd21 ct21 oc22 kV22 dc22 pm22 cd22 ct22 oc23 kV23 dc23 pm23 cd23 ct23 oc24 kV24 dc24 pm24 cd24 ct24 oc25 kV25 dc25 pm25 cd25 ct25 oc26 kV26 dc26 pm26 cd26 ct26 oc27 kV27 dc27 pm27 cd27 ct27 oc28 kV28 dc28 pm28 cd28 ct28 oc29 kV29 dc29 pm29 cd29 ct29 oc30 kV30 dc30 pm30 cd30 ct30 oc31 kV31 dc31 pm31 cd31 ct31 oc32 kV32 dc32 pm32 cd32 ct32 oc33 kV33 dc33 pm33 cd33 ct33 oc34 kV34 dc34 pm34 cd34 ct34 oc35 kV35 dc35 pm35 cd35 ct35 oc36 kV36 dc36 pm36 cd36 ct36 oc37 kV37 dc37 pm37 cd37 ct37 oc38 kV38 dc38 pm38 cd38 ct38 oc39 kV39 dc39 pm39 cd39 ct39 oc40 kV40 dc40 pm40 cd40 ct40 oc41 kV41 dc41 pm41 cd41 ct41 oc42 kV42 dc42 pm42 cd42 ct42 oc43 kV43 dc43 pm43 cd43 ct43 oc44 kV44 dc44 pm44 cd44 ct44 oc45 kV45 dc45 pm45 cd45 ct45 : Value}
    (a0 : PySem.W.nsIn K mainGlobals "is_whole" = some (some (.ref f0))) (l0 : K.lookup f0 = some ⟨oc0, od0, .func (PySem.W.fnOf "is_whole" "is_whole" (defArgs s_is_whole) (defBody s_is_whole) (defScope s_is_whole) .none kV0 dc0 pm0 an0 cd0 ct0), sl0⟩) (c0 : PySem.W.codeIn K cd0 "is_whole" = true) (k0 : PySem.W.keepIn K (.ref f0) = true)
    (a1 : PySem.W.nsIn K mainGlobals "is_within" = some (some (.ref f1))) (l1 : K.lookup f1 = some ⟨oc1, od1, .func (PySem.W.fnOf "is_within" "is_within" (defArgs s_is_within) (defBody s_is_within) (defScope s_is_within) .none kV1 dc1 pm1 an1 cd1 ct1), sl1⟩) (c1 : PySem.W.codeIn K cd1 "is_within" = true) (k1 : PySem.W.keepIn K (.ref f1) = true)
    (a2 : PySem.W.nsIn K mainGlobals "is_row" = some (some (.ref f2))) (l2 : K.lookup f2 = some ⟨oc2, od2, .func (PySem.W.fnOf "is_row" "is_row" (defArgs s_is_row) (defBody s_is_row) (defScope s_is_row) .none kV2 dc2 pm2 an2 cd2 ct2), sl2⟩) (c2 : PySem.W.codeIn K cd2 "is_row" = true) (k2 : PySem.W.keepIn K (.ref f2) = true)
    (a3 : PySem.W.nsIn K mainGlobals "is_table" = some (some (.ref f3))) (l3 : K.lookup f3 = some ⟨oc3, od3, .func (PySem.W.fnOf "is_table" "is_table" (defArgs s_is_table) (defBody s_is_table) (defScope s_is_table) .none kV3 dc3 pm3 an3 cd3 ct3), sl3⟩) (c3 : PySem.W.codeIn K cd3 "is_table" = true) (k3 : PySem.W.keepIn K (.ref f3) = true)
    (a4 : PySem.W.nsIn K mainGlobals "check_table" = some (some (.ref f4))) (l4 : K.lookup f4 = some ⟨oc4, od4, .func (PySem.W.fnOf "check_table" "check_table" (defArgs s_check_table) (defBody s_check_table) (defScope s_check_table) .none kV4 dc4 pm4 an4 cd4 ct4), sl4⟩) (c4 : PySem.W.codeIn K cd4 "check_table" = true) (k4 : PySem.W.keepIn K (.ref f4) = true)
    (a5 : PySem.W.nsIn K mainGlobals "_law_cell_at" = some (some (.ref f5))) (l5 : K.lookup f5 = some ⟨oc5, od5, .func (PySem.W.fnOf "_law_cell_at" "_law_cell_at" (defArgs s__law_cell_at) (defBody s__law_cell_at) (defScope s__law_cell_at) .none kV5 dc5 pm5 an5 cd5 ct5), sl5⟩) (c5 : PySem.W.codeIn K cd5 "_law_cell_at" = true) (k5 : PySem.W.keepIn K (.ref f5) = true)
    (a6 : PySem.W.nsIn K mainGlobals "_law_draw" = some (some (.ref f6))) (l6 : K.lookup f6 = some ⟨oc6, od6, .func (PySem.W.fnOf "_law_draw" "_law_draw" (defArgs s__law_draw) (defBody s__law_draw) (defScope s__law_draw) .none kV6 dc6 pm6 an6 cd6 ct6), sl6⟩) (c6 : PySem.W.codeIn K cd6 "_law_draw" = true) (k6 : PySem.W.keepIn K (.ref f6) = true)
    (a7 : PySem.W.nsIn K mainGlobals "_law_shape" = some (some (.ref f7))) (l7 : K.lookup f7 = some ⟨oc7, od7, .func (PySem.W.fnOf "_law_shape" "_law_shape" (defArgs s__law_shape) (defBody s__law_shape) (defScope s__law_shape) .none kV7 dc7 pm7 an7 cd7 ct7), sl7⟩) (c7 : PySem.W.codeIn K cd7 "_law_shape" = true) (k7 : PySem.W.keepIn K (.ref f7) = true)
    (a8 : PySem.W.nsIn K mainGlobals "_law_table" = some (some (.ref f8))) (l8 : K.lookup f8 = some ⟨oc8, od8, .func (PySem.W.fnOf "_law_table" "_law_table" (defArgs s__law_table) (defBody s__law_table) (defScope s__law_table) .none kV8 dc8 pm8 an8 cd8 ct8), sl8⟩) (c8 : PySem.W.codeIn K cd8 "_law_table" = true) (k8 : PySem.W.keepIn K (.ref f8) = true)
    (a9 : PySem.W.nsIn K mainGlobals "greatest_divisor" = some (some (.ref f9))) (l9 : K.lookup f9 = some ⟨oc9, od9, .func (PySem.W.fnOf "greatest_divisor" "greatest_divisor" (defArgs s_greatest_divisor) (defBody s_greatest_divisor) (defScope s_greatest_divisor) .none kV9 dc9 pm9 an9 cd9 ct9), sl9⟩) (c9 : PySem.W.codeIn K cd9 "greatest_divisor" = true) (k9 : PySem.W.keepIn K (.ref f9) = true)
    (a10 : PySem.W.nsIn K mainGlobals "made" = some (some (.ref f10))) (l10 : K.lookup f10 = some ⟨oc10, od10, .func (PySem.W.fnOf "made" "made" (defArgs s_made) (defBody s_made) (defScope s_made) .none kV10 dc10 pm10 an10 cd10 ct10), sl10⟩) (c10 : PySem.W.codeIn K cd10 "made" = true) (k10 : PySem.W.keepIn K (.ref f10) = true)
    (a11 : PySem.W.nsIn K mainGlobals "plus" = some (some (.ref f11))) (l11 : K.lookup f11 = some ⟨oc11, od11, .func (PySem.W.fnOf "plus" "plus" (defArgs s_plus) (defBody s_plus) (defScope s_plus) .none kV11 dc11 pm11 an11 cd11 ct11), sl11⟩) (c11 : PySem.W.codeIn K cd11 "plus" = true) (k11 : PySem.W.keepIn K (.ref f11) = true)
    (a12 : PySem.W.nsIn K mainGlobals "times" = some (some (.ref f12))) (l12 : K.lookup f12 = some ⟨oc12, od12, .func (PySem.W.fnOf "times" "times" (defArgs s_times) (defBody s_times) (defScope s_times) .none kV12 dc12 pm12 an12 cd12 ct12), sl12⟩) (c12 : PySem.W.codeIn K cd12 "times" = true) (k12 : PySem.W.keepIn K (.ref f12) = true)
    (a13 : PySem.W.nsIn K mainGlobals "below" = some (some (.ref f13))) (l13 : K.lookup f13 = some ⟨oc13, od13, .func (PySem.W.fnOf "below" "below" (defArgs s_below) (defBody s_below) (defScope s_below) .none kV13 dc13 pm13 an13 cd13 ct13), sl13⟩) (c13 : PySem.W.codeIn K cd13 "below" = true) (k13 : PySem.W.keepIn K (.ref f13) = true)
    (a14 : PySem.W.nsIn K mainGlobals "_law_common" = some (some (.ref f14))) (l14 : K.lookup f14 = some ⟨oc14, od14, .func (PySem.W.fnOf "_law_common" "_law_common" (defArgs s__law_common) (defBody s__law_common) (defScope s__law_common) .none kV14 dc14 pm14 an14 cd14 ct14), sl14⟩) (c14 : PySem.W.codeIn K cd14 "_law_common" = true) (k14 : PySem.W.keepIn K (.ref f14) = true)
    (a15 : PySem.W.nsIn K mainGlobals "weighed" = some (some (.ref f15))) (l15 : K.lookup f15 = some ⟨oc15, od15, .func (PySem.W.fnOf "weighed" "weighed" (defArgs s_weighed) (defBody s_weighed) (defScope s_weighed) .none kV15 dc15 pm15 an15 cd15 ct15), sl15⟩) (c15 : PySem.W.codeIn K cd15 "weighed" = true) (k15 : PySem.W.keepIn K (.ref f15) = true)
    (a16 : PySem.W.nsIn K mainGlobals "row_gets" = some (some (.ref f16))) (l16 : K.lookup f16 = some ⟨oc16, od16, .func (PySem.W.fnOf "row_gets" "row_gets" (defArgs s_row_gets) (defBody s_row_gets) (defScope s_row_gets) .none kV16 dc16 pm16 an16 cd16 ct16), sl16⟩) (c16 : PySem.W.codeIn K cd16 "row_gets" = true) (k16 : PySem.W.keepIn K (.ref f16) = true)
    (a17 : PySem.W.nsIn K mainGlobals "all_get" = some (some (.ref f17))) (l17 : K.lookup f17 = some ⟨oc17, od17, .func (PySem.W.fnOf "all_get" "all_get" (defArgs s_all_get) (defBody s_all_get) (defScope s_all_get) .none kV17 dc17 pm17 an17 cd17 ct17), sl17⟩) (c17 : PySem.W.codeIn K cd17 "all_get" = true) (k17 : PySem.W.keepIn K (.ref f17) = true)
    (a18 : PySem.W.nsIn K mainGlobals "column_of" = some (some (.ref f18))) (l18 : K.lookup f18 = some ⟨oc18, od18, .func (PySem.W.fnOf "column_of" "column_of" (defArgs s_column_of) (defBody s_column_of) (defScope s_column_of) .none kV18 dc18 pm18 an18 cd18 ct18), sl18⟩) (c18 : PySem.W.codeIn K cd18 "column_of" = true) (k18 : PySem.W.keepIn K (.ref f18) = true)
    (a19 : PySem.W.nsIn K mainGlobals "columns_of" = some (some (.ref f19))) (l19 : K.lookup f19 = some ⟨oc19, od19, .func (PySem.W.fnOf "columns_of" "columns_of" (defArgs s_columns_of) (defBody s_columns_of) (defScope s_columns_of) .none kV19 dc19 pm19 an19 cd19 ct19), sl19⟩) (c19 : PySem.W.codeIn K cd19 "columns_of" = true) (k19 : PySem.W.keepIn K (.ref f19) = true)
    (a20 : PySem.W.nsIn K mainGlobals "determinant" = some (some (.ref f20))) (l20 : K.lookup f20 = some ⟨oc20, od20, .func (PySem.W.fnOf "determinant" "determinant" (defArgs s_determinant) (defBody s_determinant) (defScope s_determinant) .none kV20 dc20 pm20 an20 cd20 ct20), sl20⟩) (c20 : PySem.W.codeIn K cd20 "determinant" = true) (k20 : PySem.W.keepIn K (.ref f20) = true)
    (a21 : PySem.W.nsIn K mainGlobals "with_column" = some (some (.ref f21))) (l21 : K.lookup f21 = some ⟨oc21, od21, .func (PySem.W.fnOf "with_column" "with_column" (defArgs s_with_column) (defBody s_with_column) (defScope s_with_column) .none kV21 dc21 pm21 an21 cd21 ct21), sl21⟩) (c21 : PySem.W.codeIn K cd21 "with_column" = true) (k21 : PySem.W.keepIn K (.ref f21) = true)
    (a22 : PySem.W.nsIn K mainGlobals "solution" = some (some (.ref f22))) (l22 : K.lookup f22 = some ⟨oc22, od22, .func (PySem.W.fnOf "solution" "solution" (defArgs s_solution) (defBody s_solution) (defScope s_solution) .none kV22 dc22 pm22 an22 cd22 ct22), sl22⟩) (c22 : PySem.W.codeIn K cd22 "solution" = true) (k22 : PySem.W.keepIn K (.ref f22) = true)
    (a23 : PySem.W.nsIn K mainGlobals "choices" = some (some (.ref f23))) (l23 : K.lookup f23 = some ⟨oc23, od23, .func (PySem.W.fnOf "choices" "choices" (defArgs s_choices) (defBody s_choices) (defScope s_choices) .none kV23 dc23 pm23 an23 cd23 ct23), sl23⟩) (c23 : PySem.W.codeIn K cd23 "choices" = true) (k23 : PySem.W.keepIn K (.ref f23) = true)
    (a24 : PySem.W.nsIn K mainGlobals "spread" = some (some (.ref f24))) (l24 : K.lookup f24 = some ⟨oc24, od24, .func (PySem.W.fnOf "spread" "spread" (defArgs s_spread) (defBody s_spread) (defScope s_spread) .none kV24 dc24 pm24 an24 cd24 ct24), sl24⟩) (c24 : PySem.W.codeIn K cd24 "spread" = true) (k24 : PySem.W.keepIn K (.ref f24) = true)
    (a25 : PySem.W.nsIn K mainGlobals "level" = some (some (.ref f25))) (l25 : K.lookup f25 = some ⟨oc25, od25, .func (PySem.W.fnOf "level" "level" (defArgs s_level) (defBody s_level) (defScope s_level) .none kV25 dc25 pm25 an25 cd25 ct25), sl25⟩) (c25 : PySem.W.codeIn K cd25 "level" = true) (k25 : PySem.W.keepIn K (.ref f25) = true)
    (a26 : PySem.W.nsIn K mainGlobals "corner" = some (some (.ref f26))) (l26 : K.lookup f26 = some ⟨oc26, od26, .func (PySem.W.fnOf "corner" "corner" (defArgs s_corner) (defBody s_corner) (defScope s_corner) .none kV26 dc26 pm26 an26 cd26 ct26), sl26⟩) (c26 : PySem.W.codeIn K cd26 "corner" = true) (k26 : PySem.W.keepIn K (.ref f26) = true)
    (a27 : PySem.W.nsIn K mainGlobals "corners_of" = some (some (.ref f27))) (l27 : K.lookup f27 = some ⟨oc27, od27, .func (PySem.W.fnOf "corners_of" "corners_of" (defArgs s_corners_of) (defBody s_corners_of) (defScope s_corners_of) .none kV27 dc27 pm27 an27 cd27 ct27), sl27⟩) (c27 : PySem.W.codeIn K cd27 "corners_of" = true) (k27 : PySem.W.keepIn K (.ref f27) = true)
    (a28 : PySem.W.nsIn K mainGlobals "_law_made" = some (some (.ref f28))) (l28 : K.lookup f28 = some ⟨oc28, od28, .func (PySem.W.fnOf "_law_made" "_law_made" (defArgs s__law_made) (defBody s__law_made) (defScope s__law_made) .none kV28 dc28 pm28 an28 cd28 ct28), sl28⟩) (c28 : PySem.W.codeIn K cd28 "_law_made" = true) (k28 : PySem.W.keepIn K (.ref f28) = true)
    (a29 : PySem.W.nsIn K mainGlobals "_law_less" = some (some (.ref f29))) (l29 : K.lookup f29 = some ⟨oc29, od29, .func (PySem.W.fnOf "_law_less" "_law_less" (defArgs s__law_less) (defBody s__law_less) (defScope s__law_less) .none kV29 dc29 pm29 an29 cd29 ct29), sl29⟩) (c29 : PySem.W.codeIn K cd29 "_law_less" = true) (k29 : PySem.W.keepIn K (.ref f29) = true)
    (a30 : PySem.W.nsIn K mainGlobals "_law_sum" = some (some (.ref f30))) (l30 : K.lookup f30 = some ⟨oc30, od30, .func (PySem.W.fnOf "_law_sum" "_law_sum" (defArgs s__law_sum) (defBody s__law_sum) (defScope s__law_sum) .none kV30 dc30 pm30 an30 cd30 ct30), sl30⟩) (c30 : PySem.W.codeIn K cd30 "_law_sum" = true) (k30 : PySem.W.keepIn K (.ref f30) = true)
    (a31 : PySem.W.nsIn K mainGlobals "_law_across" = some (some (.ref f31))) (l31 : K.lookup f31 = some ⟨oc31, od31, .func (PySem.W.fnOf "_law_across" "_law_across" (defArgs s__law_across) (defBody s__law_across) (defScope s__law_across) .none kV31 dc31 pm31 an31 cd31 ct31), sl31⟩) (c31 : PySem.W.codeIn K cd31 "_law_across" = true) (k31 : PySem.W.keepIn K (.ref f31) = true)
    (a32 : PySem.W.nsIn K mainGlobals "_law_mixture" = some (some (.ref f32))) (l32 : K.lookup f32 = some ⟨oc32, od32, .func (PySem.W.fnOf "_law_mixture" "_law_mixture" (defArgs s__law_mixture) (defBody s__law_mixture) (defScope s__law_mixture) .none kV32 dc32 pm32 an32 cd32 ct32), sl32⟩) (c32 : PySem.W.codeIn K cd32 "_law_mixture" = true) (k32 : PySem.W.keepIn K (.ref f32) = true)
    (a33 : PySem.W.nsIn K mainGlobals "greatest" = some (some (.ref f33))) (l33 : K.lookup f33 = some ⟨oc33, od33, .func (PySem.W.fnOf "greatest" "greatest" (defArgs s_greatest) (defBody s_greatest) (defScope s_greatest) .none kV33 dc33 pm33 an33 cd33 ct33), sl33⟩) (c33 : PySem.W.codeIn K cd33 "greatest" = true) (k33 : PySem.W.keepIn K (.ref f33) = true)
    (a34 : PySem.W.nsIn K mainGlobals "best_rows" = some (some (.ref f34))) (l34 : K.lookup f34 = some ⟨oc34, od34, .func (PySem.W.fnOf "best_rows" "best_rows" (defArgs s_best_rows) (defBody s_best_rows) (defScope s_best_rows) .none kV34 dc34 pm34 an34 cd34 ct34), sl34⟩) (c34 : PySem.W.codeIn K cd34 "best_rows" = true) (k34 : PySem.W.keepIn K (.ref f34) = true)
    (a35 : PySem.W.nsIn K mainGlobals "shared" = some (some (.ref f35))) (l35 : K.lookup f35 = some ⟨oc35, od35, .func (PySem.W.fnOf "shared" "shared" (defArgs s_shared) (defBody s_shared) (defScope s_shared) .none kV35 dc35 pm35 an35 cd35 ct35), sl35⟩) (c35 : PySem.W.codeIn K cd35 "shared" = true) (k35 : PySem.W.keepIn K (.ref f35) = true)
    (a36 : PySem.W.nsIn K mainGlobals "all_among" = some (some (.ref f36))) (l36 : K.lookup f36 = some ⟨oc36, od36, .func (PySem.W.fnOf "all_among" "all_among" (defArgs s_all_among) (defBody s_all_among) (defScope s_all_among) .none kV36 dc36 pm36 an36 cd36 ct36), sl36⟩) (c36 : PySem.W.codeIn K cd36 "all_among" = true) (k36 : PySem.W.keepIn K (.ref f36) = true)
    (a37 : PySem.W.findIn K (.ref A_Settled) "__init__" = some (some (.ref f37))) (i37 : PySem.W.isFn K (.ref f37) = true) (l37 : K.lookup f37 = some ⟨oc37, od37, .func (PySem.W.fnOf "__init__" "Settled.__init__" (defArgs s_Settled_init) (defBody s_Settled_init) (defScope s_Settled_init) .none kV37 dc37 pm37 an37 cd37 ct37), sl37⟩) (c37 : PySem.W.codeIn K cd37 "Settled.__init__" = true) (k37 : PySem.W.keepIn K (.ref f37) = true)
    (a38 : PySem.W.nsIn K mainGlobals "of_same_counts" = some (some (.ref f38))) (l38 : K.lookup f38 = some ⟨oc38, od38, .func (PySem.W.fnOf "of_same_counts" "of_same_counts" (defArgs s_of_same_counts) (defBody s_of_same_counts) (defScope s_of_same_counts) .none kV38 dc38 pm38 an38 cd38 ct38), sl38⟩) (c38 : PySem.W.codeIn K cd38 "of_same_counts" = true) (k38 : PySem.W.keepIn K (.ref f38) = true)
    (a39 : PySem.W.nsIn K mainGlobals "check_alike" = some (some (.ref f39))) (l39 : K.lookup f39 = some ⟨oc39, od39, .func (PySem.W.fnOf "check_alike" "check_alike" (defArgs s_check_alike) (defBody s_check_alike) (defScope s_check_alike) .none kV39 dc39 pm39 an39 cd39 ct39), sl39⟩) (c39 : PySem.W.codeIn K cd39 "check_alike" = true) (k39 : PySem.W.keepIn K (.ref f39) = true)
    (a40 : PySem.W.nsIn K mainGlobals "answered_corners" = some (some (.ref f40))) (l40 : K.lookup f40 = some ⟨oc40, od40, .func (PySem.W.fnOf "answered_corners" "answered_corners" (defArgs s_answered_corners) (defBody s_answered_corners) (defScope s_answered_corners) .none kV40 dc40 pm40 an40 cd40 ct40), sl40⟩) (c40 : PySem.W.codeIn K cd40 "answered_corners" = true) (k40 : PySem.W.keepIn K (.ref f40) = true)
    (a41 : PySem.W.nsIn K mainGlobals "settled" = some (some (.ref f41))) (l41 : K.lookup f41 = some ⟨oc41, od41, .func (PySem.W.fnOf "settled" "settled" (defArgs s_settled) (defBody s_settled) (defScope s_settled) .none kV41 dc41 pm41 an41 cd41 ct41), sl41⟩) (c41 : PySem.W.codeIn K cd41 "settled" = true) (k41 : PySem.W.keepIn K (.ref f41) = true)
    (a42 : PySem.W.nsIn K mainGlobals "_law_settled" = some (some (.ref f42))) (l42 : K.lookup f42 = some ⟨oc42, od42, .func (PySem.W.fnOf "_law_settled" "_law_settled" (defArgs s__law_settled) (defBody s__law_settled) (defScope s__law_settled) .none kV42 dc42 pm42 an42 cd42 ct42), sl42⟩) (c42 : PySem.W.codeIn K cd42 "_law_settled" = true) (k42 : PySem.W.keepIn K (.ref f42) = true)
    (a43 : PySem.W.nsIn K mainGlobals "_law_both" = some (some (.ref f43))) (l43 : K.lookup f43 = some ⟨oc43, od43, .func (PySem.W.fnOf "_law_both" "_law_both" (defArgs s__law_both) (defBody s__law_both) (defScope s__law_both) .none kV43 dc43 pm43 an43 cd43 ct43), sl43⟩) (c43 : PySem.W.codeIn K cd43 "_law_both" = true) (k43 : PySem.W.keepIn K (.ref f43) = true)
    (a44 : PySem.W.nsIn K mainGlobals "_law_back" = some (some (.ref f44))) (l44 : K.lookup f44 = some ⟨oc44, od44, .func (PySem.W.fnOf "_law_back" "_law_back" (defArgs s__law_back) (defBody s__law_back) (defScope s__law_back) .none kV44 dc44 pm44 an44 cd44 ct44), sl44⟩) (c44 : PySem.W.codeIn K cd44 "_law_back" = true) (k44 : PySem.W.keepIn K (.ref f44) = true)
    (a45 : PySem.W.nsIn K mainGlobals "law" = some (some (.ref f45))) (l45 : K.lookup f45 = some ⟨oc45, od45, .func (PySem.W.fnOf "law" "law" (defArgs s_law) (defBody s_law) (defScope s_law) .none kV45 dc45 pm45 an45 cd45 ct45), sl45⟩) (c45 : PySem.W.codeIn K cd45 "law" = true) (k45 : PySem.W.keepIn K (.ref f45) = true)
    (aC_Settled : PySem.W.nsIn K mainGlobals "Settled" = some (some (.ref A_Settled))) (pg_Settled : PySem.W.plainGet K A_Settled Str.empty = true) (hd_Settled : PySem.W.hasDictIn K A_Settled = true) (po_Settled : PySem.W.plainOver K A_Settled = true) (sa_Settled : PySem.W.findIn K (.ref A_Settled) "__setattr__" = some (some (.builtin "object.__setattr__"))) (mk_Settled : PySem.W.makesIn K A_Settled = true) (kc_Settled : PySem.W.keepIn K (.ref A_Settled) = true)
    (no_Settled_mine : PySem.W.findIn K (.ref A_Settled) "mine" = some none)
    (no_Settled_theirs : PySem.W.findIn K (.ref A_Settled) "theirs" = some none)
    (z0 : PySem.W.nsIn K mainGlobals "abs" = some none)
    (z1 : PySem.W.nsIn K mainGlobals "all" = some none)
    (z2 : PySem.W.nsIn K mainGlobals "any" = some none)
    (z3 : PySem.W.nsIn K mainGlobals "bool" = some none)
    (z4 : PySem.W.nsIn K mainGlobals "enumerate" = some none)
    (z5 : PySem.W.nsIn K mainGlobals "int" = some none)
    (z6 : PySem.W.nsIn K mainGlobals "isinstance" = some none)
    (z7 : PySem.W.nsIn K mainGlobals "len" = some none)
    (z8 : PySem.W.nsIn K mainGlobals "list" = some none)
    (z9 : PySem.W.nsIn K mainGlobals "range" = some none)
    (z10 : PySem.W.nsIn K mainGlobals "tuple" = some none)
    (z11 : PySem.W.nsIn K mainGlobals "zip" = some none)
    {ti0 : Tok} (y0 : PySem.W.nsIn K mainGlobals "LEAST_NUMBER" = some (some (.int (-100) ti0)))
    {ti1 : Tok} (y1 : PySem.W.nsIn K mainGlobals "MOST_CARDS" = some (some (.int (4) ti1)))
    {ti2 : Tok} (y2 : PySem.W.nsIn K mainGlobals "MOST_NUMBER" = some (some (.int (100) ti2)))
    : ∃ fd : FuncData, (∀ (s : Shared) (v : Value), BindsTo s fd ⟨[v], []⟩ [("_law_script", v)]) ∧ ∀ base : Heap, K.In base → base.Ns mainGlobals mg → FnOk l.prog w K mg base CX0 13 fa fd ["_law_script"] (sp_law K) := by
  have e := hfa.symm.trans (PySem.W.mg_of X G a45)
  cases e
  have T : Blt mg := { abs_ := PySem.W.mg_none_of X G z0, all_ := PySem.W.mg_none_of X G z1, any_ := PySem.W.mg_none_of X G z2, bool_ := PySem.W.mg_none_of X G z3, enumerate_ := PySem.W.mg_none_of X G z4, int_ := PySem.W.mg_none_of X G z5, isinstance_ := PySem.W.mg_none_of X G z6, len_ := PySem.W.mg_none_of X G z7, list_ := PySem.W.mg_none_of X G z8, range_ := PySem.W.mg_none_of X G z9, tuple_ := PySem.W.mg_none_of X G z10, zip_ := PySem.W.mg_none_of X G z11, LEAST_NUMBER := ⟨_, PySem.W.mg_of X G y0⟩, MOST_CARDS := ⟨_, PySem.W.mg_of X G y1⟩, MOST_NUMBER := ⟨_, PySem.W.mg_of X G y2⟩ }
  have C_Settled : Cl K mg "Settled" ["mine", "theirs"] [] A_Settled := ⟨⟨pg_Settled, hd_Settled, po_Settled, sa_Settled⟩, (fun f hf => by rcases List.mem_cons.mp hf with e | hf; (rw [e]; exact no_Settled_mine); rcases List.mem_cons.mp hf with e | hf; (rw [e]; exact no_Settled_theirs); cases hf), PySem.W.mg_of X G aC_Settled, mk_Settled, kc_Settled⟩
  have F0 := fun_m X G (st := s_is_whole) (ps := ["thing"]) a0 l0 c0 k0 (fun _ _ _ _ _ _ us hl => match us, hl with | [_], _ => rfl)
  have F1 := fun_m X G (st := s_is_within) (ps := ["number"]) a1 l1 c1 k1 (fun _ _ _ _ _ _ us hl => match us, hl with | [_], _ => rfl)
  have F2 := fun_m X G (st := s_is_row) (ps := ["thing"]) a2 l2 c2 k2 (fun _ _ _ _ _ _ us hl => match us, hl with | [_], _ => rfl)
  have F3 := fun_m X G (st := s_is_table) (ps := ["thing"]) a3 l3 c3 k3 (fun _ _ _ _ _ _ us hl => match us, hl with | [_], _ => rfl)
  have F4 := fun_m X G (st := s_check_table) (ps := ["thing"]) a4 l4 c4 k4 (fun _ _ _ _ _ _ us hl => match us, hl with | [_], _ => rfl)
  have F5 := fun_m X G (st := s__law_cell_at) (ps := ["_law_script", "_law_k"]) a5 l5 c5 k5 (fun _ _ _ _ _ _ us hl => match us, hl with | [_, _], _ => rfl)
  have F6 := fun_m X G (st := s__law_draw) (ps := ["_law_cell", "_law_k", "_law_many"]) a6 l6 c6 k6 (fun _ _ _ _ _ _ us hl => match us, hl with | [_, _, _], _ => rfl)
  have F7 := fun_m X G (st := s__law_shape) (ps := ["_law_cell"]) a7 l7 c7 k7 (fun _ _ _ _ _ _ us hl => match us, hl with | [_], _ => rfl)
  have F8 := fun_m X G (st := s__law_table) (ps := ["_law_cell", "_law_rows", "_law_columns"]) a8 l8 c8 k8 (fun _ _ _ _ _ _ us hl => match us, hl with | [_, _, _], _ => rfl)
  have F9 := fun_m X G (st := s_greatest_divisor) (ps := ["a", "b"]) a9 l9 c9 k9 (fun _ _ _ _ _ _ us hl => match us, hl with | [_, _], _ => rfl)
  have F10 := fun_m X G (st := s_made) (ps := ["a", "b"]) a10 l10 c10 k10 (fun _ _ _ _ _ _ us hl => match us, hl with | [_, _], _ => rfl)
  have F11 := fun_m X G (st := s_plus) (ps := ["one", "other"]) a11 l11 c11 k11 (fun _ _ _ _ _ _ us hl => match us, hl with | [_, _], _ => rfl)
  have F12 := fun_m X G (st := s_times) (ps := ["one", "other"]) a12 l12 c12 k12 (fun _ _ _ _ _ _ us hl => match us, hl with | [_, _], _ => rfl)
  have F13 := fun_m X G (st := s_below) (ps := ["one", "other"]) a13 l13 c13 k13 (fun _ _ _ _ _ _ us hl => match us, hl with | [_, _], _ => rfl)
  have F14 := fun_m X G (st := s__law_common) (ps := ["_law_one", "_law_other"]) a14 l14 c14 k14 (fun _ _ _ _ _ _ us hl => match us, hl with | [_, _], _ => rfl)
  have F15 := fun_m X G (st := s_weighed) (ps := ["values", "mixture"]) a15 l15 c15 k15 (fun _ _ _ _ _ _ us hl => match us, hl with | [_, _], _ => rfl)
  have F16 := fun_m X G (st := s_row_gets) (ps := ["row", "mixture"]) a16 l16 c16 k16 (fun _ _ _ _ _ _ us hl => match us, hl with | [_, _], _ => rfl)
  have F17 := fun_m X G (st := s_all_get) (ps := ["rows", "mixture"]) a17 l17 c17 k17 (fun _ _ _ _ _ _ us hl => match us, hl with | [_, _], _ => rfl)
  have F18 := fun_m X G (st := s_column_of) (ps := ["table", "column"]) a18 l18 c18 k18 (fun _ _ _ _ _ _ us hl => match us, hl with | [_, _], _ => rfl)
  have F19 := fun_m X G (st := s_columns_of) (ps := ["table"]) a19 l19 c19 k19 (fun _ _ _ _ _ _ us hl => match us, hl with | [_], _ => rfl)
  have F20 := fun_m X G (st := s_determinant) (ps := ["square"]) a20 l20 c20 k20 (fun _ _ _ _ _ _ us hl => match us, hl with | [_], _ => rfl)
  have F21 := fun_m X G (st := s_with_column) (ps := ["square", "column", "numbers"]) a21 l21 c21 k21 (fun _ _ _ _ _ _ us hl => match us, hl with | [_, _, _], _ => rfl)
  have F22 := fun_m X G (st := s_solution) (ps := ["square", "numbers"]) a22 l22 c22 k22 (fun _ _ _ _ _ _ us hl => match us, hl with | [_, _], _ => rfl)
  have F23 := fun_m X G (st := s_choices) (ps := ["count"]) a23 l23 c23 k23 (fun _ _ _ _ _ _ us hl => match us, hl with | [_], _ => rfl)
  have F24 := fun_m X G (st := s_spread) (ps := ["shares", "places", "count"]) a24 l24 c24 k24 (fun _ _ _ _ _ _ us hl => match us, hl with | [_, _, _], _ => rfl)
  have F25 := fun_m X G (st := s_level) (ps := ["table", "rows", "columns"]) a25 l25 c25 k25 (fun _ _ _ _ _ _ us hl => match us, hl with | [_, _, _], _ => rfl)
  have F26 := fun_m X G (st := s_corner) (ps := ["table", "rows", "columns"]) a26 l26 c26 k26 (fun _ _ _ _ _ _ us hl => match us, hl with | [_, _, _], _ => rfl)
  have F27 := fun_m X G (st := s_corners_of) (ps := ["table"]) a27 l27 c27 k27 (fun _ _ _ _ _ _ us hl => match us, hl with | [_], _ => rfl)
  have F28 := fun_m X G (st := s__law_made) (ps := ["_law_a", "_law_b"]) a28 l28 c28 k28 (fun _ _ _ _ _ _ us hl => match us, hl with | [_, _], _ => rfl)
  have F29 := fun_m X G (st := s__law_less) (ps := ["_law_one", "_law_other"]) a29 l29 c29 k29 (fun _ _ _ _ _ _ us hl => match us, hl with | [_, _], _ => rfl)
  have F30 := fun_m X G (st := s__law_sum) (ps := ["_law_worths", "_law_shares"]) a30 l30 c30 k30 (fun _ _ _ _ _ _ us hl => match us, hl with | [_, _], _ => rfl)
  have F31 := fun_m X G (st := s__law_across) (ps := ["_law_table_here"]) a31 l31 c31 k31 (fun _ _ _ _ _ _ us hl => match us, hl with | [_], _ => rfl)
  have F32 := fun_m X G (st := s__law_mixture) (ps := ["_law_mixture_here", "_law_many"]) a32 l32 c32 k32 (fun _ _ _ _ _ _ us hl => match us, hl with | [_, _], _ => rfl)
  have F33 := fun_m X G (st := s_greatest) (ps := ["values"]) a33 l33 c33 k33 (fun _ _ _ _ _ _ us hl => match us, hl with | [_], _ => rfl)
  have F34 := fun_m X G (st := s_best_rows) (ps := ["table", "theirs"]) a34 l34 c34 k34 (fun _ _ _ _ _ _ us hl => match us, hl with | [_, _], _ => rfl)
  have F35 := fun_m X G (st := s_shared) (ps := ["mixture"]) a35 l35 c35 k35 (fun _ _ _ _ _ _ us hl => match us, hl with | [_], _ => rfl)
  have F36 := fun_m X G (st := s_all_among) (ps := ["cards", "others"]) a36 l36 c36 k36 (fun _ _ _ _ _ _ us hl => match us, hl with | [_, _], _ => rfl)
  have F37 := fun_c (C := A_Settled) (st := s_Settled_init) (ps := ["self", "mine", "theirs"]) a37 i37 l37 c37 k37 (fun _ _ _ _ _ _ us hl => match us, hl with | [_, _, _], _ => rfl)
  have F38 := fun_m X G (st := s_of_same_counts) (ps := ["one", "other"]) a38 l38 c38 k38 (fun _ _ _ _ _ _ us hl => match us, hl with | [_, _], _ => rfl)
  have F39 := fun_m X G (st := s_check_alike) (ps := ["one", "other"]) a39 l39 c39 k39 (fun _ _ _ _ _ _ us hl => match us, hl with | [_, _], _ => rfl)
  have F40 := fun_m X G (st := s_answered_corners) (ps := ["table"]) a40 l40 c40 k40 (fun _ _ _ _ _ _ us hl => match us, hl with | [_], _ => rfl)
  have F41 := fun_m X G (st := s_settled) (ps := ["one", "other"]) a41 l41 c41 k41 (fun _ _ _ _ _ _ us hl => match us, hl with | [_, _], _ => rfl)
  have F42 := fun_m X G (st := s__law_settled) (ps := ["_law_one", "_law_other", "_law_mine", "_law_theirs"]) a42 l42 c42 k42 (fun _ _ _ _ _ _ us hl => match us, hl with | [_, _, _, _], _ => rfl)
  have F43 := fun_m X G (st := s__law_both) (ps := ["_law_table_here", "_law_mine", "_law_theirs"]) a43 l43 c43 k43 (fun _ _ _ _ _ _ us hl => match us, hl with | [_, _, _], _ => rfl)
  have F44 := fun_m X G (st := s__law_back) (ps := ["_law_table_here"]) a44 l44 c44 k44 (fun _ _ _ _ _ _ us hl => match us, hl with | [_], _ => rfl)
  have FL := fun_mk (st := s_law) l45 c45 k45
  refine ⟨PySem.W.fnOf "law" "law" (defArgs s_law) (defBody s_law) (defScope s_law) .none kV45 dc45 pm45 an45 cd45 ct45, fun s v => .of_eq rfl, fun base _ _ => ?_⟩
  have G_is_whole := ok_is_whole (P := l.prog) (w := w) (base := base) F0 T
  have G_is_within := ok_is_within (P := l.prog) (w := w) (base := base) F1 T
  have G_is_row := ok_is_row (P := l.prog) (w := w) (base := base) F2 T G_is_whole G_is_within
  have G_is_table := ok_is_table (P := l.prog) (w := w) (base := base) F3 T G_is_row
  have G_check_table := ok_check_table (P := l.prog) (w := w) (base := base) F4 T G_is_table
  have G__law_cell_at := ok__law_cell_at (P := l.prog) (w := w) (base := base) F5 T
  have G__law_draw := ok__law_draw (P := l.prog) (w := w) (base := base) F6 T
  have G__law_shape := ok__law_shape (P := l.prog) (w := w) (base := base) F7 T
  have G__law_table := ok__law_table (P := l.prog) (w := w) (base := base) F8 T G__law_draw
  have G_greatest_divisor := ok_greatest_divisor (P := l.prog) (w := w) (base := base) F9 T
  have G_made := ok_made (P := l.prog) (w := w) (base := base) F10 T G_greatest_divisor
  have G_plus := ok_plus (P := l.prog) (w := w) (base := base) F11 T G_made
  have G_times := ok_times (P := l.prog) (w := w) (base := base) F12 T G_made
  have G_below := ok_below (P := l.prog) (w := w) (base := base) F13 T
  have G__law_common := ok__law_common (P := l.prog) (w := w) (base := base) F14 T
  have G_weighed := ok_weighed (P := l.prog) (w := w) (base := base) F15 T G_plus G_times
  have G_row_gets := ok_row_gets (P := l.prog) (w := w) (base := base) F16 T G_weighed
  have G_all_get := ok_all_get (P := l.prog) (w := w) (base := base) F17 T G_row_gets
  have G_column_of := ok_column_of (P := l.prog) (w := w) (base := base) F18 T
  have G_columns_of := ok_columns_of (P := l.prog) (w := w) (base := base) F19 T G_column_of
  have G_determinant := ok_determinant (P := l.prog) (w := w) (base := base) F20 T
  have G_with_column := ok_with_column (P := l.prog) (w := w) (base := base) F21 T
  have G_solution := ok_solution (P := l.prog) (w := w) (base := base) F22 T G_determinant G_with_column G_made
  have G_choices := ok_choices (P := l.prog) (w := w) (base := base) F23 T
  have G_spread := ok_spread (P := l.prog) (w := w) (base := base) F24 T
  have G_level := ok_level (P := l.prog) (w := w) (base := base) F25 T G_solution
  have G_corner := ok_corner (P := l.prog) (w := w) (base := base) F26 T G_level G_below G_spread G_all_get
  have G_corners_of := ok_corners_of (P := l.prog) (w := w) (base := base) F27 T G_choices G_corner
  have G__law_made := ok__law_made (P := l.prog) (w := w) (base := base) F28 T G__law_common
  have G__law_less := ok__law_less (P := l.prog) (w := w) (base := base) F29 T
  have G__law_sum := ok__law_sum (P := l.prog) (w := w) (base := base) F30 T G__law_made
  have G__law_across := ok__law_across (P := l.prog) (w := w) (base := base) F31 T
  have G__law_mixture := ok__law_mixture (P := l.prog) (w := w) (base := base) F32 T G__law_made G__law_sum
  have G_greatest := ok_greatest (P := l.prog) (w := w) (base := base) F33 T G_below
  have G_best_rows := ok_best_rows (P := l.prog) (w := w) (base := base) F34 T G_all_get G_greatest
  have G_shared := ok_shared (P := l.prog) (w := w) (base := base) F35 T
  have G_all_among := ok_all_among (P := l.prog) (w := w) (base := base) F36 T
  have G_Settled_init := ok_Settled_init (P := l.prog) (w := w) (base := base) F37 T C_Settled
  have G_of_same_counts := ok_of_same_counts (P := l.prog) (w := w) (base := base) F38 T
  have G_check_alike := ok_check_alike (P := l.prog) (w := w) (base := base) F39 T G_check_table G_of_same_counts
  have G_answered_corners := ok_answered_corners (P := l.prog) (w := w) (base := base) F40 T G_corners_of G_shared G_best_rows
  have G_settled := ok_settled (P := l.prog) (w := w) (base := base) F41 T C_Settled G_check_alike G_answered_corners G_columns_of G_all_among G_Settled_init
  have G__law_settled := ok__law_settled (P := l.prog) (w := w) (base := base) F42 T G__law_mixture G__law_sum G__law_across G__law_less
  have G__law_sum__B := ok__law_sum__B (P := l.prog) (w := w) (base := base) F30 T G__law_made
  have G__law_both := ok__law_both (P := l.prog) (w := w) (base := base) F43 T G__law_sum__B
  have G__law_back := ok__law_back (P := l.prog) (w := w) (base := base) F44 T
  exact ok_law FL T C_Settled G__law_cell_at G__law_shape G__law_table G_settled G__law_settled G__law_both G__law_back G__law_across
theorem walk {l : PySem.W.OpenLaw} {q : Program} {loose : List Str} {XP : (Str → Option Value) → Heap → Prop} {YP : World → Heap → Prop} {d : DefRec} {K : Params → PySem.W.Frag} (hn : l.most = some 63) (hdf : d.params.defaults = [])
    (hY : ∀ (w : World) (h : Heap), YP w h → (K w.params).In h)
    (F : ∀ (w : World) (mg : Str → Option Value) (fa : Addr) (h : Heap), (K w.params).In h → h.Ns mainGlobals mg → mg d.name = some (.ref fa) →
      ∃ fd : FuncData, (∀ (s : Shared) (u : Value), BindsTo s fd ⟨[u], []⟩ [("_law_script", u)]) ∧ ∀ base : Heap, (K w.params).In base → base.Ns mainGlobals mg → FnOk l.prog w (K w.params) mg base CX0 13 fa fd ["_law_script"] (sp_law (K w.params))) :
    PySem.W.WalkO q loose XP YP l.row.toRowW d [] (fun f vs => PySem.call f vs) :=
  L2.walk_of (n := 63) (k := 13) (x := "_law_script") (CX := fun _ => CX0) (sp := fun w => sp_law (K w.params)) hn (by decide) hdf ⟨rfl, by decide, by decide⟩ hY F (fun _ _ a ns hl _ hS => ⟨a, ns, rfl, hS, hl, fun _ => rfl⟩) fun _ _ _ _ _ z => z
end K12
def PySem.W.Fast.tw16750771419631220457 : Nat := 0
def PySem.W.Fast.tw4496158374633415482 : Nat := 0
def PySem.W.Fast.tw6460025951205847390 : Nat := 0
def PySem.W.Fast.tw17515101789069918148 : Nat := 0
def PySem.W.Fast.tw18356131014382095942 : Nat := 0
def PySem.W.Fast.tw12449956655149492941 : Nat := 0
def PySem.W.Fast.tw6951804075215157178 : Nat := 0
def PySem.W.Fast.tw5262740592340932343 : Nat := 0
def PySem.W.Fast.tw5660445260124092629 : Nat := 0
def PySem.W.Fast.tw7803848908553241924 : Nat := 0
def PySem.W.Fast.tw14966113270175904986 : Nat := 0
def PySem.W.Fast.tw3963711582973521966 : Nat := 0
def PySem.W.Fast.tw11350899136243481152 : Nat := 0
def PySem.W.Fast.tw5469226163970537416 : Nat := 0
def PySem.W.Fast.tw4690520917920753840 : Nat := 0
def PySem.W.Fast.tw16516963037980951603 : Nat := 0
def PySem.W.Fast.tw8409061983256588860 : Nat := 0
def PySem.W.Fast.tw4536029361674935350 : Nat := 0
def PySem.W.Fast.tw7674054862427145672 : Nat := 0
def PySem.W.Fast.tw18028488684336632953 : Nat := 0
def PySem.W.Fast.tw885649822655298651 : Nat := 0
def PySem.W.Fast.tw5322172795481072348 : Nat := 0
def PySem.W.Fast.tw1940268403582381848 : Nat := 0
def PySem.W.Fast.tw2078529907643579857 : Nat := 0
def PySem.W.Fast.tw12673247764773489057 : Nat := 0
def PySem.W.Fast.tw16229700898018015981 : Nat := 0
def PySem.W.Fast.tw352007795665925523 : Nat := 0
def PySem.W.Fast.tw13808163916963184269 : Nat := 0
def PySem.W.Fast.tw18006095346900247770 : Nat := 0
def PySem.W.Fast.tw448900901942823878 : Nat := 0
def PySem.W.Fast.tw15745982731939737942 : Nat := 0
def PySem.W.Fast.tw2546012054865507713 : Nat := 0
def PySem.W.Fast.tw10374396801130938992 : Nat := 0
def PySem.W.Fast.tw11976936939652979950 : Nat := 0
def PySem.W.Fast.tw5042789923903016040 : Nat := 0
def PySem.W.Fast.tw2376858596452595109 : Nat := 0
def PySem.W.Fast.tw18175499398036822990 : Nat := 0
def PySem.W.Fast.tw9945898779413630009 : Nat := 0
def PySem.W.Fast.tw12172707902359128440 : Nat := 0
def PySem.W.Fast.tw15625021141567223324 : Nat := 0
def PySem.W.Fast.tw12101886446357548152 : Nat := 0
def PySem.W.Fast.tw6203109090300202117 : Nat := 0
def PySem.W.Fast.tw13610968459224178033 : Nat := 0
def PySem.W.Fast.tw3340806875979821089 : Nat := 0
def PySem.W.Fast.tw11873092490348855573 : Nat := 0
def PySem.W.Fast.tw3107159838110215737 : Nat := 0
def PySem.W.Fast.tw959495735126558358 : Nat := 0
def PySem.W.Fast.tw2518395109722912029 : Nat := 0
def PySem.W.Fast.tw10496489339168062084 : Nat := 0
def PySem.W.Fast.tw1356905781876810934 : Nat := 0
def PySem.W.Fast.tw16687793129688526788 : Nat := 0
def PySem.W.Fast.tw11157345921889028716 : Nat := 0
def PySem.W.Fast.tw11378953901139455090 : Nat := 0
def PySem.W.Fast.tw11265766316251694286 : Nat := 0
def PySem.W.Fast.tw15568837453428543514 : Nat := 0
def PySem.W.Fast.tw10918281840037279621 : Nat := 0
def PySem.W.Fast.tw2203928491625567103 : Nat := 0
def PySem.W.Fast.tw12685159492221924539 : Nat := 0
def PySem.W.Fast.tw13073706045134226889 : Nat := 0
def PySem.W.Fast.tw7479304690012890699 : Nat := 0
def PySem.W.Fast.tw1808243677095281360 : Nat := 0
def PySem.W.Fast.tw16696315393691855149 : Nat := 0
def PySem.W.Fast.tw5739609307063862696 : Nat := 0
def PySem.W.Fast.tw2486785868426990458 : Nat := 0
def PySem.W.Fast.tw8993117577054668955 : Nat := 0
def PySem.W.Fast.tw14365509678748840575 : Nat := 0
def PySem.W.Fast.tw2338895820614746426 : Nat := 0
def PySem.W.Fast.tw9602595005123377297 : Nat := 0
def PySem.W.Fast.tw10362455228102759741 : Nat := 0
def PySem.W.Fast.tw1013958464731293905 : Nat := 0
def PySem.W.Fast.tw16160646756608411823 : Nat := 0
def PySem.W.Fast.tw15454651542059675901 : Nat := 0
def PySem.W.Fast.tw5212468122995983802 : Nat := 0
def PySem.W.Fast.tw4709480467728990610 : Nat := 0
def PySem.W.Fast.tw7477229070660686206 : Nat := 0
def PySem.W.Fast.tw15397754485771778227 : Nat := 0
def PySem.W.Fast.tw3234161157394618551 : Nat := 0
def PySem.W.Fast.tw11866974633050448107 : Nat := 0
def PySem.W.Fast.tw6444247286973551409 : Nat := 0
def PySem.W.Fast.tw13194771587187142172 : Nat := 0
def PySem.W.Fast.tw6498271247632425712 : Nat := 0
def PySem.W.Fast.tw996914751809958793 : Nat := 0
def PySem.W.Fast.tw10488230331709119766 : Nat := 0
def PySem.W.Fast.tw5229692961511634902 : Nat := 0
def PySem.W.Fast.tw1073040993333424746 : Nat := 0
def PySem.W.Fast.tw2651293248431119533 : Nat := 0
def PySem.W.Fast.tw6912466442497973358 : Nat := 0
def PySem.W.Fast.tw4419051561539111032 : Nat := 0
def PySem.W.Fast.tw14208329218873096554 : Nat := 0
def PySem.W.Fast.tw14225119147332419197 : Nat := 0
def PySem.W.Fast.tw6219717376778968625 : Nat := 0
def PySem.W.Fast.tw6341624293634934472 : Nat := 0
def PySem.W.Fast.tw2365287910679531555 : Nat := 0
def PySem.W.Fast.tw18378990368638434890 : Nat := 0
def PySem.W.Fast.tw16555204452551451666 : Nat := 0
def PySem.W.Fast.tw17501465254969745025 : Nat := 0
def PySem.W.Fast.tw457084003881298662 : Nat := 0
def PySem.W.Fast.tw7904579231140633231 : Nat := 0
def PySem.W.Fast.tw14707400785366456636 : Nat := 0
def PySem.W.Fast.tw3440510683938482575 : Nat := 0
def PySem.W.Fast.tw15589793668242013816 : Nat := 0
def PySem.W.Fast.tw15970736508526775609 : Nat := 0
def PySem.W.Fast.tw1786325045828834971 : Nat := 0
def PySem.W.Fast.tw11089711370103477008 : Nat := 0
def PySem.W.Fast.tw6714532221110382536 : Nat := 0
def PySem.W.Fast.tw7585445893999743575 : Nat := 0
def PySem.W.Fast.tw12986487240387876566 : Nat := 0
def PySem.W.Fast.tw14417281135111047915 : Nat := 0
def PySem.W.Fast.tw3663308605691039404 : Nat := 0
def PySem.W.Fast.tw16599975533565643335 : Nat := 0
def PySem.W.Fast.tw1239941074737578476 : Nat := 0
def PySem.W.Fast.tw9661955478841293453 : Nat := 0
def PySem.W.Fast.tw4329702503639612617 : Nat := 0
def PySem.W.Fast.tw1020464929337707258 : Nat := 0
def PySem.W.Fast.tw1637278004433949092 : Nat := 0
def PySem.W.Fast.tw16633666930265326554 : Nat := 0
def PySem.W.Fast.tw15290582704510946777 : Nat := 0
def PySem.W.Fast.tw11501171563694011587 : Nat := 0
def PySem.W.Fast.tw1729637936191752920 : Nat := 0
def PySem.W.Fast.tw11661515365401531772 : Nat := 0
def PySem.W.Fast.tw2985850049232192711 : Nat := 0
def PySem.W.Fast.tw5221675742017159746 : Nat := 0
def PySem.W.Fast.tw14960132893826310127 : Nat := 0
def PySem.W.Fast.tw17623911333945009762 : Nat := 0
def PySem.W.Fast.tw14207379160414566961 : Nat := 0
def PySem.W.Fast.tw7392882818767127962 : Nat := 0
def PySem.W.Fast.tw13911745169529135808 : Nat := 0
def PySem.W.Fast.tw14919722704300536982 : Nat := 0
def PySem.W.Fast.tw17772006177051621635 : Nat := 0
def PySem.W.Fast.tw5999071248572635741 : Nat := 0
def PySem.W.Fast.tw13539016229124002019 : Nat := 0
def PySem.W.Fast.tw12846602869989657092 : Nat := 0
def PySem.W.Fast.tw8020429169517263761 : Nat := 0
def PySem.W.Fast.tw17440614205410927750 : Nat := 0
def PySem.W.Fast.tw8823258528228450050 : Nat := 0
def PySem.W.Fast.tw6945390221457561436 : Nat := 0
def PySem.W.Fast.tw3119423017978174359 : Nat := 0
def PySem.W.Fast.tw15196449526408085930 : Nat := 0
def PySem.W.Fast.tw3887245947586353350 : Nat := 0
def PySem.W.Fast.tw7843542321782424542 : Nat := 0
def PySem.W.Fast.tw18383026475598686294 : Nat := 0
def PySem.W.Fast.tw2791545096794351801 : Nat := 0
def PySem.W.Fast.tw6879662111388200522 : Nat := 0
def PySem.W.Fast.tw16365856693215305943 : Nat := 0
def PySem.W.Fast.tw2489369974749919129 : Nat := 0
def PySem.W.Fast.tw13513988023370101800 : Nat := 0
def PySem.W.Fast.tw6613890826730015553 : Nat := 0
def PySem.W.Fast.tw1107372057233424093 : Nat := 0
def PySem.W.Fast.tw17334930800093224187 : Nat := 0
def PySem.W.Fast.tw4556651413334491579 : Nat := 0
def PySem.W.Fast.tw8773860131997214056 : Nat := 0
def PySem.W.Fast.tw6433811367668121466 : Nat := 0
def PySem.W.Fast.tw1229838207605390690 : Nat := 0
def PySem.W.Fast.tw9641513976055191029 : Nat := 0
def PySem.W.Fast.tw12293643386055486686 : Nat := 0
def PySem.W.Fast.tw6357526120134182677 : Nat := 0
def PySem.W.Fast.tw14615922792990131229 : Nat := 0
def PySem.W.Fast.tw16907733278505532040 : Nat := 0
def PySem.W.Fast.tw12037661230562747357 : Nat := 0
def PySem.W.Fast.tw6006800922922553015 : Nat := 0
def PySem.W.Fast.tw12607802538478594179 : Nat := 0
def PySem.W.Fast.tw16162883726290698681 : Nat := 0
def PySem.W.Fast.tw8974620406922969264 : Nat := 0
def PySem.W.Fast.tw9580038342080759937 : Nat := 0
def PySem.W.Fast.tw1878422622994237118 : Nat := 0
def PySem.W.Fast.tw12163092456350722920 : Nat := 0
def PySem.W.Fast.tw6388512528690507255 : Nat := 0
def PySem.W.Fast.tw17771988309214742585 : Nat := 0
def PySem.W.Fast.tw5286810850138821526 : Nat := 0
def PySem.W.Fast.tw11419029527143474429 : Nat := 0
def PySem.W.Fast.tw5904346686815690700 : Nat := 0
def PySem.W.Fast.tw7008063095386734201 : Nat := 0
def PySem.W.Fast.tw12850529968675766999 : Nat := 0
def PySem.W.Fast.tw11415441126751861322 : Nat := 0
def PySem.W.Fast.tw842931696292868950 : Nat := 0
def PySem.W.Fast.tw2714940666220100875 : Nat := 0
def PySem.W.Fast.tw4337400091146294981 : Nat := 0
def PySem.W.Fast.tw14108247255989202064 : Nat := 0
def PySem.W.Fast.tw11158853952909609005 : Nat := 0
def PySem.W.Fast.tw3378608205030541973 : Nat := 0
def PySem.W.Fast.tw15657109015553855322 : Nat := 0
def PySem.W.Fast.tw2191815955220562086 : Nat := 0
def PySem.W.Fast.tw15867539382496594932 : Nat := 0
def PySem.W.Fast.tw6364326142797129962 : Nat := 0
def PySem.W.Fast.tw5684709164350147813 : Nat := 0
def PySem.W.Fast.tw5994304710886911828 : Nat := 0
def PySem.W.Fast.tw5295196767820250474 : Nat := 0
def PySem.W.Fast.tw563099879453178782 : Nat := 0
def PySem.W.Fast.tw1593084479422364998 : Nat := 0
def PySem.W.Fast.tw7365647422336021100 : Nat := 0
def PySem.W.Fast.tw3315418650859587380 : Nat := 0
def PySem.W.Fast.tw255455664032633716 : Nat := 0
def PySem.W.Fast.tw9004028257558952442 : Nat := 0
def PySem.W.Fast.tw10453517586964010249 : Nat := 0
def PySem.W.Fast.tw13898419740151529217 : Nat := 0
def PySem.W.Fast.tw3325588644810141555 : Nat := 0
def PySem.W.Fast.tw3741899227748515888 : Nat := 0
def PySem.W.Fast.tw15529679237676923997 : Nat := 0
def PySem.W.Fast.tw8251780951091342784 : Nat := 0
def PySem.W.Fast.tw18417841325778424379 : Nat := 0
def PySem.W.Fast.tw17803591166366781536 : Nat := 0
def PySem.W.Fast.tw6187665666787937213 : Nat := 0
def PySem.W.Fast.tw14316904934684859811 : Nat := 0
def PySem.W.Fast.tw1979689767390282585 : Nat := 0
def PySem.W.Fast.tw5110237180153854574 : Nat := 0
def PySem.W.Fast.tw15326637392023140298 : Nat := 0
def PySem.W.Fast.tw10891509323238614805 : Nat := 0
def PySem.W.Fast.tw8263512364767663144 : Nat := 0
def PySem.W.Fast.tw1969871111049106247 : Nat := 0
def PySem.W.Fast.tw5685646177408324914 : Nat := 0
def PySem.W.Fast.tw14437089759829507269 : Nat := 0
def PySem.W.Fast.tw15323951536861977743 : Nat := 0
def PySem.W.Fast.tw1753450542857894798 : Nat := 0
def PySem.W.Fast.tw11046019299141938559 : Nat := 0
def PySem.W.Fast.tw5938528491938959761 : Nat := 0
def PySem.W.Fast.tw9297486221133512475 : Nat := 0
def PySem.W.Fast.tw14800460364891094463 : Nat := 0
def PySem.W.Fast.tw8550678222996919022 : Nat := 0
def PySem.W.Fast.tw18343697938310591059 : Nat := 0
def PySem.W.Fast.tw14960068230276447881 : Nat := 0
def PySem.W.Fast.tw7450102785245412915 : Nat := 0
def PySem.W.Fast.tw8926088356965170144 : Nat := 0
def PySem.W.Fast.tw13455304097263330881 : Nat := 0
def PySem.W.Fast.tw9626685649688384859 : Nat := 0
def PySem.W.Fast.tw13487406632067214897 : Nat := 0
def PySem.W.Fast.tw9774888576412391847 : Nat := 0
def PySem.W.Fast.tw3261677816639799815 : Nat := 0
def PySem.W.Fast.tw10630581104368713602 : Nat := 0
def PySem.W.Fast.tw17959981117838925172 : Nat := 0
def PySem.W.Fast.tw16372482169017823311 : Nat := 0
def PySem.W.Fast.tw9695160885824974547 : Nat := 0
def PySem.W.Fast.tw1544925776479845516 : Nat := 0
def PySem.W.Fast.tw17916441499519532900 : Nat := 0
def PySem.W.Fast.tw5916147251091306808 : Nat := 0
def PySem.W.Fast.tw3659248041240042466 : Nat := 0
def PySem.W.Fast.tw8040832373722207939 : Nat := 0
def PySem.W.Fast.tw16599930240999990253 : Nat := 0
def PySem.W.Fast.tw165321297838692136 : Nat := 0
def PySem.W.Fast.tw4655296371848696416 : Nat := 0
def PySem.W.Fast.tw7077785573982488943 : Nat := 0
def PySem.W.Fast.tw12067051516328586108 : Nat := 0
def PySem.W.Fast.tw7284779274904845672 : Nat := 0
def PySem.W.Fast.tw11262983582615172175 : Nat := 0
def PySem.W.Fast.tw11496955223086311121 : Nat := 0
def PySem.W.Fast.tw2909453055766064345 : Nat := 0
def PySem.W.Fast.tw11884213986036897873 : Nat := 0
def PySem.W.Fast.tw8703710087024351140 : Nat := 0
def PySem.W.Fast.tw3939411512213586478 : Nat := 0
def PySem.W.Fast.tw11066329414041603534 : Nat := 0
def PySem.W.Fast.tw9234822260657825335 : Nat := 0
def PySem.W.Fast.tw8422107039346543477 : Nat := 0
def PySem.W.Fast.tw8456921447829863243 : Nat := 0
def PySem.W.Fast.tw1602245506060862672 : Nat := 0
def PySem.W.Fast.tw18323172584743982835 : Nat := 0
def PySem.W.Fast.tw10587677724289898003 : Nat := 0
def PySem.W.Fast.tw814545990561487379 : Nat := 0
def PySem.W.Fast.tw9739471247443594170 : Nat := 0
def PySem.W.Fast.tw5342155149809685375 : Nat := 0
def PySem.W.Fast.tw15756572134776344965 : Nat := 0
def PySem.W.Fast.tw12544421581320602455 : Nat := 0
def PySem.W.Fast.tw14799086237928630400 : Nat := 0
def PySem.W.Fast.tw12870640352897541180 : Nat := 0
def PySem.W.Fast.tw14045151109607017694 : Nat := 0
def PySem.W.Fast.tw3889394077892125837 : Nat := 0
def PySem.W.Fast.tw111850180876741544 : Nat := 0
def PySem.W.Fast.tw916886791895390365 : Nat := 0
def PySem.W.Fast.tw9383441411899973980 : Nat := 0
def PySem.W.Fast.tw4671320066424903714 : Nat := 0
def PySem.W.Fast.tw17790613364946411857 : Nat := 0
def PySem.W.Fast.tw5033313137655274599 : Nat := 0
def PySem.W.Fast.tw6126326901469042153 : Nat := 0
def PySem.W.Fast.tw20711195342556741 : Nat := 0
def PySem.W.Fast.tw12826957829904901035 : Nat := 0
def PySem.W.Fast.tw9985878979250593069 : Nat := 0
def PySem.W.Fast.tw17112349511539879702 : Nat := 0
def PySem.W.Fast.tw5437265918648722598 : Nat := 0
def PySem.W.Fast.tw10245380579834388085 : Nat := 0
def PySem.W.Fast.tw10063722768999768814 : Nat := 0
def PySem.W.Fast.tw10107106846527343936 : Nat := 0
def PySem.W.Fast.tw16921779615704069689 : Nat := 0
def PySem.W.Fast.tw8771761850168134881 : Nat := 0
def PySem.W.Fast.tw6394069131745092457 : Nat := 0
def PySem.W.Fast.tw16036193661036626897 : Nat := 0
def PySem.W.Fast.tw16247259672369562409 : Nat := 0
def PySem.W.Fast.tw13427833560125376318 : Nat := 0
def PySem.W.Fast.tw8007070857256804091 : Nat := 0
def PySem.W.Fast.tw13081390117298027064 : Nat := 0
def PySem.W.Fast.tw13472015429432787133 : Nat := 0
def PySem.W.Fast.tw6140904948211763494 : Nat := 0
def PySem.W.Fast.tw9799792097927821665 : Nat := 0
def PySem.W.Fast.tw514804711204828637 : Nat := 0
def PySem.W.Fast.tw17713691594676293992 : Nat := 0
def PySem.W.Fast.tw13225152652624935280 : Nat := 0
def PySem.W.Fast.tw14551905430250706288 : Nat := 0
def PySem.W.Fast.tw5460116166822150402 : Nat := 0
def PySem.W.Fast.tw6951359463115698922 : Nat := 0
def PySem.W.Fast.tw5825773346139544978 : Nat := 0
def PySem.W.Fast.tw12239473687822162406 : Nat := 0
def PySem.W.Fast.tw14412015230571610139 : Nat := 0
def PySem.W.Fast.tw1867213157344846468 : Nat := 0
def PySem.W.Fast.tw5808069153359208425 : Nat := 0
def PySem.W.Fast.tw17077035865609904950 : Nat := 0
def PySem.W.Fast.tw6647410275068236754 : Nat := 0
def PySem.W.Fast.tw2813538416726976264 : Nat := 0
def PySem.W.Fast.tw14570962600214849958 : Nat := 0
def PySem.W.Fast.tw14064546888798728014 : Nat := 0
def PySem.W.Fast.tw986246810380657115 : Nat := 0
def PySem.W.Fast.tw3003040014733169824 : Nat := 0
def PySem.W.Fast.tw12025317058251144951 : Nat := 0
def PySem.W.Fast.tw4744647821556312866 : Nat := 0
def PySem.W.Fast.tw7242260740273309199 : Nat := 0
def PySem.W.Fast.tw905798218253905480 : Nat := 0
def PySem.W.Fast.tw2752267577197515729 : Nat := 0
def PySem.W.Fast.tw17982891416925775062 : Nat := 0
def PySem.W.Fast.tw1624075492803491350 : Nat := 0
def PySem.W.Fast.tw17127226529607418011 : Nat := 0
def PySem.W.Fast.tw1289567163979824321 : Nat := 0
def PySem.W.Fast.tw5174901548317085116 : Nat := 0
def PySem.W.Fast.tw12135463094349758323 : Nat := 0
def PySem.W.Fast.tw17315343789081832077 : Nat := 0
def PySem.W.Fast.tw11356834104770260004 : Nat := 0
def PySem.W.Fast.tw5330437689120867976 : Nat := 0
def PySem.W.Fast.tw13581844945212523209 : Nat := 0
def PySem.W.Fast.tw8084024107807688135 : Nat := 0
def PySem.W.Fast.tw9702401716795334344 : Nat := 0
def PySem.W.Fast.tw6949403730418164913 : Nat := 0
def PySem.W.Fast.tw15915034786693035372 : Nat := 0
def PySem.W.Fast.tw6559894976576811879 : Nat := 0
def PySem.W.Fast.tw9291330397410949744 : Nat := 0
def PySem.W.Fast.tw11243320963166334390 : Nat := 0
def PySem.W.Fast.tw14941391225958662235 : Nat := 0
def PySem.W.Fast.tw1662314297168985129 : Nat := 0
def PySem.W.Fast.tw5107608929705284956 : Nat := 0
def PySem.W.Fast.tw13536657945034209942 : Nat := 0
def PySem.W.Fast.tw17071497252766589001 : Nat := 0
def PySem.W.Fast.tw6283362755640740173 : Nat := 0
def PySem.W.Fast.tw16274583284008681290 : Nat := 0
open PySem PySem.W PyProof.Rows
set_option maxRecDepth 100000 in
set_option maxHeartbeats 0 in
theorem PySem.Challenge.cw_unseen_k12_whole_exchanged_holds : PySem.Challenge.rw_unseen_k12_whole_exchanged.Holds := by
  w_on; o_law; k_head; (case hw => w_witness2)
  k_fill
  refine K12.walk (l := PySem.Challenge.rw_unseen_k12_whole_exchanged) rfl rfl (fun w h Y => PySem.W.kIn_of Y) ?F
  case F =>
    intro w mg fa h KX G hmg
    refine' K12.all_mk KX G hmg ?a0 ?l0 ?c0 ?k0 ?a1 ?l1 ?c1 ?k1 ?a2 ?l2 ?c2 ?k2 ?a3 ?l3 ?c3 ?k3 ?a4 ?l4 ?c4 ?k4 ?a5 ?l5 ?c5 ?k5 ?a6 ?l6 ?c6 ?k6 ?a7 ?l7 ?c7 ?k7 ?a8 ?l8 ?c8 ?k8 ?a9 ?l9 ?c9 ?k9 ?a10 ?l10 ?c10 ?k10 ?a11 ?l11 ?c11 ?k11 ?a12 ?l12 ?c12 ?k12 ?a13 ?l13 ?c13 ?k13 ?a14 ?l14 ?c14 ?k14 ?a15 ?l15 ?c15 ?k15 ?a16 ?l16 ?c16 ?k16 ?a17 ?l17 ?c17 ?k17 ?a18 ?l18 ?c18 ?k18 ?a19 ?l19 ?c19 ?k19 ?a20 ?l20 ?c20 ?k20 ?a21 ?l21 ?c21 ?k21 ?a22 ?l22 ?c22 ?k22 ?a23 ?l23 ?c23 ?k23 ?a24 ?l24 ?c24 ?k24 ?a25 ?l25 ?c25 ?k25 ?a26 ?l26 ?c26 ?k26 ?a27 ?l27 ?c27 ?k27 ?a28 ?l28 ?c28 ?k28 ?a29 ?l29 ?c29 ?k29 ?a30 ?l30 ?c30 ?k30 ?a31 ?l31 ?c31 ?k31 ?a32 ?l32 ?c32 ?k32 ?a33 ?l33 ?c33 ?k33 ?a34 ?l34 ?c34 ?k34 ?a35 ?l35 ?c35 ?k35 ?a36 ?l36 ?c36 ?k36 ?a37 ?i37 ?l37 ?c37 ?k37 ?a38 ?l38 ?c38 ?k38 ?a39 ?l39 ?c39 ?k39 ?a40 ?l40 ?c40 ?k40 ?a41 ?l41 ?c41 ?k41 ?a42 ?l42 ?c42 ?k42 ?a43 ?l43 ?c43 ?k43 ?a44 ?l44 ?c44 ?k44 ?a45 ?l45 ?c45 ?k45 ?aC_Settled ?pg_Settled ?hd_Settled ?po_Settled ?sa_Settled ?mk_Settled ?kc_Settled ?no_Settled_mine ?no_Settled_theirs ?z0 ?z1 ?z2 ?z3 ?z4 ?z5 ?z6 ?z7 ?z8 ?z9 ?z10 ?z11 ?y0 ?y1 ?y2
    (case aC_Settled => k_is)
    (case a0 => k_is)
    (case l0 => k_is)
    (case c0 => k_is)
    (case k0 => k_is)
    (case a1 => k_is)
    (case l1 => k_is)
    (case c1 => k_is)
    (case k1 => k_is)
    (case a2 => k_is)
    (case l2 => k_is)
    (case c2 => k_is)
    (case k2 => k_is)
    (case a3 => k_is)
    (case l3 => k_is)
    (case c3 => k_is)
    (case k3 => k_is)
    (case a4 => k_is)
    (case l4 => k_is)
    (case c4 => k_is)
    (case k4 => k_is)
    (case a5 => k_is)
    (case l5 => k_is)
    (case c5 => k_is)
    (case k5 => k_is)
    (case a6 => k_is)
    (case l6 => k_is)
    (case c6 => k_is)
    (case k6 => k_is)
    (case a7 => k_is)
    (case l7 => k_is)
    (case c7 => k_is)
    (case k7 => k_is)
    (case a8 => k_is)
    (case l8 => k_is)
    (case c8 => k_is)
    (case k8 => k_is)
    (case a9 => k_is)
    (case l9 => k_is)
    (case c9 => k_is)
    (case k9 => k_is)
    (case a10 => k_is)
    (case l10 => k_is)
    (case c10 => k_is)
    (case k10 => k_is)
    (case a11 => k_is)
    (case l11 => k_is)
    (case c11 => k_is)
    (case k11 => k_is)
    (case a12 => k_is)
    (case l12 => k_is)
    (case c12 => k_is)
    (case k12 => k_is)
    (case a13 => k_is)
    (case l13 => k_is)
    (case c13 => k_is)
    (case k13 => k_is)
    (case a14 => k_is)
    (case l14 => k_is)
    (case c14 => k_is)
    (case k14 => k_is)
    (case a15 => k_is)
    (case l15 => k_is)
    (case c15 => k_is)
    (case k15 => k_is)
    (case a16 => k_is)
    (case l16 => k_is)
    (case c16 => k_is)
    (case k16 => k_is)
    (case a17 => k_is)
    (case l17 => k_is)
    (case c17 => k_is)
    (case k17 => k_is)
    (case a18 => k_is)
    (case l18 => k_is)
    (case c18 => k_is)
    (case k18 => k_is)
    (case a19 => k_is)
    (case l19 => k_is)
    (case c19 => k_is)
    (case k19 => k_is)
    (case a20 => k_is)
    (case l20 => k_is)
    (case c20 => k_is)
    (case k20 => k_is)
    (case a21 => k_is)
    (case l21 => k_is)
    (case c21 => k_is)
    (case k21 => k_is)
    (case a22 => k_is)
    (case l22 => k_is)
    (case c22 => k_is)
    (case k22 => k_is)
    (case a23 => k_is)
    (case l23 => k_is)
    (case c23 => k_is)
    (case k23 => k_is)
    (case a24 => k_is)
    (case l24 => k_is)
    (case c24 => k_is)
    (case k24 => k_is)
    (case a25 => k_is)
    (case l25 => k_is)
    (case c25 => k_is)
    (case k25 => k_is)
    (case a26 => k_is)
    (case l26 => k_is)
    (case c26 => k_is)
    (case k26 => k_is)
    (case a27 => k_is)
    (case l27 => k_is)
    (case c27 => k_is)
    (case k27 => k_is)
    (case a28 => k_is)
    (case l28 => k_is)
    (case c28 => k_is)
    (case k28 => k_is)
    (case a29 => k_is)
    (case l29 => k_is)
    (case c29 => k_is)
    (case k29 => k_is)
    (case a30 => k_is)
    (case l30 => k_is)
    (case c30 => k_is)
    (case k30 => k_is)
    (case a31 => k_is)
    (case l31 => k_is)
    (case c31 => k_is)
    (case k31 => k_is)
    (case a32 => k_is)
    (case l32 => k_is)
    (case c32 => k_is)
    (case k32 => k_is)
    (case a33 => k_is)
    (case l33 => k_is)
    (case c33 => k_is)
    (case k33 => k_is)
    (case a34 => k_is)
    (case l34 => k_is)
    (case c34 => k_is)
    (case k34 => k_is)
    (case a35 => k_is)
    (case l35 => k_is)
    (case c35 => k_is)
    (case k35 => k_is)
    (case a36 => k_is)
    (case l36 => k_is)
    (case c36 => k_is)
    (case k36 => k_is)
    (case a37 => k_is)
    (case i37 => k_is)
    (case l37 => k_is)
    (case c37 => k_is)
    (case k37 => k_is)
    (case a38 => k_is)
    (case l38 => k_is)
    (case c38 => k_is)
    (case k38 => k_is)
    (case a39 => k_is)
    (case l39 => k_is)
    (case c39 => k_is)
    (case k39 => k_is)
    (case a40 => k_is)
    (case l40 => k_is)
    (case c40 => k_is)
    (case k40 => k_is)
    (case a41 => k_is)
    (case l41 => k_is)
    (case c41 => k_is)
    (case k41 => k_is)
    (case a42 => k_is)
    (case l42 => k_is)
    (case c42 => k_is)
    (case k42 => k_is)
    (case a43 => k_is)
    (case l43 => k_is)
    (case c43 => k_is)
    (case k43 => k_is)
    (case a44 => k_is)
    (case l44 => k_is)
    (case c44 => k_is)
    (case k44 => k_is)
    (case a45 => k_is)
    (case l45 => k_is)
    (case c45 => k_is)
    (case k45 => k_is)
    (case pg_Settled => k_is)
    (case hd_Settled => k_is)
    (case po_Settled => k_is)
    (case sa_Settled => k_is)
    (case mk_Settled => k_is)
    (case kc_Settled => k_is)
    (case no_Settled_mine => k_is)
    (case no_Settled_theirs => k_is)
    (case z0 => k_is)
    (case z1 => k_is)
    (case z2 => k_is)
    (case z3 => k_is)
    (case z4 => k_is)
    (case z5 => k_is)
    (case z6 => k_is)
    (case z7 => k_is)
    (case z8 => k_is)
    (case z9 => k_is)
    (case z10 => k_is)
    (case z11 => k_is)
    (case y0 => k_is)
    (case y1 => k_is)
    (case y2 => k_is)
#print axioms PySem.Challenge.cw_unseen_k12_whole_exchanged_holds
