import PyProof.Rows.All
import Wide.All
import OpenK.AllK
import Wide.FinOn
import Lean
import PyProof.EqAt
import PyProof.EqKinds
import PyProof.TupleCall
import PySem.Challenge.RW_unseen_k10_whole_struck
set_option Elab.async false
set_option linter.all false
set_option maxRecDepth 100000
namespace L2
open PySem PySem.Spec PyProof.Rows
abbrev Key := Sum Int Str
def G4 : Key -> Value -> Bool
 | .inl k, v => Value.isInt k v
 | .inr x, v => Value.isStrOf x v
def Ks (w : World) : Key -> Int
 | .inl k => hashInt k
 | .inr x => hashStr w x
theorem cA : ∀ {k : Key} {v : Value}, G4 k v = true -> (∃ i t, k = Sum.inl i /\ v = Value.int i t) \/ (∃ x t, k = Sum.inr x /\ v = Value.str x t)
 | .inl i, v, h => by
  obtain ⟨t, e⟩ := Value.isInt_shape (k := i) (v := v) h
  exact .inl ⟨i, t, rfl, e⟩
 | .inr x, v, h => by
  obtain ⟨t, e⟩ := Value.isStrOf_shape (x := x) (v := v) h
  exact .inr ⟨x, t, rfl, e⟩
theorem Jv (a b : Int) : decide ((Sum.inl a : Key) = Sum.inl b) = (a == b) := by
 by_cases e : a = b
 ·subst e; simp
 ·have h : ¬ (Sum.inl a : Key) = Sum.inl b := fun q => e (Sum.inl.inj q)
  rw [decide_eq_false h]
  exact (beq_eq_false_iff_ne.mpr e).symm
theorem Jm (a b : Str) : decide ((Sum.inr a : Key) = Sum.inr b) = decide (a = b) := by
 by_cases e : a = b
 ·subst e; simp
 ·have h : ¬ (Sum.inr a : Key) = Sum.inr b := fun q => e (Sum.inr.inj q)
  rw [decide_eq_false h, decide_eq_false e]
theorem Io (a : Int) (b : Str) : decide ((Sum.inl a : Key) = Sum.inr b) = false := decide_eq_false (fun q => nomatch q)
theorem Jr (a : Str) (b : Int) : decide ((Sum.inr a : Key) = Sum.inl b) = false := decide_eq_false (fun q => nomatch q)
def Ao (prog : Program) (w : World) : PySem.KeyKind prog w Key where
 is := G4
 hash := Ks w
 inj := fun v a b ha hb => by
  rcases cA ha with ⟨i, t, rfl, rfl⟩ | ⟨x, t, rfl, rfl⟩
  ·rcases cA hb with ⟨j, u, rfl, e⟩ | ⟨y, u, rfl, e⟩
   ·injection e with e1 _; rw [e1]
   ·exact nomatch e
  ·rcases cA hb with ⟨j, u, rfl, e⟩ | ⟨y, u, rfl, e⟩
   ·exact nomatch e
   ·injection e with e1 _; rw [e1]
 byValue := fun k v h => by
  rcases cA h with ⟨i, t, rfl, rfl⟩ | ⟨x, t, rfl, rfl⟩ <;> rfl
 pyHash := fun hv h => by
  rcases cA hv with ⟨i, t, rfl, rfl⟩ | ⟨x, t, rfl, rfl⟩
  ·exact wpAny_pyHash_int h
  ·exact wpAny_pyHash_str h
 eqBool := fun hu hv h => by
  rcases cA hu with ⟨i, t, rfl, rfl⟩ | ⟨x, t, rfl, rfl⟩
  ·rcases cA hv with ⟨j, u, rfl, rfl⟩ | ⟨y, u, rfl, rfl⟩
   ·rw [Jv] at h; exact wpAny_eqBool_int h
   ·rw [Io] at h; exact SeqAt.EqAt.int_str i t y u _ _ _ _ h
  ·rcases cA hv with ⟨j, u, rfl, rfl⟩ | ⟨y, u, rfl, rfl⟩
   ·rw [Jr] at h; exact SeqAt.EqAt.str_int x t j u _ _ _ _ h
   ·rw [Jm] at h; exact wpAny_eqBool_str h
 «strs» := fun k x t v h => by
  rcases cA h with ⟨i, u, rfl, e⟩ | ⟨y, u, rfl, e⟩
  ·exact nomatch e
  ·injection e with e1 _
   subst e1
   cases v <;> rfl
end L2
namespace L2
open PySem PySem.Spec PyProof.Rows
inductive V where
 | non | bl (b : Bool) | int (i : Int) | str (x : Str) | byt (b : Array UInt8) | flt (b : UInt64) | ref (a : Addr) | ty (n : String)
 deriving DecidableEq
def RelV : V -> Value -> Prop
 | .non, u => u = Value.none
 | .bl b, u => u = Value.bool b
 | .int i, u => ∃ t, u = Value.int i t
 | .str x, u => ∃ t, u = Value.str x t
 | .byt b, u => ∃ t, u = Value.bytes b t
 | .flt b, u => ∃ t, u = Value.float b t
 | .ref a, u => u = Value.ref a
 | .ty n, u => u = Value.type n
abbrev Vals : List V -> List Value -> Prop := Paired RelV
theorem Vals.length {xs : List V} {us : List Value} (r : Vals xs us) : xs.length = us.length := Paired.length r
theorem Vals.get : ∀ {xs : List V} {us : List Value} {i : Nat} {x : V}, Vals xs us -> xs[i]? = some x -> ∃ u, us[i]? = some u /\ RelV x u
 | _, _, _, _, .nil, e => by simp at e
 | _, _, 0, _, .cons r _, e => by simp at e; subst e; exact ⟨_, rfl, r⟩
 | _, _, i + 1, x, .cons _ t, e => by
  obtain ⟨u, h1, h2⟩ := Vals.get (i := i) (x := x) t (by simpa using e)
  exact ⟨u, by simpa using h1, h2⟩
theorem Vals.set {x : V} {u : Value} (r : RelV x u) : ∀ {xs : List V} {us : List Value} (i : Nat), Vals xs us -> Vals (xs.set i x) (us.set i u)
 | _, _, _, .nil => .nil
 | _, _, 0, .cons _ t => .cons r t
 | _, _, i + 1, .cons q t => .cons q (Vals.set r i t)
theorem Vals.append : ∀ {xs ys : List V} {us ws : List Value}, Vals xs us -> Vals ys ws -> Vals (xs ++ ys) (us ++ ws)
 | _, _, _, _, .nil, s => s
 | _, _, _, _, .cons r t, s => .cons r (Vals.append t s)
theorem Vals.take : ∀ {xs : List V} {us : List Value} (n : Nat), Vals xs us -> Vals (xs.take n) (us.take n)
 | _, _, 0, _ => .nil
 | _, _, _ + 1, .nil => .nil
 | _, _, n + 1, .cons r t => .cons r (Vals.take n t)
theorem Vals.drop : ∀ {xs : List V} {us : List Value} (n : Nat), Vals xs us -> Vals (xs.drop n) (us.drop n)
 | _, _, 0, r => r
 | _, _, _ + 1, .nil => .nil
 | _, _, n + 1, .cons _ t => Vals.drop n t
def RelO : Option V -> Option Value -> Prop
 | some v, some u => RelV v u
 | none, none => True
 | _, _ => False
def KV {κ : Type} : List (κ × V) -> List (κ × Value) -> Prop := Paired fun (p : κ × V) (q : κ × Value) => p.1 = q.1 /\ RelV p.2 q.2
def kV : Key -> V
 | .inl i => .int i
 | .inr x => .str x
inductive HO where
 | lst (xs : List V)
 | tup (xs : List V)
 | dK (kvs : List (Key × V)) | dT (kvs : List (List Key × V))
 | set (S : Int -> Bool) (n : Nat)
 | ins (C dx : Addr) (fs : List (Str × V))
 | own (x : Addr)
 | xd (fs : List (Str × V))
 | met (f x : Addr)
 | rng (lo hi : Int)
 | frz (o : Obj) (u : HO)
 | tbl (ps : Array Value)
 | ext (φ : Heap -> Prop)
abbrev Hp := Addr -> Option HO
def upd (H : Hp) (a : Addr) (o : HO) : Hp := fun b => if b = a then some o else H b
theorem aq {H : Hp} {a : Addr} {o : HO} : upd H a o a = some o := by unfold upd; rw [if_pos rfl]
theorem aH {H : Hp} {a b : Addr} {o : HO} (h : b ≠ a) : upd H a o b = H b := by unfold upd; rw [if_neg h]
theorem jj {H : Hp} {a b : Addr} {o u : HO} (h : H a = some o) (h' : H b = some u) (d : o ≠ u) : a ≠ b := by
 intro e; subst e; rw [h] at h'; exact d (Option.some.inj h')
theorem aV {H : Hp} {a b : Addr} {o : HO} (h : H a = some o) (h' : H b = none) : a ≠ b := by
 intro e; subst e; rw [h] at h'; cases h'
section
variable (P : Program) (w : World)
def ObjOk (H : Hp) (h : Heap) (a : Addr) : HO -> Prop
 | .lst xs => xs.length <= sizeLine /\ ∃ (its : List Value) (n : Nat), Vals xs its /\ h.get? a = some { cls := .type "list", data := .seq its.toArray n }
 | .tup xs => xs.length <= sizeLine /\ ∃ its : List Value, Vals xs its /\ IsTup h a its.toArray
 | .dK kvs => kvs.length <= sizeLine /\ (a == sysModules) = false /\ ∃ vs, KV kvs vs /\ h.DictOf (Ao P w) a vs
 | .dT kvs => kvs.length <= sizeLine /\ (a == sysModules) = false /\ ∃ xs : List (List Key × Addr × Value),
   Paired (fun (p : List Key × V) (q : List Key × Addr × Value) => p.1 = q.1 /\ H q.2.1 = some (.tup (p.1.map kV)) /\ RelV p.2 q.2.2) kvs xs /\
   ∃ o es ep, h.get? a = some o /\ o.ExactDict /\ o.data = .dict es ep /\ es.toList = xs.map (entryOfKey (tupleKind (Ao P w))) /\ (xs.map (·.1)).Nodup
 | .set S n => h.SetOf (intKind P w) a S n
 | .ins C dx fs => H dx = some (.own a) /\ fs.length <= 1000 /\ dx ≠ a /\ h.get? a = some (PySem.W.instObj C dx) /\
   ∃ mA, h.Ns1 dx mA /\ (∀ f, RelO (fs.lookup f) (mA f)) /\ PySem.Within mA (fs.map (·.1))
 | .own _ => ∃ o, h.get? a = some o
 | .xd fs => ∃ mA, h.Ns1 a mA /\ ∀ f, RelO (fs.lookup f) (mA f)
 | .rng lo hi => ∃ t u v, h.get? a = some { cls := .type "range", data := .fields #[.int lo t, .int hi u, .int 1 v] }
 | .frz o u => h.get? a = some o /\ ObjOk H h a u
 | .tbl ps => h.get? a = some { cls := .none, data := .fields ps }
 | .met f x => h.get? a = some (PySem.W.methodObj (.ref f) (.ref x))
 | .ext φ => φ h /\ (∃ o, h.get? a = some o) /\ ∀ h1 h2 : Heap, φ h1 -> (∀ o, h1.get? a = some o -> h2.get? a = some o) -> φ h2
def HOk (H : Hp) (h : Heap) : Prop := ∀ a o, H a = some o -> ObjOk P w H h a o
end
section
variable {P : Program} {w : World} {H H' : Hp} {h h' : Heap} {a : Addr} {o : HO}
theorem ObjOk.lt (x : ObjOk P w H h a o) : a < h.objs.size := by
 cases o with
 | lst xs => obtain ⟨_, _, _, _, e⟩ := x; exact Heap.lt_size e
 | tup xs => obtain ⟨_, _, _, p⟩ := x; exact p.lt
 | dK kvs => obtain ⟨_, _, _, _, o, _, _, e, _⟩ := x; exact Heap.lt_size e
 | dT kvs => obtain ⟨_, _, _, _, o, _, _, e, _⟩ := x; exact Heap.lt_size e
 | set S n => obtain ⟨o, _, _, _, e, _⟩ := x; exact Heap.lt_size e
 | ins C dx fs => obtain ⟨_, _, _, e, _⟩ := x; exact Heap.lt_size e
 | own y => obtain ⟨_, e⟩ := x; exact Heap.lt_size e
 | xd fs => obtain ⟨_, ⟨_, _, _, e, _⟩, _⟩ := x; exact Heap.lt_size e
 | rng lo hi => obtain ⟨_, _, _, e⟩ := x; exact Heap.lt_size e
 | frz ob u => obtain ⟨e, _⟩ := x; exact Heap.lt_size e
 | tbl ps => exact Heap.lt_size (show h.get? a = some _ from x)
 | met f y => exact Heap.lt_size (show h.get? a = some _ from x)
 | ext φ => obtain ⟨_, ⟨_, e⟩, _⟩ := x; exact Heap.lt_size e
theorem Paired.mapP {α β : Type} {F G : α -> β -> Prop} : ∀ {l₁ : List α} {l₂ : List β}, Paired F l₁ l₂ -> (∀ a b, F a b -> G a b) -> Paired G l₁ l₂
 | _, _, .nil, _ => .nil
 | _, _, .cons r t, f => .cons (f _ _ r) (Paired.mapP t f)
theorem ObjOk.stay (x : ObjOk P w H h a o) (k : ∀ b u, (b = a \/ H b = some (.own a)) -> h.get? b = some u -> h'.get? b = some u)
  (ho : ∀ b, H b = some (.own a) -> H' b = some (.own a)) (ht : ∀ b xs, H b = some (.tup xs) -> H' b = some (.tup xs)) : ObjOk P w H' h' a o := by
 induction o with
 | lst xs => obtain ⟨z, its, n, r, e⟩ := x; exact ⟨z, its, n, r, k _ _ (.inl rfl) e⟩
 | tup xs => obtain ⟨z, its, r, ob, e, c⟩ := x; exact ⟨z, its, r, ob, k _ _ (.inl rfl) e, c⟩
 | dK kvs => obtain ⟨z, y, vs, r, ob, es, ep, e, c⟩ := x; exact ⟨z, y, vs, r, ob, es, ep, k _ _ (.inl rfl) e, c⟩
 | dT kvs =>
  obtain ⟨z, y, xs, r, ob, es, ep, e, c⟩ := x
  exact ⟨z, y, xs, Paired.mapP r fun p q z => ⟨z.1, ht _ _ z.2.1, z.2.2⟩, ob, es, ep, k _ _ (.inl rfl) e, c⟩
 | set S n => obtain ⟨ob, es, ep, t, e, c⟩ := x; exact ⟨ob, es, ep, t, k _ _ (.inl rfl) e, c⟩
 | ins C dx fs =>
  obtain ⟨d, z, ne, e, mA, ⟨od, es, ep, e2, c⟩, r⟩ := x
  exact ⟨ho _ d, z, ne, k _ _ (.inl rfl) e, mA, ⟨od, es, ep, k _ _ (.inr d) e2, c⟩, r⟩
 | own y => obtain ⟨ob, e⟩ := x; exact ⟨ob, k _ _ (.inl rfl) e⟩
 | xd fs => obtain ⟨mA, ⟨od, es, ep, e, c⟩, r⟩ := x; exact ⟨mA, ⟨od, es, ep, k _ _ (.inl rfl) e, c⟩, r⟩
 | rng lo hi => obtain ⟨t, u, v, e⟩ := x; exact ⟨t, u, v, k _ _ (.inl rfl) e⟩
 | frz ob u ih => obtain ⟨e, q⟩ := x; exact ⟨k _ _ (.inl rfl) e, ih q⟩
 | tbl ps =>
  have e : h.get? a = some { cls := .none, data := .fields ps } := x
  show h'.get? a = some { cls := .none, data := .fields ps }
  exact k a _ (.inl rfl) e
 | met f y =>
  have e : h.get? a = some (PySem.W.methodObj (.ref f) (.ref y)) := x
  show h'.get? a = some (PySem.W.methodObj (.ref f) (.ref y))
  exact k a _ (.inl rfl) e
 | ext φ => obtain ⟨p, ⟨o, e⟩, st⟩ := x; exact ⟨st _ _ p fun o q => k _ _ (.inl rfl) q, ⟨o, k _ _ (.inl rfl) e⟩, st⟩
theorem HOk.lt (x : HOk P w H h) (e : H a = some o) : a < h.objs.size := (x a o e).lt
theorem HOk.fresh (x : HOk P w H h) (e : h.objs.size <= a) : H a = none := by
 cases q : H a with
 | none => rfl
 | some u => exact absurd (Nat.lt_of_lt_of_le (x.lt q) e) (Nat.lt_irrefl _)
theorem HOk.kept (x : HOk P w H h) (k : ∀ b u, h.get? b = some u -> h'.get? b = some u) : HOk P w H h' := fun a o e =>
 (x a o e).stay (fun b u _ q => k b u q) (fun _ q => q) fun _ _ q => q
theorem HOk.laid (x : HOk P w H h) (k : ∀ b u, h.get? b = some u -> h'.get? b = some u) (hp : h.objs.size <= a) (new : ObjOk P w (upd H a o) h' a o) : HOk P w (upd H a o) h' := fun b u e => by
 have hn := x.fresh hp
 by_cases hb : b = a
 ·subst hb; rw [aq] at e; cases e; exact new
 ·rw [aH hb] at e
  exact (x b u e).stay (fun c v _ q => k c v q) (fun c q => by rw [aH (aV q hn)]; exact q) fun c xs q => by rw [aH (aV q hn)]; exact q
end
def Rd (H : Hp) (a : Addr) (u : HO) : Prop := H a = some u \/ ∃ o, H a = some (.frz o u)
theorem Rd.of {H : Hp} {a : Addr} {u : HO} (h : H a = some u) : Rd H a u := .inl h
theorem Rd.ok {P : Program} {w : World} {H : Hp} {h : Heap} {a : Addr} {u : HO} (r : Rd H a u) (x : HOk P w H h) : ObjOk P w H h a u := by
 rcases r with r | ⟨o, r⟩
 ·exact x a u r
 ·obtain ⟨_, q⟩ := x a _ r
  exact q
def Mut : Option HO -> Prop
 | some (.lst _) => True
 | some (.dK _) => True
 | some (.dT _) => True
 | some (.set _ _) => True
 | some (.ins _ _ _) => True
 | some (.ext _) => True
 | _ => False
section
variable {P : Program} {w : World} {H : Hp} {h h' : Heap} {x e : Addr} {o' : HO}
theorem HOk.write (ok : HOk P w H h) (mu : Mut (H x)) (he : e = x \/ H e = some (.own x)) (k : ∀ b u, b ≠ e -> h.get? b = some u -> h'.get? b = some u) (heo : ∃ u, h'.get? e = some u)
  (new : ObjOk P w (upd H x o') h' x o') : HOk P w (upd H x o') h' := fun b u q => by
 have nown : ∀ c y, H c = some (.own y) -> c ≠ x := fun c y r z => by subst z; rw [r] at mu; exact mu
 have ntup : ∀ c xs, H c = some (.tup xs) -> c ≠ x := fun c xs r z => by subst z; rw [r] at mu; exact mu
 by_cases hb : b = x
 ·subst hb; rw [aq] at q; cases q; exact new
 ·rw [aH hb] at q
  by_cases hbe : b = e
  ·have q' : H b = some (.own x) := by
    rcases he with z | z
    ·exact absurd (hbe.trans z) hb
    ·rw [hbe]; exact z
   rw [q] at q'; cases q'
   obtain ⟨v, hv⟩ := heo
   exact ⟨v, by rw [hbe]; exact hv⟩
  ·refine (ok b u q).stay (fun c v hc r => k c v ?_ r) (fun c r => by rw [aH (nown c b r)]; exact r) fun c xs r => by rw [aH (ntup c xs r)]; exact r
   rcases hc with rfl | hc
   ·exact hbe
   ·rintro rfl
    rcases he with z | z
    ·exact nown c b hc z
    ·rw [hc] at z; cases z; exact hb rfl
end
structure Un (fs ex : List Addr) (H H' : Hp) (h h' : Heap) : Prop where
 keep : ∀ b o, h.get? b = some o -> H b = none -> b ∉ fs -> b ∉ ex -> h'.get? b = some o
 slot : ∀ b o, h.get? b = some o -> H b = none -> b ∈ fs -> b ∉ ex -> ∃ sl, h'.get? b = some { o with slots := sl }
 free : ∀ b o, h.get? b = some o -> H b = none -> b ∉ ex -> H' b = none
 there : ∀ b o, h.get? b = some o -> b ∉ ex -> ∃ o', h'.get? b = some o'
 tups : ∀ b xs, H b = some (.tup xs) -> H' b = some (.tup xs)
 frzs : ∀ b o u, H b = some (.frz o u) -> H' b = some (.frz o u)
 tbls : ∀ b ps, H b = some (.tbl ps) -> ∃ more, H' b = some (.tbl (ps ++ more))
section
variable {fs fs' ex ex' : List Addr} {H H1 H2 : Hp} {h h1 h2 h' : Heap} {a x e : Addr} {o : HO}
theorem Un.any (u : Un fs ex H H1 h h1) {b : Addr} {ob : Obj} (q : h.get? b = some ob) (n : H b = none) (hx : b ∉ ex) : ∃ sl, h1.get? b = some { ob with slots := sl } := by
 by_cases hb : b ∈ fs
 ·exact u.slot b ob q n hb hx
 ·exact ⟨ob.slots, u.keep b ob q n hb hx⟩
theorem Un.trans (a : Un fs ex H H1 h h1) (b : Un fs ex H1 H2 h1 h2) : Un fs ex H H2 h h2 where
 keep := fun c ob q n hc hx => b.keep c ob (a.keep c ob q n hc hx) (a.free c ob q n hx) hc hx
 slot := fun c ob q n hc hx => by
  obtain ⟨sl, e1⟩ := a.slot c ob q n hc hx
  obtain ⟨sl', e2⟩ := b.slot c _ e1 (a.free c ob q n hx) hc hx
  exact ⟨sl', e2⟩
 free := fun c ob q n hx => by
  obtain ⟨o', e1⟩ := a.there c ob q hx
  exact b.free c o' e1 (a.free c ob q n hx) hx
 there := fun c ob q hx => by
  obtain ⟨o', e1⟩ := a.there c ob q hx
  exact b.there c o' e1 hx
 tups := fun c xs q => b.tups c xs (a.tups c xs q)
 frzs := fun c ob xs q => b.frzs c ob xs (a.frzs c ob xs q)
 tbls := fun c ps q => by
  obtain ⟨m1, e1⟩ := a.tbls c ps q
  obtain ⟨m2, e2⟩ := b.tbls c _ e1
  exact ⟨m1 ++ m2, by rw [e2, Array.append_assoc]⟩
theorem Un.kept (k : ∀ b u, h.get? b = some u -> h'.get? b = some u) : Un fs ex H H h h' :=
 ⟨fun b ob q _ _ _ => k b ob q, fun b ob q _ _ _ => ⟨ob.slots, k b ob q⟩, fun _ _ _ n _ => n, fun b ob q _ => ⟨ob, k b ob q⟩, fun _ _ q => q, fun _ _ _ q => q, fun _ ps q => ⟨#[], by rw [q]; simp⟩⟩
theorem Un.refl : Un fs ex H H h h := Un.kept fun _ _ q => q
theorem Un.laid (k : ∀ b u, h.get? b = some u -> h'.get? b = some u) (hp : h.objs.size <= a) (hn : H a = none) : Un fs ex H (upd H a o) h h' where
 keep := fun b u q _ _ _ => k b u q
 slot := fun b u q _ _ _ => ⟨u.slots, k b u q⟩
 free := fun b u q n _ => by rw [aH (Nat.ne_of_lt (Nat.lt_of_lt_of_le (Heap.lt_size q) hp))]; exact n
 there := fun b u q _ => ⟨u, k b u q⟩
 tups := fun b xs q => by rw [aH (aV q hn)]; exact q
 frzs := fun b u xs q => by rw [aH (aV q hn)]; exact q
 tbls := fun b ps q => ⟨#[], by rw [aH (aV q hn), q]; simp⟩
theorem Un.write (mu : Mut (H x)) (he : e = x \/ H e = some (.own x)) (k : ∀ b u, b ≠ e -> h.get? b = some u -> h'.get? b = some u) (heo : ∃ u, h'.get? e = some u) : Un fs ex H (upd H x o) h h' := by
 have hx : ∀ b, H b = none -> b ≠ x := fun b n z => by subst z; rw [n] at mu; exact mu
 have hb : ∀ b, H b = none -> b ≠ e := fun b n z => by
  subst z
  rcases he with r | r
  ·exact hx b n r
  ·rw [n] at r; cases r
 have hm : ∀ b u, H b = some u -> ¬ Mut (some u) -> b ≠ x := fun b u q nm z => by subst z; rw [q] at mu; exact nm mu
 refine ⟨fun b u q n _ _ => k b u (hb b n) q, fun b u q n _ _ => ⟨u.slots, k b u (hb b n) q⟩, fun b u q n _ => by rw [aH (hx b n)]; exact n, fun b u q _ => ?_,
  fun b xs q => by rw [aH (hm b _ q fun z => z)]; exact q, fun b u xs q => by rw [aH (hm b _ q fun z => z)]; exact q, fun b ps q => ⟨#[], by rw [aH (hm b _ q fun z => z), q]; simp⟩⟩
 by_cases hbe : b = e
 ·subst hbe; exact heo
 ·exact ⟨u, k b u hbe q⟩
theorem Un.mono (u : Un fs ex H H1 h h1) (hs : ∀ b ∈ fs, b ∈ fs') (hx : ∀ b ∈ ex, b ∈ ex') : Un fs' ex' H H1 h h1 :=
 ⟨fun b ob q n hb he => u.keep b ob q n (fun z => hb (hs b z)) fun z => he (hx b z), fun _ _ q n _ he => u.any q n fun z => he (hx _ z), fun b ob q n he => u.free b ob q n fun z => he (hx b z), fun b ob q he => u.there b ob q fun z => he (hx b z), u.tups, u.frzs, u.tbls⟩
end
def trk (h : Heap) (H : Hp) : List Addr := (List.range h.objs.size).filter fun a => (H a).isSome
def mU (h : Heap) (H : Hp) : Heap := PySem.W.hideAll h (trk h H)
theorem E_ (h : Heap) (H : Hp) : (mU h H).objs.size = h.objs.size := PySem.W.hideAll_size _ _
theorem F_ {h : Heap} {H : Hp} {b : Addr} {o : Obj} (e : h.get? b = some o) (n : H b = none) : (mU h H).get? b = some o :=
 PySem.W.hideAll_get _ e fun hm => by
  have q : (H b).isSome = true := (List.mem_filter.mp hm).2
  rw [n] at q; simp at q
theorem Hj {h : Heap} {H : Hp} {b : Addr} {o : Obj} (e : (mU h H).get? b = some o) : h.get? b = some o /\ H b = none := by
 have e' : h.get? b = some o := PySem.W.of_hideAll (trk h H) e
 refine ⟨e', ?_⟩
 cases q : H b with
 | none => rfl
 | some x =>
  have hm : b ∈ trk h H := List.mem_filter.mpr ⟨List.mem_range.mpr (Heap.lt_size e'), by simp [q]⟩
  have z : (mU h H).get? b = none := PySem.W.hideAll_none (trk h H) hm
  rw [z] at e; cases e
def Hd (g h : Heap) (L : Addr) : List (Addr × Obj) := (List.range h.objs.size).filterMap fun a => if a = L \/ (g.get? a).isSome = true then none else (h.get? a).map fun o => (a, o)
def rest (g h : Heap) (L d : Addr) : List (Addr × Obj) := (Hd g h L).filter fun p => decide (p.1 ≠ d)
end L2
namespace L2
open PySem PySem.Spec PyProof.Rows
structure Mod (K : PySem.W.Frag) (mg : Str -> Option Value) (base : Heap) : Prop where
 kin : K.In base
 glob : base.Ns mainGlobals mg
 blt : ∃ mb, base.Ns builtinsNs mb /\ ∀ x : Str, x ≠ "__name__" -> mb x = bootBuiltins x
 nolimit : base.NoLimit
structure Cx where
 prog : Program
 w : World
 K : PySem.W.Frag
 mg : Str -> Option Value
 base : Heap
 A : Around
 N : List Str
 s₀ : Shared
 H₀ : Hp
 env : Env
 outer : List Env
 stack : List Env
 ex : List Addr
 fn : Str -> Bool
 calm : Bool
 pn : List (Addr × Obj)
 xe : Value -> Shared -> Prop
def frs (l : List Env) : List Addr := l.filterMap (·.frame)
abbrev Cx.fs (X : Cx) : List Addr := frs X.outer
def Vis (sc : Scope) (x : Str) : Prop := sc.names.lookup x = some .local \/ sc.names.lookup x = some .cell \/ sc.names.lookup x = some .free
def Loc (sc : Scope) (x : Str) : Prop := sc.names.lookup x = some .local \/ sc.names.lookup x = some .cell
def Look (env : Env) (h : Heap) (m : Str -> Option Value) (x : Str) (u : Value) : Prop :=
 (env.kindOf x = some .local /\ m x = some u) \/ ((env.kindOf x = some .cell \/ env.kindOf x = some .free) /\ ∃ c, env.cells.lookup x = some c /\ h.IsCell c (some u))
structure Cx.Ok (X : Cx) : Prop where
 mod : Mod X.K X.mg X.base
 kind : X.env.scope.kind = .function
 glob : X.env.globals = mainGlobals
 blt : X.env.builtins = builtinsNs
 above : X.s₀.heap.objs.size <= X.env.locals
 inj : ∀ x y c, X.env.cells.lookup x = some c -> X.env.cells.lookup y = some c -> x = y
 has : ∀ x, (X.env.kindOf x = some .cell \/ X.env.kindOf x = some .free) -> ∃ c, X.env.cells.lookup x = some c
 cab : ∀ x c, X.fn x = true -> X.env.cells.lookup x = some c -> X.s₀.heap.objs.size <= c
 hd : X.calm = true -> X.A.handled = none
 frames : X.A.frames = some X.stack
 stk : X.stack = X.outer \/ (X.stack = X.env :: X.outer /\ X.env.frame = some X.env.locals)
 exf : ∀ b ∈ X.ex, b ≠ X.env.locals /\ ∀ x c, X.env.cells.lookup x = some c -> c ≠ b
 bs : ∀ b o, X.base.get? b = some o -> X.s₀.heap.get? b = some o /\ X.H₀ b = none
 bsz : X.base.objs.size <= X.s₀.heap.objs.size
 noex : ∀ b o, X.base.get? b = some o -> b ∉ X.ex
 exfs : ∀ b ∈ X.ex, b ∉ X.fs
 funs : X.s₀.heap.FunFrames X.base X.outer
 frf : ∀ b ∈ X.fs, X.H₀ b = none
structure Inv (X : Cx) (pins : List (Addr × Obj)) (σ : List (Option V)) (H : Hp) (s : Shared) : Prop where
 ok : X.Ok
 os : s.os = X.s₀.os
 bare : AllBare s.gens
 base : Un X.fs X.ex X.H₀ H X.s₀.heap s.heap
 loc : ∃ m, s.heap.Ns X.env.locals m /\ ∀ (i : Nat) (x : Str) (v : V), X.N[i]? = some x -> σ[i]? = some (some v) -> Vis X.env.scope x -> ∃ u, RelV v u /\ Look X.env s.heap m x u
 cell : ∀ x c, X.env.cells.lookup x = some c -> ∃ v, s.heap.IsCell c v
 free : H X.env.locals = none
 freeC : ∀ x c, X.env.cells.lookup x = some c -> H c = none
 pin : ∀ p ∈ X.pn ++ pins, s.heap.get? p.1 = some p.2 /\ H p.1 = none /\ p.1 ≠ X.env.locals /\ p.1 ∉ X.fs /\ ∀ v, p.2.data ≠ .cell v
 hok : HOk X.prog X.w H s.heap
 len : σ.length = X.N.length
section
variable {X : Cx} {pins : List (Addr × Obj)} {σ : List (Option V)} {H H' : Hp} {s : Shared} {h' : Heap}
theorem Cx.Ok.nofr (ok : X.Ok) {b : Addr} {o : Obj} (e : X.base.get? b = some o) : b ∉ X.fs := fun hb => by
 have := (ok.funs.mem hb).1
 rw [e] at this; cases this
theorem Inv.bs (I : Inv X pins σ H s) : ∀ b o, X.base.get? b = some o -> s.heap.get? b = some o /\ H b = none := fun b o e =>
 ⟨I.base.keep b o (I.ok.bs b o e).1 (I.ok.bs b o e).2 (I.ok.nofr e) (I.ok.noex b o e), I.base.free b o (I.ok.bs b o e).1 (I.ok.bs b o e).2 (I.ok.noex b o e)⟩
theorem Inv.bk (I : Inv X pins σ H s) : ∀ b o, X.base.get? b = some o -> s.heap.get? b = some o := fun b o e => (I.bs b o e).1
theorem Inv.mod (I : Inv X pins σ H s) : Mod X.K X.mg X.base := I.ok.mod
theorem Inv.kIn (I : Inv X pins σ H s) : X.K.In s.heap := I.ok.mod.kin.keeps I.bk
theorem Inv.nolimit (I : Inv X pins σ H s) : s.heap.NoLimit := I.ok.mod.nolimit.keeps I.bk
theorem Inv.fr (I : Inv X pins σ H s) : ∃ m, Fr X.base X.env.locals s.heap m :=
 let ⟨m, hn, _⟩ := I.loc
 ⟨m, hn, I.bk, Nat.le_trans I.ok.bsz I.ok.above⟩
theorem Inv.lt (I : Inv X pins σ H s) : X.env.locals < s.heap.objs.size := let ⟨_, hn, _⟩ := I.loc; hn.lt
theorem Inv.sz (I : Inv X pins σ H s) : X.s₀.heap.objs.size <= s.heap.objs.size := Nat.le_trans I.ok.above (Nat.le_of_lt I.lt)
theorem Inv.nofs (I : Inv X pins σ H s) {a : Addr} (h : s.heap.objs.size <= a) : a ∉ X.fs := fun hb => by
 obtain ⟨_, o, ho, _⟩ := I.ok.funs.mem hb
 exact absurd (Nat.lt_of_lt_of_le (Heap.lt_size ho) (Nat.le_trans I.sz h)) (Nat.lt_irrefl _)
theorem Inv.cne (I : Inv X pins σ H s) : ∀ x c, X.env.cells.lookup x = some c -> c ≠ X.env.locals := fun x c e z => by
 obtain ⟨v, o, ho, hd⟩ := I.cell x c e
 obtain ⟨m, ⟨o', es, ep, ho', hd', _⟩, _⟩ := I.loc
 rw [z, ho'] at ho; cases ho; rw [hd'] at hd; cases hd
theorem Inv.funs (I : Inv X pins σ H s) : s.heap.FunFrames X.base X.outer := by
 have all : ∀ (l : List Env), (∀ b ∈ frs l, b ∈ X.fs) -> X.s₀.heap.FunFrames X.base l -> s.heap.FunFrames X.base l := by
  intro l
  induction l with
  | nil => intro _ _; trivial
  | cons env r ih =>
   intro hs hl
   obtain ⟨hk, ⟨L, o, hf, hn, ho, hd⟩, hr⟩ := hl
   have hL : L ∈ X.fs := hs L (by unfold frs; rw [List.filterMap_cons, hf]; exact List.mem_cons_self)
   obtain ⟨sl, e⟩ := I.base.slot L o ho (I.ok.frf L hL) hL fun z => I.ok.exfs L z hL
   exact ⟨hk, ⟨L, _, hf, hn, e, hd⟩, ih (fun b hb => hs b (by unfold frs; rw [List.filterMap_cons, hf]; exact List.mem_cons_of_mem _ hb)) hr⟩
 exact all X.outer (fun _ hb => hb) I.ok.funs
theorem Inv.stack (I : Inv X pins σ H s) : s.heap.FunFrames X.base X.stack := by
 rcases I.ok.stk with e | ⟨e, hf⟩
 ·rw [e]; exact I.funs
 ·rw [e]
  obtain ⟨m, hn, _⟩ := I.loc
  refine .cons (by rw [I.ok.kind]; decide) hf hn ?_ I.funs
  exact Heap.get?_none_of_le (Nat.le_trans I.ok.bsz I.ok.above)
theorem Inv.stkSub (I : Inv X pins σ H s) : ∀ b ∈ frs X.stack, b ∈ X.env.locals :: X.fs := fun b hb => by
 rcases I.ok.stk with e | ⟨e, hf⟩
 ·rw [e] at hb; exact List.mem_cons_of_mem _ hb
 ·rw [e] at hb
  unfold frs at hb
  rw [List.filterMap_cons, hf] at hb
  exact hb
theorem Inv.stkFree (I : Inv X pins σ H s) : ∀ b ∈ frs X.stack, H b = none := fun b hb => by
 rcases List.mem_cons.mp (I.stkSub b hb) with e | hb
 ·rw [e]; exact I.free
 ·obtain ⟨_, o, ho, _⟩ := I.ok.funs.mem hb
  exact I.base.free b o ho (I.ok.frf b hb) fun z => I.ok.exfs b z hb
theorem Inv.step {g' : Array GenState} {t' : Nat} {d' : Drawn} {ch : List Addr} (I : Inv X pins σ H s)
  (hch : ∀ b ∈ ch, (b ∈ X.ex \/ X.s₀.heap.objs.size <= b) /\ b ≠ X.env.locals /\ (∀ x c, X.env.cells.lookup x = some c -> c ≠ b) /\ ∀ p ∈ X.pn ++ pins, p.1 ≠ b)
  (keep : ∀ b o, b ≠ X.env.locals -> b ∉ X.fs -> b ∉ ch -> s.heap.get? b = some o -> H b = none -> h'.get? b = some o)
  (slot : ∀ b o, b ≠ X.env.locals -> b ∈ X.fs -> b ∉ ch -> s.heap.get? b = some o -> H b = none -> ∃ sl, h'.get? b = some { o with slots := sl }) (free : ∀ b o, b ∉ ch -> s.heap.get? b = some o -> H b = none -> H' b = none)
  (there : ∀ b o, b ∉ ch -> s.heap.get? b = some o -> ∃ o', h'.get? b = some o')
  (tups : ∀ b xs, H b = some (.tup xs) -> H' b = some (.tup xs)) (frzs : ∀ b o u, H b = some (.frz o u) -> H' b = some (.frz o u)) (tbls : ∀ b ps, H b = some (.tbl ps) -> ∃ more, H' b = some (.tbl (ps ++ more)))
  (ns : ∀ m, s.heap.Ns X.env.locals m -> h'.Ns X.env.locals m) (hok : HOk X.prog X.w H' h') (hg : AllBare g') :
  Inv X pins σ H' { s with heap := h', gens := g', drawn := d', toks := t' } := by
 have neL : ∀ b o, X.s₀.heap.get? b = some o -> b ≠ X.env.locals := fun b o e => Nat.ne_of_lt (Nat.lt_of_lt_of_le (Heap.lt_size e) I.ok.above)
 have neC : ∀ b o, X.s₀.heap.get? b = some o -> b ∉ X.ex -> b ∉ ch := fun b o e hx hb => by
  rcases (hch b hb).1 with z | z
  ·exact hx z
  ·exact absurd (Nat.lt_of_lt_of_le (Heap.lt_size e) z) (Nat.lt_irrefl _)
 have cellK : ∀ x c, X.env.cells.lookup x = some c -> ∀ v, s.heap.IsCell c v -> h'.IsCell c v := fun x c e v ⟨o, ho, hd⟩ => by
  have nch : c ∉ ch := fun z => (hch c z).2.2.1 x c e rfl
  by_cases hc : c ∈ X.fs
  ·obtain ⟨sl, q⟩ := slot c o (I.cne x c e) hc nch ho (I.freeC x c e)
   exact ⟨_, q, hd⟩
  ·exact ⟨o, keep c o (I.cne x c e) hc nch ho (I.freeC x c e), hd⟩
 refine ⟨I.ok, I.os, hg, ⟨fun b o e n hb hx => ?_, fun b o e n hb hx => ?_, fun b o e n hx => ?_, fun b o e hx => ?_, fun b xs e => tups b xs (I.base.tups b xs e), fun b o xs e => frzs b o xs (I.base.frzs b o xs e), fun b ps e => ?_⟩, ?_, fun x c e => ?_, ?_, fun x c e => ?_, fun p hp => ?_, hok, I.len⟩
 ·exact keep b o (neL b o e) hb (neC b o e hx) (I.base.keep b o e n hb hx) (I.base.free b o e n hx)
 ·obtain ⟨sl, e1⟩ := I.base.slot b o e n hb hx
  obtain ⟨sl', e2⟩ := slot b _ (neL b o e) hb (neC b o e hx) e1 (I.base.free b o e n hx)
  exact ⟨sl', e2⟩
 ·obtain ⟨o', e1⟩ := I.base.there b o e hx
  exact free b o' (neC b o e hx) e1 (I.base.free b o e n hx)
 ·obtain ⟨o', e1⟩ := I.base.there b o e hx
  exact there b o' (neC b o e hx) e1
 ·obtain ⟨m1, e1⟩ := I.base.tbls b ps e
  obtain ⟨m2, e2⟩ := tbls b _ e1
  exact ⟨m1 ++ m2, by rw [e2, Array.append_assoc]⟩
 ·obtain ⟨m, hn, hl⟩ := I.loc
  refine ⟨m, ns m hn, fun i x v e1 e2 e3 => ?_⟩
  obtain ⟨u, r, l⟩ := hl i x v e1 e2 e3
  refine ⟨u, r, ?_⟩
  rcases l with l | ⟨k, c, e, z⟩
  ·exact .inl l
  ·exact .inr ⟨k, c, e, cellK x c e _ z⟩
 ·obtain ⟨v, z⟩ := I.cell x c e
  exact ⟨v, cellK x c e v z⟩
 ·obtain ⟨m, ⟨o, _, _, ho, _⟩, _⟩ := I.loc
  exact free _ o (fun z => (hch _ z).2.1 rfl) ho I.free
 ·obtain ⟨v, o, ho, hd⟩ := I.cell x c e
  exact free c o (fun z => (hch c z).2.2.1 x c e rfl) ho (I.freeC x c e)
 ·obtain ⟨e, n, ne, nf, d⟩ := I.pin p hp
  have nch : p.1 ∉ ch := fun z => (hch p.1 z).2.2.2 p hp rfl
  exact ⟨keep p.1 p.2 ne nf nch e n, free p.1 p.2 nch e n, ne, nf, d⟩
theorem Inv.un {t' : Nat} (I : Inv X pins σ H s) (u : Un X.fs [] H H' s.heap h') (hok : HOk X.prog X.w H' h') : Inv X pins σ H' { s with heap := h', toks := t' } := by
 obtain ⟨m, ⟨o, es, ep, ho, r⟩, _⟩ := id I.loc
 obtain ⟨sl, hL⟩ := u.any ho I.free (by simp)
 exact I.step (g' := s.gens) (d' := s.drawn) (ch := []) (fun _ z => nomatch z) (fun b o _ hb _ e n => u.keep b o e n hb (by simp)) (fun b o _ hb _ e n => u.slot b o e n hb (by simp)) (fun b o _ e n => u.free b o e n (by simp)) (fun b o _ e => u.there b o e (by simp)) u.tups u.frzs u.tbls (fun m' hm => by
  obtain ⟨o', es', ep', ho', r'⟩ := hm
  rw [ho] at ho'; cases ho'
  exact ⟨_, es', ep', hL, r'⟩) hok I.bare
theorem Inv.call {g' : Array GenState} {t' : Nat} {d' : Drawn} {ch : List Addr} (I : Inv X pins σ H s) (u : Un (frs X.stack) ch H H' s.heap h') (hok : HOk X.prog X.w H' h') (hg : AllBare g')
  (hch : ∀ b ∈ ch, (b ∈ X.ex \/ X.s₀.heap.objs.size <= b) /\ b ≠ X.env.locals /\ (∀ x c, X.env.cells.lookup x = some c -> c ≠ b) /\ ∀ p ∈ X.pn ++ pins, p.1 ≠ b) :
  Inv X pins σ H' { s with heap := h', gens := g', drawn := d', toks := t' } := by
 obtain ⟨m, ⟨o, es, ep, ho, r⟩, _⟩ := id I.loc
 obtain ⟨sl, hL⟩ := u.any ho I.free fun z => (hch _ z).2.1 rfl
 exact I.step (ch := ch) hch (fun b o hL hb hc e n => u.keep b o e n (fun z => (List.mem_cons.mp (I.stkSub b z)).elim hL hb) hc) (fun b o _ _ hc e n => u.any e n hc) (fun b o hc e n => u.free b o e n hc) (fun b o hc e => u.there b o e hc) u.tups u.frzs u.tbls (fun m' hm => by
  obtain ⟨o', es', ep', ho', r'⟩ := hm
  rw [ho] at ho'; cases ho'
  exact ⟨_, es', ep', hL, r'⟩) hok hg
theorem Inv.turned {t' : Nat} {it : Addr} (I : Inv X pins σ H s) (k : ∀ b o, b ≠ it -> s.heap.get? b = some o -> h'.get? b = some o) (hn : H it = none) (hL : it ≠ X.env.locals)
  (h1 : it ∈ X.ex \/ X.s₀.heap.objs.size <= it) (h2 : ∀ x c, X.env.cells.lookup x = some c -> c ≠ it) (h3 : ∀ p ∈ X.pn ++ pins, p.1 ≠ it) : Inv X pins σ H { s with heap := h', toks := t' } := by
 have nit : ∀ b u, H b = some u -> b ≠ it := fun b u e z => by rw [z, hn] at e; cases e
 refine I.step (g' := s.gens) (d' := s.drawn) (ch := [it]) (fun b hb => ?_) (fun b o _ _ hc e _ => k b o (fun z => hc (by simp [z])) e) (fun b o _ _ hc e _ => ⟨o.slots, k b o (fun z => hc (by simp [z])) e⟩) (fun _ _ _ _ n => n)
  (fun b o hc e => ⟨o, k b o (fun z => hc (by simp [z])) e⟩) (fun _ _ e => e) (fun _ _ _ e => e) (fun b ps e => ⟨#[], by rw [e]; simp⟩) (fun m hm => ?_) (fun b u e => ?_) I.bare
 ·have e : b = it := by simpa using hb
  subst e
  exact ⟨h1, hL, h2, h3⟩
 ·obtain ⟨o, es, ep, ho, r⟩ := hm
  exact ⟨o, es, ep, k _ o (Ne.symm hL) ho, r⟩
 ·refine (I.hok b u e).stay (fun c v hc q => k c v ?_ q) (fun _ q => q) fun _ _ q => q
  rcases hc with z | z
  ·rw [z]; exact nit b u e
  ·exact nit c _ z
theorem Inv.tok (I : Inv X pins σ H s) (t : Nat) : Inv X pins σ H { s with toks := t } := I.un (h' := s.heap) (t' := t) Un.refl I.hok
theorem Inv.kept {t' : Nat} (I : Inv X pins σ H s) (k : ∀ b u, s.heap.get? b = some u -> h'.get? b = some u) : Inv X pins σ H { s with heap := h', toks := t' } := I.un (Un.kept k) (I.hok.kept k)
theorem Inv.laid {a : Addr} {o : HO} {t' : Nat} (I : Inv X pins σ H s) (k : ∀ b u, s.heap.get? b = some u -> h'.get? b = some u) (hp : s.heap.objs.size <= a) (new : ObjOk X.prog X.w (upd H a o) h' a o) :
  Inv X pins σ (upd H a o) { s with heap := h', toks := t' } := I.un (Un.laid k hp (I.hok.fresh hp)) (I.hok.laid k hp new)
theorem Inv.write {x e : Addr} {o : HO} {t' : Nat} (I : Inv X pins σ H s) (mu : Mut (H x)) (he : e = x \/ H e = some (.own x)) (k : ∀ b u, b ≠ e -> s.heap.get? b = some u -> h'.get? b = some u) (heo : ∃ u, h'.get? e = some u)
  (new : ObjOk X.prog X.w (upd H x o) h' x o) : Inv X pins σ (upd H x o) { s with heap := h', toks := t' } := I.un (Un.write mu he k heo) (I.hok.write mu he k heo new)
theorem Inv.pins_of {pins' : List (Addr × Obj)} (I : Inv X pins σ H s) (h : ∀ p ∈ pins', s.heap.get? p.1 = some p.2 /\ H p.1 = none /\ p.1 ≠ X.env.locals /\ p.1 ∉ X.fs /\ ∀ v, p.2.data ≠ .cell v) : Inv X pins' σ H s :=
 ⟨I.ok, I.os, I.bare, I.base, I.loc, I.cell, I.free, I.freeC, fun p hp => (List.mem_append.mp hp).elim (fun z => I.pin p (List.mem_append_left _ z)) (h p), I.hok, I.len⟩
theorem yf {N : List Str} (hN : N.Nodup) {i j : Nat} {x : Str} (a : N[i]? = some x) (b : N[j]? = some x) : i = j := by
 obtain ⟨h1, e1⟩ := List.getElem?_eq_some_iff.mp a
 obtain ⟨h2, e2⟩ := List.getElem?_eq_some_iff.mp b
 exact (List.getElem_inj hN).mp (e1.trans e2.symm)
theorem vf {M : Model} {A : Around} {E : Value -> Shared -> Prop} {i : Nat} {x : Str} {v : V} {u : Value} {Q : Unit -> Shared -> Prop} (I : Inv X pins σ H s) (hN : X.N.Nodup) (hi : X.N[i]? = some x) (hx : Loc X.env.scope x) (r : RelV v u)
  (h : ∀ s', Inv X pins (σ.set i (some v)) H s' -> (∃ a, Heap.SameBut a s.heap s'.heap /\ (a = X.env.locals \/ X.env.cells.lookup x = some a)) -> Q () s') (hf : X.fn x = true \/ X.env.scope.names.lookup x = some .local := by first | exact .inl rfl | exact .inr rfl | assumption) : wpAny M A (storeName X.env x u) Q E s := by
 obtain ⟨m, hn, hl⟩ := id I.loc
 have hcls : (X.env.scope.kind == .class || (X.env.scope.kind == .module && X.env.locals != X.env.globals)) = false := by rw [I.ok.kind]; rfl
 have hiσ : i < σ.length := by rw [I.len]; exact (List.getElem?_eq_some_iff.mp hi).1
 have cne := I.cne
 have tracked : ∀ {a : Addr} {h' : Heap}, (∃ o, s.heap.get? a = some o /\ H a = none) -> Heap.SameBut a s.heap h' -> HOk X.prog X.w H h' := fun {a h'} ha hs b ob e => by
  obtain ⟨_, _, hfree⟩ := ha
  refine (I.hok b ob e).stay (fun c w' hc q => (hs.2 c ?_).trans q) (fun _ q => q) fun _ _ q => q
  rintro rfl
  rcases hc with rfl | hc
  ·rw [hfree] at e; cases e
  ·rw [hfree] at hc; cases hc
 rcases hx with hk | hk
 ·refine wpAny_storeName_local hk hn (fun h' hn' hs => ?_) hcls
  obtain ⟨oL, _, _, hoL, _⟩ := id hn
  refine h _ ⟨I.ok, I.os, I.bare, ⟨fun b o e n hb hx => ?_, fun b o e n hb hx => ?_, I.base.free, fun b o e hx => ?_, I.base.tups, I.base.frzs, I.base.tbls⟩, ⟨_, hn', fun j y v' e1 e2 e3 => ?_⟩, fun y c e => ?_, I.free, I.freeC, fun p hp => ?_, tracked ⟨oL, hoL, I.free⟩ hs, by simpa using I.len⟩ ⟨_, hs, .inl rfl⟩
  ·exact (hs.2 b (Nat.ne_of_lt (Nat.lt_of_lt_of_le (Heap.lt_size e) I.ok.above))).trans (I.base.keep b o e n hb hx)
  ·obtain ⟨sl, e1⟩ := I.base.slot b o e n hb hx
   exact ⟨sl, (hs.2 b (Nat.ne_of_lt (Nat.lt_of_lt_of_le (Heap.lt_size e) I.ok.above))).trans e1⟩
  ·obtain ⟨o', e1⟩ := I.base.there b o e hx
   exact ⟨o', (hs.2 b (Nat.ne_of_lt (Nat.lt_of_lt_of_le (Heap.lt_size e) I.ok.above))).trans e1⟩
  ·by_cases hj : j = i
   ·subst hj
    rw [hi] at e1; cases e1
    rw [List.getElem?_set_self hiσ] at e2
    cases e2
    exact ⟨u, r, .inl ⟨hk, by simp⟩⟩
   ·rw [List.getElem?_set_ne (Ne.symm hj)] at e2
    obtain ⟨u', r', q⟩ := hl j y v' e1 e2 e3
    refine ⟨u', r', ?_⟩
    rcases q with ⟨k, e⟩ | ⟨k, c, e, z⟩
    ·refine .inl ⟨k, ?_⟩
     have : y ≠ x := fun e => hj (yf hN e1 (e ▸ hi))
     simp [this, e]
    ·exact .inr ⟨k, c, e, z.sameBut hs (cne y c e)⟩
  ·obtain ⟨w', z⟩ := I.cell y c e
   exact ⟨w', z.sameBut hs (cne y c e)⟩
  ·obtain ⟨e, n, ne, nf, d⟩ := I.pin p hp
   exact ⟨(hs.2 p.1 ne).trans e, n, ne, nf, d⟩
 ·have hfn : X.fn x = true := by
   rcases hf with z | z
   ·exact z
   ·rw [z] at hk; cases hk
  obtain ⟨c, hc⟩ := I.ok.has x (.inl hk)
  obtain ⟨w', z⟩ := I.cell x c hc
  refine wpAny_storeName_cell I.ok.kind hk hc z (fun h' hc' hs => ?_)
  obtain ⟨oc, hoc, hocd⟩ := id z
  refine h { s with heap := h' } ⟨I.ok, I.os, I.bare, ⟨fun b o e n hb hx => ?_, fun b o e n hb hx => ?_, I.base.free, fun b o e hx => ?_, I.base.tups, I.base.frzs, I.base.tbls⟩, ⟨m, hn.sameBut hs (Ne.symm (cne x c hc)), fun j y v' e1 e2 e3 => ?_⟩, fun y c' e => ?_, I.free, I.freeC, fun p hp => ?_, tracked ⟨oc, hoc, I.freeC x c hc⟩ hs, by simpa using I.len⟩ ⟨c, hs, .inr hc⟩
  ·exact (hs.2 b (Nat.ne_of_lt (Nat.lt_of_lt_of_le (Heap.lt_size e) (I.ok.cab x c hfn hc)))).trans (I.base.keep b o e n hb hx)
  ·obtain ⟨sl, e1⟩ := I.base.slot b o e n hb hx
   exact ⟨sl, (hs.2 b (Nat.ne_of_lt (Nat.lt_of_lt_of_le (Heap.lt_size e) (I.ok.cab x c hfn hc)))).trans e1⟩
  ·obtain ⟨o', e1⟩ := I.base.there b o e hx
   exact ⟨o', (hs.2 b (Nat.ne_of_lt (Nat.lt_of_lt_of_le (Heap.lt_size e) (I.ok.cab x c hfn hc)))).trans e1⟩
  ·by_cases hj : j = i
   ·subst hj
    rw [hi] at e1; cases e1
    rw [List.getElem?_set_self hiσ] at e2
    cases e2
    exact ⟨u, r, .inr ⟨.inl hk, c, hc, hc'⟩⟩
   ·rw [List.getElem?_set_ne (Ne.symm hj)] at e2
    obtain ⟨u', r', q⟩ := hl j y v' e1 e2 e3
    refine ⟨u', r', ?_⟩
    rcases q with q | ⟨k, c', e, z'⟩
    ·exact .inl q
    ·refine .inr ⟨k, c', e, z'.sameBut hs ?_⟩
     rintro rfl
     exact hj (yf hN e1 (I.ok.inj _ _ _ e hc ▸ hi))
  ·by_cases hcc : c' = c
   ·subst hcc; exact ⟨_, hc'⟩
   ·obtain ⟨w2, z2⟩ := I.cell y c' e
    exact ⟨w2, z2.sameBut hs hcc⟩
  ·obtain ⟨e, n, ne, nf, d⟩ := I.pin p hp
   refine ⟨(hs.2 p.1 ?_).trans e, n, ne, nf, d⟩
   intro q
   rw [q, hoc] at e
   have q' : oc = p.2 := Option.some.inj e
   exact d w' (by rw [<- q']; exact hocd)
theorem mH {M : Model} {A : Around} {E : Value -> Shared -> Prop} {i : Nat} {x : Str} {v : V} {u : Value} {Q : Unit -> Shared -> Prop} (I : Inv X pins σ H s) (hN : X.N.Nodup) (hi : X.N[i]? = some x) (hx : Loc X.env.scope x) (r : RelV v u)
  (h : ∀ s', Inv X pins (σ.set i (some v)) H s' -> Q () s') (hf : X.fn x = true \/ X.env.scope.names.lookup x = some .local := by first | exact .inl rfl | exact .inr rfl | assumption) : wpAny M A (storeName X.env x u) Q E s :=
 vf I hN hi hx r (fun s' I' _ => h s' I') hf
theorem Inv.call' {s' : Shared} {ch : List Addr} (I : Inv X pins σ H s) (ho : s'.os = s.os) (u : Un (frs X.stack) ch H H' s.heap s'.heap) (hok : HOk X.prog X.w H' s'.heap) (hg : AllBare s'.gens)
  (hch : ∀ b ∈ ch, (b ∈ X.ex \/ X.s₀.heap.objs.size <= b) /\ b ≠ X.env.locals /\ (∀ x c, X.env.cells.lookup x = some c -> c ≠ b) /\ ∀ p ∈ X.pn ++ pins, p.1 ≠ b) : Inv X pins σ H' s' := by
 obtain ⟨h', g', d', t', o'⟩ := s'
 have e : o' = s.os := ho
 subst e
 exact I.call (g' := g') (t' := t') (d' := d') u hok hg hch
end
abbrev XK := Value -> Option Addr -> Hp -> Prop
abbrev St := List (Option V)
abbrev VK := V -> Hp -> Prop
abbrev TE := St -> Hp -> VK -> Prop
abbrev TT := St -> Hp -> (Bool -> Hp -> Prop) -> Prop
abbrev TA := St -> Hp -> (List V -> Hp -> Prop) -> Prop
structure Ends where
 nx : St -> Hp -> Prop
 rt : VK
 bk : St -> Hp -> Prop := fun _ _ => False
 ct : St -> Hp -> Prop := fun _ _ => False
abbrev TS := Ends -> St -> Hp -> Prop
def EP (X : Cx) (pins : List (Addr × Obj)) (σ : St) (Q : VK) (u : Value) (s' : Shared) : Prop := ∃ v H', Inv X pins σ H' s' /\ RelV v u /\ Q v H'
def TP (X : Cx) (pins : List (Addr × Obj)) (σ : St) (Q : Bool -> Hp -> Prop) (b : Bool) (s' : Shared) : Prop := ∃ H', Inv X pins σ H' s' /\ Q b H'
def AP (X : Cx) (pins : List (Addr × Obj)) (σ : St) (Q : List V -> Hp -> Prop) (us : List Value) (s' : Shared) : Prop := ∃ vs H', Inv X pins σ H' s' /\ Vals vs us /\ Q vs H'
def SP (X : Cx) (pins : List (Addr × Obj)) (D : Ends) (f : Flow) (s' : Shared) : Prop :=
 match f with
 | .next => ∃ σ' H', Inv X pins σ' H' s' /\ D.nx σ' H'
 | .brk => ∃ σ' H', Inv X pins σ' H' s' /\ D.bk σ' H'
 | .cont => ∃ σ' H', Inv X pins σ' H' s' /\ D.ct σ' H'
 | .ret u => ∃ v σ' H', Inv X pins σ' H' s' /\ RelV v u /\ D.rt v H'
def PE (X : Cx) (e : Expr) (t : TE) : Prop :=
 ∀ (pins : List (Addr × Obj)) (s : Shared) (σ : St) (H : Hp) (Q : VK), Inv X pins σ H s -> t σ H Q -> wpAny (model X.prog X.w) X.A (eval e X.env) (EP X pins σ Q) X.xe s
def PT (X : Cx) (e : Expr) (t : TT) : Prop :=
 ∀ (pins : List (Addr × Obj)) (s : Shared) (σ : St) (H : Hp) (Q : Bool -> Hp -> Prop), Inv X pins σ H s -> t σ H Q -> wpAny (model X.prog X.w) X.A (isTrue e X.env (eval e X.env)) (TP X pins σ Q) X.xe s
def PW (X : Cx) (e : Expr) (t : TT) : Prop :=
 ∀ (whole : Sem Value) (pins : List (Addr × Obj)) (s : Shared) (σ : St) (H : Hp) (Q : Bool -> Hp -> Prop), Inv X pins σ H s -> t σ H Q -> wpAny (model X.prog X.w) X.A (isTrue e X.env whole) (TP X pins σ Q) X.xe s
theorem PW.pt {X : Cx} {e : Expr} {t : TT} (h : PW X e t) : PT X e t := h _
def PA (X : Cx) (es : List Expr) (t : TA) : Prop :=
 ∀ (pos : Pos) (pins : List (Addr × Obj)) (s : Shared) (σ : St) (H : Hp) (Q : List V -> Hp -> Prop), Inv X pins σ H s -> t σ H Q -> wpAny (model X.prog X.w) X.A (spliced (backTo pos (starEach es X.env))) (AP X pins σ Q) X.xe s
def PS (X : Cx) (st : Stmt) (t : TS) : Prop :=
 ∀ (pins : List (Addr × Obj)) (s : Shared) (σ : St) (H : Hp) (D : Ends), Inv X pins σ H s -> t D σ H -> wpAny (model X.prog X.w) X.A (exec st X.env) (SP X pins D) X.xe s
def PSs (X : Cx) (st : List Stmt) (t : TS) : Prop :=
 ∀ (pins : List (Addr × Obj)) (s : Shared) (σ : St) (H : Hp) (D : Ends), Inv X pins σ H s -> t D σ H -> wpAny (model X.prog X.w) X.A (execs st X.env) (SP X pins D) X.xe s
theorem thn {α : Type} {t : Sem α} {Q Q' : α -> Shared -> Prop} {M : Model} {A : Around} {E : Value -> Shared -> Prop} {s : Shared} (h : wpAny M A t Q E s) (hQ : ∀ a s, Q a s -> Q' a s) : wpAny M A t Q' E s := wpAny_mono h hQ fun _ _ x => x
end L2
namespace L2
open PySem PySem.Spec PyProof.Rows
section
variable {X : Cx}
def JM (i : Nat) : TE := fun σ H Q => ∃ v, σ[i]? = some (some v) /\ Q v H
def tC (v : V) : TE := fun _ H Q => Q v H
theorem Ip {i : Nat} {x : Str} {pos : Pos} (hN : X.N[i]? = some x) (hv : Vis X.env.scope x) (hd : (x == ("__debug__" : Str)) = false := by decide) (hcd : (x == ("__classdict__" : Str)) = false := by decide) : PE X (.Name x pos) (JM i) := by
 intro pins s σ H Q I h
 obtain ⟨v, e, h⟩ := h
 obtain ⟨m, hn, hl⟩ := I.loc
 obtain ⟨u, r, l⟩ := hl i x v hN e hv
 have fin : EP X pins σ Q u s := ⟨v, H, I, r, h⟩
 rcases l with ⟨hk, hm⟩ | ⟨hk, c, hc, hcell⟩
 ·exact wpAny_Name (wpAny_loadName_local I.ok.kind hk hn hm fin) hd
 ·rcases hk with hk | hk
  ·exact wpAny_Name (wpAny_loadName_cell I.ok.kind hk hc hcell fin) hd
  ·exact wpAny_Name (wpAny_loadName_free I.ok.kind hk hc hcell fin hcd) hd
theorem au {i j pos} : PE X (.Constant (.int i) j pos) (tC (.int i)) := fun _ _ _ H _ I h => wpAny_Constant_int ⟨.int i, H, I.tok _, ⟨_, rfl⟩, h⟩
theorem fu {b j pos} : PE X (.Constant (.bool b) j pos) (tC (.bl b)) := fun _ _ _ H _ I h => Constant_bool ⟨.bl b, H, I, rfl, h⟩
theorem oO {j pos} : PE X (.Constant .none j pos) (tC .non) := fun _ _ _ H _ I h => Constant_none ⟨.non, H, I, rfl, h⟩
def Gl (X : Cx) (x : Str) : Prop := X.env.kindOf x = some .globalImplicit
theorem tQ {E : Value -> Shared -> Prop} {pins : List (Addr × Obj)} {s : Shared} {σ : St} {H : Hp} {x : Str} {u : Value} {pos : Pos} {Q : Value -> Shared -> Prop} (I : Inv X pins σ H s) (hg : Gl X x) (hm : X.mg x = some u) (h : Q u s)
  (hd : (x == ("__debug__" : Str)) = false := by decide) : wpAny (model X.prog X.w) X.A (eval (.Name x pos) X.env) Q E s :=
 Calls.Name_function_global I.ok.kind hg (Calls.loadGlobal_global (by rw [I.ok.glob]; exact I.mod.glob.keeps I.bk) hm h) hd
theorem iD {E : Value -> Shared -> Prop} {pins : List (Addr × Obj)} {s : Shared} {σ : St} {H : Hp} {x : Str} {u : Value} {pos : Pos} {Q : Value -> Shared -> Prop} (I : Inv X pins σ H s) (hg : Gl X x) (hm : X.mg x = none) (hv : bootBuiltins x = some u) (h : Q u s)
  (hn : x ≠ "__name__" := by decide) (hd : (x == ("__debug__" : Str)) = false := by decide) : wpAny (model X.prog X.w) X.A (eval (.Name x pos) X.env) Q E s := by
 obtain ⟨mb, h1, h2⟩ := I.mod.blt
 exact Calls.Name_function_global I.ok.kind hg (Calls.loadGlobal_builtin (by rw [I.ok.glob]; exact I.mod.glob.keeps I.bk) hm (by rw [I.ok.blt]; exact h1.keeps I.bk) ((h2 x hn).trans hv) h) hd
theorem zW {x : Str} {v : V} {u : Value} {pos : Pos} (hg : Gl X x) (hm : X.mg x = some u) (r : RelV v u) (hd : (x == ("__debug__" : Str)) = false := by decide) : PE X (.Name x pos) (tC v) :=
 fun _ _ _ H _ I h => tQ I hg hm ⟨v, H, I, r, h⟩ hd
theorem eU {x : Str} {v : V} {u : Value} {pos : Pos} (hg : Gl X x) (hm : X.mg x = none) (hv : bootBuiltins x = some u) (r : RelV v u) (hn : x ≠ "__name__" := by decide) (hd : (x == ("__debug__" : Str)) = false := by decide) : PE X (.Name x pos) (tC v) :=
 fun _ _ _ H _ I h => iD I hg hm hv ⟨v, H, I, r, h⟩ hn hd
def t2I (ta tb : TE) (k : Int -> Int -> Hp -> Prop) : St -> Hp -> Prop := fun σ H => ta σ H fun x H1 => tb σ H1 fun y H2 => ∃ i j, x = .int i /\ y = .int j /\ k i j H2
def Mf (ta tb : TE) : TE := fun σ H Q => t2I ta tb (fun i j H2 => Q (.int (i + j)) H2) σ H
def Mg (ta tb : TE) : TE := fun σ H Q => t2I ta tb (fun i j H2 => Q (.int (i - j)) H2) σ H
def LK (ta tb : TE) : TE := fun σ H Q => t2I ta tb (fun i j H2 => (-(2 ^ 64) < i /\ i < 2 ^ 64) /\ Q (.int (i * j)) H2) σ H
variable {a b : Expr} {ta tb : TE} {pos : Pos}
def PC (X : Cx) (op : CmpOp) (a b : Expr) (t : TE) : Prop :=
 ∀ (pins : List (Addr × Obj)) (s : Shared) (σ : St) (H : Hp) (Q : VK), Inv X pins σ H s -> t σ H Q ->
  wpAny (model X.prog X.w) X.A (eval a X.env) (fun v s₁ => wpAny (model X.prog X.w) X.A (eval b X.env) (fun u s₂ => wpAny (model X.prog X.w) X.A (compareOp op v u) (EP X pins σ Q) X.xe s₂) X.xe s₁) X.xe s
def tL (p : Int -> Int -> Bool) (ta tb : TE) : TE := fun σ H Q => t2I ta tb (fun i j H2 => Q (.bl (p i j)) H2) σ H
abbrev tLt : TE -> TE -> TE := tL fun i j => decide (i < j)
abbrev tLe : TE -> TE -> TE := tL fun i j => decide (i <= j)
abbrev tGt : TE -> TE -> TE := tL fun i j => decide (j < i)
abbrev tGe : TE -> TE -> TE := tL fun i j => decide (j <= i)
abbrev LR : TE -> TE -> TE := tL fun i j => decide (i = j)
abbrev L_ : TE -> TE -> TE := tL fun i j => !decide (i = j)
def Lf (ta : TE) : TE := fun σ H Q => ta σ H fun x H1 => Q (.bl (decide (x = .non))) H1
def K8 (ta : TE) : TE := fun σ H Q => ta σ H fun x H1 => Q (.bl (!decide (x = .non))) H1
def tB (t : TE) : TT := fun σ H Q => t σ H fun x H1 => ∃ c, x = .bl c /\ Q c H1
theorem bG {e : Expr} {t : TE} (h : PE X e t) (he : ∀ whole, isTrue e X.env whole = (do let v <- whole; standAt e.pos; holding [v] (truthy v)) := by intro _; rfl) : PT X e (tB t) := by
 intro pins s σ H Q I hw
 refine isTrue_plain (thn (h pins s σ H _ I hw) fun v s1 ⟨x, H1, I1, r1, q1⟩ => ?_) (he _)
 obtain ⟨d, rfl, q⟩ := q1
 cases r1
 exact wpAny_truthy_bool ⟨H1, I1, q⟩
variable {tA tB' : TT} {rest : List Expr}
def Kf (t u : TT) : TT := fun σ H Q => t σ H fun c H1 => if c = true then u σ H1 Q else Q false H1
def tOr (t u : TT) : TT := fun σ H Q => t σ H fun c H1 => if c = true then Q true H1 else u σ H1 Q
def Kg (t : TT) : TT := fun σ H Q => t σ H fun c H1 => Q (!c) H1
theorem ju (ha : PT X a tA) : PW X (.BoolOp .And [a] pos) tA := by
 intro wh pins s σ H Q I h
 refine isTrue_and (thn (ha pins s σ H Q I h) fun c s1 e => ?_)
 cases c with
 | true => exact isTrue_and_nil e
 | false => exact e
theorem fY (ha : PT X a tA) : PW X (.BoolOp .Or [a] pos) tA := by
 intro wh pins s σ H Q I h
 refine isTrue_or (thn (ha pins s σ H Q I h) fun c s1 e => ?_)
 cases c with
 | false => exact isTrue_or_nil e
 | true => exact e
theorem lG (ha : PT X a tA) (hb : PW X (.BoolOp .And (b :: rest) pos) tB') : PW X (.BoolOp .And (a :: b :: rest) pos) (Kf tA tB') := by
 intro wh pins s σ H Q I h
 refine isTrue_and (thn (ha pins s σ H _ I h) fun c s1 ⟨H1, I1, q1⟩ => ?_)
 cases c with
 | true => exact hb wh pins s1 σ H1 Q I1 q1
 | false => exact ⟨H1, I1, q1⟩
theorem fJ (ha : PT X a tA) (hb : PW X (.BoolOp .Or (b :: rest) pos) tB') : PW X (.BoolOp .Or (a :: b :: rest) pos) (tOr tA tB') := by
 intro wh pins s σ H Q I h
 refine isTrue_or (thn (ha pins s σ H _ I h) fun c s1 ⟨H1, I1, q1⟩ => ?_)
 cases c with
 | true => exact ⟨H1, I1, q1⟩
 | false => exact hb wh pins s1 σ H1 Q I1 q1
theorem cX (ha : PT X a tA) : PT X (.UnaryOp .Not a pos) (Kg tA) := by
 intro pins s σ H Q I h
 exact isTrue_not (ha pins s σ H (fun c H1 => Q (!c) H1) I h)
def JQ (ta tb : TE) : TE := fun σ H Q => ta σ H fun x H1 => ∃ c, x = .bl c /\ if c = true then tb σ H1 Q else Q (.bl false) H1
def Kz (ta tb : TE) : TE := fun σ H Q => ta σ H fun x H1 => ∃ c, x = .bl c /\ if c = true then Q (.bl true) H1 else tb σ H1 Q
def J8 (ta : TE) : TE := fun σ H Q => ta σ H fun x H1 => ∃ c, x = .bl c /\ Q (.bl (!c)) H1
theorem lF {op} {t : TE} (h : PE X a t) : PE X (.BoolOp op [a] pos) t := fun pins s σ H Q I hw => BoolOp_one (h pins s σ H Q I hw)
theorem oh (ha : PE X a ta) (hb : PE X (.BoolOp .And (b :: rest) pos) tb) : PE X (.BoolOp .And (a :: b :: rest) pos) (JQ ta tb) := by
 intro pins s σ H Q I h
 refine BoolOp_and (thn (ha pins s σ H _ I h) fun v s1 ⟨x, H1, I1, r1, q1⟩ => ?_)
 obtain ⟨c, rfl, q1⟩ := q1
 cases r1
 refine wpAny_truthy_bool ?_
 cases c with
 | true => exact hb pins s1 σ H1 Q I1 q1
 | false => exact ⟨.bl false, H1, I1, rfl, q1⟩
theorem JX (ha : PE X a ta) (hb : PE X (.BoolOp .Or (b :: rest) pos) tb) : PE X (.BoolOp .Or (a :: b :: rest) pos) (Kz ta tb) := by
 intro pins s σ H Q I h
 refine BoolOp_or (thn (ha pins s σ H _ I h) fun v s1 ⟨x, H1, I1, r1, q1⟩ => ?_)
 obtain ⟨c, rfl, q1⟩ := q1
 cases r1
 refine wpAny_truthy_bool ?_
 cases c with
 | false => exact hb pins s1 σ H1 Q I1 q1
 | true => exact ⟨.bl true, H1, I1, rfl, q1⟩
theorem rm (ha : PE X a ta) : PE X (.UnaryOp .Not a pos) (J8 ta) := by
 intro pins s σ H Q I h
 refine UnaryOp_ (thn (ha pins s σ H _ I h) fun v s1 ⟨x, H1, I1, r1, q1⟩ => ?_)
 obtain ⟨c, rfl, q1⟩ := q1
 cases r1
 exact not_of (wpAny_truthy_bool ⟨.bl (!c), H1, I1, rfl, q1⟩)
def tIf (t : TT) (ta tb : TE) : TE := fun σ H Q => t σ H fun c H1 => if c = true then ta σ H1 Q else tb σ H1 Q
theorem qg {c : Expr} (hc : PT X c tA) (ha : PE X a ta) (hb : PE X b tb) : PE X (.IfExp c a b pos) (tIf tA ta tb) := by
 intro pins s σ H Q I h
 refine wpAny_IfExp (thn (hc pins s σ H _ I h) fun d s1 ⟨H1, I1, q1⟩ => ?_)
 cases d with
 | true => exact ha pins s1 σ H1 Q I1 q1
 | false => exact hb pins s1 σ H1 Q I1 q1
end
end L2
namespace L2
open PySem PySem.Spec PyProof.Rows
def SqL (K : PySem.W.Frag) (H : Hp) (a : Addr) (xs : List V) : Prop :=
 Rd H a (.lst xs) \/
  ∃ (o : Obj) (its : Array Value) (n : Nat), K.lookup a = some o /\ o.cls = .type "list" /\ o.dict = none /\ o.data = .seq its n /\ its.size <= sizeLine /\ Vals xs its.toList
def SqT (K : PySem.W.Frag) (H : Hp) (a : Addr) (xs : List V) : Prop :=
 Rd H a (.tup xs) \/
  ∃ (o : Obj) (its : Array Value) (n : Nat), K.lookup a = some o /\ o.cls = .type "tuple" /\ o.data = .seq its n /\ its.size <= sizeLine /\ Vals xs its.toList
def Kl : Value -> Option V
 | .none => some .non
 | .bool b => some (.bl b)
 | .int i _ => some (.int i)
 | .str x _ => some (.str x)
 | .bytes b _ => some (.byt b)
 | .float b _ => some (.flt b)
 | .ref a => some (.ref a)
 | .type n => some (.ty n)
 | _ => none
theorem RelV.abs {x : V} {u : Value} (r : RelV x u) : Kl u = some x := by
 cases x with
 | non => cases r; rfl
 | bl _ => cases r; rfl
 | int _ => obtain ⟨t, rfl⟩ := r; rfl
 | str _ => obtain ⟨t, rfl⟩ := r; rfl
 | byt _ => obtain ⟨t, rfl⟩ := r; rfl
 | flt _ => obtain ⟨t, rfl⟩ := r; rfl
 | ref _ => cases r; rfl
 | ty _ => cases r; rfl
theorem RelV.inj {x y : V} {u : Value} (r : RelV x u) (q : RelV y u) : x = y := Option.some.inj (r.abs.symm.trans q.abs)
theorem Vals.inj : ∀ {xs ys : List V} {us : List Value}, Vals xs us -> Vals ys us -> xs = ys
 | _, _, _, .nil, .nil => rfl
 | _, _, _, .cons r t, .cons r' t' => by rw [r.inj r', Vals.inj t t']
section
variable {X : Cx} {pins : List (Addr × Obj)} {σ : St} {H : Hp} {s : Shared} {a : Addr} {xs ys : List V}
theorem SqL.of {K : PySem.W.Frag} (h : H a = some (.lst xs)) : SqL K H a xs := .inl (.inl h)
theorem SqT.of {K : PySem.W.Frag} (h : H a = some (.tup xs)) : SqT K H a xs := .inl (.inl h)
theorem Inv.list (I : Inv X pins σ H s) (h : SqL X.K H a xs) : ∃ its : List Value, Vals xs its /\ PlainL s.heap a its.toArray /\ xs.length <= sizeLine := by
 rcases h with h | ⟨o, its, n, hk, hc, hd, hs, hz, r⟩
 ·obtain ⟨z, its, n, r, e⟩ := h.ok I.hok
  exact ⟨its, r, ⟨_, n, e, rfl, rfl, rfl⟩, z⟩
 ·refine ⟨its.toList, r, ⟨o, n, I.kIn a o hk, hc, hd, by simpa using hs⟩, ?_⟩
  have e := r.length
  simp only [Array.length_toList] at e
  omega
theorem Inv.tuple (I : Inv X pins σ H s) (h : SqT X.K H a xs) : ∃ its : List Value, Vals xs its /\ IsTup s.heap a its.toArray /\ xs.length <= sizeLine := by
 rcases h with h | ⟨o, its, n, hk, hc, hs, hz, r⟩
 ·obtain ⟨z, its, r, p⟩ := h.ok I.hok
  exact ⟨its, r, p, z⟩
 ·refine ⟨its.toList, r, ⟨o, I.kIn a o hk, hc, n, by simpa using hs⟩, ?_⟩
  have e := r.length
  simp only [Array.length_toList] at e
  omega
theorem Inv.list_inj (I : Inv X pins σ H s) (h : SqL X.K H a xs) (h' : SqL X.K H a ys) : xs = ys := by
 obtain ⟨its, r, ⟨o, n, e, _, _, d⟩, _⟩ := I.list h
 obtain ⟨its', r', ⟨o', n', e', _, _, d'⟩, _⟩ := I.list h'
 rw [e] at e'; cases e'
 rw [d] at d'
 injection d' with d1 _
 have : its = its' := by simpa using congrArg Array.toList d1
 subst this
 exact r.inj r'
theorem Inv.tuple_inj (I : Inv X pins σ H s) (h : SqT X.K H a xs) (h' : SqT X.K H a ys) : xs = ys := by
 obtain ⟨its, r, ⟨o, e, _, n, d⟩, _⟩ := I.tuple h
 obtain ⟨its', r', ⟨o', e', _, n', d'⟩, _⟩ := I.tuple h'
 rw [e] at e'; cases e'
 rw [d] at d'
 injection d' with d1 _
 have : its = its' := by simpa using congrArg Array.toList d1
 subst this
 exact r.inj r'
end
abbrev Cx.wish (X : Cx) (E : Value -> Shared -> Prop) : Cx := { X with xe := E }
abbrev Cx.nox (X : Cx) : Cx := X.wish fun _ _ => False
theorem Cx.Ok.wish {X : Cx} (ok : X.Ok) (E : Value -> Shared -> Prop) : (X.wish E).Ok :=
 ⟨ok.mod, ok.kind, ok.glob, ok.blt, ok.above, ok.inj, ok.has, ok.cab, ok.hd, ok.frames, ok.stk, ok.exf, ok.bs, ok.bsz, ok.noex, ok.exfs, ok.funs, ok.frf⟩
theorem Cx.Ok.unwish {X : Cx} {E : Value -> Shared -> Prop} (ok : (X.wish E).Ok) : X.Ok :=
 ⟨ok.mod, ok.kind, ok.glob, ok.blt, ok.above, ok.inj, ok.has, ok.cab, ok.hd, ok.frames, ok.stk, ok.exf, ok.bs, ok.bsz, ok.noex, ok.exfs, ok.funs, ok.frf⟩
section
variable {X : Cx} {pins : List (Addr × Obj)} {σ : St} {H : Hp} {s : Shared} {E : Value -> Shared -> Prop}
theorem Inv.wish (I : Inv X pins σ H s) (E : Value -> Shared -> Prop) : Inv (X.wish E) pins σ H s := ⟨I.ok.wish E, I.os, I.bare, I.base, I.loc, I.cell, I.free, I.freeC, I.pin, I.hok, I.len⟩
theorem Inv.unwish (I : Inv (X.wish E) pins σ H s) : Inv X pins σ H s := ⟨I.ok.unwish, I.os, I.bare, I.base, I.loc, I.cell, I.free, I.freeC, I.pin, I.hok, I.len⟩
theorem SP.unwish {D : Ends} {f : Flow} {s' : Shared} (h : SP (X.wish E) pins D f s') : SP X pins D f s' := by
 cases f with
 | next => obtain ⟨σ', H', I, q⟩ := h; exact ⟨σ', H', I.unwish, q⟩
 | brk => obtain ⟨σ', H', I, q⟩ := h; exact ⟨σ', H', I.unwish, q⟩
 | cont => obtain ⟨σ', H', I, q⟩ := h; exact ⟨σ', H', I.unwish, q⟩
 | ret u => obtain ⟨v, σ', H', I, r, q⟩ := h; exact ⟨v, σ', H', I.unwish, r, q⟩
theorem PE.nox {e : Expr} {t : TE} (h : PE X.nox e t) : PE X e t := fun pins s σ H Q I hw =>
 wpAny_mono (h pins s σ H Q (I.wish _) hw) (fun _ _ ⟨v, H', I', r, q⟩ => ⟨v, H', I'.unwish, r, q⟩) fun _ _ z => False.elim z
theorem PT.nox {e : Expr} {t : TT} (h : PT X.nox e t) : PT X e t := fun pins s σ H Q I hw =>
 wpAny_mono (h pins s σ H Q (I.wish _) hw) (fun _ _ ⟨H', I', q⟩ => ⟨H', I'.unwish, q⟩) fun _ _ z => False.elim z
theorem PSs.nox {st : List Stmt} {t : TS} (h : PSs X.nox st t) : PSs X st t := fun pins s σ H D I hw =>
 wpAny_mono (h pins s σ H D (I.wish _) hw) (fun _ _ q => q.unwish) fun _ _ z => False.elim z
end
section
variable {X : Cx} {st : Stmt} {rest : List Stmt} {t u : TS} {e : Expr} {te : TE} {pos : Pos}
def JP : TS := fun D σ H => D.nx σ H
def Jk (t u : TS) : TS := fun D σ H => t { D with nx := u D } σ H
theorem aY : PSs X [] JP := fun _ _ σ H _ I h => wpAny_execs_nil ⟨σ, H, I, h⟩
theorem aA (h1 : PS X st t) (h2 : PSs X rest u) : PSs X (st :: rest) (Jk t u) := by
 intro pins s σ H D I h
 refine wpAny_execs_cons (thn (h1 pins s σ H { D with nx := u D } I h) fun f s1 q => ?_)
 cases f with
 | next =>
  obtain ⟨σ', H', I', q⟩ := q
  exact h2 pins s1 σ' H' D I' q
 | ret v => exact q
 | brk => exact q
 | cont => exact q
theorem aB (h1 : PS X st t) : PSs X [st] t := by
 intro pins s σ H D I h
 refine wpAny_execs_cons (thn (h1 pins s σ H D I h) fun f s1 q => ?_)
 cases f with
 | next => exact wpAny_execs_nil q
 | ret v => exact q
 | brk => exact q
 | cont => exact q
def K3 : TS := fun D σ H => D.bk σ H
def K7 : TS := fun D σ H => D.ct σ H
theorem Inv.quiet {pins : List (Addr × Obj)} {σ : St} {H : Hp} {s : Shared} (I : Inv X pins σ H s) : interactive X.env = false := by simp [interactive, I.ok.kind]
def JT (te : TE) : TS := fun D σ H => te σ H fun _ H1 => D.nx σ H1
theorem cu (he : PE X e te) (hs : swapsWith e none pos.line X.env = pure false := by rfl) : PS X (.Expr e pos) (JT te) := by
 intro pins s σ H D I h
 exact wpAny_Expr_any (thn (he pins s σ H _ I h) fun v s1 ⟨x, H1, I1, r1, q1⟩ => ⟨σ, H1, I1, q1⟩) I.quiet hs
def Kd (te : TE) : TS := fun D σ H => te σ H D.rt
theorem aN (he : PE X e te) : PS X (.Return (some e) pos) (Kd te) := by
 intro pins s σ H D I h
 exact wpAny_Return_some (thn (he pins s σ H _ I h) fun v s1 ⟨x, H1, I1, r1, q1⟩ => ⟨x, σ, H1, I1, r1, q1⟩)
def Lb : TS := fun D _ H => D.rt .non H
def Kv (c : TT) (t u : TS) : TS := fun D σ H => c σ H fun b H1 => if b = true then t D σ H1 else u D σ H1
theorem bB {c : Expr} {a b : List Stmt} {tc : TT} (hc : PT X c tc) (ha : PSs X a t) (hb : PSs X b u) : PS X (.If c a b pos) (Kv tc t u) := by
 intro pins s σ H D I h
 refine wpAny_If (thn (hc pins s σ H _ I h) fun d s1 ⟨H1, I1, q1⟩ => ?_)
 cases d with
 | true => exact ha pins s1 σ H1 D I1 q1
 | false => exact hb pins s1 σ H1 D I1 q1
def Ir : TS := fun _ _ _ => False
theorem qD : PS X st Ir := fun _ _ _ _ _ _ h => h.elim
end
abbrev TG := V -> St -> Hp -> (St -> Hp -> Prop) -> Prop
abbrev TGs := List V -> St -> Hp -> (St -> Hp -> Prop) -> Prop
def PG (X : Cx) (target : Expr) (t : TG) : Prop :=
 ∀ (pins : List (Addr × Obj)) (s : Shared) (σ : St) (H : Hp) (v : V) (u : Value) (Q : St -> Hp -> Prop), Inv X pins σ H s -> RelV v u -> t v σ H Q ->
  wpAny (model X.prog X.w) X.A (assign target X.env u) (fun _ s' => ∃ σ' H', Inv X pins σ' H' s' /\ Q σ' H') X.xe s
def PGs (X : Cx) (ts : List Expr) (t : TGs) : Prop :=
 ∀ (pins : List (Addr × Obj)) (s : Shared) (σ : St) (H : Hp) (vs : List V) (us : List Value) (Q : St -> Hp -> Prop), Inv X pins σ H s -> Vals vs us -> t vs σ H Q ->
  wpAny (model X.prog X.w) X.A (assignInOrder ((assignEach ts X.env).map (·.2)) us) (fun _ s' => ∃ σ' H', Inv X pins σ' H' s' /\ Q σ' H') X.xe s
abbrev BL := V -> V -> V -> Hp -> (Hp -> Prop) -> Prop
def JF (X : Cx) (t : BL) : Prop :=
 ∀ (pins : List (Addr × Obj)) (s : Shared) (σ : St) (H : Hp) (o i v : V) (ov iv u : Value) (Q : Hp -> Prop), Inv X pins σ H s -> RelV o ov -> RelV i iv -> RelV v u -> t o i v H Q ->
  wpAny (model X.prog X.w) X.A (setItem ov iv u) (fun _ s' => ∃ H', Inv X pins σ H' s' /\ Q H') X.xe s
abbrev TIp := V -> V -> Hp -> VK -> Prop
def PIp (X : Cx) (op : Operator) (t : TIp) : Prop :=
 ∀ (pins : List (Addr × Obj)) (s : Shared) (σ : St) (H : Hp) (x y : V) (v u : Value) (Q : VK), Inv X pins σ H s -> RelV x v -> RelV y u -> t x y H Q ->
  wpAny (model X.prog X.w) X.A (inplaceOp op v u) (EP X pins σ Q) X.xe s
section
variable {X : Cx} {pos : Pos}
def fH (i : Nat) : TG := fun v σ H Q => Q (σ.set i (some v)) H
theorem aG {i : Nat} {x : Str} (hN : X.N.Nodup) (hi : X.N[i]? = some x) (hx : Loc X.env.scope x) (hf : X.fn x = true \/ X.env.scope.names.lookup x = some .local := by first | exact .inl rfl | exact .inr rfl | assumption) : PG X (.Name x pos) (fH i) := by
 intro pins s σ H v u Q I r h
 exact wpAny_assign_Name (mH I hN hi hx r (fun s' I' => ⟨_, H, I', h⟩) hf)
def Kh : TGs := fun vs σ H Q => vs = [] /\ Q σ H
def J7 (t : TG) (u : TGs) : TGs := fun vs σ H Q => ∃ v r, vs = v :: r /\ t v σ H fun σ' H' => u r σ' H' Q
theorem cH : PGs X [] Kh := by
 intro pins s σ H vs us Q I r h
 obtain ⟨e, h⟩ := h
 subst e
 cases r
 exact assignInOrder_nil ⟨σ, H, I, h⟩
theorem a_ {e : Expr} {es : List Expr} {t : TG} {u : TGs} (h1 : PG X e t) (h2 : PGs X es u)
  (hs : (assignEach (e :: es) X.env).map (·.2) = assign e X.env :: (assignEach es X.env).map (·.2) := by rfl) : PGs X (e :: es) (J7 t u) := by
 intro pins s σ H vs us Q I r h
 obtain ⟨v, vr, e1, h⟩ := h
 subst e1
 cases r with
 | cons r rr =>
  rw [hs]
  refine assignInOrder_cons (thn (h1 pins s σ H _ _ _ I r h) fun _ s1 ⟨σ1, H1, I1, q1⟩ => ?_)
  exact h2 pins s1 σ1 H1 _ _ Q I1 rr q1
def Iw (K : PySem.W.Frag) (n : Nat) (t : TGs) : TG := fun v σ H Q => ∃ a xs, v = .ref a /\ SqT K H a xs /\ xs.length = n /\ t xs σ H Q
theorem Jg {es : List Expr} {k : Nat} {t : TGs} {n : Nat} (hc : X.calm = true) (h : PGs X es t)
  (hn : (assignEach es X.env).length = n := by rfl) (hst : (assignEach es X.env).findIdx? (·.1) = none := by rfl) : PG X (.Tuple es k pos) (Iw X.K n t) := by
 intro pins s σ H v u Q I r hw
 obtain ⟨a, xs, e1, hq, hl, hw⟩ := hw
 subst e1
 cases r
 obtain ⟨its, rv, ht, hz⟩ := I.tuple hq
 refine assign_Tuple_tuple (I.ok.hd hc) ht (by simp [hn, <- hl, rv.length]) hst fun h' hx => ?_
 have I1 : Inv X pins σ H { s with heap := h' } := I.kept (t' := s.toks) fun b o e => hx b o (Nat.ne_of_lt (Heap.lt_size e)) e
 exact h pins _ σ H xs _ Q I1 (by simpa using rv) hw
def Kw (to ti : TE) (t : BL) : TG := fun v σ H Q => to σ H fun o H1 => ti σ H1 fun i H2 => t o i v H2 fun H3 => Q σ H3
theorem CQ {o i : Expr} {to ti : TE} {t : BL} (ho : PE X o to) (hi : PE X i ti) (hs : JF X t)
  (ha : ∀ v, assign (.Subscript o i pos) X.env v = (do
   let ov <- holding [v] (eval o X.env)
   let iv <- holding [v, ov] (eval i X.env)
   standAt pos
   holding [v, ov, iv] (setItem ov iv v)
   release [v, ov, iv] []) := by intro _; rfl) : PG X (.Subscript o i pos) (Kw to ti t) := by
 intro pins s σ H v u Q I r h
 rw [ha]
 refine wpAny_bind (wpAny_holding (thn (ho pins s σ H _ I h) fun ov s1 ⟨x, H1, I1, r1, q1⟩ => ?_))
 refine wpAny_bind (wpAny_holding (thn (hi pins s1 σ H1 _ I1 q1) fun iv s2 ⟨y, H2, I2, r2, q2⟩ => ?_))
 refine wpAny_bind (wpAny_standAt (wpAny_bind (wpAny_holding (thn (hs pins s2 σ H2 x y v ov iv u _ I2 r1 r2 r q2) fun _ s3 ⟨H3, I3, q3⟩ => ?_))))
 exact wpAny_release ⟨σ, H3, I3, q3⟩
def Fl (te : TE) (g : TG) : TS := fun D σ H => te σ H fun x H1 => g x σ H1 D.nx
theorem rC {tg e : Expr} {te : TE} {g : TG} (he : PE X e te) (hg : PG X tg g) (hs : swapsWithSole [tg] e pos.line X.env = pure false := by rfl) (hw : swappedStores [tg] e X.env = pure none := by rfl)
  (h1 : (assignEach [tg] X.env).map (·.2) = [assign tg X.env] := by rfl) : PS X (.Assign [tg] e pos) (Fl te g) := by
 intro pins s σ H D I h
 refine wpAny_Assign_stores (thn (he pins s σ H _ I h) fun v s1 ⟨x, H1, I1, r1, q1⟩ => ?_) hs hw
 rw [h1]
 exact thn (hg pins s1 σ H1 x v _ I1 r1 q1) fun _ s2 q => q
theorem aO {i : Nat} {x : Str} {e : Expr} {te : TE} {pos' : Pos} (hN : X.N.Nodup) (hi : X.N[i]? = some x) (hx : Loc X.env.scope x) (he : PE X e te) (hs : swapsWith e (some (.Name x pos')) pos.line X.env = pure false := by rfl) (hf : X.fn x = true \/ X.env.scope.names.lookup x = some .local := by first | exact .inl rfl | exact .inr rfl | assumption) :
  PS X (.Assign [.Name x pos'] e pos) (Fl te (fH i)) := by
 intro pins s σ H D I h
 refine wpAny_Assign_Name (thn (he pins s σ H _ I h) fun v s1 ⟨y, H1, I1, r1, q1⟩ => ?_) hs
 exact mH I1 hN hi hx r1 (fun s2 I2 => ⟨_, H1, I2, q1⟩) hf
def KD (i j : Nat) (ta : TA) : TS := fun D σ H => ta σ H fun vs H1 => ∃ v w, vs = [v, w] /\ D.nx ((σ.set i (some v)).set j (some w)) H1
theorem DQ {i j : Nat} {x y : Str} {a b : Expr} {ta : TA} {px py pt : Pos} {kt k2 pt2} (hc : X.calm = true) (hN : X.N.Nodup) (hi : X.N[i]? = some x) (hj : X.N[j]? = some y) (hij : i ≠ j)
  (hx : X.env.scope.names.lookup x = some .local) (hy : X.env.scope.names.lookup y = some .local) (ha : PA X [a, b] ta)
  (hw : swappedStores [.Tuple [.Name x px, .Name y py] kt pt] (.Tuple [a, b] k2 pt2) X.env = pure (some [x, y]))
  (hs : swapsWithSole [.Tuple [.Name x px, .Name y py] kt pt] (.Tuple [a, b] k2 pt2) pos.line X.env = pure false := by rfl) :
  PS X (.Assign [.Tuple [.Name x px, .Name y py] kt pt] (.Tuple [a, b] k2 pt2) pos) (KD i j ta) := by
 intro pins s σ H D I h
 rw [exec_Assign_arm]
 refine wpAny_bind (wpAny_standAt ?_)
 rw [hs]
 refine wpAny_bind (wpAny_pure ?_)
 rw [if_neg (by decide)]
 refine wpAny_bind (Tuple_ (thn (ha _ pins s σ H _ I h) fun us s1 ⟨vs, H1, I1, r1, q1⟩ => ?_))
 obtain ⟨v, w, e1, q1⟩ := q1
 subst e1
 obtain ⟨u1, u2, rfl, rv, rw'⟩ : ∃ u1 u2, us = [u1, u2] /\ RelV v u1 /\ RelV w u2 := by
  cases r1 with
  | cons p q =>
   cases q with
   | cons p' q' =>
    cases q'
    exact ⟨_, _, rfl, p, p'⟩
 refine wpAny_newObj_type ?_ (by show 2 <= sizeLine; decide)
 have I2 : Inv X pins σ H1 { s1 with heap := s1.heap.push { cls := .type "tuple", data := .seq [u1, u2].toArray } } := I1.kept (t' := s1.toks) fun b o e => Heap.get?_push_of_some _ e
 rw [hw]
 refine wpAny_bind (wpAny_pure ?_)
 show wpAny (model X.prog X.w) X.A (do rule "assign.swapped-stores"; let items <- unpackItems (.ref s1.heap.objs.size) 2 none; assignInOrder [fun v => bindName X.env y v, fun v => bindName X.env x v] items.reverse; pure Flow.next) _ _ _
 refine wpAny_bind (wpAny_rule (wpAny_bind (unpackItems_tuple (items := #[u1, u2]) (I.ok.hd hc) (IsTup.new s1.heap _) fun h' hx' => ?_)))
 have I3 := I2.kept (h' := h') (t' := s1.toks) fun b o e => hx' b o (Nat.ne_of_lt (Heap.lt_size e)) e
 show wpAny _ _ (assignInOrder [fun v => bindName X.env y v, fun v => bindName X.env x v] [u2, u1] >>= fun _ => pure Flow.next) _ _ _
 refine wpAny_bind (assignInOrder_cons (wpAny_bindName (mH I3 hN hj (.inl hy) rw' (fun s2 I4 => ?_) (.inr hy))))
 refine assignInOrder_cons (wpAny_bindName (mH I4 hN hi (.inl hx) rv (fun s3 I5 => assignInOrder_nil (wpAny_pure ?_)) (.inr hx)))
 rw [List.set_comm _ _ (Ne.symm hij)] at I5
 exact ⟨_, H1, I5, q1⟩
def LQ (i : Nat) (te : TE) (ti : TIp) : TS := fun D σ H => ∃ x, σ[i]? = some (some x) /\ te σ H fun y H1 => ti x y H1 fun z H2 => D.nx (σ.set i (some z)) H2
def La (to ti te : TE) (tget : V -> V -> Hp -> VK -> Prop) (tip : TIp) (tset : BL) : TS := fun D σ H => to σ H fun o H1 => ti σ H1 fun i H2 => tget o i H2 fun x H3 => te σ H3 fun y H4 => tip x y H4 fun z H5 => tset o i z H5 fun H6 => D.nx σ H6
def Lj (X : Cx) (t : V -> V -> Hp -> VK -> Prop) : Prop :=
 ∀ (pins : List (Addr × Obj)) (s : Shared) (σ : St) (H : Hp) (o i : V) (ov iv : Value) (Q : VK), Inv X pins σ H s -> RelV o ov -> RelV i iv -> t o i H Q ->
  wpAny (model X.prog X.w) X.A (getItem ov iv) (EP X pins σ Q) X.xe s
def ipI (f : Int -> Int -> Int) : TIp := fun x y H Q => ∃ i j, x = .int i /\ y = .int j /\ Q (.int (f i j)) H
end
section
variable {X : Cx} {pos : Pos}
def Jt (c : TT) (tb : TS) : TS := fun D σ H => ∃ W : Nat -> St -> Hp -> Prop, (∃ m, W m σ H) /\ ∀ m σ H, W m σ H ->
 c σ H fun b H1 => if b = true then ∃ N : St -> Hp -> Prop, (∀ σ' H', N σ' H' -> ∃ m', m' < m /\ W m' σ' H') /\ tb { D with nx := N, ct := N, bk := D.nx } σ H1 else D.nx σ H1
theorem qm {c : Expr} {body : List Stmt} {tc : TT} {tb : TS} (hp : PassesOwn (model X.prog X.w) X.A X.env X.xe) (hc : PT X c tc) (hb : PSs X body tb) : PS X (.While c body [] pos) (Jt tc tb) := by
 intro pins s σ H D I h
 obtain ⟨W, ⟨m0, w0⟩, turn⟩ := h
 refine wpAny_While (codeAny_whileLoop (fun n s' => ∃ σ' H', Inv X pins σ' H' s' /\ W n σ' H') ?_ m0 ⟨σ, H, I, w0⟩)
 rintro n s1 ⟨σ1, H1, I1, w1⟩
 refine wpAny_passesOwn hp (thn (hc pins s1 σ1 H1 _ I1 (turn n σ1 H1 w1)) fun b s2 ⟨H2, I2, q2⟩ => ?_)
 cases b with
 | true =>
  obtain ⟨N, hN, q2⟩ := q2
  rw [if_pos rfl]
  refine wpAny_passesOwn hp (thn (hb pins s2 σ1 H2 _ I2 q2) fun f s3 q3 => ?_)
  cases f with
  | next =>
   obtain ⟨σ3, H3, I3, n3⟩ := q3
   obtain ⟨m', hm, w3⟩ := hN σ3 H3 n3
   exact ⟨m', hm, σ3, H3, I3, w3⟩
  | cont =>
   obtain ⟨σ3, H3, I3, n3⟩ := q3
   obtain ⟨m', hm, w3⟩ := hN σ3 H3 n3
   exact ⟨m', hm, σ3, H3, I3, w3⟩
  | brk => exact q3
  | ret v => exact q3
 | false =>
  rw [if_neg Bool.false_ne_true]
  exact wpAny_execs_nil ⟨σ1, H2, I2, q2⟩
end
structure It where
 go : Nat -> Hp -> Prop
 yld : Nat -> Hp -> V -> Hp -> Prop
 stop : Nat -> Hp -> Prop
def fK (X : Cx) (pins : List (Addr × Obj)) (H : Hp) (b : Addr) : Prop :=
 H b = none /\ b ≠ X.env.locals /\ b ∉ X.fs /\ (b ∈ X.ex \/ X.s₀.heap.objs.size <= b) /\ (∀ x c, X.env.cells.lookup x = some c -> c ≠ b) /\ ∀ p ∈ X.pn ++ pins, p.1 ≠ b
theorem Inv.fpOk {X : Cx} {pins : List (Addr × Obj)} {σ : St} {H H' : Hp} {s : Shared} {b : Addr} (I : Inv X pins σ H s) (hb : s.heap.objs.size <= b) (hn : H' b = none) : fK X pins H' b := by
 refine ⟨hn, Nat.ne_of_gt (Nat.lt_of_lt_of_le I.lt hb), I.nofs hb, .inr (Nat.le_trans I.sz hb), fun x c e z => ?_, fun p hp z => ?_⟩
 ·obtain ⟨v, q⟩ := I.cell x c e
  exact absurd (Nat.lt_of_lt_of_le q.lt (by rw [z]; exact hb)) (Nat.lt_irrefl _)
 ·exact absurd (Nat.lt_of_lt_of_le (Heap.lt_size (I.pin p hp).1) (by rw [z]; exact hb)) (Nat.lt_irrefl _)
structure Turn (P : Program) (w : World) (K : PySem.W.Frag) (tg : Expr) (J : It) (fp : List Addr) (it : Addr) (tn : Nat -> Heap -> Prop) : Prop where
 mem : it ∈ fp
 obj : ∀ i h, tn i h -> ∀ b ∈ fp, ∃ o, h.get? b = some o /\ ∀ v, o.data ≠ .cell v
 keep : ∀ i h h', tn i h -> (∀ b ∈ fp, ∀ o, h.get? b = some o -> h'.get? b = some o) -> tn i h'
 item : ∀ (X : Cx), X.prog = P -> X.w = w -> X.K = K -> X.calm = true -> ∀ (i : Nat) (pins : List (Addr × Obj)) (s : Shared) (σ : St) (H : Hp) (E : Value -> Shared -> Prop), Inv X pins σ H s -> (∀ b ∈ fp, fK X pins H b) -> tn i s.heap -> J.go i H ->
  wpAny (model P w) X.A (pyNext (.ref it)) (fun r s1 => ∃ u, r = some u /\
   wpAny (model P w) X.A (letOwnedTupleGo tg (.ref it) u) (fun _ s2 => ∃ x H', Inv X pins σ H' s2 /\ RelV x u /\ J.yld i H x H' /\ tn (i + 1) s2.heap /\ ∀ b ∈ fp, H' b = none) E s1) E s
 done : ∀ (X : Cx), X.prog = P -> X.w = w -> X.K = K -> X.calm = true -> ∀ (i : Nat) (pins : List (Addr × Obj)) (s : Shared) (σ : St) (H : Hp) (E : Value -> Shared -> Prop), Inv X pins σ H s -> (∀ b ∈ fp, fK X pins H b) -> tn i s.heap -> J.stop i H ->
  wpAny (model P w) X.A (pyNext (.ref it)) (fun r s1 => r = none /\ Inv X pins σ H s1) E s
 self : ∀ (A : Around) (i : Nat) (s : Shared) (Q : Value -> Shared -> Prop) (E : Value -> Shared -> Prop), tn i s.heap -> Q (.ref it) s -> wpAny (model P w) A (pyIter (.ref it)) Q E s
abbrev TI := St -> Hp -> (It -> Hp -> Prop) -> Prop
def PIE (X : Cx) (pins : List (Addr × Obj)) (σ : St) (tg : Expr) (R : It -> Hp -> Prop) (itv : Value) (s2 : Shared) : Prop :=
 ∃ (it : Addr) (fp : List Addr) (tn : Nat -> Heap -> Prop) (J : It) (H' : Hp), itv = .ref it /\ Inv X pins σ H' s2 /\ Turn X.prog X.w X.K tg J fp it tn /\ tn 0 s2.heap /\ (∀ b ∈ fp, fK X pins H' b) /\ R J H'
def PI (X : Cx) (tg iter : Expr) (wi : TI) : Prop :=
 ∀ (pins : List (Addr × Obj)) (s : Shared) (σ : St) (H : Hp) (R : It -> Hp -> Prop), Inv X pins σ H s -> wi σ H R ->
  wpAny (model X.prog X.w) X.A (eval iter X.env) (fun v s1 => wpAny (model X.prog X.w) X.A (pyIter v) (PIE X pins σ tg R) X.xe s1) X.xe s
theorem Bk {M : Model} {A : Around} {E : Value -> Shared -> Prop} {s : Shared} {tg : Expr} {it : Addr} {u : Value} {o : Obj} {n : String} {vs : Array Value} {Q : Unit -> Shared -> Prop} (ho : s.heap.get? it = some o) (hc : o.cls = .type n) (hd : o.data = .fields vs)
    (hn : ["enumerate", "zip", "dict_itemiterator", "dict_reverseitemiterator", "odict_iterator", "itertools.zip_longest", "itertools.pairwise"].contains n = false) (hQ : Q () s) : wpAny M A (letOwnedTupleGo tg (.ref it) u) Q E s := by
  unfold letOwnedTupleGo
  cases tg <;> first
    | exact wpAny_pure hQ
    | (cases u <;> first
        | exact wpAny_pure hQ
        | (refine wpAny_bind (wpAny_load ho ?_)
           rw [hc, hd]
           show wpAny M A (if (["enumerate", "zip", "dict_itemiterator", "dict_reverseitemiterator", "odict_iterator", "itertools.zip_longest", "itertools.pairwise"].contains n && vs[0]? == some (rawInt _)) = true then _ else _) Q E s
           rw [if_neg (by intro h; rw [hn, Bool.false_and] at h; cases h)]
           exact wpAny_pure hQ))
def Itl (K : PySem.W.Frag) (a : Addr) : It :=
 ⟨fun i H => ∃ xs x, SqL K H a xs /\ xs[i]? = some x, fun i H x H' => H' = H /\ ∀ xs, SqL K H a xs -> xs[i]? = some x, fun i H => ∃ xs, SqL K H a xs /\ xs.length <= i⟩
def Itt (K : PySem.W.Frag) (a : Addr) : It :=
 ⟨fun i H => ∃ xs x, SqT K H a xs /\ xs[i]? = some x, fun i H x H' => H' = H /\ ∀ xs, SqT K H a xs -> xs[i]? = some x, fun i H => ∃ xs, SqT K H a xs /\ xs.length <= i⟩
def Itr (lo : Int) (n : Nat) : It := ⟨fun i _ => i < n, fun i H x H' => H' = H /\ x = .int (lo + i), fun i _ => n <= i⟩
theorem Cr {P : Program} {w : World} {K : PySem.W.Frag} {tg : Expr} (a it : Addr) : Turn P w K tg (Itl K a) [it] it (fun i h => h.IsListIter it a i) where
 mem := by simp
 obj := fun i h st b hb => by
  have e : b = it := by simpa using hb
  subst e
  obtain ⟨o, e, c, d⟩ := st
  exact ⟨o, e, fun v z => by rw [d] at z; cases z⟩
 keep := fun i h h' st k => st.at fun o e => k it (by simp) o e
 item := by
  intro X hP hw hK hc i pins s σ H E I hf st hg
  subst hP hw hK
  obtain ⟨xs, x, hq, hx⟩ := hg
  obtain ⟨its, rv, p, hz⟩ := I.list hq
  obtain ⟨u, hu, ru⟩ := rv.get hx
  obtain ⟨f0, f1, f2, f3, f4, f5⟩ := hf it (by simp)
  refine wpAny_pyNext_list_item st p.isList (x := u) (by simpa using hu) fun h' st' sb => ?_
  have I1 : Inv X pins σ H { s with heap := h' } := I.turned (t' := s.toks) (fun b o hb e => (sb.2 b hb).trans e) f0 f1 f3 f4 f5
  obtain ⟨o, e, c, d⟩ := id st'
  exact ⟨u, rfl, Bk (s := { s with heap := h' }) e c d (by decide) ⟨x, H, I1, ru, ⟨rfl, fun ys hy => by rw [I.list_inj hy hq]; exact hx⟩, st', fun b hb => (hf b hb).1⟩⟩
 done := by
  intro X hP hw hK hc i pins s σ H E I hf st hg
  subst hP hw hK
  obtain ⟨xs, hq, hx⟩ := hg
  obtain ⟨its, rv, p, hz⟩ := I.list hq
  obtain ⟨f0, f1, f2, f3, f4, f5⟩ := hf it (by simp)
  have hl := rv.length
  exact wpAny_pyNext_list_end (I.ok.hd hc) st p.isList (by simp; omega) fun h' eb => ⟨rfl, I.turned (t' := s.toks) (fun b o hb e => eb b o hb e) f0 f1 f3 f4 f5⟩
 self := fun _ _ _ _ _ st h => wpAny_pyIter_listiter st h
theorem BR {P : Program} {w : World} {K : PySem.W.Frag} {tg : Expr} (a it : Addr) : Turn P w K tg (Itt K a) [it] it (fun i h => h.IsTupleIter it a i) where
 mem := by simp
 obj := fun i h st b hb => by
  have e : b = it := by simpa using hb
  subst e
  obtain ⟨o, e, c, d⟩ := st
  exact ⟨o, e, fun v z => by rw [d] at z; cases z⟩
 keep := fun i h h' st k => st.at fun o e => k it (by simp) o e
 item := by
  intro X hP hw hK hc i pins s σ H E I hf st hg
  subst hP hw hK
  obtain ⟨xs, x, hq, hx⟩ := hg
  obtain ⟨its, rv, p, hz⟩ := I.tuple hq
  obtain ⟨u, hu, ru⟩ := rv.get hx
  obtain ⟨f0, f1, f2, f3, f4, f5⟩ := hf it (by simp)
  refine wpAny_pyNext_tuple_item st (show s.heap.IsTuple a its.toArray from p) (x := u) (by simpa using hu) fun h' st' sb => ?_
  have I1 : Inv X pins σ H { s with heap := h' } := I.turned (t' := s.toks) (fun b o hb e => (sb.2 b hb).trans e) f0 f1 f3 f4 f5
  obtain ⟨o, e, c, d⟩ := id st'
  exact ⟨u, rfl, Bk (s := { s with heap := h' }) e c d (by decide) ⟨x, H, I1, ru, ⟨rfl, fun ys hy => by rw [I.tuple_inj hy hq]; exact hx⟩, st', fun b hb => (hf b hb).1⟩⟩
 done := by
  intro X hP hw hK hc i pins s σ H E I hf st hg
  subst hP hw hK
  obtain ⟨xs, hq, hx⟩ := hg
  obtain ⟨its, rv, p, hz⟩ := I.tuple hq
  obtain ⟨f0, f1, f2, f3, f4, f5⟩ := hf it (by simp)
  have hl := rv.length
  exact wpAny_pyNext_tuple_end (I.ok.hd hc) st (show s.heap.IsTuple a its.toArray from p) (by simp; omega) fun h' eb => ⟨rfl, I.turned (t' := s.toks) (fun b o hb e => eb b o hb e) f0 f1 f3 f4 f5⟩
 self := fun _ _ _ _ _ st h => wpAny_pyIter_tupleiter st h
theorem Bw {P : Program} {w : World} {K : PySem.W.Frag} {tg : Expr} (it : Addr) (lo : Int) (n : Nat) : Turn P w K tg (Itr lo n) [it] it (fun i h => IsRangeIter h it (lo + (i : Nat) * 1) ((n : Int) - (i : Nat)) 1) where
 mem := by simp
 obj := fun i h st b hb => by
  have e : b = it := by simpa using hb
  subst e
  exact ⟨_, st, fun v z => by
   have z' : Data.fields _ = Data.cell v := z
   cases z'⟩
 keep := fun i h h' st k => k it (by simp) _ st
 item := by
  intro X hP hw hK hc i pins s σ H E I hf st hg
  subst hP hw hK
  obtain ⟨f0, f1, f2, f3, f4, f5⟩ := hf it (by simp)
  have W := Walks.range (prog := X.prog) (w := X.w) (I.ok.hd hc) it lo 1 n
  refine W.item i s _ _ hg st fun v h' tk hv st' kk => ?_
  obtain ⟨t, rfl⟩ := hv
  have I1 : Inv X pins σ H { s with heap := h', toks := tk } := I.turned (fun b o hb e => kk b o (by simpa using hb) e) f0 f1 f3 f4 f5
  refine ⟨_, rfl, Bk (s := { s with heap := h', toks := tk }) (n := "range_iterator") st' rfl rfl (by decide) ⟨.int (lo + i), H, I1, ⟨t, ?_⟩, ⟨rfl, rfl⟩, st', fun b hb => (hf b hb).1⟩⟩
  rw [Int.mul_one]
 done := by
  intro X hP hw hK hc i pins s σ H E I hf st hg
  subst hP hw hK
  obtain ⟨f0, f1, f2, f3, f4, f5⟩ := hf it (by simp)
  exact wpAny_pyNext_range_end (I.ok.hd hc) st (by have : n <= i := hg; omega) fun h' eb => ⟨rfl, I.turned (t' := s.toks) (fun b o hb e => eb b o hb e) f0 f1 f3 f4 f5⟩
 self := fun _ _ _ _ _ st h => wpAny_pyIter_rangeiter st h
end L2
namespace L2
open PySem PySem.Spec PyProof.Rows
section
variable {X : Cx} {tg : Expr}
def GF (K : PySem.W.Frag) (tl : TE) : TI := fun σ H R => tl σ H fun x H1 => ∃ a, x = .ref a /\ (∃ xs, SqL K H1 a xs) /\ R (Itl K a) H1
def Iz (K : PySem.W.Frag) (tl : TE) : TI := fun σ H R => tl σ H fun x H1 => ∃ a, x = .ref a /\ (∃ xs, SqT K H1 a xs) /\ R (Itt K a) H1
theorem Ho {l : Expr} {tl : TE} (hl : PE X l tl) : PI X tg l (GF X.K tl) := by
 intro pins s σ H R I h
 refine thn (hl pins s σ H _ I h) fun v s1 ⟨x, H1, I1, r1, q1⟩ => ?_
 obtain ⟨a, e, ⟨xs, hq⟩, q⟩ := q1
 subst e
 cases r1
 obtain ⟨its, rv, p, hz⟩ := I1.list hq
 refine wpAny_pyIter_list p.isList ?_
 refine ⟨s1.heap.objs.size, [s1.heap.objs.size], _, _, H1, rfl, I1.kept (t' := s1.toks) fun b o e => Heap.get?_push_of_some _ e, Cr a _, ⟨_, Heap.get?_push_size _ rfl, rfl, rfl⟩, fun b hb => ?_, q⟩
 have e : b = s1.heap.objs.size := by simpa using hb
 subst e
 exact I1.fpOk (Nat.le_refl _) (I1.hok.fresh (Nat.le_refl _))
theorem Jq {l : Expr} {tl : TE} (hl : PE X l tl) : PI X tg l (Iz X.K tl) := by
 intro pins s σ H R I h
 refine thn (hl pins s σ H _ I h) fun v s1 ⟨x, H1, I1, r1, q1⟩ => ?_
 obtain ⟨a, e, ⟨xs, hq⟩, q⟩ := q1
 subst e
 cases r1
 obtain ⟨its, rv, p, hz⟩ := I1.tuple hq
 refine wpAny_pyIter_tuple (show s1.heap.IsTuple a its.toArray from p) ?_
 refine ⟨s1.heap.objs.size, [s1.heap.objs.size], _, _, H1, rfl, I1.kept (t' := s1.toks) fun b o e => Heap.get?_push_of_some _ e, BR a _, ⟨_, Heap.get?_push_size _ rfl, rfl, rfl⟩, fun b hb => ?_, q⟩
 have e : b = s1.heap.objs.size := by simpa using hb
 subst e
 exact I1.fpOk (Nat.le_refl _) (I1.hok.fresh (Nat.le_refl _))
theorem FT {pins : List (Addr × Obj)} {σ : St} {H : Hp} {s : Shared} {R : It -> Hp -> Prop} {E : Value -> Shared -> Prop} {lo hi : Int} {t u v : Tok} {tk : Nat} (I : Inv X pins σ H s) (h1 : -(2 ^ 62) <= lo) (h2 : lo < 2 ^ 62) (h3 : -(2 ^ 62) <= hi) (h4 : hi < 2 ^ 62)
  (q : R (Itr lo (hi - lo).toNat) H) : wpAny (model X.prog X.w) X.A (pyIter (.ref s.heap.objs.size)) (PIE X pins σ tg R) E { s with heap := s.heap.push { cls := .type "range", data := .fields #[.int lo t, .int hi u, .int 1 v] }, toks := tk } := by
 refine wpAny_pyIter_range (IsRange.new ..) (small_one h1 h2 h3 h4) ?_
 have I1 : Inv X pins σ H { s with heap := s.heap.push { cls := .type "range", data := .fields #[.int lo t, .int hi u, .int 1 v] }, toks := tk } := I.kept fun b o e => Heap.get?_push_of_some _ e
 refine ⟨(s.heap.push { cls := .type "range", data := .fields #[.int lo t, .int hi u, .int 1 v] }).objs.size, [(s.heap.push { cls := .type "range", data := .fields #[.int lo t, .int hi u, .int 1 v] }).objs.size], _, _, H, rfl,
  I1.kept (t' := tk) fun b o e => Heap.get?_push_of_some _ e, Bw _ lo (hi - lo).toNat, ?_, fun b hb => ?_, q⟩
 ·have e1 : lo + ((0 : Nat) : Int) * 1 = lo := by simp
  have e2 : (((hi - lo).toNat : Nat) : Int) - ((0 : Nat) : Int) = Builtin.Range.rangeSize lo hi 1 := by rw [rangeSize_one]; split <;> omega
  show IsRangeIter _ _ (lo + ((0 : Nat) : Int) * 1) ((((hi - lo).toNat : Nat) : Int) - ((0 : Nat) : Int)) 1
  rw [e1, e2]
  exact Heap.get?_push_size _ rfl
 ·have e : b = (s.heap.push { cls := .type "range", data := .fields #[.int lo t, .int hi u, .int 1 v] }).objs.size := by simpa using hb
  subst e
  exact I1.fpOk (Nat.le_refl _) (I1.hok.fresh (Nat.le_refl _))
def J5 (ta : TA) : TI := fun σ H R => ta σ H fun vs H1 => ∃ j : Int, vs = [.int j] /\ -(2 ^ 62) <= j /\ j < 2 ^ 62 /\ R (Itr 0 j.toNat) H1
def Le (ta : TA) : TI := fun σ H R => ta σ H fun vs H1 => ∃ i j : Int, vs = [.int i, .int j] /\ (-(2 ^ 62) <= i /\ i < 2 ^ 62 /\ -(2 ^ 62) <= j /\ j < 2 ^ 62) /\ R (Itr i (j - i).toNat) H1
theorem cg {a : Expr} {ta : TA} {p pos : Pos} (hg : Gl X "range") (hm : X.mg "range" = none) (ha : PA X [a] ta) (hs : starEach [a] X.env = [(false, eval a X.env)] := by rfl) : PI X tg (.Call (.Name "range" p) [a] [] pos) (J5 ta) := by
 intro pins s σ H R I h
 refine Call_ (iD I hg hm boot_range (PyProof.Rows.callWith_type1 (thn (ha pos pins s σ H _ I h) fun us s1 ⟨vs, H1, I1, r1, q1⟩ => ?_) hs rfl))
 obtain ⟨j, e, q1, q2, q⟩ := q1
 subst e
 cases r1 with
 | cons r rr =>
  cases rr
  obtain ⟨t, rfl⟩ := r
  exact call_range_1 (FT I1 (by omega) (by omega) q1 q2 (by simpa using q))
def Km (wi : TI) (g : TG) (tb : TS) : TS := fun D σ H => wi σ H fun J H1 => ∃ W : Nat -> Nat -> St -> Hp -> Prop, (∃ m, W 0 m σ H1) /\ ∀ i m σ H, W i m σ H ->
 (J.stop i H /\ D.nx σ H) \/ (J.go i H /\ ∃ N : St -> Hp -> Prop, (∀ σ' H', N σ' H' -> ∃ m', m' < m /\ W (i + 1) m' σ' H') /\ ∀ x H', J.yld i H x H' -> g x σ H' fun σ2 H2 => tb { D with nx := N, ct := N, bk := D.nx } σ2 H2)
def jR (fp : List Addr) (h : Heap) : List (Addr × Obj) := fp.filterMap fun b => (h.get? b).map fun o => (b, o)
theorem mO {fp : List Addr} {h : Heap} {b : Addr} {o : Obj} (hb : b ∈ fp) (e : h.get? b = some o) : (b, o) ∈ jR fp h := List.mem_filterMap.mpr ⟨b, hb, by rw [e]; rfl⟩
theorem uW {fp : List Addr} {h : Heap} {p : Addr × Obj} (hp : p ∈ jR fp h) : p.1 ∈ fp /\ h.get? p.1 = some p.2 := by
 obtain ⟨b, hb, e⟩ := List.mem_filterMap.mp hp
 cases q : h.get? b with
 | none => rw [q] at e; cases e
 | some o =>
  rw [q] at e
  have e' : (b, o) = p := Option.some.inj e
  subst e'
  exact ⟨hb, q⟩
theorem Inv.pinned {pins : List (Addr × Obj)} {σ : St} {H : Hp} {s : Shared} {fp : List Addr} (I : Inv X pins σ H s) (hf : ∀ b ∈ fp, fK X pins H b) (ho : ∀ b ∈ fp, ∃ o, s.heap.get? b = some o /\ ∀ v, o.data ≠ .cell v) : Inv X (pins ++ jR fp s.heap) σ H s :=
 I.pins_of fun p hp => (List.mem_append.mp hp).elim (fun z => I.pin p (List.mem_append_right _ z)) fun z => by
  obtain ⟨hb, e⟩ := uW z
  obtain ⟨f0, f1, f2, _⟩ := hf p.1 hb
  obtain ⟨o, e', d⟩ := ho p.1 hb
  rw [e] at e'; cases e'
  exact ⟨e, f0, f1, f2, d⟩
theorem Inv.unpinned {pins pl : List (Addr × Obj)} {σ : St} {H : Hp} {s : Shared} (I : Inv X (pins ++ pl) σ H s) : Inv X pins σ H s := I.pins_of fun p hp => I.pin p (List.mem_append_right _ (List.mem_append_left _ hp))
theorem bU {iter : Expr} {body : List Stmt} {wi : TI} {g : TG} {tb : TS} {pos : Pos} (hp : PassesOwn (model X.prog X.w) X.A X.env X.xe) (hc : X.calm = true) (hi : PI X tg iter wi) (hg : PG X tg g) (hb : PSs X body tb)
  (hs : ∀ x, foldedSetIterable iter X.env x = pure x := by intro _; rfl) : PS X (.For tg iter body [] pos) (Km wi g tb) := by
 intro pins s σ H D I h
 refine wpAny_For (thn (hi pins s σ H _ I h) fun v s1 h1 => thn h1 fun itv s2 h2 => ?_) hs
 obtain ⟨it, fp, tn, J, H2, e, I2, T, st2, f2, W, ⟨m0, w0⟩, turn⟩ := h2
 subst e
 have stat : ∀ {H' : Hp}, (∀ b ∈ fp, H' b = none) -> ∀ b ∈ fp, fK X pins H' b := fun hn b hb => ⟨hn b hb, (f2 b hb).2⟩
 refine codeAny_forLoop_any (fun n s' => ∃ i σ' H', Inv X pins σ' H' s' /\ tn i s'.heap /\ (∀ b ∈ fp, H' b = none) /\ W i n σ' H') ?_ m0 ⟨0, σ, H2, I2, st2, fun b hb => (f2 b hb).1, w0⟩
 rintro n s3 ⟨i, σ3, H3, I3, st3, fr3, w3⟩
 rcases turn i n σ3 H3 w3 with ⟨stop, qn⟩ | ⟨go, N, hN, step⟩
 ·refine wpAny_passesOwn hp (thn (T.done X rfl rfl rfl hc i pins s3 σ3 H3 X.xe I3 (stat fr3) st3 stop) fun r s4 ⟨hr, I4⟩ => ?_)
  subst hr
  exact wpAny_execs_nil ⟨σ3, H3, I4, qn⟩
 ·refine wpAny_passesOwn hp (thn (T.item X rfl rfl rfl hc i pins s3 σ3 H3 X.xe I3 (stat fr3) st3 go) fun r s4 ⟨u, hr, h4⟩ => ?_)
  subst hr
  refine wpAny_passesOwn hp (thn h4 fun _ s5 ⟨x, H5, I5, r5, y5, st5, fr5⟩ => ?_)
  have I5' := I5.pinned (stat fr5) (T.obj _ _ st5)
  refine wpAny_passesOwn hp (thn (hg _ s5 σ3 H5 x u _ I5' r5 (step x H5 y5)) fun _ s6 ⟨σ6, H6, I6, q6⟩ => ?_)
  refine wpAny_passesOwn hp (thn (hb _ s6 σ6 H6 _ I6 q6) fun f s7 q7 => ?_)
  have again : ∀ {σ7 : St} {H7 : Hp}, Inv X (pins ++ jR fp s5.heap) σ7 H7 s7 -> N σ7 H7 -> ∃ m, m < n /\ ∃ i σ' H', Inv X pins σ' H' s7 /\ tn i s7.heap /\ (∀ b ∈ fp, H' b = none) /\ W i m σ' H' := fun {σ7 H7} I7 n7 => by
   obtain ⟨m', hm, w7⟩ := hN σ7 H7 n7
   refine ⟨m', hm, i + 1, σ7, H7, I7.unpinned, T.keep _ _ _ st5 fun b hb o e => (I7.pin (b, o) (List.mem_append_right _ (List.mem_append_right _ (mO hb e)))).1, fun b hb => ?_, w7⟩
   obtain ⟨o, e, d⟩ := T.obj _ _ st5 b hb
   exact (I7.pin (b, o) (List.mem_append_right _ (List.mem_append_right _ (mO hb e)))).2.1
  cases f with
  | next => obtain ⟨σ7, H7, I7, n7⟩ := q7; exact again I7 n7
  | cont => obtain ⟨σ7, H7, I7, n7⟩ := q7; exact again I7 n7
  | brk => obtain ⟨σ7, H7, I7, q7⟩ := q7; exact ⟨σ7, H7, I7.unpinned, q7⟩
  | ret v => obtain ⟨x7, σ7, H7, I7, r7, q7⟩ := q7; exact ⟨x7, σ7, H7, I7.unpinned, r7, q7⟩
end
theorem cM {K : PySem.W.Frag} {a : Addr} {xs : List V} {g : TG} {tb : TS} {D : Ends} {σ : St} {H : Hp} (Pv : Nat -> St -> Hp -> Prop) (h0 : Pv 0 σ H) (hl : ∀ i σ H, i <= xs.length -> Pv i σ H -> SqL K H a xs)
  (hs : ∀ i x σ H, xs[i]? = some x -> Pv i σ H -> g x σ H fun σ2 H2 => tb { D with nx := Pv (i + 1), ct := Pv (i + 1), bk := D.nx } σ2 H2) (hd : ∀ σ H, Pv xs.length σ H -> D.nx σ H) :
  ∃ W : Nat -> Nat -> St -> Hp -> Prop, (∃ m, W 0 m σ H) /\ ∀ i m σ H, W i m σ H ->
   ((Itl K a).stop i H /\ D.nx σ H) \/ ((Itl K a).go i H /\ ∃ N : St -> Hp -> Prop, (∀ σ' H', N σ' H' -> ∃ m', m' < m /\ W (i + 1) m' σ' H') /\ ∀ x H', (Itl K a).yld i H x H' -> g x σ H' fun σ2 H2 => tb { D with nx := N, ct := N, bk := D.nx } σ2 H2) := by
 refine ⟨fun i m σ H => m = xs.length - i /\ i <= xs.length /\ Pv i σ H, ⟨xs.length, by simp, Nat.zero_le _, h0⟩, ?_⟩
 rintro i m σ H ⟨rfl, hi, p⟩
 have q := hl i σ H hi p
 by_cases hlt : i < xs.length
 ·refine .inr ⟨⟨xs, xs[i], q, by simp [hlt]⟩, Pv (i + 1), fun σ' H' p' => ⟨xs.length - (i + 1), by omega, rfl, hlt, p'⟩, fun x H' y => ?_⟩
  obtain ⟨e, y⟩ := y
  subst e
  exact hs i x σ _ (y xs q) p
 ·have e : i = xs.length := by omega
  subst e
  exact .inl ⟨⟨xs, q, Nat.le_refl _⟩, hd σ H p⟩
theorem iH {lo : Int} {n : Nat} {g : TG} {tb : TS} {D : Ends} {σ : St} {H : Hp} (Pv : Nat -> St -> Hp -> Prop) (h0 : Pv 0 σ H)
  (hs : ∀ i σ H, i < n -> Pv i σ H -> g (.int (lo + i)) σ H fun σ2 H2 => tb { D with nx := Pv (i + 1), ct := Pv (i + 1), bk := D.nx } σ2 H2) (hd : ∀ σ H, Pv n σ H -> D.nx σ H) :
  ∃ W : Nat -> Nat -> St -> Hp -> Prop, (∃ m, W 0 m σ H) /\ ∀ i m σ H, W i m σ H ->
   ((Itr lo n).stop i H /\ D.nx σ H) \/ ((Itr lo n).go i H /\ ∃ N : St -> Hp -> Prop, (∀ σ' H', N σ' H' -> ∃ m', m' < m /\ W (i + 1) m' σ' H') /\ ∀ x H', (Itr lo n).yld i H x H' -> g x σ H' fun σ2 H2 => tb { D with nx := N, ct := N, bk := D.nx } σ2 H2) := by
 refine ⟨fun i m σ H => m = n - i /\ i <= n /\ Pv i σ H, ⟨n, by simp, Nat.zero_le _, h0⟩, ?_⟩
 rintro i m σ H ⟨rfl, hi, p⟩
 by_cases hlt : i < n
 ·refine .inr ⟨hlt, Pv (i + 1), fun σ' H' p' => ⟨n - (i + 1), by omega, rfl, hlt, p'⟩, fun x H' y => ?_⟩
  obtain ⟨e, y⟩ := y
  subst e y
  exact hs i σ _ hlt p
 ·have e : i = n := by omega
  subst e
  exact .inl ⟨Nat.le_refl _, hd σ H p⟩
end L2
namespace L2
open PySem PySem.Spec PyProof.Rows
abbrev R2 := V -> V -> Hp -> VK -> Prop
def OpR (X : Cx) (f : Value -> Value -> Sem Value) (r : R2) : Prop :=
 ∀ (pins : List (Addr × Obj)) (s : Shared) (σ : St) (H : Hp) (x y : V) (v u : Value) (Q : VK), Inv X pins σ H s -> RelV x v -> RelV y u -> r x y H Q ->
  wpAny (model X.prog X.w) X.A (f v u) (EP X pins σ Q) X.xe s
def UnR (X : Cx) (f : Value -> Sem Value) (r : V -> Hp -> VK -> Prop) : Prop :=
 ∀ (pins : List (Addr × Obj)) (s : Shared) (σ : St) (H : Hp) (x : V) (v : Value) (Q : VK), Inv X pins σ H s -> RelV x v -> r x H Q ->
  wpAny (model X.prog X.w) X.A (f v) (EP X pins σ Q) X.xe s
def CallR (X : Cx) (f : Value) (r : List V -> Hp -> VK -> Prop) : Prop :=
 ∀ (pins : List (Addr × Obj)) (s : Shared) (σ : St) (H : Hp) (xs : List V) (us : List Value) (Q : VK), Inv X pins σ H s -> Vals xs us -> r xs H Q ->
  wpAny (model X.prog X.w) X.A (call f us) (EP X pins σ Q) X.xe s
def Ma (X : Cx) (r : V -> Hp -> (Bool -> Hp -> Prop) -> Prop) : Prop :=
 ∀ (pins : List (Addr × Obj)) (s : Shared) (σ : St) (H : Hp) (x : V) (v : Value) (Q : Bool -> Hp -> Prop), Inv X pins σ H s -> RelV x v -> r x H Q ->
  wpAny (model X.prog X.w) X.A (truthy v) (TP X pins σ Q) X.xe s
def tOp (r : R2) (ta tb : TE) : TE := fun σ H Q => ta σ H fun x H1 => tb σ H1 fun y H2 => r x y H2 Q
def tUn (r : V -> Hp -> VK -> Prop) (ta : TE) : TE := fun σ H Q => ta σ H fun x H1 => r x H1 Q
def rI (C : Int -> Int -> Prop) (g : Int -> Int -> V) : R2 := fun x y H Q => ∃ i j, x = .int i /\ y = .int j /\ C i j /\ Q (g i j) H
def rI0 (g : Int -> Int -> V) : R2 := fun x y H Q => ∃ i j, x = .int i /\ y = .int j /\ Q (g i j) H
def rU (g : Int -> V) : V -> Hp -> VK -> Prop := fun x H Q => ∃ i, x = .int i /\ Q (g i) H
section
variable {X : Cx} {a b c : Expr} {ta tb tc : TE} {pos : Pos}
theorem Gz (ha : PE X a ta) (hb : PE X b tb) {pins : List (Addr × Obj)} {s : Shared} {σ : St} {H : Hp} {R : V -> V -> Hp -> Prop} (I : Inv X pins σ H s)
  (h : ta σ H fun x H1 => tb σ H1 fun y H2 => R x y H2) {Q : Value -> Shared -> Prop} {f : Value -> Value -> Sem Value}
  (hf : ∀ v u s2 x y H2, Inv X pins σ H2 s2 -> RelV x v -> RelV y u -> R x y H2 -> wpAny (model X.prog X.w) X.A (f v u) Q X.xe s2) :
  wpAny (model X.prog X.w) X.A (eval a X.env) (fun v s₁ => wpAny (model X.prog X.w) X.A (eval b X.env) (fun u s₂ => wpAny (model X.prog X.w) X.A (f v u) Q X.xe s₂) X.xe s₁) X.xe s := by
 refine thn (ha pins s σ H _ I h) fun v s1 ⟨x, H1, I1, r1, q1⟩ => ?_
 refine thn (hb pins s1 σ H1 _ I1 q1) fun u s2 ⟨y, H2, I2, r2, q2⟩ => ?_
 exact hf v u s2 x y H2 I2 r1 r2 q2
theorem aQ {op : Operator} {r : R2} (ho : OpR X (binaryOp op) r) (ha : PE X a ta) (hb : PE X b tb) : PE X (.BinOp a op b pos) (tOp r ta tb) := by
 intro pins s σ H Q I h
 exact wpAny_BinOp (Gz ha hb I h fun v u s2 x y H2 I2 rx ry q => ho pins s2 σ H2 x y v u Q I2 rx ry q)
theorem pB {op : UnaryOp} {r : V -> Hp -> VK -> Prop} (ho : UnR X (unaryOp op) r) (ha : PE X a ta) : PE X (.UnaryOp op a pos) (tUn r ta) := by
 intro pins s σ H Q I h
 exact UnaryOp_ (thn (ha pins s σ H _ I h) fun v s1 ⟨x, H1, I1, r1, q1⟩ => ho pins s1 σ H1 x v Q I1 r1 q1)
theorem opI {f : Value -> Value -> Sem Value} {C : Int -> Int -> Prop} {g : Int -> Int -> Int}
  (rule : ∀ (i j : Int) (t u : Tok) (s : Shared) (Q : Value -> Shared -> Prop) (E : Value -> Shared -> Prop), C i j -> Q (.int (g i j) s.toks) { s with toks := s.toks + 1 } -> wpAny (model X.prog X.w) X.A (f (.int i t) (.int j u)) Q E s) :
  OpR X f (rI C fun i j => .int (g i j)) := by
 intro pins s σ H x y v u Q I rx ry h
 obtain ⟨i, j, rfl, rfl, hc, q⟩ := h
 obtain ⟨t, rfl⟩ := rx
 obtain ⟨t', rfl⟩ := ry
 exact rule i j t t' s _ _ hc ⟨.int (g i j), H, I.tok _, ⟨_, rfl⟩, q⟩
theorem JK {f : Value -> Value -> Sem Value} {g : Int -> Int -> Int}
  (rule : ∀ (i j : Int) (t u : Tok) (s : Shared) (Q : Value -> Shared -> Prop) (E : Value -> Shared -> Prop), Q (.int (g i j) s.toks) { s with toks := s.toks + 1 } -> wpAny (model X.prog X.w) X.A (f (.int i t) (.int j u)) Q E s) :
  OpR X f (rI0 fun i j => .int (g i j)) := by
 intro pins s σ H x y v u Q I rx ry h
 obtain ⟨i, j, rfl, rfl, q⟩ := h
 obtain ⟨t, rfl⟩ := rx
 obtain ⟨t', rfl⟩ := ry
 exact rule i j t t' s _ _ ⟨.int (g i j), H, I.tok _, ⟨_, rfl⟩, q⟩
theorem Fj {f : Value -> Value -> Sem Value} {g : Int -> Int -> Bool}
  (rule : ∀ (i j : Int) (t u : Tok) (s : Shared) (Q : Value -> Shared -> Prop) (E : Value -> Shared -> Prop), Q (.bool (g i j)) s -> wpAny (model X.prog X.w) X.A (f (.int i t) (.int j u)) Q E s) :
  OpR X f (rI0 fun i j => .bl (g i j)) := by
 intro pins s σ H x y v u Q I rx ry h
 obtain ⟨i, j, rfl, rfl, q⟩ := h
 obtain ⟨t, rfl⟩ := rx
 obtain ⟨t', rfl⟩ := ry
 exact rule i j t t' s _ _ ⟨.bl (g i j), H, I, rfl, q⟩
def Ko (i j : Int) : Prop := 0 < j /\ j < 1073741824
def K_ (i j : Int) : Prop := j ≠ 0 /\ j.natAbs < 1073741824
def Li (i j : Int) : Prop := 0 <= j /\ j <= 1000000 /\ i.natAbs < 2 ^ 64
def CMul (i j : Int) : Prop := (-(2 ^ 64) < i /\ i < 2 ^ 64) \/ (-(2 ^ 64) < j /\ j < 2 ^ 64)
theorem CMul.ok {i j : Int} (h : CMul i j) : IntMulOk i j := by
 rcases h with ⟨h1, h2⟩ | ⟨h1, h2⟩
 ·exact .of_left (intBits_le_64 h1 h2)
 ·exact .of_right (intBits_le_64 h1 h2)
theorem dB : OpR X (binaryOp .Add) (rI0 fun i j => .int (i + j)) := JK fun _ _ _ _ _ _ _ q => add_int q
theorem lD : OpR X (binaryOp .Sub) (rI0 fun i j => .int (i - j)) := JK fun _ _ _ _ _ _ _ q => sub_int q
theorem lz : OpR X (binaryOp .Mult) (rI CMul fun i j => .int (i * j)) := opI fun _ _ _ _ _ _ _ hc q => mul_int q hc.ok
theorem o_ : OpR X (binaryOp .FloorDiv) (rI Ko fun i j => .int (i / j)) := opI fun i j _ _ _ _ _ hc q => by
 have h1 : (0 : Int) < j := hc.1
 have h2 : j < 1073741824 := hc.2
 exact floordiv_int (by omega) (by rw [Int.fdiv_eq_ediv_of_nonneg i (by omega)]; exact q) (.inl (PyProof.noPylong_small (by omega)))
theorem dN : OpR X (binaryOp .Mod) (rI (fun _ j => 0 < j) fun i j => .int (i % j)) := opI fun i j _ _ _ _ _ hc q => by
 have h1 : (0 : Int) < j := hc
 exact mod_int' (by omega) (by rw [Int.fmod_eq_emod_of_nonneg i (by omega)]; exact q)
theorem unI {f : Value -> Sem Value} {g : Int -> Int}
  (rule : ∀ (i : Int) (t : Tok) (s : Shared) (Q : Value -> Shared -> Prop) (E : Value -> Shared -> Prop), Q (.int (g i) s.toks) { s with toks := s.toks + 1 } -> wpAny (model X.prog X.w) X.A (f (.int i t)) Q E s) :
  UnR X f (rU fun i => .int (g i)) := by
 intro pins s σ H x v Q I rx h
 obtain ⟨i, rfl, q⟩ := h
 obtain ⟨t, rfl⟩ := rx
 exact rule i t s _ _ ⟨.int (g i), H, I.tok _, ⟨_, rfl⟩, q⟩
theorem lw : UnR X (unaryOp .USub) (rU fun i => .int (-i)) := unI fun _ _ _ _ _ q => neg_int q
end
def Jj : V -> V -> Bool
 | .non, .non => true | .non, .int _ => true | .int _, .non => true | .non, .bl _ => true | .bl _, .non => true | .non, .str _ => true | .str _, .non => true
 | .int _, .int _ => true | .bl _, .bl _ => true | .str _, .str _ => true | .byt _, .byt _ => true
 | .int _, .str _ => true | .str _, .int _ => true | .bl _, .str _ => true | .str _, .bl _ => true
 | _, _ => false
def rEq : R2 := fun x y H Q => Jj x y = true /\ Q (.bl (decide (x = y))) H
def rNe : R2 := fun x y H Q => Jj x y = true /\ Q (.bl (!decide (x = y))) H
theorem Aa {i j : Int} : decide (V.int i = V.int j) = (i == j) := by
 rw [Bool.eq_iff_iff]
 simp
theorem Dv {i j : Bool} : decide (V.bl i = V.bl j) = (i == j) := by
 rw [Bool.eq_iff_iff]
 simp
theorem Bd {i j : Str} : decide (V.str i = V.str j) = (i == j) := by
 rw [Bool.eq_iff_iff]
 simp
theorem Ba {i j : Array UInt8} : decide (V.byt i = V.byt j) = (i.toList == j.toList) := by
 rw [Bool.eq_iff_iff]
 cases i
 cases j
 simp
section
variable {X : Cx} {a b c : Expr} {ta tb tc : TE} {pos : Pos}
theorem bw {pins : List (Addr × Obj)} {σ : St} {H : Hp} {s : Shared} {Q : VK} {k k' : Bool} (I : Inv X pins σ H s) (q : Q (.bl k) H) (e : k = k') : EP X pins σ Q (.bool k') s := by
 subst e
 exact ⟨.bl k, H, I, rfl, q⟩
theorem fG : OpR X (compareOp .Eq) rEq := by
 intro pins s σ H x y v u Q I rx ry h
 obtain ⟨hs, q⟩ := h
 cases x with
 | non =>
  cases rx
  cases y with
  | non => cases ry; exact PySem.EqNone.eq_none_none (bw I q (by simp))
  | bl j => cases ry; exact PySem.EqNone.eq_none_bool (bw I q (by simp))
  | int j => obtain ⟨t', rfl⟩ := ry; exact PySem.EqNone.eq_none_int (bw I q (by simp))
  | str j => obtain ⟨t', rfl⟩ := ry; exact PySem.EqNone.eq_none_str (bw I q (by simp))
  | _ => exact absurd (show false = true from hs) Bool.false_ne_true
 | bl i =>
  cases rx
  cases y with
  | non => cases ry; exact PySem.EqNone.eq_bool_none (bw I q (by simp))
  | bl j => cases ry; exact eq_bool (bw I q Dv)
  | str j => obtain ⟨t', rfl⟩ := ry; exact PySem.EqMixed.eq_bool_str (bw I q (by simp))
  | _ => exact absurd (show false = true from hs) Bool.false_ne_true
 | int i =>
  obtain ⟨t, rfl⟩ := rx
  cases y with
  | non => cases ry; exact PySem.EqNone.eq_int_none (bw I q (by simp))
  | int j => obtain ⟨t', rfl⟩ := ry; exact eq_int (bw I q Aa)
  | str j => obtain ⟨t', rfl⟩ := ry; exact PySem.EqMixed.eq_int_str (bw I q (by simp))
  | _ => exact absurd (show false = true from hs) Bool.false_ne_true
 | str i =>
  obtain ⟨t, rfl⟩ := rx
  cases y with
  | non => cases ry; exact PySem.EqNone.eq_str_none (bw I q (by simp))
  | bl j => cases ry; exact PySem.EqMixed.eq_str_bool (bw I q (by simp))
  | int j => obtain ⟨t', rfl⟩ := ry; exact PySem.EqMixed.eq_str_int (bw I q (by simp))
  | str j => obtain ⟨t', rfl⟩ := ry; exact eq_str (bw I q Bd)
  | _ => exact absurd (show false = true from hs) Bool.false_ne_true
 | byt i =>
  obtain ⟨t, rfl⟩ := rx
  cases y with
  | byt j => obtain ⟨t', rfl⟩ := ry; exact PySem.W.eq_bytes (bw I q Ba)
  | _ => exact absurd (show false = true from hs) Bool.false_ne_true
 | _ => cases y <;> exact absurd (show false = true from hs) Bool.false_ne_true
theorem Bj : OpR X (compareOp .NotEq) rNe := by
 intro pins s σ H x y v u Q I rx ry h
 obtain ⟨hs, q⟩ := h
 cases x with
 | non =>
  cases rx
  cases y with
  | non => cases ry; exact PySem.EqNone.ne_none_none (bw I q (by simp))
  | bl j => cases ry; exact PySem.EqNone.ne_none_bool (bw I q (by simp))
  | int j => obtain ⟨t', rfl⟩ := ry; exact PySem.EqNone.ne_none_int (bw I q (by simp))
  | str j => obtain ⟨t', rfl⟩ := ry; exact PySem.EqNone.ne_none_str (bw I q (by simp))
  | _ => exact absurd (show false = true from hs) Bool.false_ne_true
 | bl i =>
  cases rx
  cases y with
  | non => cases ry; exact PySem.EqNone.ne_bool_none (bw I q (by simp))
  | bl j => cases ry; exact ne_bool (bw I q (congrArg not Dv))
  | str j => obtain ⟨t', rfl⟩ := ry; exact PySem.EqMixed.ne_bool_str (bw I q (by simp))
  | _ => exact absurd (show false = true from hs) Bool.false_ne_true
 | int i =>
  obtain ⟨t, rfl⟩ := rx
  cases y with
  | non => cases ry; exact PySem.EqNone.ne_int_none (bw I q (by simp))
  | int j => obtain ⟨t', rfl⟩ := ry; exact ne_int (bw I q (congrArg not Aa))
  | str j => obtain ⟨t', rfl⟩ := ry; exact PySem.EqMixed.ne_int_str (bw I q (by simp))
  | _ => exact absurd (show false = true from hs) Bool.false_ne_true
 | str i =>
  obtain ⟨t, rfl⟩ := rx
  cases y with
  | non => cases ry; exact PySem.EqNone.ne_str_none (bw I q (by simp))
  | bl j => cases ry; exact PySem.EqMixed.ne_str_bool (bw I q (by simp))
  | int j => obtain ⟨t', rfl⟩ := ry; exact PySem.EqMixed.ne_str_int (bw I q (by simp))
  | str j => obtain ⟨t', rfl⟩ := ry; exact ne_str (bw I q (congrArg not Bd))
  | _ => exact absurd (show false = true from hs) Bool.false_ne_true
 | byt i =>
  obtain ⟨t, rfl⟩ := rx
  cases y with
  | byt j => obtain ⟨t', rfl⟩ := ry; exact PySem.W.ne_bytes (bw I q (congrArg not Ba))
  | _ => exact absurd (show false = true from hs) Bool.false_ne_true
 | _ => cases y <;> exact absurd (show false = true from hs) Bool.false_ne_true
theorem jY : OpR X (compareOp .Lt) (rI0 fun i j => .bl (decide (i < j))) := Fj fun _ _ _ _ _ _ _ q => lt_int q
theorem mX : OpR X (compareOp .LtE) (rI0 fun i j => .bl (decide (i <= j))) := Fj fun _ _ _ _ _ _ _ q => le_int q
theorem pG : OpR X (compareOp .Gt) (rI0 fun i j => .bl (decide (j < i))) := Fj fun _ _ _ _ _ _ _ q => gt_int q
theorem Iv : OpR X (compareOp .Is) (fun x y H Q => y = .non /\ Q (.bl (decide (x = .non))) H) := by
 intro pins s σ H x y v u Q I rx ry h
 obtain ⟨rfl, q⟩ := h
 cases ry
 refine is_none_gen (bw I q ?_)
 cases x <;> first
  | (cases rx; rfl)
  | (obtain ⟨t, rfl⟩ := rx; rfl)
theorem Hs : OpR X (compareOp .IsNot) (fun x y H Q => y = .non /\ Q (.bl (!decide (x = .non))) H) := by
 intro pins s σ H x y v u Q I rx ry h
 obtain ⟨rfl, q⟩ := h
 cases ry
 refine isnot_none_gen (bw I q ?_)
 cases x <;> first
  | (cases rx; rfl)
  | (obtain ⟨t, rfl⟩ := rx; rfl)
def isObj : HO -> Bool
 | .lst _ => true
 | .ins _ _ _ => true
 | _ => false
theorem OpR.or {f : Value -> Value -> Sem Value} {r r' : R2} (h : OpR X f r) (h' : OpR X f r') : OpR X f (fun x y H Q => r x y H Q \/ r' x y H Q) := by
 intro pins s σ H x y v u Q I rx ry q
 rcases q with q | q
 ·exact h pins s σ H x y v u Q I rx ry q
 ·exact h' pins s σ H x y v u Q I rx ry q
theorem bf (b : Expr) {op : CmpOp} (h : op ≠ .In := by decide) (h2 : op ≠ .NotIn := by decide) : behindInMarks op b = false := by
 have e1 : (op == CmpOp.In) = false := by cases op <;> first | rfl | exact absurd rfl h
 have e2 : (op == CmpOp.NotIn) = false := by cases op <;> first | rfl | exact absurd rfl h2
 cases b <;> simp [behindInMarks, e1, e2]
theorem dF {op : CmpOp} {r : R2} (ho : OpR X (compareOp op) r) (ha : PE X a ta) (hb : PE X b tb) (hm : behindInMarks op b = false) : PE X (.Compare a [op] [b] pos) (tOp r ta tb) := by
 intro pins s σ H Q I h
 exact wpAny_Compare1 (Gz ha hb I h fun v u s2 x y H2 I2 rx ry q => ho pins s2 σ H2 x y v u Q I2 rx ry q) hm
def Ha (t : TE) : TT := fun σ H Q => t σ H fun x H' => ∃ k, x = .bl k /\ Q k H'
theorem bh {op : CmpOp} {r : R2} (ho : OpR X (compareOp op) r) (ha : PE X a ta) (hb : PE X b tb) (hm : behindInMarks op b = false) : PT X (.Compare a [op] [b] pos) (Ha (tOp r ta tb)) := by
 intro pins s σ H Q I h
 refine wpAny_isTrue_Compare1 (thn (ha pins s σ H _ I h) fun v s1 ⟨x, H1, I1, r1, q1⟩ => thn (hb pins s1 σ H1 _ I1 q1) fun u s2 ⟨y, H2, I2, r2, q2⟩ =>
  thn (ho pins s2 σ H2 x y v u _ I2 r1 r2 q2) fun c s3 ⟨z, H3, I3, r3, k, e, q3⟩ => ?_) hm
 subst e
 cases r3
 exact wpAny_truthy_bool ⟨H3, I3, q3⟩
def DR (r r' : R2) (ta tb tc : TE) : TE := fun σ H Q => ta σ H fun x H1 => tb σ H1 fun y H2 => r x y H2 fun z H3 => ∃ k, z = .bl k /\
 (if k = true then tc σ H3 fun w' H4 => r' y w' H4 Q else Q (.bl false) H3)
theorem Gp {op op' : CmpOp} {r r' : R2} (ho : OpR X (compareOp op) r) (ho' : OpR X (compareOp op') r') (ha : PE X a ta) (hb : PE X b tb) (hc : PE X c tc)
  (hm : lastMarks [op, op'] [b, c] = false := by with_unfolding_all rfl) : PE X (.Compare a [op, op'] [b, c] pos) (DR r r' ta tb tc) := by
 intro pins s σ H Q I h
 refine Compare_chain (thn (ha pins s σ H _ I h) fun v s1 ⟨x, H1, I1, r1, q1⟩ => chain_link (thn (hb pins s1 σ H1 _ I1 q1) fun u s2 ⟨y, H2, I2, r2, q2⟩ =>
  thn (ho pins s2 σ H2 x y v u _ I2 r1 r2 q2) fun d s3 ⟨z, H3, I3, r3, k, e, q3⟩ => ?_)) hm
 subst e
 cases r3
 refine wpAny_truthy_bool ?_
 cases k with
 | false => exact ite_ff ⟨.bl false, H3, I3, rfl, q3⟩
 | true => exact ite_tt (chain_last (thn (hc pins s3 σ H3 _ I3 q3) fun w' s4 ⟨z', H4, I4, r4, q4⟩ => ho' pins s4 σ H4 y z' u w' Q I4 r2 r4 q4))
theorem lX {op op' : CmpOp} {r r' : R2} (ho : OpR X (compareOp op) r) (ho' : OpR X (compareOp op') r') (ha : PE X a ta) (hb : PE X b tb) (hc : PE X c tc)
  (hm : lastMarks [op, op'] [b, c] = false := by with_unfolding_all rfl) : PT X (.Compare a [op, op'] [b, c] pos) (Ha (DR r r' ta tb tc)) := by
 intro pins s σ H Q I h
 refine isTrue_chain (thn (ha pins s σ H _ I h) fun v s1 ⟨x, H1, I1, r1, q1⟩ => test_link (thn (hb pins s1 σ H1 _ I1 q1) fun u s2 ⟨y, H2, I2, r2, q2⟩ =>
  thn (ho pins s2 σ H2 x y v u _ I2 r1 r2 q2) fun d s3 ⟨z, H3, I3, r3, k, e, q3⟩ => ?_)) hm
 subst e
 cases r3
 refine wpAny_truthy_bool ?_
 cases k with
 | false =>
  obtain ⟨k', e', q'⟩ := q3
  cases e'
  exact ite_ff ⟨H3, I3, q'⟩
 | true =>
  refine ite_tt (test_last (thn (hc pins s3 σ H3 _ I3 q3) fun w' s4 ⟨z', H4, I4, r4, q4⟩ => thn (ho' pins s4 σ H4 y z' u w' _ I4 r2 r4 q4) fun d' s5 ⟨z2, H5, I5, r5, k2, e2, q5⟩ => ?_))
  subst e2
  cases r5
  exact wpAny_truthy_bool ⟨H5, I5, q5⟩
def Lw (K : PySem.W.Frag) (x : V) (H : Hp) (k : Bool) : Prop :=
 match x with
 | .non => k = false
 | .bl b => k = b
 | .int i => k = (i != 0)
 | .str y => y.length <= sizeLine /\ k = ((y.length : Int) != 0)
 | .byt y => y.size <= sizeLine /\ k = ((y.size : Int) != 0)
 | .ref p => (∃ xs, SqL K H p xs /\ k = !xs.isEmpty) \/ (∃ xs, SqT K H p xs /\ k = !xs.isEmpty) \/ ∃ kvs, H p = some (.dK kvs) /\ k = !kvs.isEmpty
 | _ => False
theorem oU : (sizeLine : Nat) < 2 ^ 63 := by rw [sizeLine_eq]; decide
def Ke (b : Expr) : Prop := ∀ o i, subscripted b false o i = operate [o, i] (getItem o i)
theorem vals1 {x : V} {us : List Value} (r : Vals [x] us) : ∃ u, us = [u] /\ RelV x u := by
 cases r with
 | cons r1 r2 => cases r2; exact ⟨_, rfl, r1⟩
theorem qN : CallR X (.builtin "abs") (fun xs H Q => ∃ i, xs = [.int i] /\ Q (.int (if i < 0 then -i else i)) H) := by
 intro pins s σ H xs us Q I r h
 obtain ⟨i, rfl, q⟩ := h
 obtain ⟨u, rfl, t, rfl⟩ := vals1 r
 exact call_abs_int fun u tk => ⟨.int (if i < 0 then -i else i), H, I.tok _, ⟨_, rfl⟩, q⟩
def Lp (K : PySem.W.Frag) (x : V) (H : Hp) (n : Nat) : Prop :=
 match x with
 | .str y => y.length <= sizeLine /\ n = y.length
 | .byt y => y.size <= sizeLine /\ n = y.size
 | .ref p => (∃ xs, SqL K H p xs /\ n = xs.length) \/ ∃ xs, SqT K H p xs /\ n = xs.length
 | _ => False
end
end L2
namespace L2
open PySem PySem.Spec PyProof.Rows
structure ObjM (h : Heap) (x dx C : Addr) (mA : Str -> Option Value) : Prop where
 obj : h.get? x = some (PySem.W.instObj C dx)
 ns : h.Ns1 dx mA
 ne : dx ≠ x
theorem Dl {h : Heap} {dx : Addr} {mA : Str -> Option Value} (n : h.Ns1 dx mA) : ∃ od, h.get? dx = some od /\ ∀ name, PySem.W.lookIn name od = some (mA name) := by
 obtain ⟨o, es, ep, ho, hd, hk, _, hm⟩ := n
 refine ⟨o, ho, fun name => ?_⟩
 have e := hm name
 unfold nsFind findBy at e
 rw [<- Array.find?_toList] at e
 unfold PySem.W.lookIn
 rw [hd]
 dsimp only
 split
 ·rename_i y q
  rw [q] at e
  exact congrArg some e
 ·rename_i q
  rw [q] at e
  have a : es.toList.any (·.refKey) = false := by
   rw [List.any_eq_false]
   intro y hy
   obtain ⟨z, t, hkey⟩ := hk y (Array.mem_toList_iff.mp hy)
   simp [DictEntry.refKey, hkey]
  have a' : ¬ es.toList.any (·.refKey) = true := by rw [a]; exact Bool.false_ne_true
  rw [if_neg a']
  exact congrArg some e
theorem ObjM.look {h : Heap} {x dx C : Addr} {mA : Str -> Option Value} (I : ObjM h x dx C mA) : ∃ od, PySem.W.InstAt h x (PySem.W.instObj C dx) C (some od) /\ ∀ name, PySem.W.lookIn name od = some (mA name) :=
 let ⟨od, ho, hl⟩ := Dl I.ns
 ⟨od, ⟨I.obj, rfl, rfl, ho⟩, hl⟩
section
variable {prog : Program} {w : World} {A : Around} {E : Value -> Shared -> Prop} {s : Shared} {K : PySem.W.Frag} {x dx C f : Addr} {mA : Str -> Option Value} {name : Str} {v : Value}
theorem Hm {expr : Bool} {Q : Value -> Shared -> Prop} (X : K.In s.heap) (I : ObjM s.heap x dx C mA) (hg : PySem.W.plainGet K C name = true) (hh : PySem.W.hasDictIn K C = true)
  (ha : PySem.W.findIn K (.ref C) name = some none) (hv : mA name = some v) (hv' : PySem.W.handedIn v = true) (h : Q v { s with toks := s.toks + 1 }) :
  wpAny (model prog w) A (getAttr (.ref x) name expr) Q E s := by
 obtain ⟨od, J, hl⟩ := I.look
 exact PySem.W.get_value X J (PySem.W.plainGet_of hg).1 (PySem.W.findObj_own hh ha rfl (by rw [hl, hv])) hv' h
theorem HS {ns : List Str} {Q : Unit -> Shared -> Prop} (X : K.In s.heap) (I : ObjM s.heap x dx C mA)
  (hs : PySem.W.findIn K (.ref C) "__setattr__" = some (some (.builtin "object.__setattr__"))) (hp : PySem.W.plainOver K C = true) (ht : PySem.W.takerIn K C name = some none) (hh : PySem.W.hasDictIn K C = true)
  (hw : PySem.Within mA ns) (hsz : ns.length <= sizeLine)
  (h : ∀ h', ObjM h' x dx C (fun y => if y = name then some v else mA y) -> Heap.SameBut dx s.heap h' -> Q () { s with heap := h', toks := s.toks + 2 }) :
  wpAny (model prog w) A (setAttr (.ref x) name v) Q E s := by
 obtain ⟨od, J, hl⟩ := I.look
 refine PySem.W.set_plain X J hs (PySem.W.osa_open (s := { s with toks := s.toks + 1 }) (r := none) X J hp ht fun b => ?_)
 obtain ⟨cd, hc, hd'⟩ := PySem.W.any_some hh
 have hx : s.heap.get? x = some ⟨.ref C, some dx, .plain, #[]⟩ := I.obj
 refine wpAny_bind (wpAny_pure (wpAny_bind (wpAny_bind (wpAny_loadPart hx (wpAny_bind (PySem.W.Looks.here (s := { s with toks := s.toks + 1 }) (PySem.W.looks_clsIn X hc) ?_))))))
 rw [hd']
 refine wpAny_pure (a := some dx) (wpAny_bind (wpAny_pure (wpAny_bind ?_)))
 refine wpAny_nsSet1 (s := { s with toks := s.toks + 1 }) I.ns fun h' hn2 hs2 => ?_
 obtain ⟨oD, esD, epD, hoD, hdD, hcD⟩ := hn2.count (PySem.Within.cons name v hw)
 refine wpAny_bind (wpAny_lookBehind hoD (by rw [hdD]; exact pastItsLine_dict (Nat.le_trans hcD (by rw [List.length_cons]; omega))) ?_)
 exact wpAny_pure (h _ ⟨(hs2.2 _ (Ne.symm I.ne)).trans I.obj, hn2, I.ne⟩ hs2)
theorem Gv {R : Result -> Shared -> Prop} {vs : List Value} {kw : List (Str × Value)} (X : K.In s.heap) (hm : PySem.W.makesIn K C = true)
  (hi : PySem.W.findIn K (.ref C) "__init__" = some (some (.ref f))) (hf : PySem.W.typeIn K (.ref f) = some (.type "function"))
  (h : codeAny (model prog w) (A.under (.builtin "type.__call__" ⟨.ref C :: vs, kw⟩)) (.call (.ref f) ⟨.ref (s.heap.objs.size + 1) :: vs, kw⟩) (PySem.W.InitBack (s.heap.objs.size + 1) R)
   { s with heap := (s.heap.push PySem.W.emptyDict).push (PySem.W.instObj C s.heap.objs.size) }) :
  codeAny (model prog w) A (.call (.ref C) ⟨vs, kw⟩) R s := by
 obtain ⟨hh, g, d, t, os⟩ := s
 exact PySem.W.make_core (PySem.W.makes_of X hm) (PySem.W.looks_findIn X hi) (fun self => PySem.W.bind_fn X self hf) (.inl rfl) h
end
def cj (f : Str) (v : V) : List (Str × V) -> List (Str × V)
 | [] => [(f, v)]
 | (g, x) :: r => if g = f then (g, v) :: r else (g, x) :: cj f v r
theorem bJ (f g : Str) (v : V) : ∀ fs : List (Str × V), (cj f v fs).lookup g = if g = f then some v else fs.lookup g
 | [] => by
  show List.lookup g [(f, v)] = _
  by_cases h : g = f
  ·have hb : (g == f) = true := beq_iff_eq.mpr h
   simp only [List.lookup, hb, if_pos h]
  ·have hb : (g == f) = false := beq_eq_false_iff_ne.mpr h
   simp only [List.lookup, hb, if_neg h]
 | (k, x) :: r => by
  have ih := bJ f g v r
  rw [show cj f v ((k, x) :: r) = (if k = f then (k, v) :: r else (k, x) :: cj f v r) from rfl]
  by_cases hk : k = f
  ·rw [if_pos hk]
   by_cases h : g = k
   ·have hb : (g == k) = true := beq_iff_eq.mpr h
    simp only [List.lookup, hb, if_pos (h.trans hk)]
   ·have hb : (g == k) = false := beq_eq_false_iff_ne.mpr h
    simp only [List.lookup, hb, if_neg (fun e : g = f => h (e.trans hk.symm))]
  ·rw [if_neg hk]
   by_cases h : g = k
   ·have hb : (g == k) = true := beq_iff_eq.mpr h
    simp only [List.lookup, hb, if_neg (fun e : g = f => hk (h.symm.trans e))]
   ·have hb : (g == k) = false := beq_eq_false_iff_ne.mpr h
    simp only [List.lookup, hb]
    exact ih
theorem nW (f : Str) (v : V) : ∀ fs : List (Str × V), f ∈ (cj f v fs).map (·.1) /\ ∀ g, g ∈ fs.map (·.1) -> g ∈ (cj f v fs).map (·.1)
 | [] => ⟨by simp [cj], fun g h => by simp at h⟩
 | (k, x) :: r => by
  obtain ⟨i1, i2⟩ := nW f v r
  rw [show cj f v ((k, x) :: r) = (if k = f then (k, v) :: r else (k, x) :: cj f v r) from rfl]
  by_cases hk : k = f
  ·rw [if_pos hk]
   subst hk
   exact ⟨by simp, fun g h => by simpa using h⟩
  ·rw [if_neg hk]
   refine ⟨?_, fun g h => ?_⟩
   ·rw [List.map_cons]
    exact List.mem_cons_of_mem _ i1
   ·rw [List.map_cons] at h ⊢
    rcases List.mem_cons.mp h with e | e
    ·exact List.mem_cons.mpr (.inl e)
    ·exact List.mem_cons_of_mem _ (i2 g e)
theorem pN (f : Str) (v : V) : ∀ fs : List (Str × V), (cj f v fs).length <= fs.length + 1
 | [] => by simp [cj]
 | (k, x) :: r => by
  have ih := pN f v r
  rw [show cj f v ((k, x) :: r) = (if k = f then (k, v) :: r else (k, x) :: cj f v r) from rfl]
  by_cases hk : k = f
  ·rw [if_pos hk, List.length_cons, List.length_cons]; omega
  ·rw [if_neg hk, List.length_cons, List.length_cons]; omega
theorem RelO.some_of {v : V} {o : Option Value} (r : RelO (some v) o) : ∃ u, o = some u /\ RelV v u := by
 cases o with
 | none => exact (show False from r).elim
 | some u => exact ⟨u, rfl, r⟩
theorem CZ {v : V} {u : Value} (r : RelV v u) : PySem.W.handedIn u = true := by
 cases v with
 | non => cases (show u = Value.none from r); rfl
 | bl b => cases (show u = Value.bool b from r); rfl
 | int i => obtain ⟨t, e⟩ := (show ∃ t, u = Value.int i t from r); cases e; rfl
 | str x => obtain ⟨t, e⟩ := (show ∃ t, u = Value.str x t from r); cases e; rfl
 | byt b => obtain ⟨t, e⟩ := (show ∃ t, u = Value.bytes b t from r); cases e; rfl
 | flt b => obtain ⟨t, e⟩ := (show ∃ t, u = Value.float b t from r); cases e; rfl
 | ref a => cases (show u = Value.ref a from r); rfl
 | ty n => cases (show u = Value.type n from r); rfl
section
variable {P : Program} {w : World} {H H' : Hp} {h h' : Heap} {a C dx : Addr} {fs fs' : List (Str × V)}
theorem tW (hok : HOk P w H h) (e : H a = some (.ins C dx fs)) : ∃ mA, ObjM h a dx C mA /\ (∀ f, RelO (fs.lookup f) (mA f)) /\ PySem.Within mA (fs.map (·.1)) /\ fs.length <= 1000 /\ H dx = some (.own a) := by
 obtain ⟨d, z, ne, ob, mA, n, r, q⟩ := (show ObjOk P w H h a (.ins C dx fs) from hok a _ e)
 exact ⟨mA, ⟨ob, n, ne⟩, r, q, z, d⟩
end
structure Cls (K : PySem.W.Frag) (C : Addr) : Prop where
 pg : PySem.W.plainGet K C Str.empty = true
 hd : PySem.W.hasDictIn K C = true
 po : PySem.W.plainOver K C = true
 sa : PySem.W.findIn K (.ref C) "__setattr__" = some (some (.builtin "object.__setattr__"))
theorem Cls.get {K : PySem.W.Frag} {C : Addr} (c : Cls K C) (f : Str) : PySem.W.plainGet K C f = true := c.pg
def NoAttr (K : PySem.W.Frag) (C : Addr) (f : Str) : Prop := PySem.W.findIn K (.ref C) f = some none
theorem NoAttr.taker {K : PySem.W.Frag} {C : Addr} {f : Str} (n : NoAttr K C f) : PySem.W.takerIn K C f = some none := by
 unfold PySem.W.takerIn
 rw [show PySem.W.findIn K (.ref C) f = some none from n]
 rfl
structure Con (K : PySem.W.Frag) (C : Addr) (f : Str) (v : V) (u : Value) : Prop where
 at_ : PySem.W.findIn K (.ref C) f = some (some u)
 rel : RelV v u
 get : PySem.W.specialIn K u "__get__" = some none
 cp : PySem.W.copiedNames.contains f = false
structure Meth (K : PySem.W.Frag) (C : Addr) (m : Str) (f : Addr) : Prop where
 at_ : PySem.W.findIn K (.ref C) m = some (some (.ref f))
 fn : PySem.W.isFn K (.ref f) = true
 kp : PySem.W.keepIn K (.ref f) = true
section
variable {X : Cx} {pins : List (Addr × Obj)} {σ : St} {H : Hp} {s : Shared} {a C dx : Addr} {fs : List (Str × V)} {f : Str} {v : V} {A : Around} {E : Value -> Shared -> Prop}
theorem Bp {b : Bool} {Q : Value -> Shared -> Prop} (I : Inv X pins σ H s) (e : H a = some (.ins C dx fs)) (c : Cls X.K C) (n : NoAttr X.K C f) (l : fs.lookup f = some v)
  (h : ∀ u s', Inv X pins σ H s' -> RelV v u -> Q u s') : wpAny (model X.prog X.w) A (getAttr (.ref a) f b) Q E s := by
 obtain ⟨mA, O, r, _, _, _⟩ := tW I.hok e
 obtain ⟨u, hu, ru⟩ := RelO.some_of (v := v) (o := mA f) (by rw [<- l]; exact r f)
 exact Hm I.kIn O (c.get f) c.hd n hu (CZ ru) (h u _ (I.tok _) ru)
theorem BV {y : V} {u : Value} {Q : Unit -> Shared -> Prop} (I : Inv X pins σ H s) (e : H a = some (.ins C dx fs)) (c : Cls X.K C) (n : NoAttr X.K C f) (hl : fs.length < 1000) (ry : RelV y u)
  (h : ∀ s', Inv X pins σ (upd H a (.ins C dx (cj f y fs))) s' -> Q () s') : wpAny (model X.prog X.w) A (setAttr (.ref a) f u) Q E s := by
 obtain ⟨mA, O, r, wi, _, ho⟩ := tW I.hok e
 have hz : (fs.map (·.1)).length <= sizeLine := by rw [List.length_map, sizeLine_eq]; omega
 refine HS I.kIn O c.sa c.po n.taker c.hd wi hz fun h' O' sb => h _ ?_
 have hd : ∃ o, h'.get? dx = some o := let ⟨o, _, _, e', _⟩ := O'.ns; ⟨o, e'⟩
 refine I.write (x := a) (e := dx) (by rw [e]; exact True.intro) (.inr ho) (fun b q hb z => (sb.2 b hb).trans z) hd ?_
 refine ⟨by rw [aH O.ne]; exact ho, ?_, O.ne, O'.obj, _, O'.ns, fun g => ?_, fun g hg => ?_⟩
 ·have := pN f y fs; omega
 ·show RelO ((cj f y fs).lookup g) (if g = f then some u else mA g)
  rw [bJ]
  by_cases q : g = f
  ·rw [if_pos q, if_pos q]; exact ry
  ·rw [if_neg q, if_neg q]; exact r g
 ·by_cases q : g = f
  ·rw [q]; exact (nW f y fs).1
  ·refine (nW f y fs).2 g (wi g fun z => hg ?_)
   show (if g = f then some u else mA g) = none
   rw [if_neg q]; exact z
theorem Inv.made (I : Inv X pins σ H s) : Inv X pins σ (upd (upd H s.heap.objs.size (.own (s.heap.objs.size + 1))) (s.heap.objs.size + 1) (.ins C s.heap.objs.size []))
  { s with heap := (s.heap.push PySem.W.emptyDict).push (PySem.W.instObj C s.heap.objs.size) } := by
 have e1 : (s.heap.push PySem.W.emptyDict).get? s.heap.objs.size = some PySem.W.emptyDict := Heap.get?_push_size s.heap rfl
 have e2 : ((s.heap.push PySem.W.emptyDict).push (PySem.W.instObj C s.heap.objs.size)).get? (s.heap.objs.size + 1) = some (PySem.W.instObj C s.heap.objs.size) := by
  have := Heap.get?_push_size (s.heap.push PySem.W.emptyDict) (o := PySem.W.instObj C s.heap.objs.size) rfl
  rwa [Heap.size_push] at this
 have e3 : (s.heap.push PySem.W.emptyDict).Ns s.heap.objs.size (fun _ => none) := ⟨PySem.W.emptyDict, #[], _, e1, rfl, (fun e he => absurd he (by simp)), fun _ => rfl⟩
 have I1 := I.laid (a := s.heap.objs.size) (o := .own (s.heap.objs.size + 1)) (h' := s.heap.push PySem.W.emptyDict) (t' := s.toks) (fun b u q => Heap.get?_push_of_some _ q) (Nat.le_refl _) ⟨_, e1⟩
 refine I1.laid (a := s.heap.objs.size + 1) (o := .ins C s.heap.objs.size []) (t' := s.toks) (fun b u q => Heap.get?_push_of_some _ q) (Nat.le_of_eq (Heap.size_push _ _)) ?_
 have ne : s.heap.objs.size ≠ s.heap.objs.size + 1 := Nat.ne_of_lt (Nat.lt_succ_self _)
 refine ⟨by rw [aH ne, aq], Nat.zero_le _, ne, e2, fun _ => none, (Heap.Ns1.of_empty e3).at fun o q => Heap.get?_push_of_some _ q, fun _ => True.intro, fun y hy => absurd rfl hy⟩
theorem Ia {prog : Program} {w : World} {env : Env} {e : Expr} {f : Str} {pos : Pos} {s : Shared} {Q : Value -> Shared -> Prop} (hb : attributeBase e f env (eval e env) = eval e env)
  (h : wpAny (model prog w) A (eval e env) (fun o s₁ => wpAny (model prog w) A (getAttr o f true) Q E s₁) E s) : wpAny (model prog w) A (eval (.Attribute e f pos) env) Q E s :=
 Attribute_any_ h (by rw [arm_eval_Attribute, hb])
end
def JL (K : PySem.W.Frag) (ta : TE) (f : Str) : TE := fun σ H Q => ta σ H fun x H1 => ∃ a C dx fs v, x = .ref a /\ H1 a = some (.ins C dx fs) /\ Cls K C /\ NoAttr K C f /\ fs.lookup f = some v /\ Q v H1
def Lx (K : PySem.W.Frag) (ta : TE) (f : Str) : TE := fun σ H Q => ta σ H fun x H1 => ∃ a C dx fs v u, x = .ref a /\ H1 a = some (.ins C dx fs) /\ Cls K C /\ Con K C f v u /\ fs.lookup f = none /\ Q v H1
def Ky (K : PySem.W.Frag) (ta tv : TE) (f : Str) : TS := fun D σ H => tv σ H fun y H1 => ta σ H1 fun x H2 => ∃ a C dx fs, x = .ref a /\ H2 a = some (.ins C dx fs) /\ Cls K C /\ NoAttr K C f /\ fs.length < 1000 /\
 D.nx σ (upd H2 a (.ins C dx (cj f y fs)))
def Lk (X : Cx) (op : Operator) (rd : V -> V -> Hp -> VK -> Prop) : Prop :=
 ∀ (pins : List (Addr × Obj)) (s : Shared) (σ : St) (H : Hp) (x y : V) (u v : Value) (Q : VK), Inv X pins σ H s -> RelV x u -> RelV y v -> rd x y H Q -> wpAny (model X.prog X.w) X.A (inplaceOp op u v) (EP X pins σ Q) X.xe s
def KY (K : PySem.W.Frag) (ta tv : TE) (rd : V -> V -> Hp -> VK -> Prop) (f : Str) : TS := fun D σ H => ta σ H fun x H1 => ∃ a C dx fs v, x = .ref a /\ H1 a = some (.ins C dx fs) /\ Cls K C /\ NoAttr K C f /\ fs.lookup f = some v /\
 tv σ H1 fun y H2 => rd v y H2 fun z H3 => ∃ dx' fs', H3 a = some (.ins C dx' fs') /\ fs'.length < 1000 /\ D.nx σ (upd H3 a (.ins C dx' (cj f z fs')))
section
variable {X : Cx} {o e value : Expr} {f : Str} {pos pos' tpos : Pos} {ta tv : TE}
theorem jL (he : PE X e ta) (hb : attributeBase e f X.env (eval e X.env) = eval e X.env) : PE X (.Attribute e f pos) (JL X.K ta f) := by
 intro pins s σ H Q I h
 refine Ia hb (thn (he pins s σ H _ I h) fun u s1 ⟨x, H1, I1, rx, a, C, dx, fs, v, ex, ea, c, n, l, q⟩ => ?_)
 subst ex
 obtain rfl : u = Value.ref a := rx
 exact Bp I1 ea c n l fun u' s2 I2 ru => ⟨v, H1, I2, ru, q⟩
theorem jC (ha : PE X o ta) (hv : PE X value tv) (hs : swapsWith value (some (.Attribute o f pos')) pos.line X.env = pure false) : PS X (.Assign [.Attribute o f pos'] value pos) (Ky X.K ta tv f) := by
 intro pins s σ H D I h
 refine plainObj_wpAny_Assign_Attribute (thn (hv pins s σ H _ I h) fun u s1 ⟨y, H1, I1, ry, q⟩ => thn (ha pins s1 σ H1 _ I1 q) fun ov s2 ⟨x, H2, I2, rx, a, C, dx, fs, ex, ea, c, n, l, q2⟩ => ?_) hs
 subst ex
 obtain rfl : ov = Value.ref a := rx
 exact BV I2 ea c n l ry fun s3 I3 => ⟨σ, _, I3, q2⟩
def Lg : V -> V -> Hp -> VK -> Prop := fun x y H Q => ∃ i j, x = .int i /\ y = .int j /\ Q (.int (i + j)) H
def Mh : V -> V -> Hp -> VK -> Prop := fun x y H Q => ∃ i j, x = .int i /\ y = .int j /\ Q (.int (i - j)) H
end
section
variable {X : Cx} {pins : List (Addr × Obj)} {σ : St} {H : Hp} {s : Shared} {A : Around} {E : Value -> Shared -> Prop} {Q : Value -> Shared -> Prop} {c : Value} {b : Bool}
inductive TyOf (K : PySem.W.Frag) (H : Hp) : V -> Value -> Prop where
 | non : TyOf K H .non (.type "NoneType")
 | bl (x : Bool) : TyOf K H (.bl x) (.type "bool")
 | int (i : Int) : TyOf K H (.int i) (.type "int")
 | str (x : Str) : TyOf K H (.str x) (.type "str")
 | flt (x : UInt64) : TyOf K H (.flt x) (.type "float")
 | lst {a : Addr} {xs : List V} (e : H a = some (.lst xs)) : TyOf K H (.ref a) (.type "list")
 | frz {a : Addr} {o : Obj} {xs : List V} (e : H a = some (.frz o (.lst xs))) : TyOf K H (.ref a) (.type "list")
 | tup {a : Addr} {xs : List V} (e : H a = some (.tup xs)) : TyOf K H (.ref a) (.type "tuple")
 | dK {a : Addr} {kvs : List (Key × V)} (e : H a = some (.dK kvs)) : TyOf K H (.ref a) (.type "dict")
 | dT {a : Addr} {kvs : List (List Key × V)} (e : H a = some (.dT kvs)) : TyOf K H (.ref a) (.type "dict")
 | ins {a C dx : Addr} {fs : List (Str × V)} (e : H a = some (.ins C dx fs)) (cl : Cls K C) (ha : PySem.W.findIn K (.ref C) "__class__" = some (some (.builtin "object.__class__")))
   (hn : PySem.W.specialIn K (.builtin "object.__class__") "__get__" = some (some (.builtin "getset_descriptor.__get__"))) (htk : PySem.W.takesIn K (.builtin "object.__class__") = some true)
   (hm : PySem.W.mroIn K C (.type "object") = some true) : TyOf K H (.ref a) (.ref C)
theorem uM {x : V} {u t : Value} (I : Inv X pins σ H s) (rx : RelV x u) (ty : TyOf X.K H x t) (e : PySem.W.kitOne X.K t c = some b) (h : ∀ tk, Q (.bool b) { s with toks := tk }) :
  wpAny (model X.prog X.w) A (call (.builtin "isinstance") [u, c]) Q E s := by
 cases ty with
 | non => cases (show u = Value.none from rx); exact PySem.W.kia_one PySem.W.kitx_none I.kIn True.intro e (fun z => nomatch z) h
 | bl y => cases (show u = Value.bool y from rx); exact PySem.W.kia_one PySem.W.kitx_bool I.kIn True.intro e (fun z => nomatch z) h
 | int i => obtain ⟨t, q⟩ := (show ∃ t, u = Value.int i t from rx); cases q; exact PySem.W.kia_one PySem.W.kitx_int I.kIn True.intro e (fun z => nomatch z) h
 | str y => obtain ⟨t, q⟩ := (show ∃ t, u = Value.str y t from rx); cases q; exact PySem.W.kia_one PySem.W.kitx_str I.kIn True.intro e (fun z => nomatch z) h
 | flt y => obtain ⟨t, q⟩ := (show ∃ t, u = Value.float y t from rx); cases q; exact PySem.W.kia_one PySem.W.kitx_float I.kIn True.intro e (fun z => nomatch z) h
 | @lst a xs ea =>
  cases (show u = Value.ref a from rx)
  obtain ⟨_, _, n, _, h1⟩ := (show ObjOk X.prog X.w H s.heap a (.lst xs) from I.hok a _ ea)
  exact PySem.W.kia_one PySem.W.kitx_list I.kIn ⟨_, h1, rfl⟩ e (fun z => nomatch z) h
 | @frz a ob xs ea =>
  cases (show u = Value.ref a from rx)
  obtain ⟨_, _, _, n, _, h1⟩ := (show ObjOk X.prog X.w H s.heap a (.frz ob (.lst xs)) from I.hok a _ ea)
  exact PySem.W.kia_one PySem.W.kitx_list I.kIn ⟨_, h1, rfl⟩ e (fun z => nomatch z) h
 | @tup a xs ea =>
  cases (show u = Value.ref a from rx)
  obtain ⟨_, _, _, p⟩ := (show ObjOk X.prog X.w H s.heap a (.tup xs) from I.hok a _ ea)
  obtain ⟨o, h1, h2, _⟩ := p
  exact PySem.W.kia_one PySem.W.kitx_tuple I.kIn ⟨o, h1, h2⟩ e (fun z => nomatch z) h
 | @dK a kvs ea =>
  cases (show u = Value.ref a from rx)
  obtain ⟨_, _, vs, _, p⟩ := (show ObjOk X.prog X.w H s.heap a (.dK kvs) from I.hok a _ ea)
  obtain ⟨o, es, ep, h1, h2, _⟩ := p
  exact PySem.W.kia_one PySem.W.kitx_dict I.kIn ⟨o, h1, h2.1⟩ e (fun z => nomatch z) h
 | @dT a kvs ea =>
  cases (show u = Value.ref a from rx)
  obtain ⟨_, _, xs, _, o, es, ep, h1, h2, _⟩ := (show ObjOk X.prog X.w H s.heap a (.dT kvs) from I.hok a _ ea)
  exact PySem.W.kia_one PySem.W.kitx_dict I.kIn ⟨o, h1, h2.1⟩ e (fun z => nomatch z) h
 | @ins a C dx fs ea cl ha hn htk hm =>
  cases (show u = Value.ref a from rx)
  obtain ⟨mA, O, _⟩ := tW I.hok ea
  obtain ⟨od, J, _⟩ := O.look
  exact PySem.W.kia_one (PySem.W.kitx_own (cl.get _) cl.hd ha hn htk hm) I.kIn J e (fun z => nomatch z) h
end
end L2
namespace L2
open PySem PySem.Spec PyProof.Rows
structure Room (k : Nat) (A : Around) : Prop where
 hd : A.handled = none
 dp : A.depth + 3 * k + 5 < recursionLimit
 un : A.units + 16 * k + 200 < cLine
theorem Room.mono {j k : Nat} {A : Around} (r : Room k A) (h : j <= k) : Room j A := ⟨r.hd, by have := r.dp; omega, by have := r.un; omega⟩
theorem Room.deeper {k : Nat} {A : Around} (r : Room (k + 1) A) (env : Env) : Room k (A.deeper env) :=
 ⟨r.hd, by have := r.dp; show A.depth + 1 + 3 * k + 5 < _; omega, by have := r.un; show A.units + 3 + 16 * k + 200 < _; omega⟩
theorem Room.in1 {k : Nat} {A : Around} (r : Room (k + 1) A) : Room k A.in1 :=
 ⟨r.hd, by have := r.dp; show A.depth + 3 * k + 5 < _; omega, by have := r.un; show A.units + 1 + 16 * k + 200 < _; omega⟩
theorem Ck {A : Around} {C : Addr} {us : List Value} {kw : List (Str × Value)} : (A.under (.builtin "type.__call__" ⟨.ref C :: us, kw⟩)).depth = A.depth + 1 := by
 first | rfl | simp [Around.under, Code.weight, Code.isCreation, Code.isGuard, Code.isCaller, Code.frames, Code.isFrame, guardIds]
theorem BK {A : Around} {C : Addr} {us : List Value} {kw : List (Str × Value)} : (A.under (.builtin "type.__call__" ⟨.ref C :: us, kw⟩)).units = A.units + 1 := by
 first | rfl | simp [Around.under, Code.cUnits, Code.frames, Code.isFrame]
theorem Room.make {k : Nat} {A : Around} (r : Room (k + 1) A) (C : Addr) (us : List Value) (kw : List (Str × Value)) : Room k (A.under (.builtin "type.__call__" ⟨.ref C :: us, kw⟩)) :=
 ⟨r.hd, by have := r.dp; rw [Ck]; omega, by have := r.un; rw [BK]; omega⟩
theorem Room.depth {k : Nat} {A : Around} (r : Room k A) : A.depth < recursionLimit := by have := r.dp; omega
theorem Room.units {k : Nat} {A : Around} (r : Room k A) : A.units + 64 < cLine := by have := r.un; omega
def KQ : TA := fun _ H Q => Q [] H
def JS (ta : TE) (tr : TA) : TA := fun σ H Q => ta σ H fun x H1 => tr σ H1 fun xs H2 => Q (x :: xs) H2
section
variable {X : Cx} {e : Expr} {es : List Expr} {te : TE} {t : TA} {pos : Pos}
theorem ao : PA X [] KQ := fun _ _ _ _ H Q I h => Calls.spliced_nil ⟨[], H, I, .nil, h⟩
theorem aa (ha : PE X e te) (hr : PA X es t) (hs : starEach (e :: es) X.env = (false, eval e X.env) :: starEach es X.env := by rfl) : PA X (e :: es) (JS te t) := by
 intro pos pins s σ H Q I h
 rw [hs]
 show wpAny _ _ (spliced ((false, eval e X.env) :: backTo pos (starEach es X.env))) _ _ s
 refine Calls.spliced_cons (thn (ha pins s σ H _ I h) fun u s1 ⟨x, H1, I1, r1, q1⟩ => ?_)
 exact thn (hr pos pins s1 σ H1 _ I1 q1) fun us s2 ⟨xs, H2, I2, r2, q2⟩ => ⟨x :: xs, H2, I2, .cons r1 r2, q2⟩
def Kc (t : TA) : TE := fun σ H Q => t σ H fun xs H1 => xs.length <= sizeLine /\ ∀ p, H1 p = none -> Q (.ref p) (upd H1 p (.tup xs))
def Ku (t : TA) : TE := fun σ H Q => t σ H fun xs H1 => xs.length <= sizeLine /\ ∀ p, H1 p = none -> Q (.ref p) (upd H1 p (.lst xs))
theorem bz {x1} (h : PA X es t) : PE X (.Tuple es x1 pos) (Kc t) := by
 intro pins s σ H Q I hq
 refine wpAny_Tuple_spliced (thn (h pos pins s σ H _ I hq) fun us s1 ⟨xs, H1, I1, r, z, q⟩ => ⟨by rw [<- r.length]; exact z, ?_⟩)
 have hf : H1 s1.heap.objs.size = none := I1.hok.fresh (Nat.le_refl _)
 refine ⟨.ref s1.heap.objs.size, upd H1 s1.heap.objs.size (.tup xs), I1.laid (t' := s1.toks) (fun b u e => Heap.get?_push_of_some _ e) (Nat.le_refl _) ?_, rfl, q _ hf⟩
 exact ⟨z, us, r, ⟨_, Heap.get?_push_size _ rfl, rfl, _, rfl⟩⟩
theorem bO (h : PA X es t) : PE X (.List es pos) (Ku t) := by
 intro pins s σ H Q I hq
 refine wpAny_List_spliced (thn (h pos pins s σ H _ I hq) fun us s1 ⟨xs, H1, I1, r, z, q⟩ => ⟨by rw [<- r.length]; exact z, ?_⟩)
 have hf : H1 s1.heap.objs.size = none := I1.hok.fresh (Nat.le_refl _)
 refine ⟨.ref s1.heap.objs.size, upd H1 s1.heap.objs.size (.lst xs), I1.laid (t' := s1.toks) (fun b u e => Heap.get?_push_of_some _ e) (Nat.le_refl _) ?_, rfl, q _ hf⟩
 exact ⟨z, us, 0, r, Heap.get?_push_size _ rfl⟩
end
abbrev Sp := List V -> Hp -> VK -> XK -> Prop
abbrev CXT := List Env -> Hp -> Shared -> XK -> Value -> Shared -> Prop
structure Env0 (P : Program) (w : World) (K : PySem.W.Frag) (mg : Str -> Option Value) (base : Heap) (A : Around) (outer : List Env) (s : Shared) (H : Hp) : Prop where
 frames : A.frames = some outer
 mod : Mod K mg base
 bs : ∀ b o, base.get? b = some o -> s.heap.get? b = some o /\ H b = none
 bsz : base.objs.size <= s.heap.objs.size
 funs : s.heap.FunFrames base outer
 frf : ∀ b ∈ frs outer, H b = none
 hok : HOk P w H s.heap
 bare : AllBare s.gens
def CE (outer : List Env) (P : Program) (w : World) (H : Hp) (s : Shared) (Q : VK) (u : Value) (s' : Shared) : Prop :=
 ∃ v H', s'.os = s.os /\ AllBare s'.gens /\ Un (frs outer) [] H H' s.heap s'.heap /\ HOk P w H' s'.heap /\ RelV v u /\ Q v H'
def CR (CX : CXT) (outer : List Env) (P : Program) (w : World) (H : Hp) (s : Shared) (Q : VK) (E : XK) (r : Result) (s' : Shared) : Prop :=
 match r with
 | .ok (.ret u) => CE outer P w H s Q u s'
 | .ok _ => False
 | .error e => CX outer H s E e s'
structure FnOk (P : Program) (w : World) (K : PySem.W.Frag) (mg : Str -> Option Value) (base : Heap) (CX : CXT) (k : Nat) (f : Addr) (fd : FuncData) (ps : List Str) (sp : Sp) : Prop where
 len : ∀ vs H Q E, sp vs H Q E -> vs.length = ps.length
 run : ∀ (A : Around) (outer : List Env) (s : Shared) (H : Hp) (args : Args) (us : List Value) (vs : List V) (Q : VK) (E : XK), Room k A -> Env0 P w K mg base A outer s H -> BindsTo s fd args (ps.zip us) -> Vals vs us -> sp vs H Q E ->
  codeAny (model P w) A (.call (.ref f) args) (CR CX outer P w H s Q E) s
theorem FnOk.mono {P : Program} {w : World} {K : PySem.W.Frag} {mg : Str -> Option Value} {base : Heap} {CX : CXT} {j k : Nat} {f : Addr} {fd : FuncData} {ps : List Str} {sp : Sp} (F : FnOk P w K mg base CX j f fd ps sp) (h : j <= k) :
  FnOk P w K mg base CX k f fd ps sp := ⟨F.len, fun A outer s H args us vs Q E hr => F.run A outer s H args us vs Q E (hr.mono h)⟩
theorem FnOk.imp {P : Program} {w : World} {K : PySem.W.Frag} {mg : Str -> Option Value} {base : Heap} {CX : CXT} {k : Nat} {f : Addr} {fd : FuncData} {ps : List Str} {sp sp' : Sp} (F : FnOk P w K mg base CX k f fd ps sp)
  (h : ∀ vs H Q E, sp' vs H Q E -> sp vs H Q E) : FnOk P w K mg base CX k f fd ps sp' :=
 ⟨fun vs H Q E q => F.len vs H Q E (h _ _ _ _ q), fun A outer s H args us vs Q E hr he hb hv hs => F.run A outer s H args us vs Q E hr he hb hv (h _ _ _ _ hs)⟩
theorem Env0.make {P : Program} {w : World} {K : PySem.W.Frag} {mg : Str -> Option Value} {base : Heap} {A : Around} {outer : List Env} {s : Shared} {H : Hp} (e : Env0 P w K mg base A outer s H) (C : Addr) (us : List Value) (kw : List (Str × Value)) :
  Env0 P w K mg base (A.under (.builtin "type.__call__" ⟨.ref C :: us, kw⟩)) outer s H := ⟨by first | exact e.frames | (simpa [Around.under, Code.envs, Code.isFrame, pushEnvs] using e.frames), e.mod, e.bs, e.bsz, e.funs, e.frf, e.hok, e.bare⟩
theorem Env0.in1 {P : Program} {w : World} {K : PySem.W.Frag} {mg : Str -> Option Value} {base : Heap} {A : Around} {outer : List Env} {s : Shared} {H : Hp} (e : Env0 P w K mg base A outer s H) :
  Env0 P w K mg base A.in1 outer s H := ⟨e.frames, e.mod, e.bs, e.bsz, e.funs, e.frf, e.hok, e.bare⟩
section
variable {X : Cx} {pins : List (Addr × Obj)} {σ : St} {H : Hp} {s s' : Shared}
theorem Inv.env0 (I : Inv X pins σ H s) : Env0 X.prog X.w X.K X.mg X.base X.A X.stack s H :=
 ⟨I.ok.frames, I.ok.mod, I.bs, Nat.le_trans I.ok.bsz I.sz, I.stack, I.stkFree, I.hok, I.bare⟩
theorem Inv.after {Q : VK} {u : Value} (I : Inv X pins σ H s) (h : CE X.stack X.prog X.w H s Q u s') : EP X pins σ Q u s' := by
 obtain ⟨v, H', os, bare, un, hok, r, q⟩ := h
 obtain ⟨hh, g, d, t, os'⟩ := s'
 obtain rfl : os' = s.os := os
 exact ⟨v, H', I.call (h' := hh) (g' := g) (d' := d) (t' := t) (ch := []) un hok bare (fun b z => absurd z (by simp)), r, q⟩
end
def GP (sp : Sp) (dvs : List V) (E : XK) (t : TA) : TE := fun σ H Q => t σ H fun vs H1 => sp (vs ++ dvs) H1 Q E
def K9 (C : Addr) (m : Str) (sp : Sp) (dvs : List V) (E : XK) (ta : TE) (t : TA) : TE := fun σ H Q => ta σ H fun x H1 => ∃ a dx fs, x = .ref a /\ H1 a = some (.ins C dx fs) /\ fs.lookup m = none /\
 t σ H1 fun vs H2 => sp (x :: (vs ++ dvs)) H2 Q E
def G5 (C : Addr) (sp : Sp) (dvs : List V) (E : XK) (t : TA) : TE := fun σ H Q => t σ H fun vs H1 => ∀ x dx, H1 x = none -> H1 dx = none -> dx ≠ x ->
 sp (.ref x :: (vs ++ dvs)) (upd (upd H1 dx (.own x)) x (.ins C dx [])) (fun v H2 => v = .non /\ Q (.ref x) H2) E
def Binds (K : PySem.W.Frag) (fd : FuncData) (ps : List Str) (ds : List Value) : Prop :=
 ∀ (s : Shared) (us : List Value), K.In s.heap -> (us ++ ds).length = ps.length -> BindsTo s fd ⟨us, []⟩ (ps.zip (us ++ ds))
theorem Binds.all {K : PySem.W.Frag} {fd : FuncData} {ps : List Str} (h : ∀ us : List Value, us.length = ps.length -> bindArgs fd ⟨us, []⟩ = pure (ps.zip us)) : Binds K fd ps [] := fun s us _ hl => by
 rw [List.append_nil] at hl ⊢
 exact .of_eq (h us hl)
def oY (CX : CXT) (X : Cx) (E : XK) : Prop := ∀ (pins : List (Addr × Obj)) (σ : St) (H : Hp) (s : Shared) (e : Value) (s' : Shared), Inv X pins σ H s -> CX X.stack H s E e s' -> X.xe e s'
section
variable {X : Cx} {CX : CXT} {k : Nat} {f C : Addr} {fd : FuncData} {ps : List Str} {sp : Sp} {dvs : List V} {ds : List Value} {E : XK} {x m : Str} {p pos apos : Pos} {e o : Expr} {es : List Expr} {ta : TE} {t : TA}
theorem Je {pins : List (Addr × Obj)} {σ : St} {H : Hp} {s : Shared} {Q : VK} {us : List Value} {vs : List V} (F : FnOk X.prog X.w X.K X.mg X.base CX k f fd ps sp) (hr : Room k X.A) (hb : Binds X.K fd ps ds) (hd : Vals dvs ds) (hx : oY CX X E)
  (I : Inv X pins σ H s) (r : Vals vs us) (h : sp (vs ++ dvs) H Q E) : wpAny (model X.prog X.w) X.A (call (.ref f) us) (EP X pins σ Q) X.xe s := by
 have r2 : Vals (vs ++ dvs) (us ++ ds) := r.append hd
 have hl : (us ++ ds).length = ps.length := by rw [<- r2.length]; exact F.len _ _ _ _ h
 refine wpAny_call (codeAny_mono (F.run X.A X.stack s H ⟨us, []⟩ (us ++ ds) (vs ++ dvs) Q E hr I.env0 (hb s us I.kIn hl) r2 h) fun r s' hq => ?_)
 cases r with
 | error e => exact hx pins σ H s e s' I hq
 | ok fl =>
  cases fl with
  | ret u => exact I.after hq
  | next => exact False.elim hq
  | brk => exact False.elim hq
  | cont => exact False.elim hq
theorem HD (F : FnOk X.prog X.w X.K X.mg X.base CX k f fd ps sp) (hr : Room k X.A) (hg : Gl X x) (hm : X.mg x = some (.ref f)) (hk : PySem.W.keepIn X.K (.ref f) = true) (hb : Binds X.K fd ps ds) (hd : Vals dvs ds) (hx : oY CX X E)
  (ha : PA X (e :: es) t) (hdb : (x == ("__debug__" : Str)) = false := by decide) (he : starEach (e :: es) X.env = (false, eval e X.env) :: starEach es X.env := by rfl) (hpl : (backTo pos (starEach es X.env)).any (·.1) = false := by rfl) :
  PE X (.Call (.Name x p) (e :: es) [] pos) (GP sp dvs E t) := by
 intro pins s σ H Q I h
 refine wpAny_Call_Name_kw (tQ I hg hm ?_ hdb)
 refine PySem.W.callWith_K (h₀ := X.base) I.ok.mod.kin hk (thn (ha pos pins s σ H _ I h) fun us s1 ⟨vs, H1, I1, r, q⟩ => ⟨I1.kIn, ?_⟩) he hpl
 exact Je F hr hb hd hx I1 r q
structure Mk (K : PySem.W.Frag) (C f : Addr) : Prop where
 makes : PySem.W.makesIn K C = true
 init : PySem.W.findIn K (.ref C) "__init__" = some (some (.ref f))
 fn : PySem.W.isFn K (.ref f) = true
 kp : PySem.W.keepIn K (.ref C) = true
theorem Gj {pins : List (Addr × Obj)} {σ : St} {H : Hp} {s : Shared} {Q : VK} {us : List Value} {vs : List V} (M : Mk X.K C f) (F : FnOk X.prog X.w X.K X.mg X.base CX k f fd ps sp) (hr : Room (k + 1) X.A) (hb : Binds X.K fd ps ds) (hd : Vals dvs ds)
  (hx : oY CX X E) (I : Inv X pins σ H s) (r : Vals vs us)
  (h : ∀ x dx, H x = none -> H dx = none -> dx ≠ x -> sp (.ref x :: (vs ++ dvs)) (upd (upd H dx (.own x)) x (.ins C dx [])) (fun v H2 => v = .non /\ Q (.ref x) H2) E) :
  wpAny (model X.prog X.w) X.A (call (.ref C) us) (EP X pins σ Q) X.xe s := by
 have hq := h (s.heap.objs.size + 1) s.heap.objs.size (I.hok.fresh (Nat.le_succ _)) (I.hok.fresh (Nat.le_refl _)) (Nat.ne_of_lt (Nat.lt_succ_self _))
 have I2 := Inv.made (C := C) I
 have r2 : Vals (V.ref (s.heap.objs.size + 1) :: (vs ++ dvs)) (Value.ref (s.heap.objs.size + 1) :: (us ++ ds)) := .cons rfl (r.append hd)
 have hl : (Value.ref (s.heap.objs.size + 1) :: us ++ ds).length = ps.length := by
  have e := r2.length
  rw [F.len _ _ _ _ hq] at e
  exact e.symm
 refine wpAny_call (Gv (f := f) I.kIn M.makes M.init (beq_iff_eq.mp M.fn) (codeAny_mono (F.run _ X.stack _ _ ⟨Value.ref (s.heap.objs.size + 1) :: us, []⟩ (Value.ref (s.heap.objs.size + 1) :: (us ++ ds)) _ _ E (hr.make C us [])
  (I2.env0.make C us []) (hb _ (Value.ref (s.heap.objs.size + 1) :: us) I2.kIn hl) r2 hq) fun r s' hq' => ?_))
 cases r with
 | error e => exact hx pins σ _ _ e s' I2 hq'
 | ok fl =>
  cases fl with
  | ret u =>
   obtain ⟨v, H', I3, rv, ev, q3⟩ := I2.after hq'
   subst ev
   exact ⟨rv, ⟨V.ref (s.heap.objs.size + 1), H', I3, rfl, q3⟩⟩
  | next => exact False.elim hq'
  | brk => exact False.elim hq'
  | cont => exact False.elim hq'
theorem Ii (M : Mk X.K C f) (F : FnOk X.prog X.w X.K X.mg X.base CX k f fd ps sp) (hr : Room (k + 1) X.A) (hg : Gl X x) (hm : X.mg x = some (.ref C)) (hb : Binds X.K fd ps ds) (hd : Vals dvs ds) (hx : oY CX X E)
  (ha : PA X (e :: es) t) (hdb : (x == ("__debug__" : Str)) = false := by decide) (he : starEach (e :: es) X.env = (false, eval e X.env) :: starEach es X.env := by rfl) (hpl : (backTo pos (starEach es X.env)).any (·.1) = false := by rfl) :
  PE X (.Call (.Name x p) (e :: es) [] pos) (G5 C sp dvs E t) := by
 intro pins s σ H Q I h
 refine wpAny_Call_Name_kw (tQ I hg hm ?_ hdb)
 refine PySem.W.callWith_K (h₀ := X.base) I.ok.mod.kin M.kp (thn (ha pos pins s σ H _ I h) fun us s1 ⟨vs, H1, I1, r, q⟩ => ⟨I1.kIn, ?_⟩) he hpl
 exact Gj M F hr hb hd hx I1 r q
end
def PK (X : Cx) (kws : List Keyword) (t : TA) : Prop :=
 ∀ (pos : Pos) (pins : List (Addr × Obj)) (s : Shared) (σ : St) (H : Hp) (Q : List V -> Hp -> Prop), Inv X pins σ H s -> t σ H Q -> wpAny (model X.prog X.w) X.A (evalAll ((backToKw pos (keywordEach kws X.env)).map (·.2))) (AP X pins σ Q) X.xe s
section
variable {X : Cx} {CX : CXT} {k : Nat} {f C : Addr} {fd : FuncData} {ps ks : List Str} {sp : Sp} {E : XK} {x m : Str} {p pos apos kpos : Pos} {e o : Expr} {es : List Expr} {kws : List Keyword} {te ta : TE} {t tk : TA} {nm : Option Str}
structure KBinds (K : PySem.W.Frag) (fd : FuncData) (ps ks : List Str) (g : List Value -> List Value -> List Value) (gV : List V -> List V -> List V) : Prop where
 to : ∀ (s : Shared) (us ws : List Value), K.In s.heap -> (g us ws).length = ps.length -> BindsTo s fd ⟨us, ks.zip ws⟩ (ps.zip (g us ws))
 rel : ∀ {vs : List V} {us : List Value} {zs : List V} {ws : List Value}, Vals vs us -> Vals zs ws -> Vals (gV vs zs) (g us ws)
def K6 (sp : Sp) (gV : List V -> List V -> List V) (E : XK) (t tk : TA) : TE := fun σ H Q => t σ H fun vs H1 => tk σ H1 fun zs H2 => sp (gV vs zs) H2 Q E
variable {g : List Value -> List Value -> List Value} {gV : List V -> List V -> List V}
end
structure FnScope (N P : List Str) (sc : Scope) : Prop where
 kind : sc.kind = .function
 co : sc.isCoroutine = false
 gen : sc.isGenerator = false
 nd : N.Nodup
 pre : N.take P.length = P
 par : ∀ x ∈ P, sc.names.lookup x = some .local \/ sc.names.lookup x = some .cell
 nofree : ∀ y ∈ sc.names, y.2 ≠ .free
theorem uP {kindOf : Str -> Option NameKind} {x : Str} : ∀ {binds : List (Str × Value)} {m : Str -> Option Value}, (∀ v, (x, v) ∉ binds) -> bindL kindOf binds m x = m x
 | [], _, _ => rfl
 | (n, v) :: r, m, h => by
  unfold bindL
  rw [uP fun w hw => h w (List.mem_cons_of_mem _ hw)]
  split
  ·have : x ≠ n := by rintro rfl; exact h v List.mem_cons_self
   simp [this]
  ·rfl
theorem u_ {kindOf : Str -> Option NameKind} {x : Str} : ∀ {binds : List (Str × Value)} {m : Str -> Option Value}, (∀ v, (x, v) ∉ binds) -> bindC kindOf binds m x = m x
 | [], _, _ => rfl
 | (n, v) :: r, m, h => by
  unfold bindC
  rw [u_ fun w hw => h w (List.mem_cons_of_mem _ hw)]
  split
  ·rfl
  ·have : x ≠ n := by rintro rfl; exact h v List.mem_cons_self
   simp [this]
theorem vg {kindOf : Str -> Option NameKind} {x : Str} {v : Value} : ∀ {P : List Str} {vs : List Value} {i : Nat} {m : Str -> Option Value}, P.Nodup -> P[i]? = some x -> vs[i]? = some v -> kindOf x = some .local ->
  bindL kindOf (P.zip vs) m x = some v
 | [], _, _, _, _, h, _, _ => by simp at h
 | _ :: _, [], _, _, _, _, h, _ => by simp at h
 | p :: P, w :: vs, 0, m, nd, h1, h2, hk => by
  simp at h1 h2; subst h1; subst h2
  show bindL kindOf ((p, w) :: P.zip vs) m p = _
  unfold bindL
  rw [uP fun v hv => (List.nodup_cons.mp nd).1 (List.of_mem_zip hv).1, if_pos hk]
  simp
 | p :: P, w :: vs, i + 1, m, nd, h1, h2, hk => by
  show bindL kindOf ((p, w) :: P.zip vs) m x = _
  unfold bindL
  exact vg (i := i) (List.nodup_cons.mp nd).2 (by simpa using h1) (by simpa using h2) hk
theorem vo {kindOf : Str -> Option NameKind} {x : Str} {v : Value} : ∀ {P : List Str} {vs : List Value} {i : Nat} {m : Str -> Option Value}, P.Nodup -> P[i]? = some x -> vs[i]? = some v -> kindOf x ≠ some .local ->
  bindC kindOf (P.zip vs) m x = some v
 | [], _, _, _, _, h, _, _ => by simp at h
 | _ :: _, [], _, _, _, _, h, _ => by simp at h
 | p :: P, w :: vs, 0, m, nd, h1, h2, hk => by
  simp at h1 h2; subst h1; subst h2
  show bindC kindOf ((p, w) :: P.zip vs) m p = _
  unfold bindC
  rw [u_ fun v hv => (List.nodup_cons.mp nd).1 (List.of_mem_zip hv).1, if_neg hk]
  simp
 | p :: P, w :: vs, i + 1, m, nd, h1, h2, hk => by
  show bindC kindOf ((p, w) :: P.zip vs) m x = _
  unfold bindC
  exact vo (i := i) (List.nodup_cons.mp nd).2 (by simpa using h1) (by simpa using h2) hk
def start (N : List Str) (vs : List V) : St := vs.map some ++ List.replicate (N.length - vs.length) none
def oJ (CX : CXT) (P : Program) (w : World) (K : PySem.W.Frag) (mg : Str -> Option Value) (base : Heap) (N : List Str) (qual : Str) (scope : Scope) (f : Addr) (cd : Value) (A : Around) (outer : List Env) (s : Shared) (H : Hp) (E : XK) : Cx where
 prog := P
 w := w
 K := K
 mg := mg
 base := base
 A := A.deeper (envOfC qual scope s.heap.objs.size f cd)
 N := N
 s₀ := s
 H₀ := H
 env := envOfC qual scope s.heap.objs.size f cd
 outer := outer
 stack := envOfC qual scope s.heap.objs.size f cd :: outer
 ex := []
 calm := true
 fn := fun _ => true
 pn := []
 xe := fun e s' => wpAny (model P w) (A.deeper (envOfC qual scope s.heap.objs.size f cd)) (leaving (envOfC qual scope s.heap.objs.size f cd) e) (fun _ s'' => CX outer H s E e s'') (fun e' s'' => CX outer H s E e' s'') s'
theorem xU {sc : Scope} {n : Nat} {x : Str} (h : sc.names.lookup x = some .cell) : ∃ c, (cellsFrom n sc.names []).lookup x = some c := by
 have q := PySem.W.cellsFrom_some sc.names n [] (.inl h)
 exact Option.isSome_iff_exists.mp q
theorem En {CX : CXT} {P : Program} {w : World} {K : PySem.W.Frag} {mg : Str -> Option Value} {base : Heap} {N ps : List Str} {qual : Str} {scope : Scope} {f : Addr} {cd : Value} {A : Around} {outer : List Env} {s s1 : Shared} {H : Hp} {E : XK} {us : List Value} {vs : List V}
  (S : FnScope N ps scope) (hd : A.handled = none) (e0 : Env0 P w K mg base A outer s H) (hl : vs.length = ps.length) (r : Vals vs us)
  (x : InCallC s s.heap.objs.size (bindL (envOfC qual scope s.heap.objs.size f cd).kindOf (ps.zip us) fun _ => none) (cellsFrom (s.heap.objs.size + 1) scope.names []) (bindC (envOfC qual scope s.heap.objs.size f cd).kindOf (ps.zip us) fun _ => none) s1) :
  Inv (oJ CX P w K mg base N qual scope f cd A outer s H E) [] (start N vs) H s1 := by
 have hpl : ps.length <= N.length := by have := congrArg List.length S.pre; rw [List.length_take] at this; omega
 obtain ⟨h1, tk, rfl, hk⟩ := x.done
 have noA : ∀ b : Addr, b ∉ (oJ CX P w K mg base N qual scope f cd A outer s H E).ex := fun b z => absurd (show b ∈ ([] : List Addr) from z) (by simp)
 refine ⟨⟨e0.mod, S.kind, rfl, rfl, Nat.le_refl _, fun y z c h1 h2 => ?_, fun y hy => ?_, fun y c _ h => ?_, fun _ => hd, Around.frames_deeper e0.frames, .inr ⟨rfl, rfl⟩, fun b z => absurd z (noA b), e0.bs, e0.bsz, fun b _ _ => noA b, fun b z => absurd z (noA b), e0.funs, e0.frf⟩,
  rfl, e0.bare, Un.kept hk, ⟨_, x.toInCall.ns, fun i y v h1 h2 h3 => ?_⟩, fun y c h => ⟨_, x.cell y c h⟩, e0.hok.fresh (Nat.le_refl _), fun y c h => ?_, fun p hp => absurd (show p ∈ ([] : List (Addr × Obj)) from hp) (by simp), e0.hok.kept hk, ?_⟩
 ·exact name_of_addr x.apart (PySem.mem_of_lookup h1) (PySem.mem_of_lookup h2)
 ·have hy : scope.names.lookup y = some .cell \/ scope.names.lookup y = some .free := hy
  rcases hy with hy | hy
  ·exact xU hy
  ·exact absurd rfl (S.nofree _ (PySem.mem_of_lookup hy))
 ·exact Nat.le_of_lt (x.above y c (PySem.mem_of_lookup h))
 ·have hi : i < vs.length := by
   unfold start at h2
   by_cases hi : i < vs.length
   ·exact hi
   ·rw [List.getElem?_append_right (by simpa using hi)] at h2
    rw [List.getElem?_replicate] at h2
    split at h2 <;> cases h2
  have ha : vs[i]? = some v := by
   unfold start at h2
   rw [List.getElem?_append_left (by simpa using hi), List.getElem?_map] at h2
   cases e : vs[i]? with
   | none => rw [e] at h2; cases h2
   | some a => rw [e] at h2; cases h2; rfl
  obtain ⟨u, hu, rv⟩ := r.get ha
  have hp : ps[i]? = some y := by
   rw [<- S.pre, List.getElem?_take_of_lt (by omega)]; exact h1
  have ndP : ps.Nodup := by rw [<- S.pre]; exact S.nd.sublist (List.take_sublist _ _)
  refine ⟨u, rv, ?_⟩
  rcases S.par y (List.mem_of_getElem? hp) with k | k
  ·exact .inl ⟨k, vg ndP hp hu k⟩
  ·obtain ⟨c, e⟩ := xU (n := s.heap.objs.size + 1) k
   refine .inr ⟨.inl k, c, e, ?_⟩
   have q := x.cell y c e
   rw [vo ndP hp hu (by show scope.names.lookup y ≠ _; rw [k]; decide)] at q
   exact q
 ·exact e0.hok.fresh (Nat.le_of_lt (x.above y c (PySem.mem_of_lookup h)))
 ·unfold start
  show _ = N.length
  rw [List.length_append, List.length_map, List.length_replicate]
  omega
theorem JW {CX : CXT} {P : Program} {w : World} {K : PySem.W.Frag} {mg : Str -> Option Value} {base : Heap} {k : Nat} {f : Addr} {name qual : Str} {params : Arguments} {body : List Stmt} {scope : Scope} {dV kV doc pm cdv ct oc : Value} {an od : Option Addr}
  {osl : Array (Option Value)} {N ps : List Str} {sp : Sp} (lk : K.lookup f = some ⟨oc, od, .func (PySem.W.fnOf name qual params body scope dV kV doc pm an cdv ct), osl⟩) (hcd : PySem.W.codeIn K cdv qual = true) (S : FnScope N ps scope)
  (len : ∀ vs H Q E, sp vs H Q E -> vs.length = ps.length)
  (hbody : ∀ (A : Around) (outer : List Env) (s : Shared) (H : Hp) (vs : List V) (Q : VK) (E : XK), Room k (A.deeper (envOfC qual scope s.heap.objs.size f cdv)) -> sp vs H Q E ->
   ∃ t, PSs (oJ CX P w K mg base N qual scope f cdv A outer s H E) body t /\ t { nx := fun _ H' => Q .non H', rt := Q } (start N vs) H) :
  FnOk P w K mg base CX (k + 1) f (PySem.W.fnOf name qual params body scope dV kV doc pm an cdv ct) ps sp := by
 refine ⟨len, fun A outer s H args us vs Q E hr e0 hb r hsp => ?_⟩
 have hl := len _ _ _ _ hsp
 have KX : K.In s.heap := e0.mod.kin.keeps fun b o e => (e0.bs b o e).1
 have lim : s.heap.NoLimit := e0.mod.nolimit.keeps fun b o e => (e0.bs b o e).1
 have hkind : ∀ y ∈ ps.zip us, scope.names.lookup y.1 = some .local \/ (scope.names.lookup y.1 = some .cell /\ ((cellsFrom (s.heap.objs.size + 1) scope.names []).lookup y.1).isSome = true) := fun ⟨n, v⟩ hy => by
  rcases S.par n (List.of_mem_zip hy).1 with q | q
  ·exact .inl q
  ·exact .inr ⟨q, PySem.W.cellsFrom_some _ _ _ (.inl q)⟩
 refine codeAny_call_function hr.depth (KX _ _ lk) rfl S.co S.gen rfl (PySem.W.codeRec_of KX hcd) (hb _ _ _ _ ?_)
 refine wpAny_newFunctionEnv_cells S.kind hkind fun env he s1 x => ?_
 subst he
 refine ⟨lim.keeps x.toInCall.keep, codeAny_func ?_⟩
 obtain ⟨t, ht, hq⟩ := hbody A outer s H vs Q E (hr.deeper _) hsp
 have I : Inv (oJ CX P w K mg base N qual scope f cdv A outer s H E) [] (start N vs) H s1 := En S hr.hd e0 hl r x
 refine wpAny_mono (ht [] s1 (start N vs) H _ I hq) (fun fl s' hs => ?_) fun e s' hs => hs
 have fin : ∀ {σ' : St} {H' : Hp} {v : V} {u : Value}, Inv (oJ CX P w K mg base N qual scope f cdv A outer s H E) [] σ' H' s' -> RelV v u -> Q v H' -> CE outer P w H s Q u s' :=
  fun {σ' H' v u} J rv q => ⟨v, H', J.os, J.bare, J.base, J.hok, rv, q⟩
 cases fl with
 | ret u =>
  obtain ⟨v, σ', H', J, rv, q⟩ := hs
  exact fin J rv q
 | next =>
  obtain ⟨σ', H', J, q⟩ := hs
  exact fin (v := V.non) (u := Value.none) J rfl q
 | brk =>
  obtain ⟨_, _, _, q⟩ := hs
  exact False.elim q
 | cont =>
  obtain ⟨_, _, _, q⟩ := hs
  exact False.elim q
end L2
namespace L2
open PySem PySem.Spec PyProof.Rows
section
variable {X : Cx} {x : Str} {p pos : Pos} {e : Expr} {es : List Expr} {t : TA} {id T : String} {r : List V -> Hp -> VK -> Prop}
def tCB (r : List V -> Hp -> VK -> Prop) (t : TA) : TE := fun σ H Q => t σ H fun vs H1 => r vs H1 Q
theorem aM (hc : CallR X (.builtin id) r) (hg : Gl X x) (hm : X.mg x = none) (hv : bootBuiltins x = some (.builtin id)) (ha : PA X (e :: es) t) (hn : x ≠ "__name__" := by decide) (hdb : (x == ("__debug__" : Str)) = false := by decide)
  (he : starEach (e :: es) X.env = (false, eval e X.env) :: starEach es X.env := by rfl) (hpl : (backTo pos (starEach es X.env)).any (·.1) = false := by rfl) : PE X (.Call (.Name x p) (e :: es) [] pos) (tCB r t) := by
 intro pins s σ H Q I h
 refine wpAny_Call_Name_kw (iD I hg hm hv ?_ hn hdb)
 exact PyProof.Rows.callWith_builtin1 (thn (ha pos pins s σ H _ I h) fun us s1 ⟨vs, H1, I1, r1, q1⟩ => hc pins s1 σ H1 vs us Q I1 r1 q1) he hpl
theorem dI (hc : CallR X (.type T) r) (hg : Gl X x) (hm : X.mg x = none) (hv : bootBuiltins x = some (.type T)) (ha : PA X (e :: es) t) (hn : x ≠ "__name__" := by decide) (hdb : (x == ("__debug__" : Str)) = false := by decide)
  (he : starEach (e :: es) X.env = (false, eval e X.env) :: starEach es X.env := by rfl) (hpl : (backTo pos (starEach es X.env)).any (·.1) = false := by rfl) : PE X (.Call (.Name x p) (e :: es) [] pos) (tCB r t) := by
 intro pins s σ H Q I h
 refine wpAny_Call_Name_kw (iD I hg hm hv ?_ hn hdb)
 exact PyProof.Rows.callWith_type1 (thn (ha pos pins s σ H _ I h) fun us s1 ⟨vs, H1, I1, r1, q1⟩ => hc pins s1 σ H1 vs us Q I1 r1 q1) he hpl
end
end L2
namespace HT
open PySem PyProof.Rows
def lexLt : List Int -> List Int -> Bool
 | [], [] => false
 | [], _ :: _ => true
 | _ :: _, [] => false
 | x :: xs, y :: ys => if x = y then lexLt xs ys else decide (x < y)
section
open PySem.SeqAt
open PySem.AutoSeq1 (wpAny_loadPart')
open PySem.MeetsSeq PySem.MeetsSeq2 PySem.MeetsSeq3
end
section
variable {prog : Program} {w : World} {A : Around} {E : Value -> Shared -> Prop} {s : Shared}
def sIx (n d : Nat) : Option Int -> Nat
 | none => d
 | some v => if v < 0 then (v + (n : Int)).toNat else min v.toNat n
end
end HT
namespace L2
open PySem PySem.Spec PyProof.Rows
abbrev TO := St -> Hp -> (Option Int -> Hp -> Prop) -> Prop
def PO (X : Cx) (e : Option Expr) (t : TO) : Prop :=
 ∀ (pins : List (Addr × Obj)) (s : Shared) (σ : St) (H : Hp) (Q : Option Int -> Hp -> Prop), Inv X pins σ H s -> t σ H Q ->
  wpAny (model X.prog X.w) X.A (evalPart e X.env) (fun u s' => ∃ o H', Inv X pins σ H' s' /\ IsPart u o /\ Q o H') X.xe s
def H_ : TO := fun _ H Q => Q none H
def J3 (t : TE) : TO := fun σ H Q => t σ H fun x H1 => ∃ i, x = .int i /\ Q (some i) H1
theorem intsAre_of {ns : List Int} : ∀ {us : List Value}, Vals (ns.map V.int) us -> IntsAre us ns := by
 induction ns with
 | nil => intro us r; rw [List.map_nil] at r; cases r; exact .nil
 | cons n ns ih =>
  intro us r
  rw [List.map_cons] at r
  cases r with
  | cons r1 r2 =>
   obtain ⟨t, e⟩ := r1
   subst e
   exact .cons n t (ih r2)
section
variable {X : Cx} {e : Expr} {te : TE} {lo hi : Option Expr} {tl th : TO} {pos p2 : Pos}
theorem cI : PO X none H_ := by
 intro pins s σ H Q I h
 rw [evalPart_none]
 exact wpAny_pure ⟨none, H, I, .none, h⟩
theorem cG (h : PE X e te) : PO X (some e) (J3 te) := by
 intro pins s σ H Q I hw
 rw [evalPart_some]
 refine thn (h pins s σ H _ I hw) fun u s1 ⟨x, H1, I1, r1, q1⟩ => ?_
 obtain ⟨i, rfl, q⟩ := q1
 obtain ⟨t, rfl⟩ := r1
 exact ⟨some i, H1, I1, .int i t, q⟩
def SlR (X : Cx) (r : V -> Option Int -> Option Int -> Hp -> VK -> Prop) : Prop :=
 ∀ (pins : List (Addr × Obj)) (s : Shared) (σ : St) (H : Hp) (x : V) (v vl vu : Value) (lo hi : Option Int) (sl : Addr) (Q : VK), Inv X pins σ H s -> RelV x v -> s.heap.IsSliceOf sl vl vu .none -> IsPart vl lo -> IsPart vu hi -> r x lo hi H Q ->
  ∃ T id, typeLookup (.type T) "__getitem__" = pure (some (.builtin id)) /\ s.TypeIs v T /\ wpAny (model X.prog X.w) X.A (getItem v (.ref sl)) (EP X pins σ Q) X.xe s
theorem SlR.or {r r' : V -> Option Int -> Option Int -> Hp -> VK -> Prop} (h : SlR X r) (h' : SlR X r') : SlR X (fun x lo hi H Q => r x lo hi H Q \/ r' x lo hi H Q) := by
 intro pins s σ H x v vl vu lo hi sl Q I rx hs pl pu q
 rcases q with q | q
 ·exact h pins s σ H x v vl vu lo hi sl Q I rx hs pl pu q
 ·exact h' pins s σ H x v vl vu lo hi sl Q I rx hs pl pu q
def tSl (r : V -> Option Int -> Option Int -> Hp -> VK -> Prop) (te : TE) (tl th : TO) : TE := fun σ H Q => te σ H fun x H1 => tl σ H1 fun l H2 => th σ H2 fun u H3 => r x l u H3 Q
theorem b_ {r : V -> Option Int -> Option Int -> Hp -> VK -> Prop} (hr : SlR X r) (he : PE X e te) (hl : PO X lo tl) (hu : PO X hi th) : PE X (.Subscript e (.Slice lo hi none p2) pos) (tSl r te tl th) := by
 intro pins s σ H Q I h
 refine Subscript_ (thn (he pins s σ H _ I h) fun v s1 ⟨x, H1, I1, r1, q1⟩ => ?_)
 refine wpAny_Slice (thn (hl pins s1 σ H1 _ I1 q1) fun vl s2 ⟨l, H2, I2, pl, q2⟩ => thn (hu pins s2 σ H2 _ I2 q2) fun vu s3 ⟨u, H3, I3, pu, q3⟩ => ?_)
 rw [evalPart_none]
 refine wpAny_pure ?_
 have I4 : Inv X pins σ H3 { s3 with heap := s3.heap.push { cls := .type "slice", data := .fields #[vl, vu, .none] } } := I3.kept (t' := s3.toks) fun b ob q => Heap.get?_push_of_some _ q
 obtain ⟨T, id, hT, ht, hg⟩ := hr pins { s3 with heap := s3.heap.push { cls := .type "slice", data := .fields #[vl, vu, .none] } } σ H3 x v vl vu l u s3.heap.objs.size Q I4 r1 (Heap.IsSliceOf.new ..) pl pu q3
 show wpAny (model X.prog X.w) X.A (subscriptTail e (.Slice lo hi none p2) v (.ref s3.heap.objs.size)) (EP X pins σ Q) X.xe { s3 with heap := s3.heap.push { cls := .type "slice", data := .fields #[vl, vu, .none] } }
 exact tail_any (ops := [.ref s3.heap.objs.size, v]) ht hT hg (by with_unfolding_all rfl)
def bQ (xs : List V) (lo hi : Option Int) : List V := (xs.drop (HT.sIx xs.length 0 lo)).take (HT.sIx xs.length xs.length hi - HT.sIx xs.length 0 lo)
theorem zM (xs : List V) (lo hi : Option Int) : (bQ xs lo hi).length <= xs.length := by
 unfold bQ
 rw [List.length_take, List.length_drop]
 omega
def Ln (K : PySem.W.Frag) : V -> Option Int -> Option Int -> Hp -> VK -> Prop := fun x lo hi H Q => ∃ a xs, x = .ref a /\ SqT K H a xs /\
 ¬ (HT.sIx xs.length 0 lo = 0 /\ HT.sIx xs.length xs.length hi = xs.length) /\ ∀ p, H p = none -> Q (.ref p) (upd H p (.tup (bQ xs lo hi)))
def Ly (K : PySem.W.Frag) : R2 := fun x y H Q => ∃ a b ns ms, x = .ref a /\ y = .ref b /\ SqT K H a (ns.map V.int) /\ SqT K H b (ms.map V.int) /\ Q (.bl (HT.lexLt ns ms)) H
def Ld (K : PySem.W.Frag) : R2 := fun x y H Q => ∃ a b xs ys, x = .ref a /\ y = .ref b /\ SqT K H a xs /\ SqT K H b ys /\ xs ≠ [] /\ xs.length + ys.length <= sizeLine /\
 (ys = [] -> Q (.ref a) H) /\ (ys ≠ [] -> ∀ p, H p = none -> Q (.ref p) (upd H p (.tup (xs ++ ys))))
end
end L2
namespace L2
open PySem PySem.Spec PyProof.Rows
def ixN (n : Nat) (i : Int) : Option Nat := if 0 <= i then (if i < n then some i.toNat else none) else if -(n : Int) <= i then some (i + n).toNat else none
def atI {α : Type} (xs : List α) (i : Int) : Option α := (ixN xs.length i).bind fun j => xs[j]?
theorem Bf {n : Nat} {i : Int} {j : Nat} (h : ixN n i = some j) : seqIndex? i n = some j /\ j < n /\ -(n : Int) <= i /\ i < n := by
 unfold ixN at h
 by_cases h0 : 0 <= i
 ·rw [if_pos h0] at h
  by_cases h1 : i < n
  ·rw [if_pos h1] at h
   have e : i.toNat = j := Option.some.inj h
   exact ⟨by rw [seqIndex_of h0 h1, e], by omega, by omega, h1⟩
  ·rw [if_neg h1] at h; cases h
 ·rw [if_neg h0] at h
  by_cases h1 : -(n : Int) <= i
  ·rw [if_pos h1] at h
   have e : (i + n).toNat = j := Option.some.inj h
   exact ⟨by rw [seqIndex_neg (by omega) h1, e], by omega, h1, by omega⟩
  ·rw [if_neg h1] at h; cases h
theorem zT {α : Type} {xs : List α} {i : Int} {v : α} (h : atI xs i = some v) : ∃ j, seqIndex? i xs.length = some j /\ xs[j]? = some v /\ j < xs.length /\ -(xs.length : Int) <= i /\ i < xs.length := by
 unfold atI at h
 cases e : ixN xs.length i with
 | none => rw [e] at h; cases h
 | some j =>
  rw [e] at h
  obtain ⟨h1, h2, h3, h4⟩ := Bf e
  exact ⟨j, h1, h, h2, h3, h4⟩
theorem gR {α : Type} {xs : List α} {j : Nat} {v : α} (h : xs[j]? = some v) : atI xs (j : Int) = some v := by
 have hj : j < xs.length := (List.getElem?_eq_some_iff.mp h).1
 have e : ixN xs.length (j : Int) = some j := by
  unfold ixN
  rw [if_pos (by omega), if_pos (by omega)]; simp
 unfold atI; rw [e]; exact h
def Hg (b : Expr) : Prop := ∀ o i, subscripted b false o i = operate [o, i] (getItem o i)
def IxR (X : Cx) (r : R2) : Prop :=
 ∀ (value slice : Expr) (pins : List (Addr × Obj)) (s : Shared) (σ : St) (H : Hp) (x y : V) (v u : Value) (Q : VK), Inv X pins σ H s -> RelV x v -> RelV y u -> r x y H Q ->
  subscripted slice false v u = operate [v, u] (getItem v u) -> wpAny (model X.prog X.w) X.A (subscriptTail value slice v u) (EP X pins σ Q) X.xe s
def MtR (X : Cx) (id : String) (r : V -> List V -> Hp -> VK -> Prop) : Prop :=
 ∀ (pins : List (Addr × Obj)) (s : Shared) (σ : St) (H : Hp) (x : V) (xs : List V) (v : Value) (us : List Value) (Q : VK), Inv X pins σ H s -> RelV x v -> Vals xs us -> r x xs H Q ->
  wpAny (model X.prog X.w) X.A (call (.builtin id) (v :: us)) (EP X pins σ Q) X.xe s
section
variable {X : Cx} {a b : Expr} {ta tb : TE} {pos : Pos}
theorem IxR.or {r r' : R2} (h : IxR X r) (h' : IxR X r') : IxR X (fun x y H Q => r x y H Q \/ r' x y H Q) := by
 intro value slice pins s σ H x y v u Q I rx ry q hs
 rcases q with q | q
 ·exact h value slice pins s σ H x y v u Q I rx ry q hs
 ·exact h' value slice pins s σ H x y v u Q I rx ry q hs
theorem MtR.or {id : String} {r r' : V -> List V -> Hp -> VK -> Prop} (h : MtR X id r) (h' : MtR X id r') : MtR X id (fun x xs H Q => r x xs H Q \/ r' x xs H Q) := by
 intro pins s σ H x xs v us Q I rx rs q
 rcases q with q | q
 ·exact h pins s σ H x xs v us Q I rx rs q
 ·exact h' pins s σ H x xs v us Q I rx rs q
theorem aP {r : R2} (hr : IxR X r) (ha : PE X a ta) (hb : PE X b tb) (hs : Hg b) : PE X (.Subscript a b pos) (tOp r ta tb) := by
 intro pins s σ H Q I h
 exact Subscript_ (Gz ha hb I h fun v u s2 x y H2 I2 rx ry q => hr a b pins s2 σ H2 x y v u Q I2 rx ry q (hs _ _))
def Ge (K : PySem.W.Frag) : R2 := fun x y H Q => ∃ p xs i v, x = .ref p /\ y = .int i /\ SqL K H p xs /\ atI xs i = some v /\ Q v H
def Ff (K : PySem.W.Frag) : R2 := fun x y H Q => ∃ p xs i v, x = .ref p /\ y = .int i /\ SqT K H p xs /\ atI xs i = some v /\ Q v H
def J9 : R2 := fun x y H Q => ∃ z i c, x = .str z /\ y = .int i /\ z.length <= sizeLine /\ atI z.cps.toList i = some c /\ Q (.str ⟨#[c]⟩) H
theorem Im : IxR X (Ge X.K) := by
 intro value slice pins s σ H x y v u Q I rx ry h hs
 obtain ⟨p, xs, i, z, rfl, rfl, hq, he, q⟩ := h
 cases rx
 obtain ⟨t, rfl⟩ := ry
 obtain ⟨its, r, pl, hz⟩ := I.list hq
 obtain ⟨j, h1, h2, h3, h4, h5⟩ := zT he
 obtain ⟨w, ew, rw'⟩ := r.get h2
 have hl := r.length
 have hn := oU
 have fin : EP X pins σ Q w s := ⟨z, H, I, rw', q⟩
 by_cases h0 : 0 <= i
 ·have hj : i.toNat = j := by
   rw [seqIndex_of h0 h5] at h1
   exact Option.some.inj h1
  exact item_listR pl.isList h0 (by omega) (by rw [hj]; simpa using ew) fin hs
 ·have hj : (i + (its.toArray.size : Int)).toNat = j := by
   rw [seqIndex_neg (by omega) h4] at h1
   rw [List.size_toArray, <- hl]
   exact Option.some.inj h1
  exact subscriptTail_builtinR (x := w) pl.isList.typeIs slot_list_getitem.lookup
   (wpAny_getItem_list_neg (Q := fun r s' => r = w /\ EP X pins σ Q r s') pl.isList (by omega) (by rw [List.size_toArray] <;> omega) (by omega) (by rw [hj]; simpa using ew) ⟨rfl, fin⟩) hs
theorem Ja : IxR X (Ff X.K) := by
 intro value slice pins s σ H x y v u Q I rx ry h hs
 obtain ⟨p, xs, i, z, rfl, rfl, hq, he, q⟩ := h
 cases rx
 obtain ⟨t, rfl⟩ := ry
 obtain ⟨its, r, pl, hz⟩ := I.tuple hq
 obtain ⟨j, h1, h2, h3, h4, h5⟩ := zT he
 obtain ⟨w, ew, rw'⟩ := r.get h2
 have hl := r.length
 have hn := oU
 have fin : EP X pins σ Q w s := ⟨z, H, I, rw', q⟩
 exact subscriptTail_builtinR (x := w) pl.typeIs slot_tuple_getitem.lookup
  (getItem_tuple (j := j) (Q := fun r s' => r = w /\ EP X pins σ Q r s') pl (by omega) (by omega) (by rw [List.size_toArray, <- hl]; exact h1) (by simpa using ew) ⟨rfl, fin⟩) hs
def rIx (K : PySem.W.Frag) : R2 := fun x y H Q => Ge K x y H Q \/ Ff K x y H Q \/ J9 x y H Q
theorem Bs (its : List Value) (n j : Nat) (u : Value) : Obj.mapSeq (·.setIfInBounds j u) { cls := .type "list", data := .seq its.toArray n } = { cls := .type "list", data := .seq (its.set j u).toArray n } := by
 simp [Obj.mapSeq]
theorem Inv.lst {pins : List (Addr × Obj)} {σ : St} {H : Hp} {s : Shared} {p : Addr} {xs : List V} (I : Inv X pins σ H s) (h : H p = some (.lst xs)) :
  ∃ (its : List Value) (n : Nat), Vals xs its /\ s.heap.get? p = some { cls := .type "list", data := .seq its.toArray n } /\ xs.length <= sizeLine := by
 obtain ⟨z, its, n, r, e⟩ := I.hok p _ h
 exact ⟨its, n, r, e, z⟩
theorem Inv.lstUpd {pins : List (Addr × Obj)} {σ : St} {H : Hp} {s : Shared} {p : Addr} {xs ys : List V} {its its' : List Value} {n n' : Nat} {f : Obj -> Obj} (I : Inv X pins σ H s) (h : H p = some (.lst xs))
  (ho : s.heap.get? p = some { cls := .type "list", data := .seq its.toArray n }) (hf : f { cls := .type "list", data := .seq its.toArray n } = { cls := .type "list", data := .seq its'.toArray n' }) (r : Vals ys its') (hz : ys.length <= sizeLine) (t : Nat) :
  Inv X pins σ (upd H p (.lst ys)) { s with heap := s.heap.update p f, toks := t } := by
 have e : (s.heap.update p f).get? p = some { cls := .type "list", data := .seq its'.toArray n' } := by
  rw [Heap.get?_update_self f ho (by rw [hf] <;> rfl), hf]
 refine I.write (x := p) (e := p) (by rw [h]; trivial) (.inl rfl) (fun b u hb q => (Heap.get?_update_other _ _ (Ne.symm hb)).trans q) ⟨_, e⟩ ?_
 exact ⟨hz, its', n', r, e⟩
def JV : V -> V -> V -> Hp -> (Hp -> Prop) -> Prop := fun o i v H Q => ∃ p xs k j, o = .ref p /\ i = .int k /\ H p = some (.lst xs) /\ ixN xs.length k = some j /\ Q (upd H p (.lst (xs.set j v)))
theorem set_list : JF X JV := by
 intro pins s σ H o i v ov iv u Q I ro ri rv h
 obtain ⟨p, xs, k, j, rfl, rfl, hp, hj, q⟩ := h
 cases ro
 obtain ⟨t, rfl⟩ := ri
 obtain ⟨its, n, r, ho, hz⟩ := I.lst hp
 obtain ⟨h1, h2, h3, h4⟩ := Bf hj
 have hl := r.length
 have hn := oU
 have I' : Inv X pins σ (upd H p (.lst (xs.set j v))) { s with heap := s.heap.update p (Obj.mapSeq (·.setIfInBounds j u)) } :=
  I.lstUpd hp ho (Bs its n j u) (r.set rv j) (by rw [List.length_set]; exact hz) s.toks
 by_cases h0 : 0 <= k
 ·have hk : k.toNat = j := by
   rw [seqIndex_of h0 h4] at h1
   exact Option.some.inj h1
  exact PySem.W.ki_setAt ho h0 (by omega) (by rw [List.size_toArray, <- hl]; exact h4) (by rw [hk]; exact ⟨_, I', q⟩)
 ·have hk : (k + (its.toArray.size : Int)).toNat = j := by
   rw [seqIndex_neg (by omega) h3] at h1
   rw [List.size_toArray, <- hl]
   exact Option.some.inj h1
  exact PySem.W.ki_setBack ho (by omega) (by rw [List.size_toArray, <- hl]; exact h3) (by omega) (by rw [hk]; exact ⟨_, I', q⟩)
theorem yo (lo hi : Option Int) (n : Nat) : (sliceBounds lo hi none n).1 = ((HT.sIx n 0 lo : Nat) : Int) /\ (sliceBounds lo hi none n).2.1 = ((HT.sIx n n hi : Nat) : Int) /\ (sliceBounds lo hi none n).2.2 = 1 := by
 refine ⟨?_, ?_, rfl⟩
 ·cases lo with
  | none => simp [sliceBounds, HT.sIx]
  | some i =>
   simp only [sliceBounds, HT.sIx, Option.getD_none, show (1 : Int) > 0 by decide, if_true]
   by_cases h : i < 0
   ·simp only [h, if_true] <;> omega
   ·simp only [h, if_false] <;> omega
 ·cases hi with
  | none => simp [sliceBounds, HT.sIx]
  | some i =>
   simp only [sliceBounds, HT.sIx, Option.getD_none, show (1 : Int) > 0 by decide, if_true]
   by_cases h : i < 0
   ·simp only [h, if_true] <;> omega
   ·simp only [h, if_false] <;> omega
theorem vL (its : List Value) (lo hi : Option Int) : slicePick its.toArray lo hi none = ((its.drop (HT.sIx its.length 0 lo)).take (HT.sIx its.length its.length hi - HT.sIx its.length 0 lo)).toArray := by
 obtain ⟨h1, h2, h3⟩ := yo lo hi its.toArray.size
 unfold slicePick
 rw [h1, h2, h3]
 simp only [sliceRange_one, pick_run, List.size_toArray] <;> rfl
def Jc (K : PySem.W.Frag) : V -> Option Int -> Option Int -> Hp -> VK -> Prop := fun x lo hi H Q => ∃ a xs, x = .ref a /\ SqL K H a xs /\ ∀ p, H p = none -> Q (.ref p) (upd H p (.lst (bQ xs lo hi)))
theorem Hf : SlR X (Jc X.K) := by
 intro pins s σ H x v vl vu lo hi sl Q I rx hs pl pu h
 obtain ⟨a, xs, rfl, hx, q⟩ := h
 cases rx
 obtain ⟨its, r, ht, hz⟩ := I.list hx
 have hlen := r.length
 refine ⟨"list", _, slot_list_getitem.lookup, ht.isList.typeIs, ?_⟩
 refine wpAny_getItem_list_slice ht.isList hs pl pu .none (by simp) ?_ (by rw [List.size_toArray] <;> omega)
 rw [vL, <- hlen]
 refine ⟨.ref s.heap.objs.size, _, I.laid (t' := s.toks) (o := .lst (bQ xs lo hi)) (fun b ob q => Heap.get?_push_of_some _ q) (Nat.le_refl _) ?_, rfl, q _ (I.hok.fresh (Nat.le_refl _))⟩
 exact ⟨Nat.le_trans (zM xs lo hi) hz, _, 0, (r.drop (HT.sIx xs.length 0 lo)).take (HT.sIx xs.length xs.length hi - HT.sIx xs.length 0 lo), Heap.get?_push_size _ rfl⟩
def jk : V -> Bool
 | .non => true
 | .bl _ => true
 | .int _ => true
 | .str _ => true
 | _ => false
def eqV : V -> V -> Bool
 | .non, .non => true
 | .bl a, .bl b => a == b
 | .bl a, .int b => (if a then 1 else 0) == b
 | .int a, .bl b => a == (if b then 1 else 0)
 | .int a, .int b => a == b
 | .str a, .str b => a == b
 | _, _ => false
theorem JB {A : Around} {s : Shared} {y x : V} {u v : Value} (ry : RelV y u) (rx : RelV x v) (fy : jk y = true) (fx : jk x = true) : SeqAt.EqAt A s u v (eqV y x) := by
 cases y with
 | non =>
  cases ry
  cases x with
  | non => cases rx; exact SeqAt.EqAt.same _
  | bl b => cases rx; exact SeqAt.EqAt.none_bool b
  | int b => obtain ⟨t, rfl⟩ := rx; exact SeqAt.EqAt.none_int b t
  | str b => obtain ⟨t, rfl⟩ := rx; exact SeqAt.EqAt.none_str b t
  | _ => exact absurd (show false = true from fx) Bool.false_ne_true
 | bl a =>
  cases ry
  cases x with
  | non => cases rx; exact SeqAt.EqAt.bool_none a
  | bl b => cases rx; exact SeqAt.EqAt.bool_bool a b
  | int b => obtain ⟨t, rfl⟩ := rx; exact SeqAt.EqAt.bool_int a b t
  | str b => obtain ⟨t, rfl⟩ := rx; exact SeqAt.EqAt.bool_str a b t
  | _ => exact absurd (show false = true from fx) Bool.false_ne_true
 | int a =>
  obtain ⟨t', rfl⟩ := ry
  cases x with
  | non => cases rx; exact SeqAt.EqAt.int_none a t'
  | bl b => cases rx; exact SeqAt.EqAt.int_bool a t' b
  | int b => obtain ⟨t, rfl⟩ := rx; exact SeqAt.EqAt.int_int a t' b t
  | str b => obtain ⟨t, rfl⟩ := rx; exact SeqAt.EqAt.int_str a t' b t
  | _ => exact absurd (show false = true from fx) Bool.false_ne_true
 | str a =>
  obtain ⟨t', rfl⟩ := ry
  cases x with
  | non => cases rx; exact SeqAt.EqAt.str_none a t'
  | bl b => cases rx; exact SeqAt.EqAt.str_bool a t' b
  | int b => obtain ⟨t, rfl⟩ := rx; exact SeqAt.EqAt.str_int a t' b t
  | str b => obtain ⟨t, rfl⟩ := rx; exact SeqAt.EqAt.str_str a t' b t
  | _ => exact absurd (show false = true from fx) Bool.false_ne_true
 | _ => exact absurd (show false = true from fy) Bool.false_ne_true
def eqU (x : V) (u : Value) : Bool := match u with
 | .none => eqV .non x
 | .bool b => eqV (.bl b) x
 | .int i _ => eqV (.int i) x
 | .str z _ => eqV (.str z) x
 | _ => false
theorem Ey {x y : V} {u : Value} (r : RelV y u) (f : jk y = true) : eqU x u = eqV y x := by
 cases y with
 | non => cases r; rfl
 | bl b => cases r; rfl
 | int i => obtain ⟨t, rfl⟩ := r; rfl
 | str z => obtain ⟨t, rfl⟩ := r; rfl
 | _ => exact absurd (show false = true from f) Bool.false_ne_true
theorem lJ {x : V} : ∀ {xs : List V} {us : List Value}, Vals xs us -> xs.all jk = true -> us.any (eqU x) = xs.any fun y => eqV y x
 | _, _, .nil, _ => rfl
 | y :: xs, u :: us, .cons r t, f => by
  rw [List.all_cons, Bool.and_eq_true] at f
  rw [List.any_cons, List.any_cons, Ey r f.1, lJ t f.2]
theorem jH {A : Around} {s : Shared} {x : V} {v : Value} (rx : RelV x v) (fx : jk x = true) : ∀ {xs : List V} {us : List Value}, Vals xs us -> xs.all jk = true -> ∀ u ∈ us, SeqAt.EqAt A s u v (eqU x u)
 | _, _, .nil, _ => fun u hu => by cases hu
 | y :: xs, u :: us, .cons r t, f => fun u' hu => by
  rw [List.all_cons, Bool.and_eq_true] at f
  rcases List.mem_cons.mp hu with rfl | hu
  ·rw [Ey r f.1]; exact JB r rx f.1 fx
  ·exact jH rx fx t f.2 u' hu
def inV (x : V) (xs : List V) : Bool := xs.any fun y => eqV y x
def rIn (K : PySem.W.Frag) (neg : Bool) : R2 := fun x y H Q => ∃ p xs, y = .ref p /\ (SqL K H p xs \/ SqT K H p xs) /\ jk x = true /\ xs.all jk = true /\ Q (.bl (if neg then !inV x xs else inV x xs)) H
theorem Ei : OpR X (compareOp .In) (rIn X.K false) := by
 intro pins s σ H x y v u Q I rx ry h
 obtain ⟨p, xs, rfl, hq, fx, fs, q⟩ := h
 cases ry
 rcases hq with hq | hq
 ·obtain ⟨its, r, pl, hz⟩ := I.list hq
  refine SeqAt.in_listAt (eqU x) pl.isList (fun w hw => jH rx fx r fs w (by simpa using hw)) ⟨.bl _, H, I, rfl, ?_⟩
  rw [show its.toArray.any (eqU x) = its.any (eqU x) by simp, lJ r fs]
  exact q
 ·obtain ⟨its, r, pl, hz⟩ := I.tuple hq
  refine SeqAt.in_tupleAt (eqU x) pl (fun w hw => jH rx fx r fs w (by simpa using hw)) ⟨.bl _, H, I, rfl, ?_⟩
  rw [show its.toArray.any (eqU x) = its.any (eqU x) by simp, lJ r fs]
  exact q
theorem yz : OpR X (compareOp .NotIn) (rIn X.K true) := by
 intro pins s σ H x y v u Q I rx ry h
 obtain ⟨p, xs, rfl, hq, fx, fs, q⟩ := h
 cases ry
 rcases hq with hq | hq
 ·obtain ⟨its, r, pl, hz⟩ := I.list hq
  refine SeqAt.notIn_listAt (eqU x) pl.isList (fun w hw => jH rx fx r fs w (by simpa using hw)) ⟨.bl _, H, I, rfl, ?_⟩
  rw [show its.toArray.any (eqU x) = its.any (eqU x) by simp, lJ r fs]
  exact q
 ·obtain ⟨its, r, pl, hz⟩ := I.tuple hq
  refine SeqAt.notIn_tupleAt (eqU x) pl (fun w hw => jH rx fx r fs w (by simpa using hw)) ⟨.bl _, H, I, rfl, ?_⟩
  rw [show its.toArray.any (eqU x) = its.any (eqU x) by simp, lJ r fs]
  exact q
theorem wW : CallR X (.builtin "len") (fun xs H Q => ∃ p ys, xs = [.ref p] /\ (SqL X.K H p ys \/ SqT X.K H p ys) /\ Q (.int ys.length) H) := by
 intro pins s σ H xs us Q I r h
 obtain ⟨p, ys, rfl, hq, q⟩ := h
 obtain ⟨u, rfl, rx⟩ := vals1 r
 cases rx
 have hn := oU
 rcases hq with hq | hq
 ·obtain ⟨its, r', pl, hz⟩ := I.list hq
  have hlen := r'.length
  exact Calls.call_len_list pl.isList (by simp only [List.size_toArray] <;> omega) ⟨.int ys.length, H, I.tok _, ⟨s.toks + 1, by rw [List.size_toArray, hlen]⟩, q⟩
 ·obtain ⟨its, r', pl, hz⟩ := I.tuple hq
  have hlen := r'.length
  exact len_tuple pl (by simp only [List.size_toArray] <;> omega) ⟨.int ys.length, H, I.tok _, ⟨s.toks + 1, by rw [List.size_toArray, hlen]⟩, q⟩
theorem CallR.or {f : Value} {r r' : List V -> Hp -> VK -> Prop} (h : CallR X f r) (h' : CallR X f r') : CallR X f (fun xs H Q => r xs H Q \/ r' xs H Q) := by
 intro pins s σ H xs us Q I rs q
 rcases q with q | q
 ·exact h pins s σ H xs us Q I rs q
 ·exact h' pins s σ H xs us Q I rs q
theorem yp : CallR X (.type "list") (fun xs H Q => ∃ p ys, xs = [.ref p] /\ (SqL X.K H p ys \/ SqT X.K H p ys) /\ ∀ l, H l = none -> Q (.ref l) (upd H l (.lst ys))) := by
 intro pins s σ H xs us Q I r h
 obtain ⟨p, ys, rfl, hq, q⟩ := h
 obtain ⟨u, rfl, rx⟩ := vals1 r
 cases rx
 have fin : ∀ (its : List Value), Vals ys its -> ys.length <= sizeLine -> ∀ (h' : Heap) (c' : Nat), (∀ b o', s.heap.get? b = some o' -> h'.get? b = some o') ->
   h'.get? s.heap.objs.size = some { cls := .type "list", dict := none, data := .seq its.toArray c', slots := #[] } -> EP X pins σ Q (.ref s.heap.objs.size) { s with heap := h' } := fun its r' hz h' c' kp e =>
  ⟨.ref s.heap.objs.size, _, I.laid (t' := s.toks) kp (Nat.le_refl _) (show ObjOk X.prog X.w _ h' _ (.lst ys) from ⟨hz, its, c', r', e⟩), rfl, q _ (I.hok.fresh (Nat.le_refl _))⟩
 rcases hq with hq | hq
 ·obtain ⟨its, r', pl, hz⟩ := I.list hq
  have hlen := r'.length
  obtain ⟨o, ho, hc, n, hd⟩ := pl.isList
  exact call_list_seq p (.inl rfl) ho hc hd (fun h' c' kp e => fin its r' hz h' c' kp e) (by simp only [List.size_toArray] <;> omega)
 ·obtain ⟨its, r', pl, hz⟩ := I.tuple hq
  have hlen := r'.length
  obtain ⟨o, ho, hc, n, hd⟩ := pl
  exact call_list_seq p (.inr rfl) ho hc hd (fun h' c' kp e => fin its r' hz h' c' kp e) (by simp only [List.size_toArray] <;> omega)
def tyV (K : PySem.W.Frag) (T : String) (x : V) (H : Hp) : Prop := match x with
 | .str _ => T = "str"
 | .int _ => T = "int"
 | .ref p => (T = "list" /\ ∃ xs, SqL K H p xs) \/ (T = "tuple" /\ ∃ o, K.lookup p = some o /\ o.cls = .type "tuple" /\ o.dict = none) \/
   (T = "dict" /\ ((∃ kvs, H p = some (.dK kvs)) \/ ∃ kvs, H p = some (.dT kvs))) \/ (T = "set" /\ ∃ S n, H p = some (.set S n))
 | _ => False
theorem Jw {pins : List (Addr × Obj)} {σ : St} {H : Hp} {s : Shared} {T : String} {x : V} {v : Value} (I : Inv X pins σ H s) (r : RelV x v) (ty : tyV X.K T x H) :
  s.TypeIs v T /\ ∀ a, v = .ref a -> ∃ ob, s.heap.get? a = some ob /\ ob.dict = none := by
 cases x with
 | str z =>
  obtain ⟨t, rfl⟩ := r
  cases (show T = "str" from ty)
  exact ⟨typeIs_str s z t, fun _ e => nomatch e⟩
 | int i =>
  obtain ⟨t, rfl⟩ := r
  cases (show T = "int" from ty)
  exact ⟨typeIs_int s i t, fun _ e => nomatch e⟩
 | ref p =>
  cases r
  rcases ty with ⟨rfl, xs, hq⟩ | ⟨rfl, o, hk, hc, hd⟩ | ⟨rfl, hk⟩ | ⟨rfl, S, n, hk⟩
  ·obtain ⟨its, _, pl, _⟩ := I.list hq
   refine ⟨pl.isList.typeIs, fun a e => ?_⟩
   cases e
   obtain ⟨o, n, e, c, hd, _⟩ := pl
   exact ⟨o, e, hd⟩
  ·refine ⟨⟨o, I.kIn p o hk, hc⟩, fun a e => ?_⟩
   cases e
   exact ⟨o, I.kIn _ o hk, hd⟩
  ·have z : ∃ o, s.heap.get? p = some o /\ o.ExactDict := by
    rcases hk with ⟨kvs, hk⟩ | ⟨kvs, hk⟩
    ·obtain ⟨_, _, _, _, o, _, _, e, ex, _⟩ := I.hok p _ hk
     exact ⟨o, e, ex⟩
    ·obtain ⟨_, _, _, _, o, _, _, e, ex, _⟩ := I.hok p _ hk
     exact ⟨o, e, ex⟩
   obtain ⟨o, e, ex⟩ := z
   refine ⟨⟨o, e, ex.1⟩, fun a e2 => ?_⟩
   cases e2
   exact ⟨o, e, ex.2.1⟩
  ·obtain ⟨o, _, _, _, e, ex, _⟩ := I.hok p _ hk
   refine ⟨⟨o, e, ex.1⟩, fun a e2 => ?_⟩
   cases e2
   exact ⟨o, e, ex.2.1⟩
 | _ => exact False.elim ty
def LC (K : PySem.W.Frag) (T : String) (r : V -> List V -> Hp -> VK -> Prop) (to : TE) : TE := fun σ H Q => to σ H fun x H1 => tyV K T x H1 /\ r x [] H1 Q
def tBM (K : PySem.W.Frag) (T : String) (r : V -> List V -> Hp -> VK -> Prop) (to : TE) (t : TA) : TE := fun σ H Q => to σ H fun x H1 => tyV K T x H1 /\ t σ H1 fun xs H2 => r x xs H2 Q
variable {o e : Expr} {es : List Expr} {to : TE} {t : TA} {name : Str} {apos cpos : Pos} {T id : String} {r : V -> List V -> Hp -> VK -> Prop}
theorem g8 (pa : PlainAttrs T) (slot : Slot T name id) (hty : typeOf (.builtin id) = pure (.type "method_descriptor")) (hm : MtR X id r) (ho : PE X o to) (ha : PA X (e :: es) t)
  (hbase : attributeBase o name X.env (eval o X.env) = eval o X.env := by rfl)
  (hfew : ((backTo cpos (starEach (e :: es) X.env)).all (fun x => !x.1) && (backToKw cpos (keywordEach [] X.env)).all (fun x => x.1.isSome)
   && decide ((e :: es).length + ([] : List Keyword).length + (if ([] : List Keyword).isEmpty then 0 else 1) < 30)) = true := by rfl)
  (hline : (apos.endLine == cpos.line) = true := by rfl) (hs : starEach (e :: es) X.env = (false, eval e X.env) :: starEach es X.env := by rfl) (hplain : (backTo cpos (starEach es X.env)).any (·.1) = false := by rfl) :
  PE X (.Call (.Attribute o name apos) (e :: es) [] cpos) (tBM X.K T r to t) := by
 intro pins s σ H Q I h
 refine wpAny_Call_method_late hbase hfew hline rfl (thn (ho pins s σ H _ I h) fun v s1 ⟨x, H1, I1, r1, ty, q1⟩ => ?_)
 obtain ⟨h1, h2⟩ := Jw I1 r1 ty
 refine ⟨T, id, pa, slot, hty, h1, h2, ?_⟩
 have hA := ha cpos pins s1 σ H1 _ I1 q1
 rw [hs] at hA ⊢
 refine Calls.callWith_builtin (by show (false || (backTo cpos (starEach es X.env)).any (·.1)) = false; rw [hplain] <;> rfl) (Calls.evalArgs_plain ?_)
 exact thn hA fun us s2 ⟨vs, H2, I2, r2, q2⟩ => hm pins s2 σ H2 x vs v us Q I2 r1 r2 q2
end
end L2
namespace L2
open PySem PySem.Spec PyProof.Rows
def MtM (X : Cx) (id : String) (r : V -> List V -> Hp -> VK -> Prop) : Prop :=
 ∀ (pins : List (Addr × Obj)) (s : Shared) (σ : St) (H : Hp) (x : V) (xs : List V) (v : Value) (us : List Value) (Q : VK), Inv X pins σ H s -> RelV x v -> Vals xs us -> r x xs H Q ->
  wpAny (model X.prog X.w) X.A (call (.builtin id) (v :: us)) (EP X pins σ Q) X.xe s
theorem Vals.one : ∀ {x : V} {us : List Value}, Vals [x] us -> ∃ u, us = [u] /\ RelV x u
 | _, _, .cons r .nil => ⟨_, rfl, r⟩
theorem Vals.two : ∀ {x y : V} {us : List Value}, Vals [x, y] us -> ∃ u v, us = [u, v] /\ RelV x u /\ RelV y v
 | _, _, _, .cons r (.cons q .nil) => ⟨_, _, rfl, r, q⟩
theorem Vals.zero : ∀ {us : List Value}, Vals [] us -> us = []
 | _, .nil => rfl
theorem Vals.dropLast {xs : List V} {us : List Value} (h : Vals xs us) : Vals xs.dropLast us.dropLast := by
 induction h with
 | nil => exact .nil
 | cons r t ih =>
  cases t with
  | nil => exact .nil
  | cons q t' => exact .cons r ih
theorem Vals.eraseIdx : ∀ {xs : List V} {us : List Value} (i : Nat), Vals xs us -> Vals (xs.eraseIdx i) (us.eraseIdx i)
 | _, _, _, .nil => .nil
 | _, _, 0, .cons _ t => t
 | _, _, i + 1, .cons r t => .cons r (Vals.eraseIdx i t)
theorem Vals.reverse {xs : List V} {us : List Value} (h : Vals xs us) : Vals xs.reverse us.reverse := by
 induction h with
 | nil => exact .nil
 | cons r t ih => rw [List.reverse_cons, List.reverse_cons]; exact Vals.append ih (.cons r .nil)
theorem Vals.rep {xs : List V} {us : List Value} (h : Vals xs us) : ∀ k : Nat, Vals (List.replicate k xs).flatten (List.replicate k us).flatten
 | 0 => .nil
 | k + 1 => by
  rw [List.replicate_succ, List.replicate_succ, List.flatten_cons, List.flatten_cons]
  exact Vals.append h (Vals.rep h k)
theorem vq {α : Type} : ∀ (l : List α) (i : Nat), (l.eraseIdx i).length <= l.length
 | [], _ => Nat.le_refl _
 | _ :: _, 0 => Nat.le_succ _
 | _ :: r, i + 1 => Nat.succ_le_succ (vq r i)
theorem foldl_rep (its : List Value) : ∀ (k : Nat) (acc : List Value),
  List.foldl (fun x1 x2 => x1 ++ x2) acc.toArray (List.replicate k its.toArray) = (acc ++ (List.replicate k its).flatten).toArray
 | 0, acc => by simp
 | k + 1, acc => by
  have e : acc.toArray ++ its.toArray = (acc ++ its).toArray := by simp
  have e2 : (acc ++ its) ++ (List.replicate k its).flatten = acc ++ (List.replicate (k + 1) its).flatten := by
   rw [List.replicate_succ, List.flatten_cons, List.append_assoc]
  rw [<- e2, <- foldl_rep its k (acc ++ its), <- e, List.replicate_succ, List.foldl_cons]
section
variable {X : Cx} {pins : List (Addr × Obj)} {σ : St} {H : Hp} {s : Shared} {l b : Addr} {xs ys zs : List V}
theorem Inv.lset {its its' : List Value} {n : Nat} {f : Array Value -> Array Value} {t' : Nat} (I : Inv X pins σ H s) (hH : H l = some (.lst xs))
  (e : s.heap.get? l = some { cls := .type "list", data := .seq its.toArray n }) (hf : f its.toArray = its'.toArray) (hv : Vals ys its') (hz : ys.length <= sizeLine) :
  Inv X pins σ (upd H l (.lst ys)) { s with heap := s.heap.update l (Obj.mapSeq f), toks := t' } := by
 have q := PySem.IsL.update e f
 rw [hf] at q
 refine I.write (x := l) (e := l) (by rw [hH]; exact trivial) (.inl rfl) (fun b' u hb hu => (Heap.get?_update_other s.heap (Obj.mapSeq f) (Ne.symm hb)).trans hu) ⟨_, q⟩ ?_
 exact ⟨hz, its', _, hv, q⟩
theorem Inv.lnew {its : List Value} {t' : Nat} (I : Inv X pins σ H s) (hv : Vals ys its) (hz : ys.length <= sizeLine) :
  Inv X pins σ (upd H s.heap.objs.size (.lst ys)) { s with heap := s.heap.push { cls := .type "list", data := .seq its.toArray }, toks := t' } :=
 I.laid (fun _ _ q => Heap.get?_push_of_some _ q) (Nat.le_refl _) ⟨hz, its, 0, hv, Heap.get?_push_size _ rfl⟩
theorem Inv.fresh (I : Inv X pins σ H s) : H s.heap.objs.size = none := I.hok.fresh (Nat.le_refl _)
theorem Inv.lstM (I : Inv X pins σ H s) (hH : H l = some (.lst xs)) : xs.length <= sizeLine /\ ∃ (its : List Value) (n : Nat), Vals xs its /\ xs.length = its.length /\ s.heap.get? l = some { cls := .type "list", data := .seq its.toArray n } := by
 obtain ⟨z, its, n, r, e⟩ := I.hok l _ hH
 exact ⟨z, its, n, r, r.length, e⟩
theorem FQ {n : Nat} (h : n <= sizeLine) : Builtin.List.listTooLong n = false := by
 unfold Builtin.List.listTooLong
 exact decide_eq_false (by omega)
end
section
variable {X : Cx}
def Hr : V -> List V -> Hp -> VK -> Prop := fun x vs H Q => ∃ l xs y, x = .ref l /\ vs = [y] /\ H l = some (.lst xs) /\ xs.length < sizeLine /\ Q .non (upd H l (.lst (xs ++ [y])))
theorem dH : MtM X "list.append" Hr := by
 intro pins s σ H x vs v us Q I rx rv h
 obtain ⟨l, xs, y, rfl, rfl, hH, hz, q⟩ := h
 cases rx
 obtain ⟨u, rfl, ru⟩ := rv.one
 obtain ⟨z, its, n, r, hl, e⟩ := I.lstM hH
 refine call_meets F.slot_list_append ⟨_, e, rfl⟩ F.entry_list_append (F.args_list_append_2 _ _) (PySem.list_append l its.toArray n u (by rw [List.size_toArray]; omega)) ⟨e, ?_⟩
 refine ⟨.non, _, I.lset (its' := its ++ [u]) hH e (by simp) (r.append (.cons ru .nil)) ?_, rfl, q⟩
 rw [List.length_append, List.length_singleton]
 omega
def KZ : V -> List V -> Hp -> VK -> Prop := fun x vs H Q => ∃ l b xs zs, x = .ref l /\ vs = [.ref b] /\ H l = some (.lst xs) /\ H b = some (.lst zs) /\ xs.length + zs.length <= sizeLine /\ Q .non (upd H l (.lst (xs ++ zs)))
def Lr : V -> List V -> Hp -> VK -> Prop := fun x vs H Q => ∃ l xs y, x = .ref l /\ vs = [] /\ H l = some (.lst xs) /\ xs[xs.length - 1]? = some y /\ Q y (upd H l (.lst xs.dropLast))
def K1 : V -> List V -> Hp -> VK -> Prop := fun x vs H Q => ∃ l xs i k y, x = .ref l /\ vs = [.int i] /\ H l = some (.lst xs) /\ -(2 ^ 63) <= i /\ i < 2 ^ 63 /\ seqIndex? i xs.length = some k /\ xs[k]? = some y /\ Q y (upd H l (.lst (xs.eraseIdx k)))
def Kq : V -> List V -> Hp -> VK -> Prop := fun x vs H Q => ∃ l xs, x = .ref l /\ vs = [] /\ H l = some (.lst xs) /\ Q .non (upd H l (.lst xs.reverse))
def K5 : V -> List V -> Hp -> VK -> Prop := fun x vs H Q => ∃ l xs, x = .ref l /\ vs = [] /\ H l = some (.lst xs) /\ Q .non (upd H l (.lst []))
def KJ : R2 := fun x y H Q => ∃ l b xs zs, x = .ref l /\ y = .ref b /\ H l = some (.lst xs) /\ H b = some (.lst zs) /\ xs.length + zs.length <= sizeLine /\ ∀ p, H p = none -> Q (.ref p) (upd H p (.lst (xs ++ zs)))
theorem dO : OpR X (binaryOp .Add) KJ := by
 intro pins s σ H x y v u Q I rx ry h
 obtain ⟨l, b, xs, zs, rfl, rfl, hH, hB, hz, q⟩ := h
 cases rx
 cases ry
 obtain ⟨z, its, n, r, hl, e⟩ := I.lstM hH
 obtain ⟨z2, its2, n2, r2, hl2, e2⟩ := I.lstM hB
 refine PySem.P.add_list e e2 ?_ (by rw [List.size_toArray, List.size_toArray]; omega)
 have ea : its.toArray ++ its2.toArray = (its ++ its2).toArray := by simp
 rw [ea]
 exact ⟨.ref _, _, I.lnew (t' := s.toks) (r.append r2) (by rw [List.length_append]; omega), rfl, q _ I.fresh⟩
def J_ : R2 := fun x y H Q => ∃ l k xs, x = .ref l /\ y = .int k /\ H l = some (.lst xs) /\ -(2 ^ 63) <= k /\ k < 2 ^ 63 /\ xs.length * k.toNat <= sizeLine /\
 ∀ p, H p = none -> Q (.ref p) (upd H p (.lst (List.replicate k.toNat xs).flatten))
theorem len_rep {α : Type} (xs : List α) (k : Nat) : (List.replicate k xs).flatten.length = k * xs.length := by
 induction k with
 | zero => simp
 | succ k ih => rw [List.replicate_succ, List.flatten_cons, List.length_append, ih, Nat.succ_mul, Nat.add_comm]
theorem yE : OpR X (binaryOp .Mult) J_ := by
 intro pins s σ H x y v u Q I rx ry h
 obtain ⟨l, k, xs, rfl, rfl, hH, h1, h2, hz, q⟩ := h
 cases rx
 obtain ⟨t, rfl⟩ := ry
 obtain ⟨z, its, n, r, hl, e⟩ := I.lstM hH
 have hlen : its.toArray.size * k.toNat <= sizeLine := by rw [List.size_toArray, <- hl]; exact hz
 have hcap : ¬ its.toArray.size * k.toNat > (2 ^ 63 - 1) / 8 := by
  have : (sizeLine : Nat) <= (2 ^ 63 - 1) / 8 := by decide
  omega
 have hfit : ¬ (!Builtin.List.listFitsIndex k) = true := by
  rw [fitsIndex_both h1 h2]
  exact Bool.false_ne_true
 have hlong : ¬ Builtin.List.listTooLong (its.toArray.size * k.toNat) = true := by
  rw [FQ hlen]
  exact Bool.false_ne_true
 have hnew : List.foldl (fun x1 x2 => x1 ++ x2) #[] (List.replicate (if its.toArray.isEmpty = true then 0 else k.toNat) its.toArray) = (List.replicate k.toNat its).flatten.toArray := by
  have f0 : ∀ m : Nat, List.foldl (fun x1 x2 => x1 ++ x2) #[] (List.replicate m its.toArray) = (List.replicate m its).flatten.toArray := fun m => by
   have := foldl_rep its m []
   rw [List.nil_append] at this
   exact this
  rw [f0]
  cases its with
  | nil => simp
  | cons a r' => rw [if_neg (by simp)]
 refine wpAny_binaryOp_repeat_ref (T := "list") (U := "int") (by decide) ⟨_, e, rfl⟩ (fun s' => typeIs_int s' k t) noFill_list_mul F.fills_int_mul F.slot_int_rmul repeat_list F.slot_int_index.lookup
  (call_meets F.slot_int_rmul (typeIs_int s k t) F.entry_int_rmul (F.args_int_rmul_2 _ _) (int___rmul___int_list k t l its.toArray n)
   ⟨e, rfl, ⟨_, e, rfl⟩, call_meets F.slot_list_mul ⟨_, e, rfl⟩ F.entry_list_mul (F.args_list_mul_2 _ _) (AutoListH.list___mul___list_int_3 l its.toArray n k t hfit hcap hlong) ⟨e, ?_⟩⟩)
 rw [hnew]
 exact ⟨.ref _, _, I.lnew (t' := s.toks) (r.rep k.toNat) (by rw [len_rep, Nat.mul_comm]; exact hz), rfl, q _ I.fresh⟩
end
section
variable {prog : Program} {w : World} {A : Around} {E : Value -> Shared -> Prop} {s : Shared}
end
section
variable {X : Cx}
end
end L2
namespace Att
open PySem PySem.W PySem.Calls PyProof.Rows
theorem qW {P : Params} {h : Heap} : ∀ (ns : List Int) (vs : List Value), WellAll P h vs (ns.map WData.int) -> IntsAre vs ns := by
 intro ns
 induction ns with
 | nil =>
  intro vs w
  rw [List.map_nil] at w
  cases w
  exact .nil
 | cons n ns ih =>
  intro vs w
  rw [List.map_cons] at w
  cases w with
  | cons a b =>
   cases a
   exact .cons _ _ (ih _ b)
theorem Dm {l : OpenLaw} {n : Nat} (hn : l.most = some n) {P : Params} {h : Heap} {args : List WData} {vals : List Value}
  (hpre : l.row.toRowW.claim.pre args = true) (hwl : WellAll P h vals args) :
  ∃ a vs ns, vals = [Value.ref a] /\ args = [WData.list (ns.map WData.int)] /\ h.get? a = some { cls := .type "list", data := .seq vs.toArray } /\ IntsAre vs ns /\ ns.length <= n := by
 have hsh : WShape.hasAll [] args [.list .int] = true := (pre_splitW hpre).1
 have hc : l.pre.holds [] { args := args } = true := (pre_splitW hpre).2
 obtain ⟨d, r, rfl, h1, h2⟩ := hasAllW_cons hsh
 obtain rfl := hasAllW_nil h2
 obtain ⟨xs, rfl, h3⟩ := hasW_list h1
 obtain ⟨ns, rfl⟩ := items_int h3
 have hlen : ns.length <= n := by
  unfold OpenLaw.pre at hc
  have h4 : (WTm.not (.lt (.lit (.int (n : Int))) (.len (.arg 0)))).holds [] { args := [.list (ns.map .int)] } = true := by
   have h4 := (holds_andW hc).1
   rw [hn] at h4
   exact h4
  have h5 := condW_of h4 (w_not (w_lt w_lit (w_len_list (w_arg rfl))))
  rw [List.length_map] at h5
  refine Nat.le_of_not_lt fun q => ?_
  have q' : (n : Int) < ((ns.length : Nat) : Int) := by omega
  first
   | (rw [decide_eq_true q'] at h5; exact absurd h5 (by decide))
   | (simp at h5; omega)
 cases hwl with
 | cons w1 w2 =>
  cases w2
  cases w1 with
  | list ho hall => exact ⟨_, _, ns, rfl, rfl, ho, qW ns _ hall, hlen⟩
theorem Ex (l : OpenLaw) (args : List WData) : l.row.toRowW.claim.post args (.bool true) args = true :=
 postW_of (r := l.row.toRowW) (X := (true == true))
  (show WShape.has [] (.bool true) .bool = true by first | rfl | decide | simp [WShape.has, WShape.arms, WShape.armsAll])
  (show (WTm.eq .res (.lit (.bool true))).value [] { args := args, res := some (.bool true), after := args } = some (.bool (true == true)) from w_eq_bool (w_res rfl) w_lit) rfl
theorem attach_call {l : OpenLaw} {n : Nat} {q : Program} {loose : List Str} {XP : (Str -> Option Value) -> Heap -> Prop} {YP : World -> Heap -> Prop} {d : DefRec}
  (hn : l.most = some n) (hdf : d.params.defaults = [])
  (call : ∀ (w : World) (s₀ s₁ : Shared) (mg mb : Str -> Option Value) (fa : Addr) (o : Obj) (pm cd doc : Value) (a : Addr) (vs : List Value) (ns : List Int),
   Ground q loose [] XP w s₀ mg mb s₁.heap -> YP w s₁.heap ->
   s₁.heap.get? fa = some o -> o.data = .func (docDef d.name d.params d.body d.scope pm cd doc) -> s₁.heap.CodeRec cd d.name -> mg d.name = some (.ref fa) ->
   s₁.heap.get? a = some { cls := .type "list", data := .seq vs.toArray } -> IntsAre vs ns -> ns.length <= n -> s₁.gens = #[] ->
   codeAny (model l.prog w) callerA (.call (.ref fa) ⟨[.ref a], []⟩) (fun r s' => r = .ok (.ret (.bool true)) /\ OldK s₁.heap s'.heap /\ s'.os = s₁.os /\ AllBare s'.gens) s₁) :
  WalkO q loose XP YP l.row.toRowW d [] (fun f vs => PySem.call f vs) := by
 intro w s₀ s₁ mg mb G Y fa o pm cd doc dV kV ho hd hcd hD hmg hg args vals as hpre hlay hrd hwl hlo
 obtain rfl : dV = .none := Dflts.none hD hdf
 obtain rfl : kV = .none := Dflts.noKw hD
 obtain ⟨a, vs, ns, rfl, rfl, hobj, hints, hlen⟩ := Dm hn hpre hwl
 refine enter_call (codeAny_mono (call w s₀ s₁ mg mb fa o pm cd doc a vs ns G Y ho (fd_plain hd) hcd hmg hobj hints hlen hg) fun r s' hq => ?_)
 obtain ⟨rfl, h2, h3, h4⟩ := hq
 exact ⟨.inl ⟨.bool true, .bool true, [], rfl, fun _ => rfl, .bool true, Ex l _, fun _ => ⟨List.Pairwise.nil, fun _ hm => (nomatch hm)⟩⟩, h2, h3, h4⟩
section
variable {prog : Program} {w : World} {A : Around} {E : Value -> Shared -> Prop} {s : Shared} {K : Frag}
def K4 (h : Heap) : Heap := { h with objs := #[] }
def ledger (h : Heap) (L d : Addr) : List (Addr × Obj) := (List.range h.objs.size).filterMap fun a => if a = L \/ a = d then none else (h.get? a).map fun o => (a, o)
end
end Att
namespace L2
open PySem PySem.Spec PyProof.Rows
theorem vd : ∀ {vs : List Value} {ns : List Int}, IntsAre vs ns -> Vals (ns.map V.int) vs
 | _, _, .nil => .nil
 | _, _, .cons n t h => .cons ⟨t, rfl⟩ (vd h)
def Only (H : Hp) : Prop := ∀ b, H b = none \/ ∃ o xs, H b = some (.frz o (.lst xs))
theorem Ga {P : Program} {w : World} {K : PySem.W.Frag} {mg mb : Str -> Option Value} {CX : CXT} {k : Nat} {fa a : Addr} {fd : FuncData} {x : Str} {sp : Sp} {s₁ : Shared} {vs : List Value} {ns : List Int}
  (KX : K.In s₁.heap) (hns : s₁.heap.Ns mainGlobals mg) (hb : s₁.heap.Ns builtinsNs mb) (hbb : ∀ x : Str, x ≠ "__name__" -> mb x = bootBuiltins x) (hlim : s₁.heap.NoLimit) (hg : s₁.gens = #[])
  (ha : s₁.heap.get? a = some { cls := .type "list", data := .seq vs.toArray }) (hi : IntsAre vs ns) (hl : ns.length <= sizeLine) (hr : Room k callerA)
  (F : ∀ base : Heap, K.In base -> base.Ns mainGlobals mg -> FnOk P w K mg base CX k fa fd [x] sp) (hbind : ∀ (s : Shared) (u : Value), BindsTo s fd ⟨[u], []⟩ [(x, u)])
  (hsp : ∀ H : Hp, Only H -> SqL K H a (ns.map V.int) -> sp [.ref a] H (fun v _ => v = .bl true) fun _ _ _ => False)
  (hCX : ∀ H e s', CX [] H s₁ (fun _ _ _ => False) e s' -> False) :
  codeAny (model P w) callerA (.call (.ref fa) ⟨[.ref a], []⟩) (fun r s' => r = .ok (.ret (.bool true)) /\ OldK s₁.heap s'.heap /\ s'.os = s₁.os /\ AllBare s'.gens) s₁ := by
 have rv := vd hi
 have lenV := hi.length
 have core : ∀ H : Hp, Only H -> SqL K H a (ns.map V.int) -> HOk P w H s₁.heap -> (∀ b, H b ≠ none -> b = a) -> (H a ≠ none -> K.lookup a = none) ->
   codeAny (model P w) callerA (.call (.ref fa) ⟨[.ref a], []⟩) (fun r s' => r = .ok (.ret (.bool true)) /\ OldK s₁.heap s'.heap /\ s'.os = s₁.os /\ AllBare s'.gens) s₁ := by
  intro H hO hS hok hA hK
  have base_of : ∀ {b : Addr} {o : Obj}, s₁.heap.get? b = some o -> H b = none -> (mU s₁.heap H).get? b = some o := fun e n => F_ e n
  have noA : ∀ {b : Addr} {o : Obj} {es : Array DictEntry} {ep : Nat}, s₁.heap.get? b = some o -> o.data = .dict es ep -> H b = none := fun {b o es ep} e d => by
   cases q : H b with
   | none => rfl
   | some u =>
    have e' : b = a := hA b (by rw [q]; simp)
    subst e'
    rw [ha] at e; cases e
    have d' : Data.seq vs.toArray _ = Data.dict es ep := d
    cases d'
  have nsK : ∀ {b : Addr} {m : Str -> Option Value}, s₁.heap.Ns b m -> (mU s₁.heap H).Ns b m := fun {b m} ⟨o, es, ep, e, d, r⟩ => ⟨o, es, ep, base_of e (noA e d), d, r⟩
  have hKb : K.In (mU s₁.heap H) := fun b o e => base_of (KX b o e) (by
   cases q : H b with
   | none => rfl
   | some u =>
    have e' : b = a := hA b (by rw [q]; simp)
    subst e'
    rw [hK (by rw [q]; simp)] at e; cases e)
  have hM : Mod K mg (mU s₁.heap H) := ⟨hKb, nsK hns, ⟨mb, nsK hb, hbb⟩, let ⟨mc, h1, h2⟩ := hlim; ⟨mc, nsK h1, h2⟩⟩
  have e0 : Env0 P w K mg (mU s₁.heap H) callerA [] s₁ H := ⟨rfl, hM, fun b o e => Hj e, Nat.le_of_eq (E_ _ _), trivial, fun b hb => absurd (show b ∈ ([] : List Addr) from hb) (by simp), hok, .of_eq hg⟩
  refine codeAny_mono ((F _ hKb (nsK hns)).run callerA [] s₁ H ⟨[.ref a], []⟩ [.ref a] [.ref a] _ _ hr e0 (hbind s₁ (.ref a)) (.cons rfl .nil) (hsp H hO hS)) fun r s' h => ?_
  cases r with
  | error e => exact (hCX H e s' h).elim
  | ok fl =>
   cases fl with
   | next => exact False.elim h
   | brk => exact False.elim h
   | cont => exact False.elim h
   | ret u =>
    obtain ⟨v, H', os, bare, un, hok', r', q⟩ := h
    have q' : v = .bl true := q
    subst q'
    obtain rfl : u = Value.bool true := r'
    refine ⟨rfl, OldK.of_keep fun b o e => ?_, os, bare⟩
    cases q : H b with
    | none => exact un.keep b o e q (by intro z; exact absurd (show b ∈ ([] : List Addr) from z) (by simp)) (by simp)
    | some u =>
     rcases hO b with z | ⟨ob, xs, z⟩
     ·rw [q] at z; cases z
     ·have z2 := un.frzs b ob _ z
      obtain ⟨e1, _⟩ := hok b _ z
      obtain ⟨e2, _⟩ := hok' b _ z2
      rw [e] at e1; cases e1
      exact e2
 cases hk : K.lookup a with
 | some o =>
  have e := KX a o hk
  rw [ha] at e
  cases e
  refine core (fun _ => none) (fun _ => .inl rfl) (.inr ⟨_, vs.toArray, _, hk, rfl, rfl, rfl, by rw [List.size_toArray, lenV]; exact hl, by simpa using rv⟩) (fun b u z => by have z' : (none : Option HO) = some u := z; cases z') (fun b z => absurd rfl z) fun z => absurd rfl z
 | none =>
  refine core (fun b => if b = a then some (.frz { cls := .type "list", data := .seq vs.toArray } (.lst (ns.map V.int))) else none) (fun b => ?_) (.inl (.inr ⟨{ cls := .type "list", data := .seq vs.toArray }, if_pos rfl⟩)) (fun b u z => ?_) (fun b z => ?_) fun _ => hk
  ·by_cases hb : b = a
   ·exact .inr ⟨_, _, if_pos hb⟩
   ·exact .inl (if_neg hb)
  ·by_cases hb : b = a
   ·have z' := (if_pos hb).symm.trans z
    cases z'
    subst hb
    exact ⟨ha, by rw [List.length_map]; exact hl, vs, _, rv, ha⟩
   ·have z' := (if_neg hb).symm.trans z
    cases z'
  ·by_cases hb : b = a
   ·exact hb
   ·exact absurd (if_neg hb) z
end L2
namespace L2
open PySem PySem.Spec PyProof.Rows
abbrev KOf {K : PySem.W.Frag} {h : Heap} (_ : K.In h) : PySem.W.Frag := K
theorem walk_of {l : PySem.W.OpenLaw} {n k : Nat} {q : Program} {loose : List Str} {XP : (Str -> Option Value) -> Heap -> Prop} {YP : World -> Heap -> Prop} {d : DefRec} {K : Params -> PySem.W.Frag} {CX : World -> CXT} {sp : World -> Sp} {x : Str}
  (hn : l.most = some n) (hn2 : n <= sizeLine) (hdf : d.params.defaults = []) (hr : Room k callerA)
  (hY : ∀ (w : World) (h : Heap), YP w h -> (K w.params).In h)
  (F : ∀ (w : World) (mg : Str -> Option Value) (fa : Addr) (h : Heap), (K w.params).In h -> h.Ns mainGlobals mg -> mg d.name = some (.ref fa) ->
   ∃ fd : FuncData, (∀ (s : Shared) (u : Value), BindsTo s fd ⟨[u], []⟩ [(x, u)]) /\
    ∀ base : Heap, (K w.params).In base -> base.Ns mainGlobals mg -> FnOk l.prog w (K w.params) mg base (CX w) k fa fd [x] (sp w))
  (hsp : ∀ (w : World) (H : Hp) (a : Addr) (ns : List Int), ns.length <= n -> Only H -> SqL (K w.params) H a (ns.map V.int) -> sp w [.ref a] H (fun v _ => v = .bl true) fun _ _ _ => False)
  (hCX : ∀ (w : World) (H : Hp) (s : Shared) (e : Value) (s' : Shared), CX w [] H s (fun _ _ _ => False) e s' -> False) :
  PySem.W.WalkO q loose XP YP l.row.toRowW d [] (fun f vs => PySem.call f vs) := by
 refine Att.attach_call hn hdf fun w s₀ s₁ mg mb fa o pm cd doc a vs ns G Y ho hd hcd hmg hobj hints hlen hg => ?_
 have KX := hY w _ Y
 obtain ⟨fd, hb, hF⟩ := F w mg fa _ KX G.T.g hmg
 exact Ga KX G.T.g G.T.b G.T.builtins G.T.nolimit hg hobj hints (Nat.le_trans hlen hn2) hr hF hb (fun H hO hS => hsp w H a ns hlen hO hS) fun H e s' => hCX w H s₁ e s'
end L2
namespace L2
open PySem PySem.Spec PyProof.Rows
def inClass (s : Stmt) (j : Nat) : Stmt := match s with
 | .ClassDef _ _ _ body _ _ _ _ _ _ _ => body.getD j (.Pass ⟨0, 0, 0, 0⟩)
 | _ => .Pass ⟨0, 0, 0, 0⟩
def dW (s : Stmt) : Arguments := match s with
 | .FunctionDef _ a _ _ _ _ _ _ _ _ => a
 | _ => { posonlyargs := [], args := [], vararg := none, kwonlyargs := [], kw_defaults := [], kwarg := none, defaults := [] }
def cT (s : Stmt) : List Stmt := match s with
 | .FunctionDef _ _ b _ _ _ _ _ _ _ => b
 | _ => []
def aC (s : Stmt) : Scope := match s with
 | .FunctionDef _ _ _ _ _ _ sc _ _ _ => sc
 | _ => { kind := .function, names := [], isGenerator := false, isCoroutine := false }
abbrev CX0 : CXT := fun _ _ _ _ _ _ => False
abbrev E0 : XK := fun _ _ _ => False
theorem G8 {X : Cx} : oY CX0 X E0 := fun _ _ _ _ _ _ _ h => h.elim
structure Fun (K : PySem.W.Frag) (x qual : Str) (st : Stmt) (f : Addr) (fd : FuncData) : Prop where
 ex : ∃ (oc : Value) (od : Option Addr) (kV doc pm : Value) (an : Option Addr) (cdv ct : Value) (osl : Array (Option Value)),
  fd = PySem.W.fnOf x qual (dW st) (cT st) (aC st) .none kV doc pm an cdv ct /\ K.lookup f = some ⟨oc, od, .func fd, osl⟩ /\ PySem.W.codeIn K cdv qual = true
 kp : PySem.W.keepIn K (.ref f) = true
section
variable {P : Program} {w : World} {K : PySem.W.Frag} {mg : Str -> Option Value} {base : Heap}
theorem Fun.ok {x qual : Str} {st : Stmt} {f : Addr} {fd : FuncData} {N ps : List Str} {k : Nat} {sp : Sp} (F : Fun K x qual st f fd) (S : FnScope N ps (aC st)) (len : ∀ vs H Q E, sp vs H Q E -> vs.length = ps.length)
  (hbody : ∀ (cdv : Value) (A : Around) (outer : List Env) (s : Shared) (H : Hp) (vs : List V) (Q : VK) (E : XK), Room k (A.deeper (envOfC qual (aC st) s.heap.objs.size f cdv)) -> sp vs H Q E ->
   ∃ t, PSs (oJ CX0 P w K mg base N qual (aC st) f cdv A outer s H E).nox (cT st) t /\ t { nx := fun _ H' => Q .non H', rt := Q } (start N vs) H) : FnOk P w K mg base CX0 (k + 1) f fd ps sp := by
 obtain ⟨oc, od, kV, doc, pm, an, cdv, ct, osl, rfl, lk, hcd⟩ := F.ex
 refine JW lk hcd S len fun A outer s H vs Q E hr hsp => ?_
 obtain ⟨t, h, q⟩ := hbody cdv A outer s H vs Q E hr hsp
 exact ⟨t, h.nox, q⟩
theorem Fun.binds {x qual : Str} {st : Stmt} {f : Addr} {fd : FuncData} {ps : List Str} (F : Fun K x qual st f fd)
  (h : ∀ (kV doc pm : Value) (an : Option Addr) (cdv ct : Value) (us : List Value), us.length = ps.length -> bindArgs (PySem.W.fnOf x qual (dW st) (cT st) (aC st) .none kV doc pm an cdv ct) ⟨us, []⟩ = pure (ps.zip us)) : Binds K fd ps [] := by
 obtain ⟨oc, od, kV, doc, pm, an, cdv, ct, osl, rfl, lk, hcd⟩ := F.ex
 exact .all (h kV doc pm an cdv ct)
theorem ww {x qual : Str} {st : Stmt} {f : Addr} {oc : Value} {od an : Option Addr} {osl : Array (Option Value)} {kV doc pm cdv ct : Value} (l : K.lookup f = some ⟨oc, od, .func (PySem.W.fnOf x qual (dW st) (cT st) (aC st) .none kV doc pm an cdv ct), osl⟩)
  (c : PySem.W.codeIn K cdv qual = true) (k : PySem.W.keepIn K (.ref f) = true) : Fun K x qual st f (PySem.W.fnOf x qual (dW st) (cT st) (aC st) .none kV doc pm an cdv ct) := ⟨⟨oc, od, kV, doc, pm, an, cdv, ct, osl, rfl, l, c⟩, k⟩
end
theorem aJ {n : Nat} (h : n <= 1000) : n < sizeLine := Nat.lt_of_le_of_lt h (by decide)
section
variable {X : Cx}
theorem pv (i : Nat) {x : Str} {pos : Pos} (hN : X.N[i]? = some x := by rfl) (hv : Vis X.env.scope x := by first | exact Or.inl rfl | exact Or.inr (Or.inl rfl) | exact Or.inr (Or.inr rfl)) (hd : (x == ("__debug__" : Str)) = false := by decide)
  (hcd : (x == ("__classdict__" : Str)) = false := by decide) : PE X (.Name x pos) (JM i) := Ip hN hv hd hcd
end
theorem cD {A B : Prop} (h : B) : if false = true then A else B := by
 rw [if_neg Bool.false_ne_true]
 exact h
theorem d_ {A B : Prop} (h : A) : if true = true then A else B := by
 rw [if_pos rfl]
 exact h
theorem mY {c A B : Prop} [Decidable c] (h1 : c -> A) (h2 : ¬ c -> B) : if c then A else B := by
 by_cases h : c
 ·rw [if_pos h]
  exact h1 h
 ·rw [if_neg h]
  exact h2 h
theorem G6 {c A B : Prop} [Decidable c] (hc : c) (h : B) : if (!decide c) = true then A else B := by
 rw [decide_eq_true hc]
 exact cD h
def Same (H H' : Hp) : Prop := ∀ b o, H b = some o -> H' b = some o
theorem Same.refl (H : Hp) : Same H H := fun _ _ h => h
theorem Same.trans {H H1 H2 : Hp} (a : Same H H1) (b : Same H1 H2) : Same H H2 := fun c o h => b c o (a c o h)
theorem Same.free {H H' : Hp} (e : Same H H') {l : Addr} (h : H' l = Option.none) : H l = Option.none := by
 cases q : H l with
 | none => rfl
 | some o =>
  rw [e l o q] at h
  cases h
theorem Same.seq {K : PySem.W.Frag} {H H' : Hp} {a : Addr} {xs : List V} (e : Same H H') (h : SqL K H a xs) : SqL K H' a xs := by
 rcases h with (h | ⟨o, h⟩) | h
 ·exact .inl (.inl (e _ _ h))
 ·exact .inl (.inr ⟨o, e _ _ h⟩)
 ·exact .inr h
end L2
set_option Elab.async false
set_option linter.all false
set_option maxRecDepth 100000
namespace L2
open PySem PySem.Spec PyProof.Rows
theorem Inv.track {X : Cx} {pins : List (Addr × Obj)} {σ : St} {H : Hp} {s : Shared} {D : Addr} {o : HO} (I : Inv X pins σ H s) (f : fK X pins H D) (new : ObjOk X.prog X.w (upd H D o) s.heap D o) : Inv X pins σ (upd H D o) s := by
 obtain ⟨f0, f1, f2, f3, f4, f5⟩ := f
 refine I.step (h' := s.heap) (g' := s.gens) (d' := s.drawn) (t' := s.toks) (ch := [D]) (fun b hb => ?_) (fun b u _ _ _ e _ => e) (fun b u _ _ _ e _ => ⟨u.slots, e⟩) (fun b u hc _ n => ?_) (fun b u _ e => ⟨u, e⟩)
  (fun b xs q => ?_) (fun b u xs q => ?_) (fun b ps q => ⟨#[], ?_⟩) (fun m hm => hm) (fun b u e => ?_) I.bare
 ·have e : b = D := by simpa using hb
  subst e
  exact ⟨f3, f1, f4, f5⟩
 ·rw [aH (by simpa using hc)]
  exact n
 ·rw [aH (aV q f0)]
  exact q
 ·rw [aH (aV q f0)]
  exact q
 ·rw [aH (aV q f0), q]
  simp
 ·by_cases hb : b = D
  ·subst hb
   rw [aq] at e
   cases e
   exact new
  ·rw [aH hb] at e
   exact (I.hok b u e).stay (fun c v _ q => q) (fun c q => by rw [aH (aV q f0)]; exact q) fun c xs q => by rw [aH (aV q f0)]; exact q
def fX (scope : Scope) (env : Env) : List (Str × Addr) :=
 scope.names.foldl (fun acc x => if x.2 == .free then (match env.cells.lookup x.1 with | some a => (x.1, a) :: acc | none => acc) else acc) []
theorem yt {env : Env} : ∀ (names : List (Str × NameKind)) (acc : List (Str × Addr)), (∀ x c, acc.lookup x = some c -> env.cells.lookup x = some c) ->
  ∀ x c, (names.foldl (fun acc x => if x.2 == .free then (match env.cells.lookup x.1 with | some a => (x.1, a) :: acc | none => acc) else acc) acc).lookup x = some c -> env.cells.lookup x = some c
 | [], acc, h, x, c, e => h x c e
 | (n, k) :: r, acc, h, x, c, e => by
  rw [List.foldl_cons] at e
  refine yt r _ (fun y d q => ?_) x c e
  by_cases hk : (k == NameKind.free) = true
  ·simp only [hk, if_true] at q
   cases hc : env.cells.lookup n with
   | none => rw [hc] at q; exact h y d q
   | some a =>
    rw [hc] at q
    simp only [List.lookup_cons] at q
    cases hy : y == n with
    | true =>
     rw [hy] at q
     have : y = n := by simpa using hy
     subst this
     rw [hc]
     exact q
    | false =>
     rw [hy] at q
     exact h y d q
  ·rw [if_neg hk] at q
   exact h y d q
theorem oN {scope : Scope} {env : Env} {x : Str} {c : Addr} (e : (fX scope env).lookup x = some c) : env.cells.lookup x = some c :=
 yt scope.names [] (fun _ _ q => by simp at q) x c e
theorem pP {env : Env} {x : Str} : ∀ (names : List (Str × NameKind)) (acc : List (Str × Addr)), (acc.lookup x).isSome = true ->
  ((names.foldl (fun acc x => if x.2 == .free then (match env.cells.lookup x.1 with | some a => (x.1, a) :: acc | none => acc) else acc) acc).lookup x).isSome = true
 | [], _, h => h
 | (n, k) :: r, acc, h => by
  rw [List.foldl_cons]
  refine pP r _ ?_
  by_cases hk : (k == NameKind.free) = true
  ·simp only [hk, if_true]
   cases hc : env.cells.lookup n with
   | none => exact h
   | some a =>
    simp only [List.lookup_cons]
    cases hy : x == n with
    | true => rfl
    | false => exact h
  ·rw [if_neg hk]
   exact h
theorem qY {env : Env} {x : Str} {c : Addr} (hc : env.cells.lookup x = some c) : ∀ (names : List (Str × NameKind)) (acc : List (Str × Addr)), (x, NameKind.free) ∈ names ->
  ((names.foldl (fun acc x => if x.2 == .free then (match env.cells.lookup x.1 with | some a => (x.1, a) :: acc | none => acc) else acc) acc).lookup x).isSome = true
 | [], _, h => nomatch h
 | (n, k) :: r, acc, h => by
  rw [List.foldl_cons]
  rcases List.mem_cons.mp h with e | h
  ·cases e
   refine pP r _ ?_
   simp [hc, List.lookup_cons]
  ·exact qY hc r _ h
theorem vp {scope : Scope} {env : Env} {x : Str} {c : Addr} (hc : env.cells.lookup x = some c) (hm : (x, NameKind.free) ∈ scope.names) : (fX scope env).lookup x = some c := by
 have h := qY (env := env) hc scope.names [] hm
 obtain ⟨d, e⟩ := Option.isSome_iff_exists.mp h
 have e' : (fX scope env).lookup x = some d := e
 have := oN e'
 rw [hc] at this
 cases this
 exact e'
theorem iT {env : Env} : ∀ (names : List (Str × NameKind)) (acc : List (Str × Addr)), (∀ n, (n, NameKind.free) ∈ names -> ∃ c, env.cells.lookup n = some c) ->
  (forIn names acc fun x r => (if x.2 == .free then do let c <- cellOf env x.1; pure (ForInStep.yield ((x.1, c) :: r)) else pure (ForInStep.yield r) : Sem _)) =
   pure (names.foldl (fun acc x => if x.2 == .free then (match env.cells.lookup x.1 with | some a => (x.1, a) :: acc | none => acc) else acc) acc)
 | [], _, _ => rfl
 | (n, k) :: r, acc, h => by
  rw [List.forIn_cons, List.foldl_cons]
  by_cases hk : (k == NameKind.free) = true
  ·have hk' : k = .free := by simpa using hk
   obtain ⟨c, hc⟩ := h n (by rw [hk']; exact List.mem_cons_self)
   simp only [hk, if_true, cellOf, hc]
   exact iT r _ fun y hy => h y (List.mem_cons_of_mem _ hy)
  ·simp only [hk, if_false, Bool.false_eq_true]
   exact iT r _ fun y hy => h y (List.mem_cons_of_mem _ hy)
theorem vK {scope : Scope} {env : Env} (h : ∀ n, (n, NameKind.free) ∈ scope.names -> ∃ c, env.cells.lookup n = some c) : closureFor scope env = pure (fX scope env) := by
 have e := iT (env := env) scope.names [] h
 unfold fX
 show (forIn scope.names [] (fun x r => (if x.2 == .free then do let c <- cellOf env x.1; pure (ForInStep.yield ((x.1, c) :: r)) else pure (ForInStep.yield r) : Sem _)) >>= fun cs => pure cs) = _
 rw [e]
 rfl
theorem xn {scope : Scope} {env : Env} {x : Str} (h : (relabel scope env).names.lookup x = some .cell \/ (relabel scope env).names.lookup x = some .free) : scope.names.lookup x = some .free \/ scope.names.lookup x = some .cell := by
  have go : ∀ names : List (Str × NameKind),
      ((names.map fun (n, k) => if (k == NameKind.free && env.scope.kind == .function && env.kindOf n == some .cell) then (n, NameKind.cell) else (n, k)).lookup x = some .cell \/
       (names.map fun (n, k) => if (k == NameKind.free && env.scope.kind == .function && env.kindOf n == some .cell) then (n, NameKind.cell) else (n, k)).lookup x = some .free) -> names.lookup x = some .free \/ names.lookup x = some .cell := by
    intro names
    induction names with
    | nil => intro h; simp at h
    | cons y r ih =>
      obtain ⟨n, k⟩ := y
      intro h
      rw [List.map_cons] at h
      cases hx : x == n with
      | true =>
        rw [List.lookup_cons, hx]
        by_cases hf : (k == NameKind.free && env.scope.kind == .function && env.kindOf n == some .cell) = true
        · have : (k == NameKind.free) = true := by
            cases q : (k == NameKind.free) with
            | true => rfl
            | false => rw [q] at hf; simp at hf
          have e : k = .free := by simpa using this
          rw [e]
          exact .inl rfl
        · simp only [hf, Bool.false_eq_true, if_false, List.lookup_cons, hx] at h
          rcases h with h | h
          · exact .inr h
          · exact .inl h
      | false =>
        rw [List.lookup_cons, hx]
        refine ih ?_
        by_cases hf : (k == NameKind.free && env.scope.kind == .function && env.kindOf n == some .cell) = true
        · simpa only [hf, if_true, List.lookup_cons, hx] using h
        · simpa only [hf, Bool.false_eq_true, if_false, List.lookup_cons, hx] using h
  exact go scope.names h
theorem zH {scope : Scope} {env : Env} {x : Str} (h : scope.names.lookup x = some .free) : (relabel scope env).names.lookup x = some .cell \/ (relabel scope env).names.lookup x = some .free := by
  have go : ∀ names : List (Str × NameKind), names.lookup x = some .free ->
      ((names.map fun (n, k) => if (k == NameKind.free && env.scope.kind == .function && env.kindOf n == some .cell) then (n, NameKind.cell) else (n, k)).lookup x = some .cell \/
       (names.map fun (n, k) => if (k == NameKind.free && env.scope.kind == .function && env.kindOf n == some .cell) then (n, NameKind.cell) else (n, k)).lookup x = some .free) := by
    intro names
    induction names with
    | nil => intro h; simp at h
    | cons y r ih =>
      obtain ⟨n, k⟩ := y
      intro h
      rw [List.map_cons]
      cases hx : x == n with
      | true =>
        rw [List.lookup_cons, hx] at h
        have e : k = .free := Option.some.inj h
        subst e
        by_cases hf : ((NameKind.free == NameKind.free) && env.scope.kind == .function && env.kindOf n == some .cell) = true
        · left; simp only [hf, if_true, List.lookup_cons, hx]
        · right; simp only [hf, Bool.false_eq_true, if_false, List.lookup_cons, hx]
      | false =>
        rw [List.lookup_cons, hx] at h
        by_cases hf : (k == NameKind.free && env.scope.kind == .function && env.kindOf n == some .cell) = true
        · simpa only [hf, if_true, List.lookup_cons, hx] using ih h
        · simpa only [hf, Bool.false_eq_true, if_false, List.lookup_cons, hx] using ih h
  exact go scope.names h
theorem iJ : ∀ {names : List (Str × NameKind)} {x : Str}, names.lookup x = some .free -> (x, NameKind.free) ∈ names := fun h => PySem.mem_of_lookup h
theorem dh : ∀ (names : List (Str × NameKind)) (n : Nat) (acc : List (Str × Addr)), cellsFrom n names acc = cellsFrom n names [] ++ acc
 | [], _, _ => rfl
 | (x, k) :: r, n, acc => by
  unfold cellsFrom
  split
  ·rw [dh r (n + 1) ((x, n) :: acc), dh r (n + 1) [(x, n)], List.append_assoc]
   rfl
  ·exact dh r n acc
theorem iW : ∀ {names : List (Str × NameKind)} {n : Nat} {acc : List (Str × Addr)} {x : Str} {c : Addr}, (x, c) ∈ cellsFrom n names acc -> (x, NameKind.cell) ∈ names \/ (x, c) ∈ acc
 | [], _, _, _, _, h => .inr h
 | (y, k) :: r, n, acc, x, c, h => by
  unfold cellsFrom at h
  split at h
  ·rename_i hk
   have hk' : k = .cell := by simpa using hk
   rcases iW h with q | q
   ·exact .inl (List.mem_cons_of_mem _ q)
   ·rcases List.mem_cons.mp q with e | q
    ·cases e
     rw [hk']
     exact .inl List.mem_cons_self
    ·exact .inr q
  ·rcases iW h with q | q
   ·exact .inl (List.mem_cons_of_mem _ q)
   ·exact .inr q
def d8 (scope : Scope) (env : Env) (C : Addr) : List (Str × Addr) := cellsFrom (C + 1) scope.names (fX scope env)
theorem cF {scope : Scope} {env : Env} {C : Addr} {x : Str} {c : Addr} (e : (d8 scope env C).lookup x = some c) : (x, c) ∈ cellsFrom (C + 1) scope.names [] \/ ((cellsFrom (C + 1) scope.names []).lookup x = none /\ (fX scope env).lookup x = some c) := by
 unfold d8 at e
 rw [dh, List.lookup_append] at e
 cases q : (cellsFrom (C + 1) scope.names []).lookup x with
 | some d =>
  rw [q] at e
  have e' : d = c := by simpa using e
  subst e'
  exact .inl (PySem.mem_of_lookup q)
 | none =>
  rw [q] at e
  exact .inr ⟨rfl, by simpa using e⟩
theorem zE {M : Model} {A : Around} {E : Value -> Shared -> Prop} {s : Shared} {scope : Scope} {globals : Addr} {cl : List (Str × Addr)} {qual : Str} {env : Env} {Q : Env -> Shared -> Prop}
  (hQ : ∀ h', h'.Ns s.heap.objs.size (fun _ => none) -> (∀ b o, s.heap.get? b = some o -> h'.get? b = some o) -> CellsOk h' (s.heap.objs.size + 1) (cellsFrom (s.heap.objs.size + 1) scope.names []) ->
   Q (newEnv scope s.heap.objs.size globals (cellsFrom (s.heap.objs.size + 1) scope.names cl) qual none .none (some env) builtinsNs) { s with heap := h' }) :
  wpAny M A (newFunctionEnv scope globals cl [] qual none .none (some env)) Q E s := by
 simp only [newFunctionEnv, Option.isSome_some, if_true]
 refine wpAny_bind (wpAny_alloc ?_)
 refine wpAny_bind (wpAny_layCells _ (fun name kind cells => by cases hkc : kind == NameKind.cell <;> simp [hkc]) _ _ _ _ ?_)
 have ok := cellsFrom_ok scope.names (s.heap.push { cls := .type "dict", data := .dict #[] }) (s.heap.objs.size + 1) [] ⟨fun _ _ hm => (nomatch hm), List.Pairwise.nil⟩ (by rw [Heap.size_push]; exact Nat.le_refl _)
 rw [Heap.size_push] at ok
 rw [show ({ s with heap := s.heap.push { cls := .type "dict", data := .dict #[] } } : Shared).heap.objs.size = s.heap.objs.size + 1 from Heap.size_push ..]
 refine wpAny_bind (wpAny_pure (wpAny_pure ?_))
 exact hQ _ ((Heap.Ns.new s.heap (.type "dict")).keeps (pushCells_keeps _ _)) (fun b o e => pushCells_keeps _ _ b o (Heap.get?_push_of_some _ e)) ok
def bI (X : Cx) (pins : List (Addr × Obj)) (scope : Scope) (N' : List Str) (fp : List Addr) (s2 : Shared) (C : Addr) (H : Hp) : Cx where
 prog := X.prog
 w := X.w
 K := X.K
 mg := X.mg
 base := X.base
 A := X.A
 N := N'
 s₀ := s2
 H₀ := H
 env := compEnvC scope (d8 scope X.env C) C X.env
 outer := X.stack
 stack := X.stack
 ex := fp
 fn := fun x => scope.names.lookup x == some .cell
 calm := X.calm
 pn := X.pn ++ pins
 xe := fun _ _ => False
def d7 (src : List (Option Nat)) (σ : St) : St := src.map fun o => match o with | none => none | some j => (σ[j]?).getD none
def sX (scope around : Scope) (N N' : List Str) (src : List (Option Nat)) : Bool :=
 scope.kind == .function && scope.names.all (fun x => (x.2 != .cell || scope.names.lookup x.1 == some .cell) && (x.2 != .local || scope.names.lookup x.1 == some .local) && (x.2 != .free || around.names.lookup x.1 == some .cell || around.names.lookup x.1 == some .free)) &&
 N'.length == src.length && (N'.zip src).all fun x => match x.2 with | none => true | some j => N[j]? == some x.1 && scope.names.lookup x.1 == some .free
structure CompOk (scope around : Scope) (N N' : List Str) (src : List (Option Nat)) : Prop where
 kind : scope.kind = .function
 cellk : ∀ y ∈ scope.names, y.2 = .cell -> scope.names.lookup y.1 = some .cell
 loc : ∀ y ∈ scope.names, y.2 = .local -> scope.names.lookup y.1 = some .local
 free : ∀ y, (y, NameKind.free) ∈ scope.names -> around.names.lookup y = some .cell \/ around.names.lookup y = some .free
 len : N'.length = src.length
 src : ∀ (i j : Nat) (x : Str), N'[i]? = some x -> src[i]? = some (some j) -> N[j]? = some x /\ scope.names.lookup x = some .free
theorem CompOk.of {scope around : Scope} {N N' : List Str} {src : List (Option Nat)} (h : sX scope around N N' src = true) : CompOk scope around N N' src := by
 unfold sX at h
 simp only [Bool.and_eq_true, List.all_eq_true] at h
 obtain ⟨⟨⟨h1, h2⟩, h3⟩, h4⟩ := h
 refine ⟨by simpa using h1, fun y hy e => ?_, fun y hy e => ?_, fun y hy => ?_, by simpa using h3, fun i j x e1 e2 => ?_⟩
 ·have := (h2 y hy).1.1
  rw [e] at this
  simpa using this
 ·have := (h2 y hy).1.2
  rw [e] at this
  simpa using this
 ·have := (h2 _ hy).2
  simpa using this
 ·have hm : (x, some j) ∈ N'.zip src := by
   refine List.mem_of_getElem? (i := i) ?_
   rw [List.getElem?_zip_eq_some]
   exact ⟨e1, e2⟩
  have := h4 _ hm
  simpa using this
theorem Cw {src : List (Option Nat)} {σ : St} {i : Nat} {v : V} (e : (d7 src σ)[i]? = some (some v)) : ∃ j, src[i]? = some (some j) /\ σ[j]? = some (some v) := by
 unfold d7 at e
 rw [List.getElem?_map] at e
 cases q : src[i]? with
 | none => rw [q] at e; cases e
 | some o =>
  rw [q] at e
  cases o with
  | none => simp at e
  | some j =>
   refine ⟨j, rfl, ?_⟩
   have e' : (σ[j]?).getD none = some v := by simpa using e
   cases r : σ[j]? with
   | none => rw [r] at e'; cases e'
   | some y => rw [r] at e'; simpa using e'
section
variable {X : Cx} {pins : List (Addr × Obj)} {σ : St} {H : Hp} {s2 : Shared} {scope : Scope} {N' : List Str} {src : List (Option Nat)} {fp : List Addr} {C : Addr}
theorem xG (k : CompOk scope X.env.scope X.N N' src) (I : Inv X pins σ H s2) (m : Str -> Option Value) (i : Nat) (x : Str) (v : V) (e1 : N'[i]? = some x) (e2 : (d7 src σ)[i]? = some (some v)) :
  ∃ u, RelV v u /\ Look (compEnvC scope (d8 scope X.env C) C X.env) s2.heap m x u := by
 obtain ⟨j, ej, ev⟩ := Cw e2
 obtain ⟨hN, hf⟩ := k.src i j x e1 ej
 have hm := iJ hf
 have hk : X.env.scope.names.lookup x = some .cell \/ X.env.scope.names.lookup x = some .free := k.free x hm
 obtain ⟨m0, _, hl⟩ := I.loc
 obtain ⟨u, r, lk⟩ := hl j x v hN ev (.inr hk)
 refine ⟨u, r, .inr ⟨zH hf, ?_⟩⟩
 rcases lk with ⟨q, _⟩ | ⟨_, c, hc, z⟩
 ·have q' : X.env.scope.names.lookup x = some .local := q
  rcases hk with w | w
  ·rw [w] at q'; cases q'
  ·rw [w] at q'; cases q'
 ·refine ⟨c, ?_, z⟩
  have q : (cellsFrom (C + 1) scope.names []).lookup x = none := by
   cases q : (cellsFrom (C + 1) scope.names []).lookup x with
   | none => rfl
   | some d =>
    rcases iW (PySem.mem_of_lookup q) with y | y
    ·have := k.cellk _ y rfl
     rw [hf] at this
     cases this
    ·exact nomatch y
  show (d8 scope X.env C).lookup x = some c
  unfold d8
  rw [dh, List.lookup_append, q, vp hc hm]
  rfl
theorem zJ (k : CompOk scope X.env.scope X.N N' src) {s0 : Shared} {H0 : Hp} {pl : List (Addr × Obj)} {σ' : St} (I : Inv X pins σ H s2) (I' : Inv (bI X pins scope N' fp s0 C H0) pl σ' H s2) : Inv (bI X pins scope N' fp s0 C H0) pl (d7 src σ) H s2 := by
 obtain ⟨m, hns, _⟩ := I'.loc
 refine ⟨I'.ok, I'.os, I'.bare, I'.base, ⟨m, hns, fun i x v e1 e2 _ => xG (C := C) k I m i x v e1 e2⟩, I'.cell, I'.free, I'.freeC, I'.pin, I'.hok, ?_⟩
 unfold d7
 rw [List.length_map]
 exact k.len.symm
theorem Gk (k : CompOk scope X.env.scope X.N N' src) (I : Inv X pins σ H s2) (f : ∀ b ∈ fp, fK X pins H b) (fo : ∀ b ∈ fp, ∃ o, s2.heap.get? b = some o) (hC : s2.heap.objs.size <= C) {h1 : Heap} {tk : Nat} {m : Str -> Option Value} (hns : h1.Ns C m)
  (old : ∀ b o, s2.heap.get? b = some o -> h1.get? b = some o) (own : CellsOk h1 (C + 1) (cellsFrom (C + 1) scope.names [])) : Inv (bI X pins scope N' fp s2 C H) [] (d7 src σ) H { s2 with heap := h1, toks := tk } := by
 have sub : ∀ x c, (fX scope X.env).lookup x = some c -> X.env.cells.lookup x = some c := fun x c e => oN e
 have oldc : ∀ x c, (fX scope X.env).lookup x = some c -> c < s2.heap.objs.size := fun x c e => by
  obtain ⟨v, q⟩ := I.cell x c (sub x c e)
  exact q.lt
 have ltC : ∀ b o, s2.heap.get? b = some o -> b ≠ C := fun b o e => Nat.ne_of_lt (Nat.lt_of_lt_of_le (Heap.lt_size e) hC)
 have nst : ∀ b, b ≠ X.env.locals -> b ∉ X.fs -> b ∉ frs X.stack := fun b h1 h2 hb => by
  rcases List.mem_cons.mp (I.stkSub b hb) with z | z
  ·exact h1 z
  ·exact h2 z
 refine ⟨⟨I.ok.mod, k.kind, I.ok.glob, I.ok.blt, hC, fun x y c e1 e2 => ?_, fun x hx => ?_, fun x c z e => ?_, I.ok.hd, I.ok.frames, .inl rfl, fun b hb => ⟨?_, fun x c e => ?_⟩,
   I.bs, Nat.le_trans I.ok.bsz I.sz, fun b o e hb => ?_, fun b hb => nst b (f b hb).2.1 (f b hb).2.2.1, I.stack, I.stkFree⟩,
  rfl, I.bare, Un.kept old, ⟨m, hns, fun i x v e1 e2 _ => ?_⟩, fun x c e => ?_, I.hok.fresh hC, fun x c e => ?_, fun p hp => ?_, I.hok.kept old, ?_⟩
 ·rcases cF e1 with q | ⟨_, q⟩
  ·rcases cF e2 with r | ⟨_, r⟩
   ·exact name_of_addr own.apart q r
   ·have h1 := (own.empty _ _ q).2
    have h2 := oldc _ _ r
    exact absurd (Nat.lt_of_lt_of_le h2 hC) (by omega)
  ·rcases cF e2 with r | ⟨_, r⟩
   ·have h1 := (own.empty _ _ r).2
    have h2 := oldc _ _ q
    exact absurd (Nat.lt_of_lt_of_le h2 hC) (by omega)
   ·exact I.ok.inj x y c (sub x c q) (sub y c r)
 ·show ∃ c, (d8 scope X.env C).lookup x = some c
  unfold d8
  rw [dh, List.lookup_append]
  cases q : (cellsFrom (C + 1) scope.names []).lookup x with
  | some d => exact ⟨d, by simp⟩
  | none =>
   rcases xn hx with hf | hf
   ·have hm := iJ hf
    have hk : X.env.kindOf x = some .cell \/ X.env.kindOf x = some .free := k.free x hm
    obtain ⟨c, hc⟩ := I.ok.has x hk
    exact ⟨c, by rw [vp hc hm]; rfl⟩
   ·have := PySem.W.cellsFrom_some scope.names (C + 1) [] (.inl hf)
    rw [q] at this
    cases this
 ·have z1 : (scope.names.lookup x == some NameKind.cell) = true := z
  have z' : scope.names.lookup x = some .cell := by simpa using z1
  rcases cF e with q | ⟨q, _⟩
  ·exact Nat.le_trans hC (by have := (own.empty _ _ q).2; omega)
  ·have := PySem.W.cellsFrom_some scope.names (C + 1) [] (.inl z')
   rw [q] at this
   cases this
 ·obtain ⟨o, e⟩ := fo b hb
  exact ltC b o e
 ·rcases cF e with q | ⟨_, q⟩
  ·obtain ⟨o, eb⟩ := fo b hb
   have h1 := (own.empty _ _ q).2
   have h2 := Nat.lt_of_lt_of_le (Heap.lt_size eb) hC
   exact Nat.ne_of_gt (Nat.lt_of_lt_of_le h2 (Nat.le_trans (Nat.le_succ C) h1))
  ·exact (f b hb).2.2.2.2.1 x c (sub x c q)
 ·rcases (f b hb).2.2.2.1 with z | z
  ·exact I.ok.noex b o e z
  ·exact absurd (Nat.lt_of_lt_of_le (Heap.lt_size e) (Nat.le_trans I.ok.bsz z)) (Nat.lt_irrefl _)
 ·exact xG (C := C) k (I.kept (t' := tk) old) m i x v e1 e2
 ·rcases cF e with q | ⟨_, q⟩
  ·exact ⟨_, (own.empty _ _ q).1⟩
  ·obtain ⟨v, o, ho, hd⟩ := I.cell x c (sub x c q)
   exact ⟨v, o, old c o ho, hd⟩
 ·rcases cF e with q | ⟨_, q⟩
  ·exact I.hok.fresh (by have := (own.empty _ _ q).2; omega)
  ·exact I.freeC x c (sub x c q)
 ·have hp' : p ∈ X.pn ++ pins := by
   have : p ∈ (X.pn ++ pins) ++ [] := hp
   simpa using this
  obtain ⟨e, n, ne, nf, d⟩ := I.pin p hp'
  exact ⟨old _ _ e, n, ltC _ _ e, nst _ ne nf, d⟩
 ·unfold d7
  rw [List.length_map]
  exact k.len.symm
end
def PTs (X : Cx) (ifs : List Expr) (t : TT) : Prop :=
 ∀ (pins : List (Addr × Obj)) (s : Shared) (σ : St) (H : Hp) (Q : Bool -> Hp -> Prop), Inv X pins σ H s -> t σ H Q ->
  wpAny (model X.prog X.w) X.A (forIn ifs true fun c r => if r = true then do let ok <- isTrue c X.env (eval c X.env); pure (ForInStep.yield ok) else pure (ForInStep.yield r)) (TP X pins σ Q) X.xe s
def kJ : TT := fun _ H Q => Q true H
theorem aW {X : Cx} : PTs X [] kJ := fun _ _ _ H _ I h => wpAny_tests_nil ⟨H, I, h⟩
theorem uv {X : Cx} {c : Expr} {t : TT} (h : PT X c t) : PTs X [c] t := fun pins s σ H Q I hw => wpAny_tests_one (h pins s σ H Q I hw)
theorem xf {prog : Program} {w : World} {A : Around} {R : Result -> Shared -> Prop} {s : Shared} {elt target iter : Expr} {ifs : List Expr} {scope : Scope} {pos : Pos} {it acc : Value} {env : Env} (I : Nat -> Shared -> Prop)
  (turn : ∀ n s, I n s -> wpAny (model prog w) A (pyNext it) (fun r s₁ => match r with
   | none => R (.ok .next) s₁
   | some v => wpAny (model prog w) A (letOwnedTupleGo target it v) (fun _ s₀ => wpAny (model prog w) A (assign target env v) (fun _ s₂ =>
     wpAny (model prog w) A (forIn ifs true fun c r => if r = true then do let ok <- isTrue c env (eval c env); pure (ForInStep.yield ok) else pure (ForInStep.yield r)) (fun ok s₃ =>
      if ok = true then wpAny (model prog w) A (eval elt env) (fun x s₄ =>
       wpAny (model prog w) A (call (.builtin "list.append") [acc, x]) (fun _ s₅ => ∃ m, m < n /\ I m s₅) (fun _ _ => False) s₄) (fun _ _ => False) s₃
      else ∃ m, m < n /\ I m s₃) (fun _ _ => False) s₂) (fun _ _ => False) s₀) (fun _ _ => False) s₁) (fun _ _ => False) s)
  (n : Nat) (h : I n s) : codeAny (model prog w) A (.compLoop (.ListComp elt [⟨target, iter, ifs, 0⟩] scope pos) 0 it acc env) R s := by
 refine codeAny_loop rfl I (fun n s hI => ?_) n h
 show wpAny _ A ((compTurn (.ListComp elt [⟨target, iter, ifs, 0⟩] scope pos) 0 it acc env).onRaise (fun x => do noteFrame x env; theTreesLotGoes x)) _ _ s
 refine wpAny_noted ?_
 rw [compTurn_list]
 refine wpAny_mono (E := fun _ _ => False) ?_ (fun _ _ q => q) (fun _ _ z => z.elim)
 refine wpAny_bind (wpAny_standAt (wpAny_bind (wpAny_mono (turn n s hI) (fun r s₁ h₁ => ?_) fun _ _ h' => h')))
 cases r with
 | none => exact wpAny_pure h₁
 | some v =>
  refine wpAny_bind (wpAny_mono h₁ (fun _ s₀ h₀ => ?_) fun _ _ h' => h')
  refine wpAny_bind (wpAny_mono h₀ (fun _ s₂ h₂ => wpAny_bind (wpAny_mono h₂ (fun ok s₃ h₃ => ?_) fun _ _ h' => h')) fun _ _ h' => h')
  cases ok with
  | false => exact wpAny_pure ⟨rfl, h₃⟩
  | true =>
   exact wpAny_bind (wpAny_bind (wpAny_mono h₃ (fun x s₄ h₄ => wpAny_bind (wpAny_mono h₄ (fun _ s₅ h₅ => wpAny_pure (wpAny_pure ⟨rfl, h₅⟩)) fun _ _ h' => h')) fun _ _ h' => h'))
def dC (J : It) (g : TG) (tt : TT) (te : TE) (σc : St) (H1 : Hp) (Fin : List V -> Hp -> Prop) : Prop :=
 ∃ W : Nat -> Nat -> List V -> Hp -> Prop, (∃ m, W 0 m [] H1) /\ ∀ i m ys H, W i m ys H ->
  (J.stop i H /\ Fin ys H) \/ (J.go i H /\ ys.length < sizeLine /\ ∃ N : List V -> Hp -> Prop, (∀ ys' H', N ys' H' -> ∃ m', m' < m /\ W (i + 1) m' ys' H') /\
   ∀ x H', J.yld i H x H' -> g x σc H' fun σ2 H2 => tt σ2 H2 fun b H3 => if b = true then te σ2 H3 fun y H4 => N (ys ++ [y]) H4 else N ys H3)
def G_ (wi : TI) (src : List (Option Nat)) (g : TG) (tt : TT) (te : TE) : TE := fun σ H Q => wi σ H fun J H1 => dC J g tt te (d7 src σ) H1 fun ys H2 => ∀ p, H2 p = none -> Q (.ref p) (upd H2 p (.lst ys))
abbrev lobj (its : List Value) (k : Nat) : Obj := { cls := .type "list", data := .seq its.toArray k }
theorem xg {X : Cx} {pins : List (Addr × Obj)} {σ : St} {H : Hp} {s2 : Shared} {E : Value -> Shared -> Prop} {scope : Scope} {N' : List Str} {src : List (Option Nat)} {fp : List Addr} {it : Addr} {tn : Nat -> Heap -> Prop} {J : It} {tg elt iter : Expr} {ifs : List Expr} {pos : Pos} {g : TG} {tt : TT} {te : TE}
  {Fin : List V -> Hp -> Prop} {RR : Value -> Addr -> Result -> Shared -> Prop} (hc : X.calm = true) (k : CompOk scope X.env.scope X.N N' src) (I : Inv X pins σ H s2) (T : Turn X.prog X.w X.K tg J fp it tn) (st0 : tn 0 s2.heap) (f : ∀ b ∈ fp, fK X pins H b)
  (hg : ∀ C, PG (bI X pins scope N' fp s2 C H) tg g) (ht : ∀ C, PTs (bI X pins scope N' fp s2 C H) ifs tt) (he : ∀ C, PE (bI X pins scope N' fp s2 C H) elt te)
  (h : dC J g tt te (d7 src σ) H Fin)
  (hRR : ∀ D C s' H' ys its n, Inv X pins σ H' s' -> fK X pins H' D -> fK X pins H' C -> C ≠ D -> (∃ m, s'.heap.Ns C m) -> s'.heap.get? D = some (lobj its n) -> Vals ys its -> ys.length <= sizeLine -> Fin ys H' -> RR (.ref D) C (.ok .next) s') :
  wpAny (model X.prog X.w) X.A (newList []) (fun acc s₃ => wpAny (model X.prog X.w) X.A (newFunctionEnv scope X.env.globals (fX scope X.env) [] X.env.qual none .none (some X.env)) (fun cenv s₄ =>
   codeAny (model X.prog X.w) X.A (.compStart (.ListComp elt [⟨tg, iter, ifs, 0⟩] scope pos) 0 (.ref it) acc { cenv with scope := relabel scope X.env }) (RR acc cenv.locals) s₄) E s₃) E s2 := by
 refine wpAny_newObj_type (zE fun h₁ hns₁ old₁ own₁ => ?_)
 dsimp only at hns₁ old₁ own₁ ⊢
 generalize hH2 : s2.heap.push { cls := .type "list", dict := none, data := .seq ([] : List Value).toArray } = H2 at hns₁ old₁ own₁ ⊢
 have hC : H2.objs.size = s2.heap.objs.size + 1 := by rw [<- hH2, Heap.size_push]
 have hDC : s2.heap.objs.size ≠ H2.objs.size := by rw [hC]; exact Nat.ne_of_lt (Nat.lt_succ_self _)
 have hCle : s2.heap.objs.size <= H2.objs.size := by rw [hC]; exact Nat.le_succ _
 have old : ∀ b o, s2.heap.get? b = some o -> h₁.get? b = some o := fun b o e => old₁ b o (hH2 ▸ Heap.get?_push_of_some _ e)
 have hacc : h₁.get? s2.heap.objs.size = some (lobj [] 0) := old₁ _ _ (hH2 ▸ Heap.get?_push_size _ rfl)
 generalize hDe : s2.heap.objs.size = D at hDC hacc
 generalize hCe : H2.objs.size = C at hDC hC hCle hns₁ own₁ ⊢
 have fo : ∀ b ∈ fp, ∃ o, s2.heap.get? b = some o := fun b hb => let ⟨o, e, _⟩ := T.obj 0 _ st0 b hb; ⟨o, e⟩
 have fD : ∀ b ∈ fp, b ≠ D := fun b hb => by obtain ⟨o, e⟩ := fo b hb; rw [<- hDe]; exact Nat.ne_of_lt (Heap.lt_size e)
 have fC : ∀ b ∈ fp, b ≠ C := fun b hb => by obtain ⟨o, e⟩ := fo b hb; exact Nat.ne_of_lt (Nat.lt_of_lt_of_le (Heap.lt_size e) hCle)
 have stk : ∀ b, s2.heap.objs.size <= b -> b ∉ frs X.stack := fun b hb z => by
  rcases List.mem_cons.mp (I.stkSub b z) with q | q
  ·rw [q] at hb; exact absurd (Nat.lt_of_lt_of_le I.lt hb) (Nat.lt_irrefl _)
  ·exact I.nofs hb q
 have I0 : Inv (bI X pins scope N' fp s2 C H) [] (d7 src σ) H { s2 with heap := h₁ } := Gk (tk := s2.toks) k I f fo hCle hns₁ old own₁
 have hDn : H D = none := I.hok.fresh (by rw [hDe]; exact Nat.le_refl _)
 have nD : D ≠ C /\ D ∉ frs X.stack := ⟨hDC, stk D (by rw [hDe]; exact Nat.le_refl _)⟩
 have cellF : ∀ x c, (d8 scope X.env C).lookup x = some c -> ∀ b, b < C -> (∀ x c, X.env.cells.lookup x = some c -> c ≠ b) -> c ≠ b := fun x c e b hb hx z => by
  rcases cF e with q | ⟨_, q⟩
  ·have := (own₁.empty _ _ q).2
   exact Nat.ne_of_gt (Nat.lt_of_lt_of_le hb (Nat.le_trans (Nat.le_succ C) this)) z
  ·exact hx x c (oN q) z
 have hDC2 : D < C := by rw [hC, <- hDe]; exact Nat.lt_succ_self _
 have cellD : ∀ x c, (d8 scope X.env C).lookup x = some c -> c ≠ D := fun x c e => cellF x c e D hDC2 fun x c e z => by
  obtain ⟨v, q⟩ := I.cell x c e
  have := q.lt
  rw [z, <- hDe] at this
  exact Nat.lt_irrefl _ this
 have pnD : ∀ p ∈ X.pn ++ pins, p.1 ≠ D := fun p hp z => by
  have := Heap.lt_size (I.pin p hp).1
  rw [z, <- hDe] at this
  exact Nat.lt_irrefl _ this
 have nocell : ∀ (its : List Value) (n : Nat) (v : Option Value), (lobj its n).data ≠ .cell v := fun its n v z => by
  have z' : Data.seq its.toArray n = Data.cell v := z
  cases z'
 have pinD : ∀ {σ' : St} {H' : Hp} {s' : Shared} {its : List Value} {n : Nat} {pl : List (Addr × Obj)}, Inv (bI X pins scope N' fp s2 C H) pl σ' H' s' -> s'.heap.get? D = some (lobj its n) -> H' D = none -> Inv (bI X pins scope N' fp s2 C H) [(D, lobj its n)] σ' H' s' :=
  fun {σ' H' s' its n pl} J1 e hn => J1.pins_of fun p hp => by
   have hp' : p = (D, lobj its n) := List.mem_singleton.mp hp
   subst hp'
   exact ⟨e, hn, nD.1, nD.2, nocell _ _⟩
 obtain ⟨W, ⟨m0, w0⟩, turn⟩ := h
 have ltf : ∀ b ∈ fp, b < C := fun b hb => by obtain ⟨o, e⟩ := fo b hb; exact Nat.lt_of_lt_of_le (Heap.lt_size e) hCle
 have loop : ∀ s₃ : Shared, s₃ = { s2 with heap := h₁ } ->
   codeAny (model X.prog X.w) X.A (.compLoop (.ListComp elt [⟨tg, iter, ifs, 0⟩] scope pos) 0 (.ref it) (.ref D) (compEnvC scope (d8 scope X.env C) C X.env)) (RR (.ref D) C) s₃ := by
  rintro s₃ rfl
  refine xf (fun n s' => ∃ i σ' H' ys its l, Inv (bI X pins scope N' fp s2 C H) [(D, lobj its l)] σ' H' s' /\ tn i s'.heap /\ (∀ b ∈ fp, H' b = none) /\ Vals ys its /\ ys.length <= sizeLine /\ W i n ys H' ) ?_ m0
   ⟨0, d7 src σ, H, [], [], 0, pinD I0 hacc hDn, T.keep _ _ _ st0 fun b _ o e => old b o e, fun b hb => (f b hb).1, .nil, Nat.zero_le _, w0⟩
  rintro n s3 ⟨i, σ3, H3, ys, its, l, I3, st3, fr3, rv, hz, w3⟩
  have stat : ∀ {H' : Hp} {its' : List Value} {l' : Nat}, (∀ b ∈ fp, H' b = none) -> ∀ b ∈ fp, fK (bI X pins scope N' fp s2 C H) [(D, lobj its' l')] H' b := fun hn b hb =>
   ⟨hn b hb, fC b hb, (fun z => by
     rcases List.mem_cons.mp (I.stkSub b z) with q | q
     ·exact (f b hb).2.1 q
     ·exact (f b hb).2.2.1 q), .inl hb, fun x c e => cellF x c e b (ltf b hb) (f b hb).2.2.2.2.1, fun p hp => by
    rcases List.mem_append.mp hp with z | z
    ·exact (f b hb).2.2.2.2.2 p z
    ·rw [List.mem_singleton.mp z]
     exact Ne.symm (fD b hb)⟩
  have IX3 : Inv X pins σ H3 s3 := I.call' (ch := fp) I3.os I3.base I3.hok I3.bare fun b hb => ⟨(f b hb).2.2.2.1, (f b hb).2.1, (f b hb).2.2.2.2.1, (f b hb).2.2.2.2.2⟩
  have I3c : Inv (bI X pins scope N' fp s2 C H) [(D, lobj its l)] (d7 src σ) H3 s3 := zJ k IX3 I3
  rcases turn i n ys H3 w3 with ⟨stop, fin⟩ | ⟨go, hlt, NN, hNN, step⟩
  ·refine wpAny_mono (T.done (bI X pins scope N' fp s2 C H) rfl rfl rfl hc i _ s3 σ3 H3 (fun _ _ => False) I3 (stat fr3) st3 stop) (fun r s4 ⟨hr, I4⟩ => ?_) fun _ _ z => z
   subst hr
   have eD := (I4.pin (D, lobj its l) (List.mem_append_right _ List.mem_cons_self))
   have IX : Inv X pins σ H3 s4 := I.call' (ch := fp) I4.os I4.base I4.hok I4.bare fun b hb => ⟨(f b hb).2.2.2.1, (f b hb).2.1, (f b hb).2.2.2.2.1, (f b hb).2.2.2.2.2⟩
   obtain ⟨m4, hn4, _⟩ := I4.loc
   exact hRR D C s4 H3 ys its l IX (I.fpOk (by rw [hDe]; exact Nat.le_refl _) eD.2.1) (I.fpOk hCle I4.free) (Ne.symm hDC) ⟨m4, hn4⟩ eD.1 rv hz fin
  ·refine wpAny_mono (T.item (bI X pins scope N' fp s2 C H) rfl rfl rfl hc i _ s3 (d7 src σ) H3 (fun _ _ => False) I3c (stat fr3) st3 go) (fun r s4 ⟨u, hr, h4⟩ => ?_) fun _ _ z => z
   subst hr
   refine wpAny_mono h4 (fun _ s5 ⟨x, H5, I5, r5, y5, st5, fr5⟩ => ?_) fun _ _ z => z
   have I5' := I5.pinned (stat fr5) (T.obj _ _ st5)
   refine wpAny_mono (hg C _ s5 (d7 src σ) H5 x u _ I5' r5 (step x H5 y5)) (fun _ s6 ⟨σ6, H6, I6, q6⟩ => ?_) fun _ _ z => z
   refine wpAny_mono (ht C _ s6 σ6 H6 _ I6 q6) (fun b s7 ⟨H7, I7, q7⟩ => ?_) fun _ _ z => z
   have back : ∀ {σ8 : St} {H8 : Hp} {s8 : Shared}, Inv (bI X pins scope N' fp s2 C H) ([(D, lobj its l)] ++ jR fp s5.heap) σ8 H8 s8 -> tn (i + 1) s8.heap /\ (∀ b ∈ fp, H8 b = none) := fun {σ8 H8 s8} I8 => by
    have pk : ∀ b ∈ fp, ∀ o, s5.heap.get? b = some o -> s8.heap.get? b = some o /\ H8 b = none := fun b hb o e => by
     have q := I8.pin (b, o) (List.mem_append_right _ (List.mem_append_right _ (mO hb e)))
     exact ⟨q.1, q.2.1⟩
    refine ⟨T.keep _ _ _ st5 fun b hb o e => (pk b hb o e).1, fun b hb => ?_⟩
    obtain ⟨o, e, _⟩ := T.obj _ _ st5 b hb
    exact (pk b hb o e).2
   cases b with
   | false =>
    obtain ⟨m', hm, w7⟩ := hNN _ _ q7
    obtain ⟨b1, b2⟩ := back I7
    exact ⟨m', hm, i + 1, σ6, H7, ys, its, l, I7.unpinned, b1, b2, rv, hz, w7⟩
   | true =>
    refine wpAny_mono (he C _ s7 σ6 H7 _ I7 q7) (fun y s8 ⟨v8, H8, I8, r8, q8⟩ => ?_) fun _ _ z => z
    obtain ⟨m', hm, w8⟩ := hNN _ _ q8
    obtain ⟨b1, b2⟩ := back I8
    have eD := (I8.pin (D, lobj its l) (List.mem_append_right _ (List.mem_append_left _ List.mem_cons_self)))
    have hl := rv.length
    refine append_at (hsz := by show its.toArray.size <= sizeLine; rw [List.size_toArray]; omega) eD.1 fun h9 hs9 hD9 => ?_
    have I8' : Inv (bI X pins scope N' fp s2 C H) (jR fp s5.heap) σ6 H8 s8 := I8.pins_of fun p hp => I8.pin p (List.mem_append_right _ (List.mem_append_right _ hp))
    have I9 : Inv (bI X pins scope N' fp s2 C H) (jR fp s5.heap) σ6 H8 { s8 with heap := h9 } := I8'.turned (t' := s8.toks) (fun b o hb e => hs9.extBut b o hb e) eD.2.1 nD.1 (.inr (by show s2.heap.objs.size <= D; rw [hDe]; exact Nat.le_refl _)) cellD fun p hp => by
     rcases List.mem_append.mp hp with z | z
     ·exact pnD p z
     ·exact fD _ (uW z).1
    have e9 : ({ cls := .type "list", data := .seq (its.toArray.push y) (l + 1) } : Obj) = lobj (its ++ [y]) (l + 1) := by
     show ({ cls := .type "list", data := .seq (its.toArray.push y) (l + 1) } : Obj) = { cls := .type "list", data := .seq (its ++ [y]).toArray (l + 1) }
     rw [List.push_toArray]
    rw [e9] at hD9
    refine ⟨m', hm, i + 1, σ6, H8, ys ++ [v8], its ++ [y], l + 1, pinD I9 hD9 eD.2.1, T.keep _ _ _ b1 fun b hb o e => hs9.extBut b o (fD b hb) e, b2, rv.append (.cons r8 .nil), by rw [List.length_append, List.length_singleton]; omega, w8⟩
 subst hDe
 exact codeAny_compStart_list (loop _ rfl) (T.self _ 0 _ _ _ (T.keep _ _ _ st0 fun b _ o e => old b o e) (loop _ rfl))
section
variable {X : Cx} {scope : Scope} {N' : List Str} {src : List (Option Nat)} {tg elt iter : Expr} {ifs : List Expr} {pos : Pos} {wi : TI} {g : TG} {tt : TT} {te : TE}
theorem pM {pins : List (Addr × Obj)} {σ : St} {H : Hp} {s : Shared} {N : List Str} (k : CompOk scope X.env.scope N N' src) (I : Inv X pins σ H s) : closureFor scope X.env = pure (fX scope X.env) :=
 vK fun n hn => I.ok.has n (k.free n hn)
theorem aX (hc : X.calm = true) (hk : sX scope X.env.scope X.N N' src = true) (hi : PI X tg iter wi)
  (hg : ∀ pins fp s2 C H, PG (bI X pins scope N' fp s2 C H) tg g) (ht : ∀ pins fp s2 C H, PTs (bI X pins scope N' fp s2 C H) ifs tt) (he : ∀ pins fp s2 C H, PE (bI X pins scope N' fp s2 C H) elt te)
  (hs : ∀ x, foldedSetIterable iter X.env x = pure x := by intro _; rfl) : PE X (.ListComp elt [⟨tg, iter, ifs, 0⟩] scope pos) (G_ wi src g tt te) := by
 intro pins s σ H Q I h
 have k := CompOk.of hk
 rw [eval_ListComp]
 refine wpAny_comprehension_free (use := none) rfl hs (pM k I) k.kind k.loc (thn (hi pins s σ H _ I h) fun xv s1 h1 => thn h1 fun itv s2 h2 => ?_)
 obtain ⟨it, fp, tn, J, H2, e, I2, T, st2, f2, q2⟩ := h2
 subst e
 refine xg hc k I2 T st2 f2 (hg pins fp s2 · H2) (ht pins fp s2 · H2) (he pins fp s2 · H2) q2 ?_
 intro D C s' H' ys its n I' fD fC hCD hns hD rv hz fin
 obtain ⟨m, hn⟩ := hns
 refine ⟨m, hn, fun h' hs' => ?_⟩
 have I3 : Inv X pins σ H' { s' with heap := h' } := I'.turned (t' := s'.toks) (fun b o hb e => hs'.extBut b o hb e) fC.1 fC.2.1 fC.2.2.2.1 fC.2.2.2.2.1 fC.2.2.2.2.2
 exact ⟨.ref D, upd H' D (.lst ys), I3.track fD ⟨hz, its, n, rv, hs'.extBut _ _ (Ne.symm hCD) hD⟩, rfl, fin D fD.1⟩
theorem pI {i : Nat} {x : Str} {px spos : Pos} (hc : X.calm = true) (hN : X.N.Nodup) (hi' : X.N[i]? = some x) (hx : X.env.scope.names.lookup x = some .local) (hk : sX scope X.env.scope X.N N' src = true) (hi : PI X tg iter wi)
  (hg : ∀ pins fp s2 C H, PG (bI X pins scope N' fp s2 C H) tg g) (ht : ∀ pins fp s2 C H, PTs (bI X pins scope N' fp s2 C H) ifs tt) (he : ∀ pins fp s2 C H, PE (bI X pins scope N' fp s2 C H) elt te)
  (hsw : swapsWith (.ListComp elt [⟨tg, iter, ifs, 0⟩] scope pos) (some (.Name x px)) spos.line X.env = pure true := by rfl)
  (hs : ∀ x, foldedSetIterable iter X.env x = pure x := by intro _; rfl) : PS X (.Assign [.Name x px] (.ListComp elt [⟨tg, iter, ifs, 0⟩] scope pos) spos) (Fl (G_ wi src g tt te) (fH i)) := by
 intro pins s σ H D0 I h
 have k := CompOk.of hk
 rw [exec_Assign_Name_used _ _ _ _ hsw]
 refine wpAny_bind (wpAny_standAt (wpAny_bind ?_))
 show wpAny _ X.A (do let _ <- comprehension (.ListComp elt [⟨tg, iter, ifs, 0⟩] scope pos) scope X.env _ (newList []) false (eval iter X.env) (some (assign (.Name x px) X.env))) _ _ s
 refine wpAny_bind (wpAny_mono (wpAny_comprehension_free (use := some (assign (.Name x px) X.env)) (Q := fun _ s' => SP X pins D0 .next s') rfl hs (pM k I) k.kind k.loc
  (thn (hi pins s σ H _ I h) fun xv s1 h1 => thn h1 fun itv s2 h2 => ?_)) (fun _ s' hq => wpAny_pure (wpAny_pure hq)) fun _ _ e => e)
 obtain ⟨it, fp, tn, J, H2, e, I2, T, st2, f2, q2⟩ := h2
 subst e
 refine xg hc k I2 T st2 f2 (hg pins fp s2 · H2) (ht pins fp s2 · H2) (he pins fp s2 · H2) q2 ?_
 intro D C s' H' ys its n I' fD fC hCD hns hD rv hz fin
 obtain ⟨m, hn⟩ := hns
 show wpAny _ X.A (assign (.Name x px) X.env (.ref D)) _ _ _
 refine wpAny_assign_Name (vf I' hN hi' (.inl hx) (show RelV (.ref D) (.ref D) from rfl) (fun s3 I3 hsb => ?_) (.inr hx))
 obtain ⟨a, hsb, ha⟩ := hsb
 have haC : C ≠ a := fun z => by
  rcases ha with q | q
  ·exact fC.2.1 (z.trans q)
  ·exact fC.2.2.2.2.1 x a q z.symm
 have haD : D ≠ a := fun z => by
  rcases ha with q | q
  ·exact fD.2.1 (z.trans q)
  ·exact fD.2.2.2.2.1 x a q z.symm
 refine ⟨m, hn.sameBut hsb haC, fun h' hs' => ?_⟩
 have I4 : Inv X pins (σ.set i (some (.ref D))) H' { s3 with heap := h' } := I3.turned (t' := s3.toks) (fun b o hb e => hs'.extBut b o hb e) fC.1 fC.2.1 fC.2.2.2.1 fC.2.2.2.2.1 fC.2.2.2.2.2
 exact ⟨_, upd H' D (.lst ys), I4.track fD ⟨hz, its, n, rv, hs'.extBut _ _ (Ne.symm hCD) (hsb.extBut _ _ haD hD)⟩, fin D fD.1⟩
end
theorem DP {K : PySem.W.Frag} {a : Addr} {xs : List V} {g : TG} {tt : TT} {te : TE} {σc : St} {H : Hp} {Fin : List V -> Hp -> Prop} (Pv : Nat -> List V -> Hp -> Prop) (h0 : Pv 0 [] H) (hl : ∀ i ys H, i <= xs.length -> Pv i ys H -> SqL K H a xs /\ ys.length <= i) (hz : xs.length <= sizeLine)
  (hs : ∀ i x ys H, xs[i]? = some x -> Pv i ys H -> g x σc H fun σ2 H2 => tt σ2 H2 fun b H3 => if b = true then te σ2 H3 fun y H4 => Pv (i + 1) (ys ++ [y]) H4 else Pv (i + 1) ys H3)
  (hd : ∀ ys H, Pv xs.length ys H -> Fin ys H) : dC (Itl K a) g tt te σc H Fin := by
 refine ⟨fun i m ys H => m = xs.length - i /\ i <= xs.length /\ Pv i ys H, ⟨xs.length, by simp, Nat.zero_le _, h0⟩, ?_⟩
 rintro i m ys H ⟨rfl, hi, p⟩
 obtain ⟨q, hy⟩ := hl i ys H hi p
 by_cases hlt : i < xs.length
 ·refine .inr ⟨⟨xs, xs[i], q, by simp [hlt]⟩, by omega, Pv (i + 1), fun ys' H' p' => ⟨xs.length - (i + 1), by omega, rfl, hlt, p'⟩, fun x H' y => ?_⟩
  obtain ⟨e, y⟩ := y
  subst e
  exact hs i x ys _ (y xs q) p
 ·have e : i = xs.length := by omega
  subst e
  exact .inl ⟨⟨xs, q, Nat.le_refl _⟩, hd ys H p⟩
theorem Gg {K : PySem.W.Frag} {a : Addr} {xs : List V} {g : TG} {tt : TT} {te : TE} {σc : St} {H : Hp} {Fin : List V -> Hp -> Prop} (Pv : Nat -> List V -> Hp -> Prop) (h0 : Pv 0 [] H) (hl : ∀ i ys H, i <= xs.length -> Pv i ys H -> SqT K H a xs /\ ys.length <= i) (hz : xs.length <= sizeLine)
  (hs : ∀ i x ys H, xs[i]? = some x -> Pv i ys H -> g x σc H fun σ2 H2 => tt σ2 H2 fun b H3 => if b = true then te σ2 H3 fun y H4 => Pv (i + 1) (ys ++ [y]) H4 else Pv (i + 1) ys H3)
  (hd : ∀ ys H, Pv xs.length ys H -> Fin ys H) : dC (Itt K a) g tt te σc H Fin := by
 refine ⟨fun i m ys H => m = xs.length - i /\ i <= xs.length /\ Pv i ys H, ⟨xs.length, by simp, Nat.zero_le _, h0⟩, ?_⟩
 rintro i m ys H ⟨rfl, hi, p⟩
 obtain ⟨q, hy⟩ := hl i ys H hi p
 by_cases hlt : i < xs.length
 ·refine .inr ⟨⟨xs, xs[i], q, by simp [hlt]⟩, by omega, Pv (i + 1), fun ys' H' p' => ⟨xs.length - (i + 1), by omega, rfl, hlt, p'⟩, fun x H' y => ?_⟩
  obtain ⟨e, y⟩ := y
  subst e
  exact hs i x ys _ (y xs q) p
 ·have e : i = xs.length := by omega
  subst e
  exact .inl ⟨⟨xs, q, Nat.le_refl _⟩, hd ys H p⟩
theorem By {lo : Int} {n : Nat} {g : TG} {tt : TT} {te : TE} {σc : St} {H : Hp} {Fin : List V -> Hp -> Prop} (Pv : Nat -> List V -> Hp -> Prop) (h0 : Pv 0 [] H) (hl : ∀ i ys H, i <= n -> Pv i ys H -> ys.length <= i) (hz : n <= sizeLine)
  (hs : ∀ i ys H, i < n -> Pv i ys H -> g (.int (lo + i)) σc H fun σ2 H2 => tt σ2 H2 fun b H3 => if b = true then te σ2 H3 fun y H4 => Pv (i + 1) (ys ++ [y]) H4 else Pv (i + 1) ys H3)
  (hd : ∀ ys H, Pv n ys H -> Fin ys H) : dC (Itr lo n) g tt te σc H Fin := by
 refine ⟨fun i m ys H => m = n - i /\ i <= n /\ Pv i ys H, ⟨n, by simp, Nat.zero_le _, h0⟩, ?_⟩
 rintro i m ys H ⟨rfl, hi, p⟩
 have hy := hl i ys H hi p
 by_cases hlt : i < n
 ·refine .inr ⟨hlt, by omega, Pv (i + 1), fun ys' H' p' => ⟨n - (i + 1), by omega, rfl, hlt, p'⟩, fun x H' y => ?_⟩
  obtain ⟨e, y⟩ := y
  subst e y
  exact hs i ys _ hlt p
 ·have e : i = n := by omega
  subst e
  exact .inl ⟨Nat.le_refl _, hd ys H p⟩
end L2
set_option Elab.async false
set_option linter.all false
set_option maxRecDepth 100000
namespace L2
open PySem PySem.Spec PyProof.Rows
section
variable {X : Cx}
theorem yZ : CallR X (.builtin "isinstance") (fun xs H Q => ∃ x t T b, xs = [x, .ty T] /\ TyOf X.K H x t /\ PySem.W.kitOne X.K t (.type T) = some b /\ Q (.bl b) H) := by
 intro pins s σ H xs us Q I r h
 obtain ⟨x, t, T, b, rfl, ty, e, q⟩ := h
 cases r with
 | cons r1 rr =>
  cases rr with
  | cons r2 rr =>
   cases rr
   cases r2
   exact uM I r1 ty e fun tk => ⟨.bl b, H, I.tok _, rfl, q⟩
theorem Vals.bools : ∀ {bs : List Bool} {us : List Value}, Vals (bs.map V.bl) us -> LSm.BoolsAre us bs
 | [], _, .nil => .nil
 | _ :: _, _, .cons r t => by
  cases r
  exact .cons _ (Vals.bools t)
theorem FZ (hc : X.calm = true) : CallR X (.builtin "all") (fun xs H Q => ∃ (a : Addr) (bs : List Bool), xs = [.ref a] /\ SqL X.K H a (bs.map V.bl) /\ Q (.bl (bs.all id)) H) := by
 intro pins s σ H xs us Q I r h
 obtain ⟨a, bs, rfl, hq, q⟩ := h
 cases r with
 | cons r1 rr =>
  cases rr
  cases r1
  obtain ⟨its, rv, p, hz⟩ := I.list hq
  have hl := p.isList
  have hb := rv.bools
  have hlt : a < s.heap.objs.size := by obtain ⟨_, e, _⟩ := hl; exact Heap.lt_size e
  refine call_all_walk (wpAny_pyIter_list hl ?_)
  refine ⟨s.heap.objs.size, [s.heap.objs.size, a], [s.heap.objs.size], its.toArray.size, _, _, fun i => (bs[i]?).getD true, rfl, Walks.list (A := X.A.in1) (I.ok.hd hc) _ a (Nat.ne_of_lt hlt) its.toArray,
   ⟨⟨_, Heap.get?_push_size _ rfl, rfl, rfl⟩, hl.push _⟩, fun i v s' Q' E' hP hQ => ?_, fun h' tk hk => ?_⟩
  ·obtain ⟨b, e, rfl⟩ := hb.get i v (by simpa using hP)
   simp only [e, Option.getD_some] at hQ
   exact wpAny_truthy_bool hQ
  ·have e : ((List.range its.toArray.size).all fun i => (bs[i]?).getD true) = bs.all id := by
    rw [List.size_toArray, hb.length]; exact LSm.range_all bs
   rw [e]
   exact ⟨.bl (bs.all id), H, I.kept (LSm.kept_iter hk), rfl, q⟩
theorem Fv (hc : X.calm = true) : CallR X (.builtin "any") (fun xs H Q => ∃ (a : Addr) (bs : List Bool), xs = [.ref a] /\ SqL X.K H a (bs.map V.bl) /\ Q (.bl (bs.any id)) H) := by
 intro pins s σ H xs us Q I r h
 obtain ⟨a, bs, rfl, hq, q⟩ := h
 cases r with
 | cons r1 rr =>
  cases rr
  cases r1
  obtain ⟨its, rv, p, hz⟩ := I.list hq
  have hl := p.isList
  have hb := rv.bools
  have hlt : a < s.heap.objs.size := by obtain ⟨_, e, _⟩ := hl; exact Heap.lt_size e
  refine call_any_walk (wpAny_pyIter_list hl ?_)
  refine ⟨s.heap.objs.size, [s.heap.objs.size, a], [s.heap.objs.size], its.toArray.size, _, _, fun i => (bs[i]?).getD false, rfl, Walks.list (A := X.A.in1) (I.ok.hd hc) _ a (Nat.ne_of_lt hlt) its.toArray,
   ⟨⟨_, Heap.get?_push_size _ rfl, rfl, rfl⟩, hl.push _⟩, fun i v s' Q' E' hP hQ => ?_, fun h' tk hk => ?_⟩
  ·obtain ⟨b, e, rfl⟩ := hb.get i v (by simpa using hP)
   simp only [e, Option.getD_some] at hQ
   exact wpAny_truthy_bool hQ
  ·have e : ((List.range its.toArray.size).any fun i => (bs[i]?).getD false) = bs.any id := by
    rw [List.size_toArray, hb.length]; exact LSm.range_any bs
   rw [e]
   exact ⟨.bl (bs.any id), H, I.kept (LSm.kept_iter hk), rfl, q⟩
theorem Vals.ints : ∀ {ns : List Int} {us : List Value}, Vals (ns.map V.int) us -> IntsAre us ns
 | [], _, .nil => .nil
 | _ :: _, _, .cons r t => by
  obtain ⟨tk, rfl⟩ := r
  exact .cons _ _ (Vals.ints t)
def Ka : List Int -> Int
 | [] => 0
 | x :: r => r.foldl (fun a b => if a < b then b else a) x
def Kp : List Int -> Int
 | [] => 0
 | x :: r => r.foldl (fun a b => if b < a then b else a) x
end
inductive D where
 | non | bl (b : Bool) | int (i : Int) | str (x : Str) | tup (ds : List D) | lst (ds : List D)
mutual
def Rep (K : PySem.W.Frag) (H : Hp) : D -> V -> Prop
 | .non, v => v = .non
 | .bl b, v => v = .bl b
 | .int i, v => v = .int i
 | .str x, v => v = .str x
 | .tup ds, v => ∃ a vs, v = .ref a /\ SqT K H a vs /\ Reps K H ds vs
 | .lst ds, v => ∃ a vs, v = .ref a /\ SqL K H a vs /\ Reps K H ds vs
def Reps (K : PySem.W.Frag) (H : Hp) : List D -> List V -> Prop
 | [], vs => vs = []
 | d :: ds, vs => ∃ v r, vs = v :: r /\ Rep K H d v /\ Reps K H ds r
end
theorem SqT.mono {K : PySem.W.Frag} {H H' : Hp} {a : Addr} {vs : List V} (e : Same H H') (h : SqT K H a vs) : SqT K H' a vs := by
 rcases h with h | h
 ·rcases h with h | ⟨o, h⟩
  ·exact .inl (.inl (e _ _ h))
  ·exact .inl (.inr ⟨o, e _ _ h⟩)
 ·exact .inr h
mutual
theorem Rep.mono {K : PySem.W.Frag} {H H' : Hp} (e : Same H H') : ∀ {d : D} {v : V}, Rep K H d v -> Rep K H' d v
 | .non, _, h => h
 | .bl _, _, h => h
 | .int _, _, h => h
 | .str _, _, h => h
 | .tup ds, _, h => by
  unfold Rep at h ⊢
  obtain ⟨a, vs, h1, h2, h3⟩ := h
  exact ⟨a, vs, h1, h2.mono e, Reps.mono e h3⟩
 | .lst ds, _, h => by
  unfold Rep at h ⊢
  obtain ⟨a, vs, h1, h2, h3⟩ := h
  exact ⟨a, vs, h1, e.seq h2, Reps.mono e h3⟩
theorem Reps.mono {K : PySem.W.Frag} {H H' : Hp} (e : Same H H') : ∀ {ds : List D} {vs : List V}, Reps K H ds vs -> Reps K H' ds vs
 | [], _, h => h
 | d :: ds, _, h => by
  unfold Reps at h ⊢
  obtain ⟨v, r, h1, h2, h3⟩ := h
  exact ⟨v, r, h1, Rep.mono e h2, Reps.mono e h3⟩
end
mutual
def eqD : D -> D -> Bool
 | .non, .non => true
 | .bl a, .bl b => a == b
 | .int a, .int b => a == b
 | .str a, .str b => a == b
 | .tup a, .tup b => cY a b
 | .lst a, .lst b => cY a b
 | _, _ => false
def cY : List D -> List D -> Bool
 | [], [] => true
 | a :: r, b :: t => eqD a b && cY r t
 | _, _ => false
end
mutual
def bL : D -> D -> Bool
 | .non, .non => true
 | .bl _, .bl _ => true
 | .int _, .int _ => true
 | .str _, .str _ => true
 | .tup a, .tup b => bF a b
 | .lst a, .lst b => bF a b
 | _, _ => false
def bF : List D -> List D -> Bool
 | a :: r, b :: t => bL a b && bF r t
 | _, _ => true
end
mutual
def bW : D -> Nat
 | .tup ds => du ds + 1
 | .lst ds => du ds + 1
 | _ => 0
def du : List D -> Nat
 | [] => 0
 | d :: r => max (bW d) (du r)
end
theorem Reps.length {K : PySem.W.Frag} {H : Hp} : ∀ {ds : List D} {vs : List V}, Reps K H ds vs -> vs.length = ds.length
 | [], _, h => by unfold Reps at h; subst h; rfl
 | d :: ds, _, h => by
  unfold Reps at h
  obtain ⟨v, r, rfl, _, h3⟩ := h
  simp [Reps.length h3]
theorem Reps.get {K : PySem.W.Frag} {H : Hp} : ∀ {ds : List D} {vs : List V} {i : Nat} {v : V}, Reps K H ds vs -> vs[i]? = some v -> ∃ d, ds[i]? = some d /\ Rep K H d v
 | [], _, i, v, h, e => by unfold Reps at h; subst h; simp at e
 | d :: ds, _, 0, v, h, e => by
  unfold Reps at h
  obtain ⟨w, r, rfl, h2, _⟩ := h
  simp at e
  subst e
  exact ⟨d, rfl, h2⟩
 | d :: ds, _, i + 1, v, h, e => by
  unfold Reps at h
  obtain ⟨w, r, rfl, _, h3⟩ := h
  simpa using Reps.get (i := i) h3 (by simpa using e)
theorem Reps.at {K : PySem.W.Frag} {H : Hp} {ds : List D} {vs : List V} {i : Nat} {d : D} (h : Reps K H ds vs) (e : ds[i]? = some d) : ∃ v, vs[i]? = some v /\ Rep K H d v := by
 have hl := h.length
 have hi : i < vs.length := by rw [hl]; exact (List.getElem?_eq_some_iff.mp e).1
 obtain ⟨d', e', r⟩ := h.get (List.getElem?_eq_getElem hi)
 rw [e] at e'
 cases e'
 exact ⟨_, List.getElem?_eq_getElem hi, r⟩
theorem lM : ∀ {a b : List D} {i : Nat} {x y : D}, bF a b = true -> a[i]? = some x -> b[i]? = some y -> bL x y = true
 | [], _, i, x, y, _, e, _ => by simp at e
 | _ :: _, [], i, x, y, _, _, e => by simp at e
 | a :: r, b :: t, 0, x, y, h, e1, e2 => by
  unfold bF at h
  simp at e1 e2
  subst e1 e2
  exact (Bool.and_eq_true _ _ ▸ h).1
 | a :: r, b :: t, i + 1, x, y, h, e1, e2 => by
  unfold bF at h
  exact lM (i := i) (Bool.and_eq_true _ _ ▸ h).2 (by simpa using e1) (by simpa using e2)
theorem oX : ∀ {a : List D} {i : Nat} {x : D}, a[i]? = some x -> bW x <= du a
 | [], i, x, e => by simp at e
 | d :: r, 0, x, e => by
  simp at e
  subst e
  unfold du
  exact Nat.le_max_left _ _
 | d :: r, i + 1, x, e => by
  unfold du
  exact Nat.le_trans (oX (i := i) (by simpa using e)) (Nat.le_max_right _ _)
def eX (a b : List D) (i : Nat) : Bool := match a[i]?, b[i]? with
 | some x, some y => eqD x y
 | _, _ => true
theorem m9 : ∀ {a b : List D}, a.length = b.length -> (List.range a.length).all (eX a b) = cY a b
 | [], [], _ => rfl
 | [], _ :: _, h => by simp at h
 | _ :: _, [], h => by simp at h
 | x :: r, y :: t, h => by
  have ih := m9 (a := r) (b := t) (by simpa using h)
  rw [List.length_cons, List.range_succ_eq_map, List.all_cons, List.all_map]
  unfold cY
  rw [<- ih]
  rfl
theorem qL : ∀ {a b : List D}, a.length ≠ b.length -> cY a b = false
 | [], [], h => absurd rfl h
 | [], _ :: _, _ => rfl
 | _ :: _, [], _ => rfl
 | x :: r, y :: t, h => by
  unfold cY
  rw [qL (a := r) (b := t) (by simpa using h), Bool.and_false]
section
variable {X : Cx} {pins : List (Addr × Obj)} {σ : St} {H : Hp} {s : Shared}
theorem lB (ds : List D) : bW (.tup ds) = du ds + 1 := by unfold bW; rfl
theorem iy (ds : List D) : bW (.lst ds) = du ds + 1 := by unfold bW; rfl
theorem qM (I : Inv X pins σ H s) (n : Nat) : ∀ {d e : D} {x : V}, bW d <= n -> bL d e = true -> Rep X.K H d x -> Rep X.K H e x -> eqD d e = true := by
 have flat : ∀ {d e : D} {x : V}, bW d = 0 -> bL d e = true -> Rep X.K H d x -> Rep X.K H e x -> eqD d e = true := by
  intro d e x hd hl r1 r2
  cases d with
  | tup ds => rw [lB] at hd; omega
  | lst ds => rw [iy] at hd; omega
  | non =>
   cases e <;> first | (exact absurd hl Bool.false_ne_true) | skip
   rfl
  | bl a =>
   cases e <;> first | (exact absurd hl Bool.false_ne_true) | skip
   unfold Rep at r1 r2
   rw [r1] at r2
   cases r2
   simp [eqD]
  | int a =>
   cases e <;> first | (exact absurd hl Bool.false_ne_true) | skip
   unfold Rep at r1 r2
   rw [r1] at r2
   cases r2
   simp [eqD]
  | str a =>
   cases e <;> first | (exact absurd hl Bool.false_ne_true) | skip
   unfold Rep at r1 r2
   rw [r1] at r2
   cases r2
   simp [eqD]
 have many : ∀ (m : Nat), (∀ {d e : D} {x : V}, bW d <= m -> bL d e = true -> Rep X.K H d x -> Rep X.K H e x -> eqD d e = true) -> ∀ {ds es : List D} {vs : List V}, du ds <= m -> bF ds es = true -> Reps X.K H ds vs -> Reps X.K H es vs -> cY ds es = true := by
  intro m ih ds
  induction ds with
  | nil =>
   intro es vs _ _ r1 r2
   cases es with
   | nil => rfl
   | cons e es =>
    unfold Reps at r1 r2
    obtain ⟨_, _, q, _⟩ := r2
    rw [r1] at q
    cases q
  | cons d ds ihl =>
   intro es vs hd hl r1 r2
   cases es with
   | nil =>
    unfold Reps at r1 r2
    obtain ⟨_, _, q, _⟩ := r1
    rw [r2] at q
    cases q
   | cons e es =>
    unfold Reps at r1 r2
    obtain ⟨v, r, q, a1, a2⟩ := r1
    obtain ⟨v', r', q', b1, b2⟩ := r2
    rw [q] at q'
    cases q'
    have hl' : (bL d e && bF ds es) = true := by unfold bF at hl; exact hl
    rw [Bool.and_eq_true] at hl'
    have hd' : max (bW d) (du ds) <= m := by unfold du at hd; exact hd
    show (eqD d e && cY ds es) = true
    rw [ih (Nat.le_trans (Nat.le_max_left _ _) hd') hl'.1 a1 b1, ihl (Nat.le_trans (Nat.le_max_right _ _) hd') hl'.2 a2 b2]
    rfl
 induction n with
 | zero => intro d e x hd; exact flat (Nat.le_zero.mp hd)
 | succ n ih =>
  intro d e x hd hl r1 r2
  cases d with
  | non => exact flat rfl hl r1 r2
  | bl a => exact flat rfl hl r1 r2
  | int a => exact flat rfl hl r1 r2
  | str a => exact flat rfl hl r1 r2
  | tup ds =>
   cases e <;> first | (exact absurd hl Bool.false_ne_true) | skip
   rename_i es
   unfold Rep at r1 r2
   obtain ⟨a, vs, e1, q1, p1⟩ := r1
   obtain ⟨b, ws, e2, q2, p2⟩ := r2
   rw [e1] at e2
   cases e2
   have := I.tuple_inj q1 q2
   subst this
   rw [lB] at hd
   have hl' : bF ds es = true := by unfold bL at hl; exact hl
   exact many n ih (by omega) hl' p1 p2
  | lst ds =>
   cases e <;> first | (exact absurd hl Bool.false_ne_true) | skip
   rename_i es
   unfold Rep at r1 r2
   obtain ⟨a, vs, e1, q1, p1⟩ := r1
   obtain ⟨b, ws, e2, q2, p2⟩ := r2
   rw [e1] at e2
   cases e2
   have := I.list_inj q1 q2
   subst this
   rw [iy] at hd
   have hl' : bF ds es = true := by unfold bL at hl; exact hl
   exact many n ih (by omega) hl' p1 p2
theorem wR (I : Inv X pins σ H s) (n : Nat) : ∀ {d e : D} {x y : V} {u v : Value} {A : Around}, bW d <= n -> bL d e = true -> A.units + n < cLine -> Rep X.K H d x -> Rep X.K H e y -> RelV x u -> RelV y v ->
  SeqAt.EqAt A s u v (eqD d e) /\ SeqAt.RcAt A s u v (eqD d e) /\ SeqAt.RcNeAt A s u v (!eqD d e) := by
 induction n with
 | zero =>
  intro d e x y u v A hd hl hu r1 r2 v1 v2
  cases d with
  | tup ds => rw [lB] at hd; omega
  | lst ds => rw [iy] at hd; omega
  | non =>
   cases e <;> first | (exact absurd hl Bool.false_ne_true) | skip
   unfold Rep at r1 r2
   subst r1 r2
   cases v1; cases v2
   exact ⟨.same _, .none_none, .none_none⟩
  | bl a =>
   cases e <;> first | (exact absurd hl Bool.false_ne_true) | skip
   unfold Rep at r1 r2
   subst r1 r2
   cases v1; cases v2
   exact ⟨.bool_bool _ _, .bool_bool _ _, .bool_bool _ _⟩
  | int a =>
   cases e <;> first | (exact absurd hl Bool.false_ne_true) | skip
   unfold Rep at r1 r2
   subst r1 r2
   obtain ⟨t, rfl⟩ := v1
   obtain ⟨t', rfl⟩ := v2
   exact ⟨.int_int _ _ _ _, .int_int _ _ _ _, .int_int _ _ _ _⟩
  | str a =>
   cases e <;> first | (exact absurd hl Bool.false_ne_true) | skip
   unfold Rep at r1 r2
   subst r1 r2
   obtain ⟨t, rfl⟩ := v1
   obtain ⟨t', rfl⟩ := v2
   exact ⟨.str_str _ _ _ _, .str_str _ _ _ _, .str_str _ _ _ _⟩
 | succ n ih =>
  intro d e x y u v A hd hl hu r1 r2 v1 v2
  have hu0 : A.units < cLine := by omega
  have hu1 : A.in1.units + n < cLine := by show A.units + 1 + n < cLine; omega
  cases d with
  | non =>
   cases e <;> first | (exact absurd hl Bool.false_ne_true) | skip
   unfold Rep at r1 r2
   subst r1 r2
   cases v1; cases v2
   exact ⟨.same _, .none_none, .none_none⟩
  | bl a =>
   cases e <;> first | (exact absurd hl Bool.false_ne_true) | skip
   unfold Rep at r1 r2
   subst r1 r2
   cases v1; cases v2
   exact ⟨.bool_bool _ _, .bool_bool _ _, .bool_bool _ _⟩
  | int a =>
   cases e <;> first | (exact absurd hl Bool.false_ne_true) | skip
   unfold Rep at r1 r2
   subst r1 r2
   obtain ⟨t, rfl⟩ := v1
   obtain ⟨t', rfl⟩ := v2
   exact ⟨.int_int _ _ _ _, .int_int _ _ _ _, .int_int _ _ _ _⟩
  | str a =>
   cases e <;> first | (exact absurd hl Bool.false_ne_true) | skip
   unfold Rep at r1 r2
   subst r1 r2
   obtain ⟨t, rfl⟩ := v1
   obtain ⟨t', rfl⟩ := v2
   exact ⟨.str_str _ _ _ _, .str_str _ _ _ _, .str_str _ _ _ _⟩
  | tup ds =>
   cases e <;> first | (exact absurd hl Bool.false_ne_true) | skip
   rename_i es
   unfold Rep at r1 r2
   obtain ⟨a, vs, rfl, q1, p1⟩ := r1
   obtain ⟨b, ws, rfl, q2, p2⟩ := r2
   cases v1; cases v2
   obtain ⟨its1, rv1, t1, _⟩ := I.tuple q1
   obtain ⟨its2, rv2, t2, _⟩ := I.tuple q2
   have l1 : its1.length = ds.length := by rw [<- rv1.length, p1.length]
   have l2 : its2.length = es.length := by rw [<- rv2.length, p2.length]
   have hld : bF ds es = true := by unfold bL at hl; exact hl
   have he : ∀ j (h1 : j < its1.toArray.size) (h2 : j < its2.toArray.size), SeqAt.EqAt A.in1 s its1.toArray[j] its2.toArray[j] (eX ds es j) := fun j h1 h2 => by
    have h1' : j < its1.length := by simpa using h1
    have h2' : j < its2.length := by simpa using h2
    have j1 : j < vs.length := by rw [rv1.length]; exact h1'
    have j2 : j < ws.length := by rw [rv2.length]; exact h2'
    obtain ⟨d1, e1, r1⟩ := p1.get (List.getElem?_eq_getElem j1)
    obtain ⟨d2, e2, r2⟩ := p2.get (List.getElem?_eq_getElem j2)
    obtain ⟨u1, f1, s1⟩ := rv1.get (List.getElem?_eq_getElem j1)
    obtain ⟨u2, f2, s2⟩ := rv2.get (List.getElem?_eq_getElem j2)
    have g1 : its1.toArray[j] = u1 := by rw [List.getElem?_eq_getElem h1'] at f1; simpa using f1
    have g2 : its2.toArray[j] = u2 := by rw [List.getElem?_eq_getElem h2'] at f2; simpa using f2
    rw [g1, g2]
    have hq : eX ds es j = eqD d1 d2 := by unfold eX; rw [e1, e2]
    rw [hq]
    have hdd : bW d1 <= n := by
     rw [lB] at hd
     have := oX e1
     omega
    exact (ih hdd (lM hld e1 e2) hu1 r1 r2 s1 s2).1
   have hb : ((List.range (min its1.toArray.size its2.toArray.size)).all (eX ds es) && its1.toArray.size == its2.toArray.size) = eqD (.tup ds) (.tup es) := by
    show _ = cY ds es
    rw [List.size_toArray, List.size_toArray, l1, l2]
    by_cases hq : ds.length = es.length
    ·rw [hq, Nat.min_self, <- hq, m9 hq]
     simp
    ·rw [qL hq]
     simp [hq]
   have R := SeqAt.RcAt.tuples (A := A) (e := eX ds es) (show s.heap.IsTuple a its1.toArray from t1) (show s.heap.IsTuple b its2.toArray from t2) hu0 he
   have R' := SeqAt.RcNeAt.tuples (A := A) (e := eX ds es) (show s.heap.IsTuple a its1.toArray from t1) (show s.heap.IsTuple b its2.toArray from t2) hu0 he
   rw [hb] at R R'
   refine ⟨?_, R, R'⟩
   by_cases hab : a = b
   ·subst hab
    have hs : eqD (.tup ds) (.tup es) = true := qM I (n + 1) hd hl (show Rep X.K H (.tup ds) (.ref a) by unfold Rep; exact ⟨a, vs, rfl, q1, p1⟩) (show Rep X.K H (.tup es) (.ref a) by unfold Rep; exact ⟨a, ws, rfl, q2, p2⟩)
    rw [hs]
    exact .same _
   ·exact .of_refs hab R
  | lst ds =>
   cases e <;> first | (exact absurd hl Bool.false_ne_true) | skip
   rename_i es
   unfold Rep at r1 r2
   obtain ⟨a, vs, rfl, q1, p1⟩ := r1
   obtain ⟨b, ws, rfl, q2, p2⟩ := r2
   cases v1; cases v2
   obtain ⟨its1, rv1, t1, _⟩ := I.list q1
   obtain ⟨its2, rv2, t2, _⟩ := I.list q2
   have l1 : its1.length = ds.length := by rw [<- rv1.length, p1.length]
   have l2 : its2.length = es.length := by rw [<- rv2.length, p2.length]
   have hld : bF ds es = true := by unfold bL at hl; exact hl
   have he : ∀ j (h1 : j < its1.toArray.size) (h2 : j < its2.toArray.size), SeqAt.EqAt A.in1 s its1.toArray[j] its2.toArray[j] (eX ds es j) := fun j h1 h2 => by
    have h1' : j < its1.length := by simpa using h1
    have h2' : j < its2.length := by simpa using h2
    have j1 : j < vs.length := by rw [rv1.length]; exact h1'
    have j2 : j < ws.length := by rw [rv2.length]; exact h2'
    obtain ⟨d1, e1, r1⟩ := p1.get (List.getElem?_eq_getElem j1)
    obtain ⟨d2, e2, r2⟩ := p2.get (List.getElem?_eq_getElem j2)
    obtain ⟨u1, f1, s1⟩ := rv1.get (List.getElem?_eq_getElem j1)
    obtain ⟨u2, f2, s2⟩ := rv2.get (List.getElem?_eq_getElem j2)
    have g1 : its1.toArray[j] = u1 := by rw [List.getElem?_eq_getElem h1'] at f1; simpa using f1
    have g2 : its2.toArray[j] = u2 := by rw [List.getElem?_eq_getElem h2'] at f2; simpa using f2
    rw [g1, g2]
    have hq : eX ds es j = eqD d1 d2 := by unfold eX; rw [e1, e2]
    rw [hq]
    have hdd : bW d1 <= n := by
     rw [iy] at hd
     have := oX e1
     omega
    exact (ih hdd (lM hld e1 e2) hu1 r1 r2 s1 s2).1
   have R2 : SeqAt.RcAt A s (.ref a) (.ref b) (eqD (.lst ds) (.lst es)) /\ SeqAt.RcNeAt A s (.ref a) (.ref b) (!eqD (.lst ds) (.lst es)) := by
    by_cases hq : ds.length = es.length
    ·have hsz : its1.toArray.size = its2.toArray.size := by rw [List.size_toArray, List.size_toArray, l1, l2, hq]
     have hb : (List.range its1.toArray.size).all (eX ds es) = eqD (.lst ds) (.lst es) := by
      show _ = cY ds es
      rw [List.size_toArray, l1, m9 hq]
     have R := SeqAt.RcAt.lists (A := A) (e := eX ds es) t1.isList t2.isList hsz hu0 he
     have R' := SeqAt.RcNeAt.lists (A := A) (e := eX ds es) t1.isList t2.isList hsz hu0 he
     rw [hb] at R R'
     exact ⟨R, R'⟩
    ·have hsz : (its1.toArray.size != its2.toArray.size) = true := by
      rw [List.size_toArray, List.size_toArray, l1, l2]
      simpa using hq
     have hb : eqD (.lst ds) (.lst es) = false := qL hq
     rw [hb]
     exact ⟨SeqAt.RcAt.lists_lengths t1.isList t2.isList hsz hu0, SeqAt.RcNeAt.lists_lengths t1.isList t2.isList hsz hu0⟩
   obtain ⟨R, R'⟩ := R2
   refine ⟨?_, R, R'⟩
   by_cases hab : a = b
   ·subst hab
    have hs : eqD (.lst ds) (.lst es) = true := qM I (n + 1) hd hl (show Rep X.K H (.lst ds) (.ref a) by unfold Rep; exact ⟨a, vs, rfl, q1, p1⟩) (show Rep X.K H (.lst es) (.ref a) by unfold Rep; exact ⟨a, ws, rfl, q2, p2⟩)
    rw [hs]
    exact .same _
   ·exact .of_refs hab R
def Jx (K : PySem.W.Frag) : R2 := fun x y H Q => ∃ d e, Rep K H d x /\ Rep K H e y /\ bL d e = true /\ bW d <= 40 /\ Q (.bl (eqD d e)) H
def Jp (K : PySem.W.Frag) : R2 := fun x y H Q => ∃ d e, Rep K H d x /\ Rep K H e y /\ bL d e = true /\ bW d <= 40 /\ Q (.bl (!eqD d e)) H
theorem IV (hu : X.A.units + 64 < cLine) : OpR X (compareOp .Eq) (Jx X.K) := by
 intro pins s σ H x y v u Q I rx ry h
 obtain ⟨d, e, r1, r2, hl, hd, q⟩ := h
 exact (wR I 40 hd hl (by omega) r1 r2 rx ry).2.1 X.prog X.w X.xe _ ⟨.bl (eqD d e), H, I, rfl, q⟩
theorem JD (hu : X.A.units + 64 < cLine) : OpR X (compareOp .NotEq) (Jp X.K) := by
 intro pins s σ H x y v u Q I rx ry h
 obtain ⟨d, e, r1, r2, hl, hd, q⟩ := h
 exact (wR I 40 hd hl (by omega) r1 r2 rx ry).2.2 X.prog X.w X.xe _ ⟨.bl (!eqD d e), H, I, rfl, q⟩
end
mutual
theorem gM : ∀ d : D, eqD d d = true
 | .non => rfl
 | .bl b => by simp [eqD]
 | .int i => by simp [eqD]
 | .str x => by simp [eqD]
 | .tup ds => by
  show cY ds ds = true
  exact oF ds
 | .lst ds => by
  show cY ds ds = true
  exact oF ds
theorem oF : ∀ ds : List D, cY ds ds = true
 | [] => rfl
 | d :: r => by
  show (eqD d d && cY r r) = true
  rw [gM d, oF r]
  rfl
end
mutual
theorem rT : ∀ {d e : D}, eqD d e = true -> d = e
 | .non, e, h => by cases e <;> simp [eqD] at h; rfl
 | .bl b, e, h => by cases e <;> simp [eqD] at h; rw [h]
 | .int i, e, h => by cases e <;> simp [eqD] at h; rw [h]
 | .str x, e, h => by cases e <;> simp [eqD] at h; rw [h]
 | .tup ds, e, h => by
  cases e with
  | tup es =>
   have h' : cY ds es = true := h
   rw [uw h']
  | _ => simp [eqD] at h
 | .lst ds, e, h => by
  cases e with
  | lst es =>
   have h' : cY ds es = true := h
   rw [uw h']
  | _ => simp [eqD] at h
theorem uw : ∀ {ds es : List D}, cY ds es = true -> ds = es
 | [], es, h => by cases es with
  | nil => rfl
  | cons _ _ => simp [cY] at h
 | d :: r, es, h => by cases es with
  | nil => simp [cY] at h
  | cons e t =>
   have h' : (eqD d e && cY r t) = true := h
   rw [Bool.and_eq_true] at h'
   rw [rT h'.1, uw h'.2]
end
end L2
set_option Elab.async false
set_option linter.all false
set_option maxRecDepth 100000
namespace L2
open PySem PySem.Spec PyProof.Rows
theorem bj : bootBuiltins "len" = some (.builtin "len") := by decide +kernel
theorem yh : bootBuiltins "abs" = some (.builtin "abs") := by decide +kernel
theorem bD : bootBuiltins "isinstance" = some (.builtin "isinstance") := by decide +kernel
theorem lA : bootBuiltins "all" = some (.builtin "all") := by decide +kernel
theorem nR : bootBuiltins "any" = some (.builtin "any") := by decide +kernel
theorem Dz : bootBuiltins "int" = some (.type "int") := by decide +kernel
theorem Ac : bootBuiltins "bool" = some (.type "bool") := by decide +kernel
theorem dj : bootBuiltins "list" = some (.type "list") := by decide +kernel
theorem wB : bootBuiltins "tuple" = some (.type "tuple") := by decide +kernel
theorem ifP {c A B : Prop} [Decidable c] (hc : c) (h : A) : if c then A else B := by
 rw [if_pos hc]
 exact h
theorem ifN {c A B : Prop} [Decidable c] (hc : ¬ c) (h : B) : if c then A else B := by
 rw [if_neg hc]
 exact h
theorem aj {env : Env} {es : List Expr} {a b} : starEach (.Name a b :: es) env = (false, eval (.Name a b) env) :: starEach es env := rfl
theorem aD {env : Env} {es : List Expr} {a b c} : starEach (.Constant a b c :: es) env = (false, eval (.Constant a b c) env) :: starEach es env := rfl
theorem aK {env : Env} {es : List Expr} {a b c} : starEach (.Subscript a b c :: es) env = (false, eval (.Subscript a b c) env) :: starEach es env := rfl
theorem bA {env : Env} {es : List Expr} {a b c d} : starEach (.BinOp a b c d :: es) env = (false, eval (.BinOp a b c d) env) :: starEach es env := rfl
theorem aR {env : Env} {es : List Expr} {a b c d} : starEach (.Call a b c d :: es) env = (false, eval (.Call a b c d) env) :: starEach es env := rfl
theorem aU {env : Env} {es : List Expr} {a b c d} : starEach (.ListComp a b c d :: es) env = (false, eval (.ListComp a b c d) env) :: starEach es env := rfl
theorem dM {env : Env} {es : List Expr} {a b c} : starEach (.Tuple a b c :: es) env = (false, eval (.Tuple a b c) env) :: starEach es env := rfl
theorem jw {env : Env} {es : List Expr} {a b} : starEach (.List a b :: es) env = (false, eval (.List a b) env) :: starEach es env := rfl
theorem eF {env : Env} {es : List Expr} {a b c} : starEach (.Attribute a b c :: es) env = (false, eval (.Attribute a b c) env) :: starEach es env := rfl
theorem v6 {i : Nat} {v : V} {σ : St} {H : Hp} {A B : St -> Hp -> Prop} (h : A (σ.set i (some v)) H) : fH i v σ H fun σ2 H2 => kJ σ2 H2 fun b H3 => if b = true then A σ2 H3 else B σ2 H3 := by
 show (if true = true then A (σ.set i (some v)) H else B (σ.set i (some v)) H)
 exact d_ h
structure FunM (K : PySem.W.Frag) (mg : Str -> Option Value) (x : Str) (st : Stmt) (ps : List Str) : Prop where
 ex : ∃ f fd, Fun K x x st f fd /\ mg x = some (.ref f) /\ Binds K fd ps []
structure Def (P : Program) (w : World) (K : PySem.W.Frag) (mg : Str -> Option Value) (base : Heap) (x : Str) (ps : List Str) (k : Nat) (sp : Sp) : Prop where
 ex : ∃ f fd, FnOk P w K mg base CX0 k f fd ps sp /\ mg x = some (.ref f) /\ PySem.W.keepIn K (.ref f) = true /\ Binds K fd ps []
section
variable {P : Program} {w : World} {K : PySem.W.Frag} {mg : Str -> Option Value} {base : Heap}
theorem Def.of {x : Str} {st : Stmt} {N ps : List Str} {k : Nat} {sp : Sp} (F : FunM K mg x st ps) (S : FnScope N ps (aC st)) (len : ∀ vs H Q E, sp vs H Q E -> vs.length = ps.length)
  (hbody : ∀ (f : Addr) (cdv : Value) (A : Around) (outer : List Env) (s : Shared) (H : Hp) (vs : List V) (Q : VK) (E : XK), Room k (A.deeper (envOfC x (aC st) s.heap.objs.size f cdv)) -> sp vs H Q E ->
   ∃ t, PSs (oJ CX0 P w K mg base N x (aC st) f cdv A outer s H E).nox (cT st) t /\ t { nx := fun _ H' => Q .non H', rt := Q } (start N vs) H) : Def P w K mg base x ps (k + 1) sp := by
 obtain ⟨f, fd, F1, hm, hb⟩ := F.ex
 exact ⟨f, fd, F1.ok S len (hbody f), hm, F1.kp, hb⟩
end
theorem aF {X : Cx} {x : Str} {ps : List Str} {k : Nat} {sp : Sp} {p pos : Pos} {e : Expr} {es : List Expr} {t : TA} (D : Def X.prog X.w X.K X.mg X.base x ps k sp) (hr : Room k X.A) (hg : Gl X x) (ha : PA X (e :: es) t)
  (hdb : (x == ("__debug__" : Str)) = false := by decide)
  (he : starEach (e :: es) X.env = (false, eval e X.env) :: starEach es X.env := by rfl) (hpl : (backTo pos (starEach es X.env)).any (·.1) = false := by rfl) : PE X (.Call (.Name x p) (e :: es) [] pos) (GP sp [] E0 t) := by
 obtain ⟨f, fd, F, hm, hk, hb⟩ := D.ex
 exact HD F hr hg hm hk hb .nil G8 ha hdb he hpl
theorem fun_m {K : PySem.W.Frag} {h : Heap} {mg : Str -> Option Value} (X : K.In h) (G : h.Ns mainGlobals mg) {x : Str} {st : Stmt} {ps : List Str} {f : Addr} {oc : Value} {od an : Option Addr} {osl : Array (Option Value)} {kV doc pm cdv ct : Value}
  (a : PySem.W.nsIn K mainGlobals x = some (some (.ref f)))
  (l : K.lookup f = some ⟨oc, od, .func (PySem.W.fnOf x x (dW st) (cT st) (aC st) .none kV doc pm an cdv ct), osl⟩) (c : PySem.W.codeIn K cdv x = true) (k : PySem.W.keepIn K (.ref f) = true)
  (b : ∀ (kV doc pm : Value) (an : Option Addr) (cdv ct : Value) (us : List Value), us.length = ps.length -> bindArgs (PySem.W.fnOf x x (dW st) (cT st) (aC st) .none kV doc pm an cdv ct) ⟨us, []⟩ = pure (ps.zip us)) : FunM K mg x st ps := by
 have F := ww (st := st) l c k
 exact ⟨f, _, F, PySem.W.mg_of X G a, F.binds b⟩
end L2
set_option Elab.async false
set_option linter.all false
set_option maxRecDepth 100000
namespace L2
open PySem PySem.Spec PyProof.Rows
section
variable {X : Cx} {pins : List (Addr × Obj)} {σ : St} {H : Hp} {s : Shared}
theorem Inv.turnedL {t' : Nat} {ch : List Addr} {h' : Heap} (I : Inv X pins σ H s) (k : ∀ b o, b ∉ ch -> s.heap.get? b = some o -> h'.get? b = some o) (f : ∀ b ∈ ch, fK X pins H b) : Inv X pins σ H { s with heap := h', toks := t' } := by
 have nit : ∀ b u, H b = some u -> b ∉ ch := fun b u e z => by rw [(f b z).1] at e; cases e
 refine I.step (g' := s.gens) (d' := s.drawn) (ch := ch) (fun b hb => ⟨(f b hb).2.2.2.1, (f b hb).2.1, (f b hb).2.2.2.2.1, (f b hb).2.2.2.2.2⟩) (fun b o _ _ hc e _ => k b o hc e) (fun b o _ _ hc e _ => ⟨o.slots, k b o hc e⟩) (fun _ _ _ _ n => n)
  (fun b o hc e => ⟨o, k b o hc e⟩) (fun _ _ e => e) (fun _ _ _ e => e) (fun b ps e => ⟨#[], by rw [e]; simp⟩) (fun m hm => ?_) (fun b u e => ?_) I.bare
 ·obtain ⟨o, es, ep, ho, r⟩ := hm
  exact ⟨o, es, ep, k _ o (fun z => (f _ z).2.1 rfl) ho, r⟩
 ·refine (I.hok b u e).stay (fun c v hc q => k c v ?_ q) (fun _ q => q) fun _ _ q => q
  rcases hc with z | z
  ·rw [z]; exact nit b u e
  ·exact nit c _ z
end
def Itz (K : PySem.W.Frag) (a b : Addr) : It :=
  ⟨fun i H => ∃ xs ys x y, SqL K H a xs /\ SqL K H b ys /\ xs[i]? = some x /\ ys[i]? = some y,
   fun i H v H' => ∃ p x y, v = .ref p /\ H p = none /\ H' = upd H p (.tup [x, y]) /\ (∀ xs, SqL K H a xs -> xs[i]? = some x) /\ (∀ ys, SqL K H b ys -> ys[i]? = some y),
   fun i H => ∃ xs ys, SqL K H a xs /\ SqL K H b ys /\ (xs.length <= i \/ ys.length <= i)⟩
theorem dX {h : Heap} {l c : Addr} {its : Array Value} {o : Obj} {n : String} (hl : h.IsList l its) (hc : h.get? c = some o) (hn : o.cls = .type n) (hd : n ≠ "list") : l ≠ c := by
 rintro rfl
 obtain ⟨q, e, e2, _⟩ := hl
 rw [hc] at e
 cases e
 rw [hn] at e2
 injection e2 with e3
 exact hd e3
theorem Fq {P : Program} {w : World} {K : PySem.W.Frag} {es : List Expr} {k1 : _} {tp : Pos} (a b z TI TO i1 i2 : Addr) (hap : z ≠ TI /\ z ≠ TO /\ z ≠ i1 /\ z ≠ i2 /\ TI ≠ TO /\ TI ≠ i1 /\ TI ≠ i2 /\ TO ≠ i1 /\ TO ≠ i2 /\ i1 ≠ i2) :
  Turn P w K (.Tuple es k1 tp) (Itz K a b) [z, TI, TO, i1, i2] z (fun i h => IsZip h z TI TO .none /\ IsPair h TI (.ref i1) (.ref i2) /\ (∃ x y, IsPair h TO x y) /\ h.IsListIter i1 a i /\ h.IsListIter i2 b i) where
 mem := by simp
 obj := fun i h st c hc => by
  obtain ⟨hz, hTI, ⟨x, y, hTO⟩, h1, h2⟩ := st
  simp only [List.mem_cons, List.not_mem_nil, or_false] at hc
  rcases hc with e | e | e | e | e
  ·subst e; exact ⟨_, hz, fun v z => by simp at z⟩
  ·subst e; exact ⟨_, hTI, fun v z => by simp at z⟩
  ·subst e; exact ⟨_, hTO, fun v z => by simp at z⟩
  ·subst e; obtain ⟨o, e, _, d⟩ := h1; exact ⟨o, e, fun v z => by rw [d] at z; cases z⟩
  ·subst e; obtain ⟨o, e, _, d⟩ := h2; exact ⟨o, e, fun v z => by rw [d] at z; cases z⟩
 keep := fun i h h' st k => by
  obtain ⟨hz, hTI, ⟨x, y, hTO⟩, h1, h2⟩ := st
  exact ⟨k z (by simp) _ hz, k TI (by simp) _ hTI, ⟨x, y, k TO (by simp) _ hTO⟩, h1.at fun o e => k i1 (by simp) o e, h2.at fun o e => k i2 (by simp) o e⟩
 item := by
  intro X hP hw hK hc i pins s σ H E I hf st hg
  subst hP hw hK
  obtain ⟨xs, ys, x, y, q1, q2, hx, hy⟩ := hg
  obtain ⟨hz, hTI, ⟨u0, v0, hTO⟩, h1, h2⟩ := st
  obtain ⟨its1, rv1, p1, _⟩ := I.list q1
  obtain ⟨its2, rv2, p2, _⟩ := I.list q2
  obtain ⟨u, hu, ru⟩ := rv1.get hx
  obtain ⟨v, hv, rv⟩ := rv2.get hy
  obtain ⟨a1, a2, a3, a4, a5, a6, a7, a8, a9, a10⟩ := hap
  have l1 := p1.isList
  have l2 := p2.isList
  have ni : ∀ {l c c' : Addr} {its : Array Value} {j : Nat}, s.heap.IsList l its -> s.heap.IsListIter c c' j -> l ≠ c := fun hl hit => by
   obtain ⟨o, e, e2, _⟩ := hit
   exact dX hl e e2 (by decide)
  have D : ZipApart z TI TO i1 i2 a b := ⟨a1.symm, a2.symm, a3.symm, a4.symm, a5, a6, a7, a8, a9, a10, dX l1 hz rfl (by decide), dX l1 hTO rfl (by decide), ni l1 h1, ni l1 h2, dX l2 hz rfl (by decide), dX l2 hTO rfl (by decide), ni l2 h1, ni l2 h2⟩
  refine wpAny_pyNext_zip_item D hz hTI hTO h1 h2 l1 l2 (by simpa using hu) (by simpa using hv) fun h' b1 b2 b3 b4 b5 b6 b7 => ?_
  refine ⟨_, rfl, wpAny_letOwnedTupleGo_zip b1 fun h'' c1 c2 => ?_⟩
  have kk : ∀ c o, c ∉ [z, TI, TO, i1, i2] -> s.heap.get? c = some o -> h''.get? c = some o := fun c o hc e => by
   simp only [List.mem_cons, List.not_mem_nil, or_false, not_or] at hc
   exact c2.extBut c o hc.1 (b7 c o hc.1 hc.2.2.1 hc.2.2.2.1 hc.2.2.2.2 e)
  have I1 : Inv X pins σ H { s with heap := h'' } := I.turnedL (t' := s.toks) kk hf
  have hzlt : z < s.heap.objs.size := Heap.lt_size hz
  have ht : h''.get? s.heap.objs.size = some { cls := .type "tuple", data := .seq #[u, v] } := c2.extBut _ _ (Nat.ne_of_gt hzlt) b5
  have hn : H s.heap.objs.size = none := I.hok.fresh (Nat.le_refl _)
  have ftr : fK X pins H s.heap.objs.size := I.fpOk (Nat.le_refl _) hn
  have lt : ∀ {c o}, s.heap.get? c = some o -> c ≠ s.heap.objs.size := fun e => Nat.ne_of_lt (Heap.lt_size e)
  refine ⟨.ref s.heap.objs.size, upd H s.heap.objs.size (.tup [x, y]), I1.track ftr ⟨by show 2 <= sizeLine; decide, [u, v], .cons ru (.cons rv .nil), ⟨_, ht, rfl, _, rfl⟩⟩, rfl,
   ⟨_, x, y, rfl, hn, rfl, fun zs hq => by rw [I.list_inj hq q1]; exact hx, fun zs hq => by rw [I.list_inj hq q2]; exact hy⟩,
   ⟨c1, c2.extBut _ _ a1.symm (b7 _ _ a1.symm a5 a6 a7 hTI), ⟨u, v, c2.extBut _ _ a2.symm b2⟩, b3.extBut c2.extBut a3.symm, b4.extBut c2.extBut a4.symm⟩, fun c hc => ?_⟩
  rw [aH]
  ·exact (hf c hc).1
  ·simp only [List.mem_cons, List.not_mem_nil, or_false] at hc
   obtain ⟨o1, e1, _⟩ := h1
   obtain ⟨o2, e2, _⟩ := h2
   rcases hc with e | e | e | e | e
   ·subst e; exact lt hz
   ·subst e; exact lt hTI
   ·subst e; exact lt hTO
   ·subst e; exact lt e1
   ·subst e; exact lt e2
 done := by
  intro X hP hw hK hc i pins s σ H E I hf st hg
  subst hP hw hK
  obtain ⟨xs, ys, q1, q2, hend⟩ := hg
  obtain ⟨hz, hTI, ⟨u0, v0, hTO⟩, h1, h2⟩ := st
  obtain ⟨its1, rv1, p1, _⟩ := I.list q1
  obtain ⟨its2, rv2, p2, _⟩ := I.list q2
  obtain ⟨a1, a2, a3, a4, a5, a6, a7, a8, a9, a10⟩ := hap
  have l1 := p1.isList
  have l2 := p2.isList
  have ni : ∀ {l c c' : Addr} {its : Array Value} {j : Nat}, s.heap.IsList l its -> s.heap.IsListIter c c' j -> l ≠ c := fun hl hit => by
   obtain ⟨o, e, e2, _⟩ := hit
   exact dX hl e e2 (by decide)
  have D : ZipApart z TI TO i1 i2 a b := ⟨a1.symm, a2.symm, a3.symm, a4.symm, a5, a6, a7, a8, a9, a10, dX l1 hz rfl (by decide), dX l1 hTO rfl (by decide), ni l1 h1, ni l1 h2, dX l2 hz rfl (by decide), dX l2 hTO rfl (by decide), ni l2 h1, ni l2 h2⟩
  have e1 := rv1.length
  have e2 := rv2.length
  refine wpAny_pyNext_zip_end (I.ok.hd hc) D hz hTI hTO h1 h2 l1 l2 (by
   rcases hend with h | h
   ·left; simp; omega
   ·right; simp; omega) fun h' kk => ⟨rfl, ?_⟩
  exact I.turnedL (t' := s.toks) (fun c o hc e => by
   simp only [List.mem_cons, List.not_mem_nil, or_false, not_or] at hc
   exact kk c o hc.1 hc.2.2.1 hc.2.2.2.1 hc.2.2.2.2 e) hf
 self := fun _ _ _ _ _ st h => wpAny_pyIter_zip st.1 h
def Jz (K : PySem.W.Frag) (ta : TA) : TI := fun σ H R => ta σ H fun vs H1 => ∃ a b, vs = [.ref a, .ref b] /\ (∃ xs, SqL K H1 a xs) /\ (∃ ys, SqL K H1 b ys) /\ R (Itz K a b) H1
theorem Jl {X : Cx} {es : List Expr} {k1 : _} {tp : Pos} {a b : Expr} {ta : TA} {p pos : Pos} (hg : Gl X "zip") (hm : X.mg "zip" = none) (ha : PA X [a, b] ta) (hs : starEach [a, b] X.env = [(false, eval a X.env), (false, eval b X.env)] := by rfl) (hs2 : starEach [b] X.env = [(false, eval b X.env)] := by rfl) :
  PI X (.Tuple es k1 tp) (.Call (.Name "zip" p) [a, b] [] pos) (Jz X.K ta) := by
 intro pins s σ H R I h
 refine Call_ (iD I hg hm boot_zip (PyProof.Rows.callWith_type1 (thn (ha pos pins s σ H _ I h) fun us s1 ⟨vs, H1, I1, r1, q1⟩ => ?_) (by rw [hs, hs2]) (by rw [hs2]; rfl)))
 obtain ⟨l1, l2, e, ⟨xs, hx⟩, ⟨ys, hy⟩, q⟩ := q1
 subst e
 cases r1 with
 | cons r rr =>
  cases rr with
  | cons r' rr =>
   cases rr
   cases r
   cases r'
   obtain ⟨its1, rv1, p1, _⟩ := I1.list hx
   obtain ⟨its2, rv2, p2, _⟩ := I1.list hy
   refine call_zip_2 p1.isList p2.isList fun h' c1 c2 c3 c4 c5 c6 c7 => ?_
   have I2 : Inv X pins σ H1 { s1 with heap := h' } := I1.kept (t' := s1.toks) c7
   refine wpAny_pyIter_zip (s := { s1 with heap := h' }) c1 ?_
   refine ⟨_, _, _, _, H1, rfl, I2, Fq l1 l2 _ (s1.heap.objs.size + 2) (s1.heap.objs.size + 3) s1.heap.objs.size (s1.heap.objs.size + 1) ?_, ⟨c1, c2, ⟨_, _, c3⟩, c4, c5⟩, fun c hc => ?_, q⟩
   ·refine ⟨?_, ?_, ?_, ?_, ?_, ?_, ?_, ?_, ?_, ?_⟩ <;> (intro z; have z' : (_ : Nat) = _ := z; omega)
   ·simp only [List.mem_cons, List.not_mem_nil, or_false] at hc
    have hle : s1.heap.objs.size <= c := by
     rcases hc with e | e | e | e | e <;> (subst e; first | exact Nat.le_refl _ | exact Nat.le_add_right _ _)
    exact I1.fpOk hle (I1.hok.fresh hle)
theorem tu {K : PySem.W.Frag} {a b : Addr} {xs ys : List V} {g : TG} {tb : TS} {D : Ends} {σ : St} {H : Hp} (Pv : Nat -> St -> Hp -> Prop) (h0 : Pv 0 σ H) (hl : ∀ i σ H, Pv i σ H -> SqL K H a xs /\ SqL K H b ys)
  (hs : ∀ i x y p σ H, xs[i]? = some x -> ys[i]? = some y -> H p = none -> Pv i σ H -> g (.ref p) σ (upd H p (.tup [x, y])) fun σ2 H2 => tb { D with nx := Pv (i + 1), ct := Pv (i + 1), bk := D.nx } σ2 H2) (hd : ∀ σ H, Pv (min xs.length ys.length) σ H -> D.nx σ H) :
  ∃ W : Nat -> Nat -> St -> Hp -> Prop, (∃ m, W 0 m σ H) /\ ∀ i m σ H, W i m σ H ->
   ((Itz K a b).stop i H /\ D.nx σ H) \/ ((Itz K a b).go i H /\ ∃ N : St -> Hp -> Prop, (∀ σ' H', N σ' H' -> ∃ m', m' < m /\ W (i + 1) m' σ' H') /\ ∀ x H', (Itz K a b).yld i H x H' -> g x σ H' fun σ2 H2 => tb { D with nx := N, ct := N, bk := D.nx } σ2 H2) := by
 refine ⟨fun i m σ H => m = min xs.length ys.length - i /\ i <= min xs.length ys.length /\ Pv i σ H, ⟨_, rfl, Nat.zero_le _, h0⟩, ?_⟩
 rintro i m σ H ⟨rfl, hi, p⟩
 obtain ⟨q1, q2⟩ := hl i σ H p
 by_cases hlt : i < min xs.length ys.length
 ·have h1 : i < xs.length := by omega
  have h2 : i < ys.length := by omega
  refine .inr ⟨⟨xs, ys, xs[i], ys[i], q1, q2, by simp [h1], by simp [h2]⟩, Pv (i + 1), fun σ' H' p' => ⟨min xs.length ys.length - (i + 1), by omega, rfl, hlt, p'⟩, fun x H' y => ?_⟩
  obtain ⟨r, u, v, rfl, hn, rfl, e1, e2⟩ := y
  exact hs i u v r σ H (e1 xs q1) (e2 ys q2) hn p
 ·have e : i = min xs.length ys.length := by omega
  subst e
  exact .inl ⟨⟨xs, ys, q1, q2, by omega⟩, hd σ H p⟩
theorem qp {K : PySem.W.Frag} {a b : Addr} {xs ys : List V} {g : TG} {tt : TT} {te : TE} {σc : St} {H : Hp} {Fin : List V -> Hp -> Prop} (Pv : Nat -> List V -> Hp -> Prop) (h0 : Pv 0 [] H) (hl : ∀ i zs H, Pv i zs H -> SqL K H a xs /\ SqL K H b ys /\ zs.length <= i) (hz : xs.length <= sizeLine)
  (hs : ∀ i x y p zs H, xs[i]? = some x -> ys[i]? = some y -> H p = none -> Pv i zs H -> g (.ref p) σc (upd H p (.tup [x, y])) fun σ2 H2 => tt σ2 H2 fun b H3 => if b = true then te σ2 H3 fun y H4 => Pv (i + 1) (zs ++ [y]) H4 else Pv (i + 1) zs H3)
  (hd : ∀ zs H, Pv (min xs.length ys.length) zs H -> Fin zs H) : dC (Itz K a b) g tt te σc H Fin := by
 refine ⟨fun i m zs H => m = min xs.length ys.length - i /\ i <= min xs.length ys.length /\ Pv i zs H, ⟨_, rfl, Nat.zero_le _, h0⟩, ?_⟩
 rintro i m zs H ⟨rfl, hi, p⟩
 obtain ⟨q1, q2, hy⟩ := hl i zs H p
 by_cases hlt : i < min xs.length ys.length
 ·have h1 : i < xs.length := by omega
  have h2 : i < ys.length := by omega
  refine .inr ⟨⟨xs, ys, xs[i], ys[i], q1, q2, by simp [h1], by simp [h2]⟩, by omega, Pv (i + 1), fun ys' H' p' => ⟨min xs.length ys.length - (i + 1), by omega, rfl, hlt, p'⟩, fun x H' y => ?_⟩
  obtain ⟨r, u, v, rfl, hn, rfl, e1, e2⟩ := y
  exact hs i u v r zs H (e1 xs q1) (e2 ys q2) hn p
 ·have e : i = min xs.length ys.length := by omega
  subst e
  exact .inl ⟨⟨xs, ys, q1, q2, by omega⟩, hd zs H p⟩
def Ite (K : PySem.W.Frag) (a : Addr) : It :=
  ⟨fun i H => ∃ xs x, SqL K H a xs /\ xs[i]? = some x,
   fun i H v H' => ∃ p x, v = .ref p /\ H p = none /\ H' = upd H p (.tup [.int i, x]) /\ (∀ xs, SqL K H a xs -> xs[i]? = some x),
   fun i H => ∃ xs, SqL K H a xs /\ xs.length <= i⟩
theorem Ed {P : Program} {w : World} {K : PySem.W.Frag} {es : List Expr} {k1 : _} {tp : Pos} (a e it : Addr) (hap : e ≠ it) :
  Turn P w K (.Tuple es k1 tp) (Ite K a) [e, it] e (fun i h => (∃ old, IsEnum h e it ((i : Nat) : Int) old) /\ h.IsListIter it a i) where
 mem := by simp
 obj := fun i h st c hc => by
  obtain ⟨⟨old, he⟩, h1⟩ := st
  simp only [List.mem_cons, List.not_mem_nil, or_false] at hc
  rcases hc with q | q
  ·subst q; exact ⟨_, he, fun v z => by simp at z⟩
  ·subst q; obtain ⟨o, e, _, d⟩ := h1; exact ⟨o, e, fun v z => by rw [d] at z; cases z⟩
 keep := fun i h h' st k => by
  obtain ⟨⟨old, he⟩, h1⟩ := st
  exact ⟨⟨old, k e (by simp) _ he⟩, h1.at fun o q => k it (by simp) o q⟩
 item := by
  intro X hP hw hK hc i pins s σ H E I hf st hg
  subst hP hw hK
  obtain ⟨xs, x, q1, hx⟩ := hg
  obtain ⟨⟨old, he⟩, h1⟩ := st
  obtain ⟨its1, rv1, p1, _⟩ := I.list q1
  obtain ⟨u, hu, ru⟩ := rv1.get hx
  have l1 := p1.isList
  refine wpAny_pyNext_enum_item he h1 l1 (by simpa using hu) hap fun h' b1 b2 b3 b4 b5 => ?_
  refine ⟨_, rfl, wpAny_letOwnedTupleGo_enum b1 fun h'' c1 c2 => ?_⟩
  have kk : ∀ c o, c ∉ [e, it] -> s.heap.get? c = some o -> h''.get? c = some o := fun c o hc q => by
   simp only [List.mem_cons, List.not_mem_nil, or_false, not_or] at hc
   exact c2.extBut c o hc.1 (b5 c o hc.1 hc.2 q)
  have I1 : Inv X pins σ H { s with heap := h'', toks := s.toks + 1 } := I.turnedL (t' := s.toks + 1) kk hf
  have hzlt : e < s.heap.objs.size := Heap.lt_size he
  have ht : h''.get? s.heap.objs.size = some { cls := .type "tuple", data := .seq #[.int i s.toks, u] } := c2.extBut _ _ (Nat.ne_of_gt hzlt) b3
  have hn : H s.heap.objs.size = none := I.hok.fresh (Nat.le_refl _)
  have ftr : fK X pins H s.heap.objs.size := I.fpOk (Nat.le_refl _) hn
  have lt : ∀ {c o}, s.heap.get? c = some o -> c ≠ s.heap.objs.size := fun e => Nat.ne_of_lt (Heap.lt_size e)
  refine ⟨.ref s.heap.objs.size, upd H s.heap.objs.size (.tup [.int i, x]), I1.track ftr ⟨by show 2 <= sizeLine; decide, [.int i s.toks, u], .cons ⟨_, rfl⟩ (.cons ru .nil), ⟨_, ht, rfl, _, rfl⟩⟩, rfl,
   ⟨_, x, rfl, hn, rfl, fun zs hq => by rw [I.list_inj hq q1]; exact hx⟩, ⟨⟨u, ?_⟩, b2.extBut c2.extBut hap.symm⟩, fun c hc => ?_⟩
  ·have e1 : ((i + 1 : Nat) : Int) = (i : Int) + 1 := by push_cast; rfl
   rw [e1]
   exact c1
  ·rw [aH]
   ·exact (hf c hc).1
   ·simp only [List.mem_cons, List.not_mem_nil, or_false] at hc
    obtain ⟨o1, e1, _⟩ := h1
    rcases hc with q | q
    ·subst q; exact lt he
    ·subst q; exact lt e1
 done := by
  intro X hP hw hK hc i pins s σ H E I hf st hg
  subst hP hw hK
  obtain ⟨xs, q1, hend⟩ := hg
  obtain ⟨⟨old, he⟩, h1⟩ := st
  obtain ⟨its1, rv1, p1, _⟩ := I.list q1
  have e1 := rv1.length
  refine wpAny_pyNext_enum_end (I.ok.hd hc) he h1 p1.isList (by simp; omega) fun h' kk => ⟨rfl, ?_⟩
  exact I.turnedL (t' := s.toks) (fun c o hc q => by
   simp only [List.mem_cons, List.not_mem_nil, or_false, not_or] at hc
   exact kk c o hc.2 q) hf
 self := fun _ _ _ _ _ st h => by
  obtain ⟨⟨old, he⟩, h1⟩ := st
  exact wpAny_pyIter_enum he h
def GZ (K : PySem.W.Frag) (ta : TA) : TI := fun σ H R => ta σ H fun vs H1 => ∃ a xs, vs = [.ref a] /\ H1 a = some (.lst xs) /\ R (Ite K a) H1
theorem HY {X : Cx} {es : List Expr} {k1 : _} {tp : Pos} {a : Expr} {ta : TA} {p pos : Pos} (hg : Gl X "enumerate") (hm : X.mg "enumerate" = none) (ha : PA X [a] ta) (hs : starEach [a] X.env = [(false, eval a X.env)] := by rfl) :
  PI X (.Tuple es k1 tp) (.Call (.Name "enumerate" p) [a] [] pos) (GZ X.K ta) := by
 intro pins s σ H R I h
 refine Call_ (iD I hg hm boot_enumerate (PyProof.Rows.callWith_type1 (thn (ha pos pins s σ H _ I h) fun us s1 ⟨vs, H1, I1, r1, q1⟩ => ?_) hs rfl))
 obtain ⟨l1, xs, e, hx, q⟩ := q1
 subst e
 cases r1 with
 | cons r rr =>
  cases rr
  cases r
  obtain ⟨_, its, n, rv, ho⟩ := (show ObjOk X.prog X.w H1 s1.heap l1 (.lst xs) from I1.hok l1 _ hx)
  refine call_enumerate_1 ho fun h' c1 c2 c3 c4 => ?_
  have I2 : Inv X pins σ H1 { s1 with heap := h' } := I1.kept (t' := s1.toks) c4
  refine wpAny_pyIter_enum (s := { s1 with heap := h' }) c1 ?_
  refine ⟨_, _, _, _, H1, rfl, I2, Ed l1 _ s1.heap.objs.size (by intro z; have z' : (_ : Nat) = _ := z; omega), ⟨⟨_, c1⟩, c2⟩, fun c hc => ?_, q⟩
  simp only [List.mem_cons, List.not_mem_nil, or_false] at hc
  have hle : s1.heap.objs.size <= c := by
   rcases hc with e | e <;> (subst e; first | exact Nat.le_refl _ | exact Nat.le_add_right _ _)
  exact I1.fpOk hle (I1.hok.fresh hle)
theorem nG {K : PySem.W.Frag} {a : Addr} {xs : List V} {g : TG} {tt : TT} {te : TE} {σc : St} {H : Hp} {Fin : List V -> Hp -> Prop} (Pv : Nat -> List V -> Hp -> Prop) (h0 : Pv 0 [] H) (hl : ∀ i zs H, Pv i zs H -> SqL K H a xs /\ zs.length <= i) (hz : xs.length <= sizeLine)
  (hs : ∀ i x p zs H, xs[i]? = some x -> H p = none -> Pv i zs H -> g (.ref p) σc (upd H p (.tup [.int i, x])) fun σ2 H2 => tt σ2 H2 fun b H3 => if b = true then te σ2 H3 fun y H4 => Pv (i + 1) (zs ++ [y]) H4 else Pv (i + 1) zs H3)
  (hd : ∀ zs H, Pv xs.length zs H -> Fin zs H) : dC (Ite K a) g tt te σc H Fin := by
 refine ⟨fun i m zs H => m = xs.length - i /\ i <= xs.length /\ Pv i zs H, ⟨_, rfl, Nat.zero_le _, h0⟩, ?_⟩
 rintro i m zs H ⟨rfl, hi, p⟩
 obtain ⟨q1, hy⟩ := hl i zs H p
 by_cases hlt : i < xs.length
 ·refine .inr ⟨⟨xs, xs[i], q1, by simp [hlt]⟩, by omega, Pv (i + 1), fun ys' H' p' => ⟨xs.length - (i + 1), by omega, rfl, hlt, p'⟩, fun x H' y => ?_⟩
  obtain ⟨r, u, rfl, hn, rfl, e1⟩ := y
  exact hs i u r zs H (e1 xs q1) hn p
 ·have e : i = xs.length := by omega
  subst e
  exact .inl ⟨⟨xs, q1, by omega⟩, hd zs H p⟩
inductive AllInts : List Expr -> List Int -> Prop
 | nil : AllInts [] []
 | cons {i : Int} {j : Nat} {pos : Pos} {es : List Expr} {is : List Int} : AllInts es is -> AllInts (.Constant (.int i) j pos :: es) (i :: is)
def JR (is : List Int) : TA := fun _ H Q => Q (is.map V.int) H
theorem Hz {X : Cx} {es : List Expr} {is : List Int} (h : AllInts es is) : PA X es (JR is) := by
 induction h with
 | nil => exact ao
 | cons h ih => exact fun pos pins s σ H Q I q => aa au ih rfl pos pins s σ H Q I q
section
variable {X : Cx} {tg : Expr}
theorem ixL (K : PySem.W.Frag) (h : X.K = K := by rfl) : IxR X (Ge K) := by subst h; exact Im
theorem ixT (K : PySem.W.Frag) (h : X.K = K := by rfl) : IxR X (Ff K) := by subst h; exact Ja
theorem slL (K : PySem.W.Frag) (h : X.K = K := by rfl) : SlR X (Jc K) := by subst h; exact Hf
theorem qH (K : PySem.W.Frag) (hu : X.A.units + 64 < cLine) (h : X.K = K := by rfl) : OpR X (compareOp .Eq) (Jx K) := by subst h; exact IV hu
theorem wH (K : PySem.W.Frag) (hu : X.A.units + 64 < cLine) (h : X.K = K := by rfl) : OpR X (compareOp .NotEq) (Jp K) := by subst h; exact JD hu
def KN (K : PySem.W.Frag) : List V -> Hp -> VK -> Prop := fun xs H Q => ∃ x t T b, xs = [x, .ty T] /\ TyOf K H x t /\ PySem.W.kitOne K t (.type T) = some b /\ Q (.bl b) H
def Kr (K : PySem.W.Frag) : List V -> Hp -> VK -> Prop := fun xs H Q => ∃ p ys, xs = [.ref p] /\ (SqL K H p ys \/ SqT K H p ys) /\ Q (.int ys.length) H
def Ij (K : PySem.W.Frag) : List V -> Hp -> VK -> Prop := fun xs H Q => ∃ p ys, xs = [.ref p] /\ (SqL K H p ys \/ SqT K H p ys) /\ ∀ l, H l = none -> Q (.ref l) (upd H l (.lst ys))
def KR (K : PySem.W.Frag) : List V -> Hp -> VK -> Prop := fun xs H Q => ∃ (a : Addr) (bs : List Bool), xs = [.ref a] /\ SqL K H a (bs.map V.bl) /\ Q (.bl (bs.all id)) H
def KH (K : PySem.W.Frag) : List V -> Hp -> VK -> Prop := fun xs H Q => ∃ (a : Addr) (bs : List Bool), xs = [.ref a] /\ SqL K H a (bs.map V.bl) /\ Q (.bl (bs.any id)) H
def Lq (K : PySem.W.Frag) : List V -> Hp -> VK -> Prop := fun xs H Q => ∃ (a : Addr) (ns : List Int), xs = [.ref a] /\ SqL K H a (ns.map V.int) /\ Q (.int ns.sum) H
def Lh (K : PySem.W.Frag) : List V -> Hp -> VK -> Prop := fun xs H Q => ∃ (a : Addr) (ns : List Int), xs = [.ref a] /\ SqL K H a (ns.map V.int) /\ ns ≠ [] /\ Q (.int (Ka ns)) H
def Lz (K : PySem.W.Frag) : List V -> Hp -> VK -> Prop := fun xs H Q => ∃ (a : Addr) (ns : List Int), xs = [.ref a] /\ SqL K H a (ns.map V.int) /\ ns ≠ [] /\ Q (.int (Kp ns)) H
theorem mJ (K : PySem.W.Frag) (h : X.K = K := by rfl) : CallR X (.builtin "isinstance") (KN K) := by subst h; exact yZ
theorem bK (K : PySem.W.Frag) (h : X.K = K := by rfl) : CallR X (.builtin "len") (Kr K) := by subst h; exact wW
theorem fW (K : PySem.W.Frag) (h : X.K = K := by rfl) : CallR X (.type "list") (Ij K) := by subst h; exact yp
theorem uE (K : PySem.W.Frag) (hc : X.calm = true := by rfl) (h : X.K = K := by rfl) : CallR X (.builtin "all") (KR K) := by subst h; exact FZ hc
theorem yS (K : PySem.W.Frag) (hc : X.calm = true := by rfl) (h : X.K = K := by rfl) : CallR X (.builtin "any") (KH K) := by subst h; exact Fv hc
theorem piL (K : PySem.W.Frag) {l : Expr} {tl : TE} (hl : PE X l tl) (h : X.K = K := by rfl) : PI X tg l (GF K tl) := by subst h; exact Ho hl
theorem piT (K : PySem.W.Frag) {l : Expr} {tl : TE} (hl : PE X l tl) (h : X.K = K := by rfl) : PI X tg l (Iz K tl) := by subst h; exact Jq hl
theorem pgT (K : PySem.W.Frag) {es : List Expr} {k : Nat} {t : TGs} {n : Nat} {pos : Pos} (h : PGs X es t) (hc : X.calm = true := by rfl) (hn : (assignEach es X.env).length = n := by rfl) (hst : (assignEach es X.env).findIdx? (·.1) = none := by rfl) (hK : X.K = K := by rfl) :
  PG X (.Tuple es k pos) (Iw K n t) := by subst hK; exact Jg hc h hn hst
theorem pF (K : PySem.W.Frag) {es : List Expr} {k1 : _} {tp : Pos} {a b : Expr} {ta : TA} {p pos : Pos} (hg : Gl X "zip") (hm : X.mg "zip" = none) (ha : PA X [a, b] ta) (hs : starEach [a, b] X.env = [(false, eval a X.env), (false, eval b X.env)] := by rfl) (hs2 : starEach [b] X.env = [(false, eval b X.env)] := by rfl)
  (hK : X.K = K := by rfl) : PI X (.Tuple es k1 tp) (.Call (.Name "zip" p) [a, b] [] pos) (Jz K ta) := by subst hK; exact Jl hg hm ha hs hs2
theorem wV (K : PySem.W.Frag) {es : List Expr} {k1 : _} {tp : Pos} {a : Expr} {ta : TA} {p pos : Pos} (hg : Gl X "enumerate") (hm : X.mg "enumerate" = none) (ha : PA X [a] ta) (hs : starEach [a] X.env = [(false, eval a X.env)] := by rfl)
  (hK : X.K = K := by rfl) : PI X (.Tuple es k1 tp) (.Call (.Name "enumerate" p) [a] [] pos) (GZ K ta) := by subst hK; exact HY hg hm ha hs
theorem peI {x : Str} {i : Int} {pos : Pos} (hm : ∃ t, X.mg x = some (.int i t)) (hg : Gl X x) (hd : (x == ("__debug__" : Str)) = false := by decide) : PE X (.Name x pos) (tC (.int i)) := by
 obtain ⟨t, hm⟩ := hm
 exact zW hg hm ⟨t, rfl⟩ hd
end
end L2
set_option maxRecDepth 100000
namespace Fr
def mk (a b : Int) : Int × Int := (a / (Int.gcd a b : Int), b / (Int.gcd a b : Int))
theorem gcd_pos {a b : Int} (h : 0 < b) : 0 < (Int.gcd a b : Int) := by
 have : 0 < Int.gcd a b := Int.gcd_pos_of_ne_zero_right a (by omega)
 omega
theorem gcd_le {a b : Int} (h : 0 < b) : (Int.gcd a b : Int) <= b := Int.le_of_dvd h (Int.gcd_dvd_right a b)
theorem jP {a b : Int} : (mk a b).1 * (Int.gcd a b : Int) = a := Int.ediv_mul_cancel (Int.gcd_dvd_left a b)
theorem iI {a b : Int} : (mk a b).2 * (Int.gcd a b : Int) = b := Int.ediv_mul_cancel (Int.gcd_dvd_right a b)
theorem mk_pos {a b : Int} (h : 0 < b) : 0 < (mk a b).2 := by
 have h1 := gcd_pos (a := a) h
 have h2 := iI (a := a) (b := b)
 rcases Int.lt_or_le 0 (mk a b).2 with h3 | h3
 ·exact h3
 ·have h4 : (mk a b).2 * (Int.gcd a b : Int) <= 0 := Int.mul_nonpos_of_nonpos_of_nonneg h3 (by omega)
  omega
theorem mk_snd_le {a b : Int} (h : 0 < b) : (mk a b).2 <= b := by
 have h1 := gcd_pos (a := a) h
 have h2 := iI (a := a) (b := b)
 have h3 := mk_pos (a := a) h
 have h4 : (mk a b).2 * 1 <= (mk a b).2 * (Int.gcd a b : Int) := Int.mul_le_mul_of_nonneg_left (by omega) (by omega)
 omega
theorem mk_fst_le {a b : Int} (h : 0 < b) : (mk a b).1.natAbs <= a.natAbs := by
 have h1 := gcd_pos (a := a) h
 have h2 := congrArg Int.natAbs (jP (a := a) (b := b))
 rw [Int.natAbs_mul] at h2
 rw [<- h2]
 exact Nat.le_mul_of_pos_right _ (by omega)
theorem xX {a b k : Int} (hk : 0 < k) : mk (a * k) (b * k) = mk a b := by
 have e : (Int.gcd (a * k) (b * k) : Int) = (Int.gcd a b : Int) * k := by
  rw [Int.gcd_mul_right]
  have : (k.natAbs : Int) = k := Int.natAbs_of_nonneg (by omega)
  rw [Int.natCast_mul, this]
 unfold mk
 rw [e, Int.mul_ediv_mul_of_pos_left _ _ hk, Int.mul_ediv_mul_of_pos_left _ _ hk]
theorem mk_add {a b c d : Int} (hb : 0 < b) (hd : 0 < d) : mk ((mk a b).1 * (mk c d).2 + (mk c d).1 * (mk a b).2) ((mk a b).2 * (mk c d).2) = mk (a * d + c * b) (b * d) := by
 have h1 := jP (a := a) (b := b)
 have h2 := iI (a := a) (b := b)
 have h3 := jP (a := c) (b := d)
 have h4 := iI (a := c) (b := d)
 have g1 := gcd_pos (a := a) hb
 have g2 := gcd_pos (a := c) hd
 generalize (mk a b).1 = x at *
 generalize (mk a b).2 = y at *
 generalize (mk c d).1 = z at *
 generalize (mk c d).2 = w at *
 generalize (Int.gcd a b : Int) = g at *
 generalize (Int.gcd c d : Int) = g' at *
 have e1 : a * d + c * b = (x * w + z * y) * (g * g') := by
  rw [<- h1, <- h2, <- h3, <- h4, Int.add_mul]
  congr 1
  ·rw [Int.mul_assoc, Int.mul_assoc]; congr 1; rw [Int.mul_left_comm]
  ·rw [Int.mul_assoc, Int.mul_assoc]; congr 1; rw [Int.mul_left_comm g' y g, Int.mul_comm g' g]
 have e2 : b * d = (y * w) * (g * g') := by
  rw [<- h2, <- h4, Int.mul_assoc, Int.mul_assoc]; congr 1; rw [Int.mul_left_comm]
 rw [e1, e2, xX (Int.mul_pos g1 g2)]
theorem mk_lt {a b c d : Int} (hb : 0 < b) (hd : 0 < d) : decide ((mk a b).1 * (mk c d).2 < (mk c d).1 * (mk a b).2) = decide (a * d < c * b) := by
 have h1 := jP (a := a) (b := b)
 have h2 := iI (a := a) (b := b)
 have h3 := jP (a := c) (b := d)
 have h4 := iI (a := c) (b := d)
 have g1 := gcd_pos (a := a) hb
 have g2 := gcd_pos (a := c) hd
 generalize (mk a b).1 = x at *
 generalize (mk a b).2 = y at *
 generalize (mk c d).1 = z at *
 generalize (mk c d).2 = w at *
 generalize (Int.gcd a b : Int) = g at *
 generalize (Int.gcd c d : Int) = g' at *
 have e1 : a * d = (x * w) * (g * g') := by
  rw [<- h1, <- h4, Int.mul_assoc, Int.mul_assoc]; congr 1; rw [Int.mul_left_comm]
 have e2 : c * b = (z * y) * (g * g') := by
  rw [<- h2, <- h3, Int.mul_assoc, Int.mul_assoc]; congr 1; rw [Int.mul_left_comm g' y g, Int.mul_comm g' g]
 have hp : 0 < g * g' := Int.mul_pos g1 g2
 rw [e1, e2]
 exact decide_eq_decide.mpr ⟨fun h => Int.mul_lt_mul_of_pos_right h hp, fun h => Int.lt_of_mul_lt_mul_right h (by omega)⟩
def draw (c k m : Int) : Int := ((c % 1000000007 * 48271 + k * 69621 + 7) % 1000000007) * ((c % 1000000007 * 48271 + k * 69621 + 7) % 1000000007) / 1013 % 1000003 % m
theorem draw_nn (c k : Int) {m : Int} (h : 0 < m) : 0 <= draw c k m := Int.emod_nonneg _ (by omega)
theorem draw_lt (c k : Int) {m : Int} (h : 0 < m) : draw c k m < m := Int.emod_lt_of_pos _ h
theorem gcd_step (l r : Int) : Int.gcd r (l % r) = Int.gcd l r := by
 rw [Int.gcd_comm r (l % r)]
 have h := Int.gcd_add_mul_left_left r (l % r) (l / r)
 rw [Int.emod_add_mul_ediv] at h
 exact h.symm
end Fr
set_option Elab.async false
set_option linter.all false
set_option maxRecDepth 100000
namespace L2
open PySem PySem.Spec PyProof.Rows
theorem ak {H : Hp} {p : Addr} {o : HO} (h : H p = none) : Same H (upd H p o) := fun c u e => by
 rw [aH (aV e h)]
 exact e
theorem di {H H1 : Hp} {p : Addr} {o : HO} (e : Same H H1) (h : H p = none) : Same H (upd H1 p o) := fun c u q => by
 rw [aH (aV q h)]
 exact e c u q
theorem Hh {Q : VK} {H : Hp} {c : Prop} [Decidable c] (hc : c) (k : Q (.bl true) H) : Q (.bl (decide c)) H := by
 rw [decide_eq_true hc]
 exact k
structure New (H H' : Hp) (p : Addr) (o : HO) : Prop where
 new : H p = none
 is : H' p = some o
 same : Same H H'
theorem New.of {H H1 : Hp} {p : Addr} {o : HO} (s : Same H H1) (h : H1 p = none) : New H (upd H1 p o) p o := ⟨s.free h, aq, s.trans (ak h)⟩
theorem New.pre {H H1 H2 : Hp} {p : Addr} {o : HO} (s : Same H H1) (n : New H1 H2 p o) : New H H2 p o := ⟨s.free n.new, n.is, s.trans n.same⟩
theorem New.post {H H1 H2 : Hp} {p : Addr} {o : HO} (n : New H H1 p o) (s : Same H1 H2) : New H H2 p o := ⟨n.new, s _ _ n.is, n.same.trans s⟩
end L2
namespace PySem
theorem Paired.get2 {α β : Type} {F : α -> β -> Prop} : ∀ {l₁ : List α} {l₂ : List β} {i : Nat} {x : α}, Paired F l₁ l₂ -> l₁[i]? = some x -> ∃ y, l₂[i]? = some y /\ F x y
 | _, _, i, x, .nil, e => by simp at e
 | _, _, 0, x, .cons h _, e => by
  simp at e
  subst e
  exact ⟨_, rfl, h⟩
 | _, _, i + 1, x, .cons _ t, e => by simpa using Paired.get2 (i := i) t (by simpa using e)
theorem Paired.at2 {α β : Type} {F : α -> β -> Prop} : ∀ {l₁ : List α} {l₂ : List β} {i : Nat} {y : β}, Paired F l₁ l₂ -> l₂[i]? = some y -> ∃ x, l₁[i]? = some x /\ F x y
 | _, _, i, x, .nil, e => by simp at e
 | _, _, 0, x, .cons h _, e => by
  simp at e
  subst e
  exact ⟨_, rfl, h⟩
 | _, _, i + 1, x, .cons _ t, e => by simpa using Paired.at2 (i := i) t (by simpa using e)
theorem Paired.mem2 {α β : Type} {F : α -> β -> Prop} {l₁ : List α} {l₂ : List β} {x : α} (p : Paired F l₁ l₂) (h : x ∈ l₁) : ∃ y ∈ l₂, F x y := by
 obtain ⟨i, hi, rfl⟩ := List.getElem_of_mem h
 obtain ⟨y, e, f⟩ := p.get2 (List.getElem?_eq_getElem hi)
 exact ⟨y, List.mem_of_getElem? e, f⟩
theorem Paired.app2 {α β : Type} {F : α -> β -> Prop} : ∀ {l₁ m₁ : List α} {l₂ m₂ : List β}, Paired F l₁ l₂ -> Paired F m₁ m₂ -> Paired F (l₁ ++ m₁) (l₂ ++ m₂)
 | _, _, _, _, .nil, q => q
 | _, _, _, _, .cons h t, q => .cons h (Paired.app2 t q)
theorem Paired.imp2 {α β : Type} {F G : α -> β -> Prop} {l₁ : List α} {l₂ : List β} (r : Paired F l₁ l₂) (f : ∀ a b, F a b -> G a b) : Paired G l₁ l₂ := L2.Paired.mapP r f
end PySem
namespace L2
open PySem PySem.Spec PyProof.Rows
theorem bu {K : PySem.W.Frag} {a : Addr} {xs : List V} {te : TE} {σc : St} {H : Hp} {Fin : List V -> Hp -> Prop} (R : V -> V -> Hp -> Prop) (hR : ∀ x y H1 H2, Same H1 H2 -> R x y H1 -> R x y H2) (hl : SqL K H a xs) (hz : xs.length <= sizeLine)
  (hs : ∀ x ∈ xs, ∀ H1, Same H H1 -> ∀ Q : VK, (∀ y H2, Same H1 H2 -> R x y H2 -> Q y H2) -> te (σc.set 0 (some x)) H1 Q) (hd : ∀ ys H', Same H H' -> Paired (fun x y => R x y H') xs ys -> Fin ys H') : dC (Itl K a) (fH 0) kJ te σc H Fin := by
 refine DP (xs := xs) (fun i ys H' => Same H H' /\ Paired (fun x y => R x y H') (xs.take i) ys) ⟨Same.refl _, by simpa using Paired.nil⟩ (fun i ys H' hi h => ?_) hz (fun i x ys H' hx h => ?_) (fun ys H' h => ?_)
 ·refine ⟨h.1.seq hl, ?_⟩
  have := h.2.length
  rw [List.length_take] at this
  omega
 ·refine v6 ?_
  refine hs x (List.mem_of_getElem? hx) H' h.1 _ fun y H2 s2 r => ⟨h.1.trans s2, ?_⟩
  rw [List.take_add_one, hx]
  exact (h.2.imp2 fun x y q => hR x y _ _ s2 q).app2 (.cons r .nil)
 ·exact hd ys H' h.1 (by simpa using h.2)
theorem zA {K : PySem.W.Frag} {a : Addr} {xs : List V} {te : TE} {σc : St} {H : Hp} {Fin : List V -> Hp -> Prop} (R : V -> V -> Hp -> Prop) (hR : ∀ x y H1 H2, Same H1 H2 -> R x y H1 -> R x y H2) (hl : SqT K H a xs) (hz : xs.length <= sizeLine)
  (hs : ∀ x ∈ xs, ∀ H1, Same H H1 -> ∀ Q : VK, (∀ y H2, Same H1 H2 -> R x y H2 -> Q y H2) -> te (σc.set 0 (some x)) H1 Q) (hd : ∀ ys H', Same H H' -> Paired (fun x y => R x y H') xs ys -> Fin ys H') : dC (Itt K a) (fH 0) kJ te σc H Fin := by
 refine Gg (xs := xs) (fun i ys H' => Same H H' /\ Paired (fun x y => R x y H') (xs.take i) ys) ⟨Same.refl _, by simpa using Paired.nil⟩ (fun i ys H' hi h => ?_) hz (fun i x ys H' hx h => ?_) (fun ys H' h => ?_)
 ·refine ⟨SqT.mono h.1 hl, ?_⟩
  have := h.2.length
  rw [List.length_take] at this
  omega
 ·refine v6 ?_
  refine hs x (List.mem_of_getElem? hx) H' h.1 _ fun y H2 s2 r => ⟨h.1.trans s2, ?_⟩
  rw [List.take_add_one, hx]
  exact (h.2.imp2 fun x y q => hR x y _ _ s2 q).app2 (.cons r .nil)
 ·exact hd ys H' h.1 (by simpa using h.2)
theorem cP {n : Nat} {te : TE} {σc : St} {H : Hp} {Fin : List V -> Hp -> Prop} (R : Nat -> V -> Hp -> Prop) (hR : ∀ x y H1 H2, Same H1 H2 -> R x y H1 -> R x y H2) (hz : n <= sizeLine)
  (hs : ∀ i, i < n -> ∀ H1, Same H H1 -> ∀ Q : VK, (∀ y H2, Same H1 H2 -> R i y H2 -> Q y H2) -> te (σc.set 0 (some (.int i))) H1 Q) (hd : ∀ ys H', Same H H' -> Paired (fun x y => R x y H') (List.range n) ys -> Fin ys H') : dC (Itr 0 n) (fH 0) kJ te σc H Fin := by
 refine By (n := n) (fun i ys H' => Same H H' /\ Paired (fun x y => R x y H') (List.range i) ys) ⟨Same.refl _, Paired.nil⟩ (fun i ys H' hi h => ?_) hz (fun i ys H' hx h => ?_) (fun ys H' h => ?_)
 ·have := h.2.length
  rw [List.length_range] at this
  omega
 ·rw [Int.zero_add]
  refine v6 ?_
  refine hs i hx H' h.1 _ fun y H2 s2 r => ⟨h.1.trans s2, ?_⟩
  rw [List.range_succ]
  exact (h.2.imp2 fun x y q => hR x y _ _ s2 q).app2 (.cons r .nil)
 ·exact hd ys H' h.1 h.2
def IsRow (H : Hp) (v : V) (r : List Int) : Prop := ∃ a, v = .ref a /\ H a = some (.lst (r.map V.int))
def IsTab (H : Hp) (a : Addr) (T : List (List Int)) : Prop := ∃ vs, H a = some (.lst vs) /\ Paired (IsRow H) vs T
theorem IsRow.mono {H H' : Hp} {v : V} {r : List Int} (s : Same H H') (h : IsRow H v r) : IsRow H' v r := let ⟨a, e, q⟩ := h; ⟨a, e, s _ _ q⟩
theorem IsTab.mono {H H' : Hp} {a : Addr} {T : List (List Int)} (s : Same H H') (h : IsTab H a T) : IsTab H' a T := let ⟨vs, e, q⟩ := h; ⟨vs, s _ _ e, q.imp2 fun _ _ z => z.mono s⟩
def OwnRow (H H' : Hp) (v : V) (r : List Int) : Prop := ∃ a, v = .ref a /\ H a = none /\ H' a = some (.lst (r.map V.int))
def OwnTab (H H' : Hp) (a : Addr) (T : List (List Int)) : Prop := ∃ vs, H a = none /\ H' a = some (.lst vs) /\ Paired (OwnRow H H') vs T
theorem OwnRow.row {H H' : Hp} {v : V} {r : List Int} (h : OwnRow H H' v r) : IsRow H' v r := let ⟨a, e, _, q⟩ := h; ⟨a, e, q⟩
theorem OwnTab.tab {H H' : Hp} {a : Addr} {T : List (List Int)} (h : OwnTab H H' a T) : IsTab H' a T := let ⟨vs, _, e, q⟩ := h; ⟨vs, e, q.imp2 fun _ _ z => z.row⟩
theorem OwnRow.mono {H H1 H2 : Hp} {v : V} {r : List Int} (s : Same H1 H2) (h : OwnRow H H1 v r) : OwnRow H H2 v r := let ⟨a, e, n, q⟩ := h; ⟨a, e, n, s _ _ q⟩
theorem OwnRow.pre {H H1 H2 : Hp} {v : V} {r : List Int} (s : Same H H1) (h : OwnRow H1 H2 v r) : OwnRow H H2 v r := let ⟨a, e, n, q⟩ := h; ⟨a, e, s.free n, q⟩
theorem OwnTab.pre {H H1 H2 : Hp} {a : Addr} {T : List (List Int)} (s : Same H H1) (h : OwnTab H1 H2 a T) : OwnTab H H2 a T := let ⟨vs, n, e, q⟩ := h; ⟨vs, s.free n, e, q.imp2 fun _ _ z => z.pre s⟩
theorem OwnTab.mono {H H1 H2 : Hp} {a : Addr} {T : List (List Int)} (s : Same H1 H2) (h : OwnTab H H1 a T) : OwnTab H H2 a T := let ⟨vs, n, e, q⟩ := h; ⟨vs, n, s _ _ e, q.imp2 fun _ _ z => z.mono s⟩
def bY (r : List Int) : D := .lst (r.map D.int)
def dG (T : List (List Int)) : D := .lst (T.map bY)
theorem oR {K : PySem.W.Frag} {H : Hp} : ∀ r : List Int, Reps K H (r.map D.int) (r.map V.int)
 | [] => by simp [Reps]
 | x :: r => by
  rw [List.map_cons, List.map_cons]
  unfold Reps
  exact ⟨_, _, rfl, by unfold Rep; rfl, oR r⟩
theorem IsRow.rep {K : PySem.W.Frag} {H : Hp} {v : V} {r : List Int} (h : IsRow H v r) : Rep K H (bY r) v := by
 obtain ⟨a, rfl, e⟩ := h
 unfold bY Rep
 exact ⟨a, _, rfl, SqL.of e, oR r⟩
theorem uT {K : PySem.W.Frag} {H : Hp} : ∀ {vs : List V} {T : List (List Int)}, Paired (IsRow H) vs T -> Reps K H (T.map bY) vs
 | _, _, .nil => by simp [Reps]
 | _, _, .cons h t => by
  rw [List.map_cons]
  unfold Reps
  exact ⟨_, _, rfl, h.rep, uT t⟩
theorem IsTab.rep {K : PySem.W.Frag} {H : Hp} {a : Addr} {T : List (List Int)} (h : IsTab H a T) : Rep K H (dG T) (.ref a) := by
 obtain ⟨vs, e, p⟩ := h
 unfold dG Rep
 exact ⟨a, vs, rfl, SqL.of e, uT p⟩
structure Good (T : List (List Int)) (m n : Nat) : Prop where
 m1 : 1 <= m
 m4 : m <= 4
 n1 : 1 <= n
 n4 : n <= 4
 rows : T.length = m
 cols : ∀ r ∈ T, r.length = n
 num : ∀ r ∈ T, ∀ x ∈ r, -100 <= x /\ x <= 100
theorem kO : ∀ r t : List Int, bF (r.map D.int) (t.map D.int) = true
 | [], t => by unfold bF; cases t <;> rfl
 | _ :: _, [] => by simp [bF]
 | x :: r, y :: t => by
  rw [List.map_cons, List.map_cons]
  unfold bF
  rw [kO r t, Bool.and_true]
  rfl
theorem pQ : ∀ T U : List (List Int), bF (T.map bY) (U.map bY) = true
 | [], t => by unfold bF; cases t <;> rfl
 | _ :: _, [] => by simp [bF]
 | x :: r, y :: t => by
  rw [List.map_cons, List.map_cons]
  unfold bF
  rw [pQ r t, Bool.and_true]
  exact kO x y
theorem jU (r t : List Int) : bL (bY r) (bY t) = true := kO r t
theorem wL (T U : List (List Int)) : bL (dG T) (dG U) = true := pQ T U
theorem qR : ∀ r : List Int, du (r.map D.int) = 0
 | [] => rfl
 | x :: r => by
  rw [List.map_cons]
  unfold du
  rw [qR r]
  rfl
theorem jx (r : List Int) : bW (bY r) = 1 := by
 unfold bY
 rw [iy, qR]
theorem sO : ∀ T : List (List Int), du (T.map bY) <= 1
 | [] => by decide
 | x :: r => by
  rw [List.map_cons]
  unfold du
  rw [jx]
  have := sO r
  omega
theorem Az (T : List (List Int)) : bW (dG T) <= 2 := by
 unfold dG
 rw [iy]
 have := sO T
 omega
theorem fV {r : List Int} {j : Nat} (h : j < r.length) : atI (r.map V.int) (j : Int) = some (.int (r.getD j 0)) := by
 refine gR ?_
 rw [List.getElem?_map, List.getElem?_eq_getElem h, List.getD_eq_getElem?_getD, List.getElem?_eq_getElem h]
 rfl
theorem eQ {α : Type} {xs : List α} {j : Nat} (h : j < xs.length) : atI xs (j : Int) = some xs[j] := gR (List.getElem?_eq_getElem h)
end L2
set_option Elab.async false
set_option linter.all false
set_option maxRecDepth 100000
namespace L2
open PySem PySem.Spec PyProof.Rows
theorem dR {t u : TS} {D : Ends} {σ : St} {H : Hp} (J : St -> Hp -> Prop) (h : ∀ R : St -> Hp -> Prop, (∀ σ' H', J σ' H' -> R σ' H') -> t { D with nx := R } σ H) (k : ∀ σ' H', J σ' H' -> u D σ' H') : Jk t u D σ H := h (u D) k
theorem iG {i : Nat} {v : V} {σ : St} {H : Hp} {a : St -> Hp -> Prop} {b : VK} {c d : St -> Hp -> Prop} (h : a (σ.set i (some v)) H) : fH i v σ H (Ends.mk a b c d).nx := h
theorem yK {σ : St} {H : Hp} {A B : Hp -> Prop} (h : A H) : kJ σ H fun b H3 => if b = true then A H3 else B H3 := by
 show (if true = true then A H else B H)
 exact d_ h
theorem jW {α : Type} : ∀ {xs : List α} {ys : List V}, Paired (fun _ y => y = V.bl true) xs ys -> ys = (List.replicate xs.length true).map V.bl
 | _, _, .nil => rfl
 | _, _, .cons h t => by
  rw [jW t, h]
  rfl
theorem jq {α : Type} : ∀ {xs : List α} {ys : List V}, Paired (fun _ y => y = V.bl false) xs ys -> ys = (List.replicate xs.length false).map V.bl
 | _, _, .nil => rfl
 | _, _, .cons h t => by
  rw [jq t, h]
  rfl
theorem qP (n : Nat) : (List.replicate n true).all id = true := by simp
theorem Gx (n : Nat) : (List.replicate n false).any id = false := by simp
theorem ints_of {α : Type} (Pr : Int -> Prop) : ∀ {xs : List α} {ys : List V}, Paired (fun _ y => ∃ i, y = V.int i /\ Pr i) xs ys -> ∃ r : List Int, ys = r.map V.int /\ r.length = xs.length /\ ∀ x ∈ r, Pr x
 | _, _, .nil => ⟨[], rfl, rfl, fun _ h => nomatch h⟩
 | _, _, .cons h t => by
  obtain ⟨i, rfl, hi⟩ := h
  obtain ⟨r, rfl, hl, hr⟩ := ints_of Pr t
  refine ⟨i :: r, rfl, by simp [hl], fun x hx => ?_⟩
  rcases List.mem_cons.mp hx with e | e
  ·rw [e]; exact hi
  ·exact hr x e
end L2
namespace PySem
theorem Paired.set2 {α β : Type} {F : α -> β -> Prop} {x : α} {y : β} (h : F x y) : ∀ {l₁ : List α} {l₂ : List β} (i : Nat), Paired F l₁ l₂ -> Paired F (l₁.set i x) (l₂.set i y)
 | _, _, _, .nil => .nil
 | _, _, 0, .cons _ t => .cons h t
 | _, _, i + 1, .cons q t => .cons q (Paired.set2 h i t)
end PySem
namespace L2
open PySem PySem.Spec PyProof.Rows
def RowNe (l : Addr) (H : Hp) (v : V) (r : List Int) : Prop := ∃ b, v = .ref b /\ b ≠ l /\ H b = some (.lst (r.map V.int))
theorem RowNe.row {l : Addr} {H : Hp} {v : V} {r : List Int} (h : RowNe l H v r) : IsRow H v r := let ⟨b, e, _, q⟩ := h; ⟨b, e, q⟩
theorem RowNe.mono {l : Addr} {H H' : Hp} {v : V} {r : List Int} (s : Same H H') (h : RowNe l H v r) : RowNe l H' v r := let ⟨b, e, n, q⟩ := h; ⟨b, e, n, s _ _ q⟩
theorem RowNe.at {l : Addr} {H : Hp} {v : V} {r : List Int} {o : HO} (h : RowNe l H v r) : RowNe l (upd H l o) v r := let ⟨b, e, n, q⟩ := h; ⟨b, e, n, by rw [aH n]; exact q⟩
theorem eN {xs : List V} {k : Int} (h0 : 0 <= k) (h1 : k <= xs.length) : bQ xs (some k) none = xs.drop k.toNat := by
 have e : HT.sIx xs.length 0 (some k) = k.toNat := by
  unfold HT.sIx
  simp only
  split <;> omega
 have e2 : HT.sIx xs.length xs.length none = xs.length := rfl
 unfold bQ
 rw [e, e2, List.take_of_length_le (by rw [List.length_drop]; omega)]
theorem gr {xs : List V} {k : Int} (h0 : 0 <= k) (h1 : k <= xs.length) : bQ xs none (some k) = xs.take k.toNat := by
 have e : HT.sIx xs.length xs.length (some k) = k.toNat := by
  unfold HT.sIx
  simp only
  split <;> omega
 have e2 : HT.sIx xs.length 0 none = 0 := rfl
 unfold bQ
 rw [e, e2, List.drop_zero]
 rfl
end L2
namespace Tb
open PySem L2
theorem pick4 {j : Int} (h0 : 0 <= j) (h1 : j < 4) : ∃ v : Int, atI (([2, 5, 9, 98] : List Int).map V.int) j = some (.int v) /\ 2 <= v /\ v <= 98 := by
 have : j = 0 \/ j = 1 \/ j = 2 \/ j = 3 := by omega
 rcases this with rfl | rfl | rfl | rfl
 ·exact ⟨2, rfl, by decide, by decide⟩
 ·exact ⟨5, rfl, by decide, by decide⟩
 ·exact ⟨9, rfl, by decide, by decide⟩
 ·exact ⟨98, rfl, by decide, by decide⟩
end Tb
namespace L2
open PySem
theorem Av {α : Type} {H H' : Hp} (Pr : List Int -> Prop) : ∀ {xs : List α} {ys : List V}, Paired (fun _ y => ∃ r : List Int, OwnRow H H' y r /\ Pr r) xs ys -> ∃ U : List (List Int), Paired (OwnRow H H') ys U /\ U.length = xs.length /\ ∀ r ∈ U, Pr r
 | _, _, .nil => ⟨[], .nil, rfl, fun _ h => nomatch h⟩
 | _, _, .cons h t => by
  obtain ⟨r, hr, hp⟩ := h
  obtain ⟨U, h1, h2, h3⟩ := Av Pr t
  refine ⟨r :: U, .cons hr h1, by simp [h2], fun x hx => ?_⟩
  rcases List.mem_cons.mp hx with e | e
  ·rw [e]; exact hp
  ·exact h3 x e
end L2
namespace L2
open PySem PySem.Spec PyProof.Rows
theorem yW {r t : List Int} (h : r.map V.int = t.map V.int) : r = t := by
 have inj : ∀ (a b : List Int), a.map V.int = b.map V.int -> a = b := by
  intro a
  induction a with
  | nil => intro b h; cases b with
   | nil => rfl
   | cons _ _ => simp at h
  | cons x a ih => intro b h; cases b with
   | nil => simp at h
   | cons y b =>
    simp only [List.map_cons, List.cons.injEq, V.int.injEq] at h
    rw [h.1, ih b h.2]
 exact inj r t h
theorem IsRow.inj {H : Hp} {v : V} {r t : List Int} (h : IsRow H v r) (q : IsRow H v t) : r = t := by
 obtain ⟨a, rfl, e⟩ := h
 obtain ⟨b, eb, f⟩ := q
 cases eb
 rw [e] at f
 injection f with f
 injection f with f
 exact yW f
theorem wD {H : Hp} (f : List Int -> Int) : ∀ {vs ys : List V} {T : List (List Int)}, Paired (fun x y => ∀ r, IsRow H x r -> y = V.int (f r)) vs ys -> Paired (IsRow H) vs T -> ys = (T.map f).map V.int
 | _, _, _, .nil, .nil => rfl
 | _, _, _, .cons h t, .cons q u => by rw [h _ q, wD f t u]; rfl
theorem uO {H H' : Hp} (f : List Int -> List Int) : ∀ {vs ys : List V} {T : List (List Int)}, Paired (fun x y => ∀ r, IsRow H x r -> OwnRow H H' y (f r)) vs ys -> Paired (IsRow H) vs T -> Paired (OwnRow H H') ys (T.map f)
 | _, _, _, .nil, .nil => .nil
 | _, _, _, .cons h t, .cons q u => .cons (h _ q) (uO f t u)
theorem oM {H H' : Hp} (f : Nat -> List Int) : ∀ {xs : List Nat} {ys : List V}, Paired (fun i y => OwnRow H H' y (f i)) xs ys -> Paired (OwnRow H H') ys (xs.map f)
 | _, _, .nil => .nil
 | _, _, .cons h t => .cons h (oM f t)
theorem lQ (f : Nat -> Int) : ∀ {xs : List Nat} {ys : List V}, Paired (fun i y => y = V.int (f i)) xs ys -> ys = (xs.map f).map V.int
 | _, _, .nil => rfl
 | _, _, .cons h t => by rw [h, lQ f t]; rfl
theorem u9 {K : PySem.W.Frag} {a : Addr} {T : List (List Int)} {te : TE} {σc : St} {H : Hp} {Fin : List V -> Hp -> Prop} (f : List Int -> Int) (hT : IsTab H a T) (hz : T.length <= 1000)
  (hs : ∀ r ∈ T, ∀ b, H b = some (.lst (r.map V.int)) -> ∀ H1, Same H H1 -> ∀ Q : VK, (∀ H2, Same H1 H2 -> Q (.int (f r)) H2) -> te (σc.set 0 (some (.ref b))) H1 Q) (hd : ∀ H', Same H H' -> Fin ((T.map f).map V.int) H') : dC (Itl K a) (fH 0) kJ te σc H Fin := by
 obtain ⟨vs, ha, hp⟩ := hT
 refine bu (xs := vs) (fun x y _ => ∀ r, IsRow H x r -> y = V.int (f r)) (fun _ _ _ _ _ h => h) (SqL.of ha) (by rw [hp.length]; exact Nat.le_of_lt (aJ hz)) ?_ ?_
 ·intro x hx H1 s1 Q q
  obtain ⟨r, hr, hrow⟩ := hp.mem2 hx
  obtain ⟨b, rfl, hb⟩ := id hrow
  exact hs r hr b hb H1 s1 Q fun H2 s2 => q _ H2 s2 fun r' h' => by rw [hrow.inj h']
 ·intro ys H' s' pr
  rw [wD f pr hp]
  exact hd H' s'
theorem jm {K : PySem.W.Frag} {a : Addr} {T : List (List Int)} {te : TE} {σc : St} {H : Hp} {Fin : List V -> Hp -> Prop} (f : List Int -> List Int) (hT : IsTab H a T) (hz : T.length <= 1000)
  (hs : ∀ r ∈ T, ∀ b, H b = some (.lst (r.map V.int)) -> ∀ H1, Same H H1 -> ∀ Q : VK, (∀ y H2, Same H1 H2 -> OwnRow H H2 y (f r) -> Q y H2) -> te (σc.set 0 (some (.ref b))) H1 Q)
  (hd : ∀ ys H', Same H H' -> Paired (OwnRow H H') ys (T.map f) -> Fin ys H') : dC (Itl K a) (fH 0) kJ te σc H Fin := by
 obtain ⟨vs, ha, hp⟩ := hT
 refine bu (xs := vs) (fun x y H' => ∀ r, IsRow H x r -> OwnRow H H' y (f r)) (fun _ _ _ _ s h r q => (h r q).mono s) (SqL.of ha) (by rw [hp.length]; exact Nat.le_of_lt (aJ hz)) ?_ ?_
 ·intro x hx H1 s1 Q q
  obtain ⟨r, hr, hrow⟩ := hp.mem2 hx
  obtain ⟨b, rfl, hb⟩ := id hrow
  exact hs r hr b hb H1 s1 Q fun y H2 s2 ho => q _ H2 s2 fun r' h' => by rw [<- hrow.inj h']; exact ho
 ·intro ys H' s' pr
  exact hd ys H' s' (uO f pr hp)
theorem OwnTab.lay {H H1 : Hp} {p : Addr} {ys : List V} {T : List (List Int)} (s : Same H H1) (hp : H1 p = none) (h : Paired (OwnRow H H1) ys T) : OwnTab H (upd H1 p (.lst ys)) p T :=
 ⟨ys, s.free hp, aq, h.imp2 fun _ _ z => z.mono (ak hp)⟩
theorem IsTab.row {H : Hp} {a : Addr} {T : List (List Int)} (h : IsTab H a T) {i : Nat} (hi : i < T.length) : ∃ vs b, H a = some (.lst vs) /\ i < vs.length /\ atI vs (i : Int) = some (.ref b) /\ H b = some (.lst ((T.getD i []).map V.int)) := by
 obtain ⟨vs, e, p⟩ := h
 obtain ⟨v, ev, b, rfl, hb⟩ := p.at2 (List.getElem?_eq_getElem hi)
 refine ⟨vs, b, e, by rw [p.length]; exact hi, gR ev, ?_⟩
 rw [List.getD_eq_getElem?_getD, List.getElem?_eq_getElem hi]
 exact hb
theorem Good.row {T : List (List Int)} {m n : Nat} (g : Good T m n) {i : Nat} (hi : i < m) : T.getD i [] ∈ T /\ (T.getD i []).length = n := by
 have h : i < T.length := by rw [g.rows]; exact hi
 have e : T.getD i [] = T[i] := by rw [List.getD_eq_getElem?_getD, List.getElem?_eq_getElem h]; rfl
 rw [e]
 exact ⟨List.getElem_mem h, g.cols _ (List.getElem_mem h)⟩
def IsPl (H : Hp) (v : V) (p : Nat × Nat) : Prop := ∃ b, v = .ref b /\ H b = some (.tup [.int p.1, .int p.2])
theorem IsPl.mono {H H' : Hp} {v : V} {p : Nat × Nat} (s : Same H H') (h : IsPl H v p) : IsPl H' v p := let ⟨b, e, q⟩ := h; ⟨b, e, s _ _ q⟩
theorem IsPl.at {l : Addr} {H : Hp} {v : V} {p : Nat × Nat} {xs : List V} {o : HO} (hl : H l = some (.lst xs)) (h : IsPl H v p) : IsPl (upd H l o) v p := by
 obtain ⟨b, e, q⟩ := h
 exact ⟨b, e, by rw [aH (jj q hl (by intro z; cases z))]; exact q⟩
def plD (p : Nat × Nat) : D := .tup [.int p.1, .int p.2]
end L2
namespace L2
open PySem PySem.Spec PyProof.Rows
theorem uX (f : Int -> Int) : ∀ {r : List Int} {ys : List V}, Paired (fun x y => ∀ i, x = V.int i -> y = V.int (f i)) (r.map V.int) ys -> ys = (r.map f).map V.int
 | [], _, h => by cases h; rfl
 | i :: r, _, h => by
  cases h with
  | cons h t => rw [h i rfl, uX f t]; rfl
theorem iu {K : PySem.W.Frag} {b : Addr} {r : List Int} {te : TE} {σc : St} {H : Hp} {Fin : List V -> Hp -> Prop} (f : Int -> Int) (hb : SqL K H b (r.map V.int)) (hz : r.length <= 1000)
  (hs : ∀ i ∈ r, ∀ H1, Same H H1 -> ∀ Q : VK, (∀ H2, Same H1 H2 -> Q (.int (f i)) H2) -> te (σc.set 0 (some (.int i))) H1 Q) (hd : ∀ H', Same H H' -> Fin ((r.map f).map V.int) H') : dC (Itl K b) (fH 0) kJ te σc H Fin := by
 refine bu (xs := r.map V.int) (fun x y _ => ∀ i, x = V.int i -> y = V.int (f i)) (fun _ _ _ _ _ h => h) hb (by rw [List.length_map]; exact Nat.le_of_lt (aJ hz)) ?_ ?_
 ·intro x hx H1 s1 Q q
  obtain ⟨i, hi, rfl⟩ := List.mem_map.mp hx
  exact hs i hi H1 s1 Q fun H2 s2 => q _ H2 s2 fun j e => by cases e; rfl
 ·intro ys H' s' pr
  rw [uX f pr]
  exact hd H' s'
theorem vR {b : Bool} {A B : Prop} (hb : b = true) (h : B) : if (!b) = true then A else B := by
 subst hb
 exact cD h
theorem bT {K : PySem.W.Frag} {H : Hp} {p : Addr} {x y : Int} (h : H p = some (.tup [.int x, .int y])) : Rep K H (.tup [.int x, .int y]) (.ref p) := by
 unfold Rep
 exact ⟨p, _, rfl, SqT.of h, by simp [Reps, Rep]⟩
end L2
namespace L2
open PySem PySem.Spec PyProof.Rows
def SameX (l : Addr) (H H' : Hp) : Prop := ∀ b o, b ≠ l -> H b = some o -> H' b = some o
theorem SameX.refl {l : Addr} {H : Hp} : SameX l H H := fun _ _ _ h => h
theorem SameX.then {l : Addr} {H H1 H2 : Hp} (a : SameX l H H1) (b : Same H1 H2) : SameX l H H2 := fun c o n h => b c o (a c o n h)
theorem SameX.at {l : Addr} {H H1 : Hp} {o : HO} (a : SameX l H H1) : SameX l H (upd H1 l o) := fun c u n h => by rw [aH n]; exact a c u n h
def RowX (H : Hp) (l : Addr) (H' : Hp) (v : V) (r : List Int) : Prop := ∃ b, v = .ref b /\ b ≠ l /\ H b = none /\ H' b = some (.lst (r.map V.int))
theorem RowX.own {H H' : Hp} {l : Addr} {v : V} {r : List Int} (h : RowX H l H' v r) : OwnRow H H' v r := let ⟨b, e, _, n, q⟩ := h; ⟨b, e, n, q⟩
theorem RowX.mono {H H' H2 : Hp} {l : Addr} {v : V} {r : List Int} (s : Same H' H2) (h : RowX H l H' v r) : RowX H l H2 v r := let ⟨b, e, n, m, q⟩ := h; ⟨b, e, n, m, s _ _ q⟩
theorem RowX.at {H H' : Hp} {l : Addr} {v : V} {r : List Int} {o : HO} (h : RowX H l H' v r) : RowX H l (upd H' l o) v r := let ⟨b, e, n, m, q⟩ := h; ⟨b, e, n, m, by rw [aH n]; exact q⟩
theorem range_getD {α : Type} (d : α) (l : List α) : (List.range l.length).map (fun i => l.getD i d) = l := by
 apply List.ext_getElem
 ·simp
 ·intro i h1 h2
  simp only [List.getElem_map, List.getElem_range, List.getD_eq_getElem?_getD]
  rw [List.getElem?_eq_getElem h2]
  rfl
theorem dm {α : Type} {l : List α} {i : Nat} {x d : α} (h : l[i]? = some x) : l.getD i d = x := by
 rw [List.getD_eq_getElem?_getD, h]
 rfl
theorem Aw {α : Type} {l : List α} {i : Nat} (d : α) (h : i < l.length) : l[i]? = some (l.getD i d) := by
 rw [List.getD_eq_getElem?_getD, List.getElem?_eq_getElem h]
 rfl
end L2
set_option Elab.async false
set_option linter.all false
namespace L2
open PySem PySem.Spec PyProof.Rows
variable {X : Cx}
def GD (i j : Int) : Prop := 0 < j /\ j.natAbs.log2 < 9000
theorem lO : OpR X (binaryOp .FloorDiv) (rI GD fun i j => .int (i / j)) := opI fun i j _ _ _ _ _ hc q => by
 have h1 : (0 : Int) < j := hc.1
 exact floordiv_int (by omega) (by rw [Int.fdiv_eq_ediv_of_nonneg i (by omega)]; exact q) (.inl (PyProof.noPylong_of_log2 hc.2))
end L2
namespace Fr
theorem mk_zero {S : Int} (h : 0 < S) : mk 0 S = (0, 1) := by
 have e : (Int.gcd 0 S : Int) = S := by rw [Int.gcd_zero_left]; omega
 unfold mk
 rw [e, Int.zero_ediv, Int.ediv_self (by omega)]
theorem mk_self {S : Int} (h : 0 < S) : mk S S = (1, 1) := by
 have e : (Int.gcd S S : Int) = S := by rw [Int.gcd_self]; omega
 unfold mk
 rw [e, Int.ediv_self (by omega)]
theorem mk_int (n : Int) : mk n 1 = (n, 1) := by
 unfold mk
 rw [Int.gcd_one_right]
 simp
theorem mk_cross {a b c d : Int} (hb : 0 < b) (hd : 0 < d) (h : a * d = c * b) : mk a b = mk c d := by
 rw [<- xX (a := a) (b := b) hd, <- xX (a := c) (b := d) hb, h, Int.mul_comm b d]
theorem mk_ratio {a b : Int} (h : 0 < b) : (mk a b).1 * b = a * (mk a b).2 := by
 have h1 := jP (a := a) (b := b)
 have h2 := iI (a := a) (b := b)
 have e : (mk a b).1 * b = (mk a b).1 * ((mk a b).2 * (Int.gcd a b : Int)) := by rw [h2]
 have e2 : a * (mk a b).2 = ((mk a b).1 * (Int.gcd a b : Int)) * (mk a b).2 := by rw [h1]
 rw [e, e2, Int.mul_assoc, Int.mul_comm (mk a b).2]
theorem mk_nonneg {a b : Int} (h : 0 < b) (ha : 0 <= a) : 0 <= (mk a b).1 := Int.ediv_nonneg ha (Int.le_of_lt (gcd_pos h))
theorem mk_cop {a b : Int} (h : 0 < b) : Int.gcd (mk a b).1 (mk a b).2 = 1 := by
 have g := gcd_pos (a := a) h
 have e : Int.gcd ((mk a b).1 * (Int.gcd a b : Int)) ((mk a b).2 * (Int.gcd a b : Int)) = Int.gcd (mk a b).1 (mk a b).2 * Int.gcd a b := by
  rw [Int.gcd_mul_right]
  simp
 rw [jP, iI] at e
 have g' : 0 < Int.gcd a b := by omega
 have e2 : 1 * Int.gcd a b = Int.gcd (mk a b).1 (mk a b).2 * Int.gcd a b := by rw [Nat.one_mul]; exact e
 exact (Nat.eq_of_mul_eq_mul_right g' e2).symm
def dot : List Int -> List Int -> Int
 | x :: xs, y :: ys => x * y + dot xs ys
 | _, _ => 0
theorem dot_snoc : ∀ (xs ys : List Int) (x y : Int), xs.length = ys.length -> dot (xs ++ [x]) (ys ++ [y]) = dot xs ys + x * y
 | [], [], x, y, _ => by simp [dot]
 | a :: xs, b :: ys, x, y, h => by
  have := dot_snoc xs ys x y (by simpa using h)
  simp only [List.cons_append, dot]
  omega
end Fr
namespace L2
open PySem PySem.Spec PyProof.Rows
def IsFr (H : Hp) (v : V) (q : Int × Int) : Prop := ∃ b, v = .ref b /\ H b = some (.tup [.int q.1, .int q.2])
theorem IsFr.mono {H H' : Hp} {v : V} {q : Int × Int} (s : Same H H') (h : IsFr H v q) : IsFr H' v q := let ⟨b, e, z⟩ := h; ⟨b, e, s _ _ z⟩
def IsFrs (H : Hp) (a : Addr) (qs : List (Int × Int)) : Prop := ∃ vs, H a = some (.lst vs) /\ Paired (IsFr H) vs qs
theorem IsFrs.mono {H H' : Hp} {a : Addr} {qs : List (Int × Int)} (s : Same H H') (h : IsFrs H a qs) : IsFrs H' a qs := let ⟨vs, e, z⟩ := h; ⟨vs, s _ _ e, z.imp2 fun _ _ y => y.mono s⟩
structure Wt (ws : List Int) (n : Nat) (S : Int) : Prop where
 len : ws.length = n
 n1 : 1 <= n
 n4 : n <= 4
 nn : ∀ x ∈ ws, 0 <= x
 sum : ws.sum = S
 pos : 0 < S
 most : S <= 17
def mks (ws : List Int) (S : Int) : List (Int × Int) := ws.map fun x => Fr.mk x S
theorem cQ (ws : List Int) (S : Int) : (mks ws S).length = ws.length := List.length_map ..
theorem Il {ws : List Int} {S : Int} {i : Nat} {q : Int × Int} (h : (mks ws S)[i]? = some q) : ∃ x, ws[i]? = some x /\ q = Fr.mk x S := by
 unfold mks at h
 rw [List.getElem?_map] at h
 cases e : ws[i]? with
 | none => rw [e] at h; cases h
 | some x => rw [e] at h; exact ⟨x, rfl, by cases h; rfl⟩
end L2
set_option Elab.async false
set_option linter.all false
set_option maxRecDepth 100000
namespace L2
open PySem PySem.Spec PyProof.Rows
def Js (K : PySem.W.Frag) (neg : Bool) : R2 := fun x y H Q => ∃ p d ds vs, y = .ref p /\ Rep K H d x /\ SqL K H p vs /\ Reps K H ds vs /\ (∀ a ∈ ds, bL a d = true /\ bW a <= 40 /\ ∀ b ∈ ds, bL a b = true) /\
 Q (.bl (if neg then !(ds.any fun e => eqD e d) else ds.any fun e => eqD e d)) H
section
variable {X : Cx} {pins : List (Addr × Obj)} {σ : St} {H : Hp} {s : Shared}
open Classical in
theorem Gs (I : Inv X pins σ H s) (hu : X.A.units + 64 < cLine) {d : D} {x : V} {u : Value} {ds : List D} {vs : List V} {its : List Value} (rd : Rep X.K H d x) (ru : RelV x u) (rs : Reps X.K H ds vs) (rv : Vals vs its)
  (hl : ∀ a ∈ ds, bL a d = true /\ bW a <= 40 /\ ∀ b ∈ ds, bL a b = true) : ∃ e : Value -> Bool, (∀ y, y ∈ its -> SeqAt.EqAt X.A.in1 s y u (e y)) /\ its.any e = ds.any fun a => eqD a d := by
 refine ⟨fun (y : Value) => decide (∃ (j : Nat) (d' : D), its[j]? = some y /\ ds[j]? = some d' /\ eqD d' d = true), fun y hy => ?_, ?_⟩
 ·obtain ⟨j, hj, ej⟩ := List.mem_iff_getElem.mp hy
  have hjv : j < vs.length := by rw [rv.length]; exact hj
  obtain ⟨d1, e1, r1⟩ := rs.get (List.getElem?_eq_getElem hjv)
  obtain ⟨u1, f1, s1⟩ := rv.get (List.getElem?_eq_getElem hjv)
  have g1 : u1 = y := by rw [List.getElem?_eq_getElem hj, ej] at f1; exact (Option.some.inj f1).symm
  subst g1
  have m1 := List.mem_of_getElem? e1
  obtain ⟨l1, p1, l2⟩ := hl d1 m1
  have hq := (wR (A := X.A.in1) I 40 p1 l1 (by show X.A.units + 1 + 40 < cLine; omega) r1 rd s1 ru).1
  have he : decide (∃ (j : Nat) (d' : D), its[j]? = some u1 /\ ds[j]? = some d' /\ eqD d' d = true) = eqD d1 d := by
   cases hc : eqD d1 d with
   | true => exact decide_eq_true ⟨j, d1, by rw [List.getElem?_eq_getElem hj, ej], e1, hc⟩
   | false =>
    refine decide_eq_false ?_
    rintro ⟨i, d', hi, hd', hq'⟩
    have hiv : i < vs.length := by rw [rv.length]; exact (List.getElem?_eq_some_iff.mp hi).1
    obtain ⟨d2, e2, r2⟩ := rs.get (List.getElem?_eq_getElem hiv)
    rw [hd'] at e2
    cases e2
    obtain ⟨u2, f2, s2⟩ := rv.get (List.getElem?_eq_getElem hiv)
    rw [hi] at f2
    cases f2
    have ev := s1.inj s2
    rw [<- ev] at r2
    have := rT (qM I 40 p1 (l2 d' (List.mem_of_getElem? hd')) r1 r2)
    rw [this, hq'] at hc
    cases hc
  show SeqAt.EqAt X.A.in1 s u1 u (decide (∃ (j : Nat) (d' : D), its[j]? = some u1 /\ ds[j]? = some d' /\ eqD d' d = true))
  rw [he]
  exact hq
 ·rw [Bool.eq_iff_iff, List.any_eq_true, List.any_eq_true]
  constructor
  ·rintro ⟨y, _, hy⟩
   obtain ⟨j, d', _, h2, h3⟩ := of_decide_eq_true hy
   exact ⟨d', List.mem_of_getElem? h2, h3⟩
  ·rintro ⟨d', hd', h3⟩
   obtain ⟨j, hj, ej⟩ := List.mem_iff_getElem.mp hd'
   have hji : j < its.length := by rw [<- rv.length, rs.length]; exact hj
   exact ⟨its[j], List.getElem_mem hji, decide_eq_true ⟨j, d', List.getElem?_eq_getElem hji, by rw [List.getElem?_eq_getElem hj, ej], h3⟩⟩
theorem Ec (hu : X.A.units + 64 < cLine) : OpR X (compareOp .NotIn) (Js X.K true) := by
 intro pins s σ H x y v u Q I rx ry h
 obtain ⟨p, d, ds, vs, rfl, rd, hq, rs, hl, q⟩ := h
 cases ry
 obtain ⟨its, r, pl, hz⟩ := I.list hq
 obtain ⟨e, h1, h2⟩ := Gs I hu rd rx rs r hl
 refine SeqAt.notIn_listAt e pl.isList (fun w hw => h1 w (by simpa using hw)) ⟨.bl _, H, I, rfl, ?_⟩
 rw [show its.toArray.any e = its.any e by simp, h2]
 exact q
end
section
variable {X : Cx}
theorem J4 (K : PySem.W.Frag) (hu : X.A.units + 64 < cLine) (h : X.K = K := by rfl) : OpR X (compareOp .NotIn) (Js K true) := by subst h; exact Ec hu
theorem inK (K : PySem.W.Frag) (h : X.K = K := by rfl) : OpR X (compareOp .In) (rIn K false) := by subst h; exact Ei
theorem Jb (K : PySem.W.Frag) (h : X.K = K := by rfl) : OpR X (compareOp .NotIn) (rIn K true) := by subst h; exact yz
end
theorem jN (i : Int) (xs : List Int) : inV (.int i) (xs.map V.int) = decide (i ∈ xs) := by
 unfold inV
 rw [Bool.eq_iff_iff, List.any_eq_true, decide_eq_true_iff]
 constructor
 ·rintro ⟨y, hy, h⟩
  obtain ⟨j, hj, rfl⟩ := List.mem_map.mp hy
  have : j = i := by simpa [eqV] using h
  rw [<- this]; exact hj
 ·intro h
  exact ⟨.int i, List.mem_map_of_mem h, by simp [eqV]⟩
theorem jZ (xs : List Int) : (xs.map V.int).all jk = true := by
 rw [List.all_eq_true]
 intro y hy
 obtain ⟨j, _, rfl⟩ := List.mem_map.mp hy
 rfl
structure Cl (K : PySem.W.Frag) (mg : Str -> Option Value) (x : Str) (fs ms : List Str) (C : Addr) : Prop where
 cl : Cls K C
 no : ∀ f, f ∈ fs -> NoAttr K C f
 mg_ : mg x = some (.ref C)
 makes : PySem.W.makesIn K C = true
 kp : PySem.W.keepIn K (.ref C) = true
structure FunC (K : PySem.W.Frag) (C : Addr) (m qual : Str) (st : Stmt) (ps : List Str) : Prop where
 ex : ∃ f fd, Fun K m qual st f fd /\ Meth K C m f /\ Binds K fd ps []
structure DefC (P : Program) (w : World) (K : PySem.W.Frag) (mg : Str -> Option Value) (base : Heap) (C : Addr) (m : Str) (ps : List Str) (k : Nat) (sp : Sp) : Prop where
 ex : ∃ f fd, FnOk P w K mg base CX0 k f fd ps sp /\ Meth K C m f /\ Binds K fd ps []
section
variable {P : Program} {w : World} {K : PySem.W.Frag} {mg : Str -> Option Value} {base : Heap}
theorem DefC.of {C : Addr} {x qual : Str} {st : Stmt} {N ps : List Str} {k : Nat} {sp : Sp} (F : FunC K C x qual st ps) (S : FnScope N ps (aC st)) (len : ∀ vs H Q E, sp vs H Q E -> vs.length = ps.length)
  (hbody : ∀ (f : Addr) (cdv : Value) (A : Around) (outer : List Env) (s : Shared) (H : Hp) (vs : List V) (Q : VK) (E : XK), Room k (A.deeper (envOfC qual (aC st) s.heap.objs.size f cdv)) -> sp vs H Q E ->
   ∃ t, PSs (oJ CX0 P w K mg base N qual (aC st) f cdv A outer s H E).nox (cT st) t /\ t { nx := fun _ H' => Q .non H', rt := Q } (start N vs) H) : DefC P w K mg base C x ps (k + 1) sp := by
 obtain ⟨f, fd, F1, hm, hb⟩ := F.ex
 exact ⟨f, fd, F1.ok S len (hbody f), hm, hb⟩
theorem fun_c {C : Addr} {x qual : Str} {st : Stmt} {ps : List Str} {f : Addr} {oc : Value} {od an : Option Addr} {osl : Array (Option Value)} {kV doc pm cdv ct : Value}
  (a : PySem.W.findIn K (.ref C) x = some (some (.ref f))) (i : PySem.W.isFn K (.ref f) = true)
  (l : K.lookup f = some ⟨oc, od, .func (PySem.W.fnOf x qual (dW st) (cT st) (aC st) .none kV doc pm an cdv ct), osl⟩) (c : PySem.W.codeIn K cdv qual = true) (k : PySem.W.keepIn K (.ref f) = true)
  (b : ∀ (kV doc pm : Value) (an : Option Addr) (cdv ct : Value) (us : List Value), us.length = ps.length -> bindArgs (PySem.W.fnOf x qual (dW st) (cT st) (aC st) .none kV doc pm an cdv ct) ⟨us, []⟩ = pure (ps.zip us)) : FunC K C x qual st ps := by
 have F := ww (st := st) l c k
 exact ⟨f, _, F, ⟨a, i, k⟩, F.binds b⟩
end
section
variable {X : Cx} {x m : Str} {ps : List Str} {k : Nat} {sp : Sp} {p pos apos : Pos} {o e : Expr} {es : List Expr} {t : TA} {ta : TE} {C : Addr} {fs ms : List Str}
theorem jQ (D : DefC X.prog X.w X.K X.mg X.base C "__init__" ps k sp) (c : Cl X.K X.mg x fs ms C) (hr : Room (k + 1) X.A) (hg : Gl X x) (ha : PA X (e :: es) t)
  (hdb : (x == ("__debug__" : Str)) = false := by decide) (he : starEach (e :: es) X.env = (false, eval e X.env) :: starEach es X.env := by rfl) (hpl : (backTo pos (starEach es X.env)).any (·.1) = false := by rfl) :
  PE X (.Call (.Name x p) (e :: es) [] pos) (G5 C sp [] E0 t) := by
 obtain ⟨f, fd, F, hm, hb⟩ := D.ex
 exact Ii ⟨c.makes, hm.at_, hm.fn, c.kp⟩ F hr hg c.mg_ hb .nil G8 ha hdb he hpl
end
end L2
set_option Elab.async false
set_option linter.all false
namespace Gm
def sm : Nat -> (Nat -> Int) -> Int
 | 0, _ => 0
 | n + 1, f => sm n f + f n
theorem sm_congr {f g : Nat -> Int} : ∀ {n : Nat}, (∀ j, j < n -> f j = g j) -> sm n f = sm n g
 | 0, _ => rfl
 | n + 1, h => by
  show sm n f + f n = sm n g + g n
  rw [sm_congr fun j hj => h j (by omega), h n (by omega)]
theorem sm_add (f g : Nat -> Int) : ∀ n, sm n (fun j => f j + g j) = sm n f + sm n g
 | 0 => rfl
 | n + 1 => by
  show sm n _ + (f n + g n) = sm n f + f n + (sm n g + g n)
  rw [sm_add f g n]; omega
theorem sm_mul (c : Int) (f : Nat -> Int) : ∀ n, sm n (fun j => c * f j) = c * sm n f
 | 0 => by simp [sm]
 | n + 1 => by
  show sm n _ + c * f n = c * (sm n f + f n)
  rw [sm_mul c f n, Int.mul_add]
theorem sm_zero : ∀ n, sm n (fun _ => 0) = 0
 | 0 => rfl
 | n + 1 => by
  show sm n _ + 0 = 0
  rw [sm_zero n]; rfl
theorem nZ {f : Nat -> Int} : ∀ {n : Nat}, (∀ j, j < n -> 0 <= f j) -> 0 <= sm n f
 | 0, _ => Int.le_refl _
 | n + 1, h => by
  show 0 <= sm n f + f n
  have := nZ (n := n) fun j hj => h j (by omega)
  have := h n (by omega)
  omega
theorem Bm {f g : Nat -> Int} : ∀ {n : Nat}, (∀ j, j < n -> f j <= g j) -> sm n f <= sm n g
 | 0, _ => Int.le_refl _
 | n + 1, h => by
  show sm n f + f n <= sm n g + g n
  have := Bm (n := n) fun j hj => h j (by omega)
  have := h n (by omega)
  omega
theorem sm_pos {f : Nat -> Int} : ∀ {n : Nat}, (∀ j, j < n -> 0 <= f j) -> (∃ j, j < n /\ 0 < f j) -> 0 < sm n f
 | 0, _, ⟨j, hj, _⟩ => by omega
 | n + 1, h, ⟨j, hj, hp⟩ => by
  show 0 < sm n f + f n
  have h0 := nZ (n := n) fun j hj => h j (by omega)
  have h1 := h n (by omega)
  by_cases e : j = n
  ·subst e; omega
  ·have := sm_pos (n := n) (fun j hj => h j (by omega)) ⟨j, by omega, hp⟩
   omega
theorem sV {f : Nat -> Int} : ∀ {n : Nat}, 0 < sm n f -> ∃ j, j < n /\ 0 < f j
 | 0, h => by simp [sm] at h
 | n + 1, h => by
  have h' : 0 < sm n f + f n := h
  by_cases e : 0 < f n
  ·exact ⟨n, by omega, e⟩
  ·obtain ⟨j, hj, hp⟩ := sV (f := f) (n := n) (by omega)
   exact ⟨j, by omega, hp⟩
theorem sm_single {k : Nat} {c : Int} : ∀ {n : Nat}, sm n (fun j => if j = k then c else 0) = if k < n then c else 0
 | 0 => by simp [sm]
 | n + 1 => by
  show sm n _ + (if n = k then c else 0) = _
  rw [sm_single (n := n)]
  by_cases h1 : k < n
  ·rw [if_pos h1, if_neg (by omega), if_pos (by omega)]; omega
  ·by_cases h2 : n = k
   ·rw [if_neg h1, if_pos h2, if_pos (by omega)]; omega
   ·rw [if_neg h1, if_neg h2, if_neg (by omega)]; omega
theorem oZ (f : Nat -> Nat -> Int) (m : Nat) : ∀ n, sm n (fun j => sm m fun i => f i j) = sm m fun i => sm n fun j => f i j
 | 0 => by
  show (0 : Int) = sm m fun i => 0
  rw [sm_zero]
 | n + 1 => by
  show sm n _ + (sm m fun i => f i n) = sm m fun i => (sm n (fun j => f i j)) + f i n
  rw [oZ f m n, <- sm_add]
theorem kY {α : Type} (num den : α -> Int) : ∀ (l : List α), l ≠ [] -> (∀ x ∈ l, 0 < den x) -> ∃ x ∈ l, ∀ y ∈ l, num x * den y <= num y * den x
 | [], h, _ => absurd rfl h
 | [x], _, _ => ⟨x, by simp, fun y hy => by
  rw [List.mem_singleton.mp hy]
  exact Int.le_refl _⟩
 | x :: z :: l, _, hd => by
  obtain ⟨w, hw, hm⟩ := kY num den (z :: l) (by simp) fun y hy => hd y (List.mem_cons_of_mem _ hy)
  have dx := hd x (by simp)
  have dw := hd w (List.mem_cons_of_mem _ hw)
  by_cases h : num x * den w <= num w * den x
  ·refine ⟨x, by simp, fun y hy => ?_⟩
   rcases List.mem_cons.mp hy with e | hy
   ·rw [e]; exact Int.le_refl _
   ·have dy := hd y (List.mem_cons_of_mem _ hy)
    have h1 := hm y hy
    have a1 : num x * den w * den y <= num w * den x * den y := Int.mul_le_mul_of_nonneg_right h (Int.le_of_lt dy)
    have a2 : num w * den y * den x <= num y * den w * den x := Int.mul_le_mul_of_nonneg_right h1 (Int.le_of_lt dx)
    have a3 : num x * den y * den w <= num y * den x * den w := by grind
    exact Int.le_of_mul_le_mul_right a3 dw
  ·refine ⟨w, List.mem_cons_of_mem _ hw, fun y hy => ?_⟩
   rcases List.mem_cons.mp hy with e | hy
   ·rw [e]; omega
   ·exact hm y hy
structure Pt (a : Nat -> Nat -> Int) (m n : Nat) (y : Nat -> Int) (S N : Int) : Prop where
 pos : 0 < S
 nn : ∀ j, j < n -> 0 <= y j
 sum : sm n y = S
 le : ∀ i, i < m -> sm n (fun j => a i j * y j) <= N
 ti : ∃ i, i < m /\ sm n (fun j => a i j * y j) = N
def cnt (p : Nat -> Bool) (n : Nat) : Nat := ((List.range n).filter p).length
theorem xZ {p q : Nat -> Bool} {n : Nat} (h : ∀ j, j < n -> p j = true -> q j = true) : cnt p n <= cnt q n := by
 unfold cnt
 rw [<- List.countP_eq_length_filter, <- List.countP_eq_length_filter]
 exact List.countP_mono_left fun j hj => h j (List.mem_range.mp hj)
theorem wZ {p q : Nat -> Bool} : ∀ {n : Nat}, (∀ j, j < n -> p j = true -> q j = true) -> (∃ j, j < n /\ p j = false /\ q j = true) -> cnt p n < cnt q n
 | 0, _, ⟨j, hj, _⟩ => by omega
 | n + 1, h, ⟨j, hj, h1, h2⟩ => by
  have e : ∀ r : Nat -> Bool, cnt r (n + 1) = cnt r n + (if r n = true then 1 else 0) := by
   intro r
   unfold cnt
   rw [List.range_succ, List.filter_append, List.length_append]
   by_cases c : r n = true
   ·simp [c]
   ·simp [c]
  rw [e p, e q]
  have h0 := xZ (p := p) (q := q) (n := n) fun j hj => h j (by omega)
  have hn := h n (by omega)
  by_cases c : j = n
  ·subst c
   simp [h1, h2]
   omega
  ·have := wZ (n := n) (fun j hj => h j (by omega)) ⟨j, by omega, h1, h2⟩
   by_cases c1 : p n = true
   ·rw [if_pos c1, if_pos (hn c1)]; omega
   ·rw [if_neg c1]; split <;> omega
def todo (a : Nat -> Nat -> Int) (m n : Nat) (y : Nat -> Int) (N : Int) : Nat := cnt (fun j => decide (y j ≠ 0)) n + cnt (fun i => decide (sm n (fun j => a i j * y j) ≠ N)) m
theorem zY (a : Nat -> Int) (y d : Nat -> Int) (q p : Int) (n : Nat) : sm n (fun j => a j * (q * y j + p * d j)) = q * sm n (fun j => a j * y j) + p * sm n (fun j => a j * d j) := by
 rw [<- sm_mul, <- sm_mul, <- sm_add]
 exact sm_congr fun j _ => by grind
theorem step {a : Nat -> Nat -> Int} {m n : Nat} {y : Nat -> Int} {S N : Int} (P : Pt a m n y S N) {d : Nat -> Int} {δ : Int} (hs : ∀ j, j < n -> y j = 0 -> d j = 0) (h0 : sm n d = 0) (hd : ∃ j, j < n /\ d j ≠ 0) (hδ : δ <= 0)
  (ht : ∀ i, i < m -> sm n (fun j => a i j * y j) = N -> sm n (fun j => a i j * d j) = δ) : ∃ y' S' N', Pt a m n y' S' N' /\ N' * S <= N * S' /\ todo a m n y' N' < todo a m n y N /\ (∀ j, j < n -> y j = 0 -> y' j = 0) /\ ∀ i, i < m -> sm n (fun j => a i j * y j) = N -> sm n (fun j => a i j * y' j) = N' := by
 have hneg : ∃ j, j < n /\ d j < 0 := by
  refine Classical.byContradiction fun hc => ?_
  have hge : ∀ j, j < n -> 0 <= d j := fun j hj => by
   refine Classical.byContradiction fun h => hc ⟨j, hj, by omega⟩
  obtain ⟨j, hj, hne⟩ := hd
  have := sm_pos hge ⟨j, hj, by have := hge j hj; omega⟩
  omega
 let num : Nat ⊕ Nat -> Int := fun x => match x with | .inl j => y j | .inr i => N - sm n (fun j => a i j * y j)
 let den : Nat ⊕ Nat -> Int := fun x => match x with | .inl j => - d j | .inr i => sm n (fun j => a i j * d j) - δ
 let L : List (Nat ⊕ Nat) := ((List.range n).filter fun j => decide (d j < 0)).map .inl ++ ((List.range m).filter fun i => decide (δ < sm n (fun j => a i j * d j))).map .inr
 have mL : ∀ j, j < n -> d j < 0 -> (.inl j : Nat ⊕ Nat) ∈ L := fun j hj h => List.mem_append_left _ (List.mem_map_of_mem (List.mem_filter.mpr ⟨List.mem_range.mpr hj, decide_eq_true h⟩))
 have mR : ∀ i, i < m -> δ < sm n (fun j => a i j * d j) -> (.inr i : Nat ⊕ Nat) ∈ L := fun i hi h => List.mem_append_right _ (List.mem_map_of_mem (List.mem_filter.mpr ⟨List.mem_range.mpr hi, decide_eq_true h⟩))
 have inL : ∀ x ∈ L, (∃ j, j < n /\ d j < 0 /\ x = .inl j) \/ ∃ i, i < m /\ δ < sm n (fun j => a i j * d j) /\ x = .inr i := by
  intro x hx
  rcases List.mem_append.mp hx with h | h
  ·obtain ⟨j, hj, rfl⟩ := List.mem_map.mp h
   obtain ⟨h1, h2⟩ := List.mem_filter.mp hj
   exact .inl ⟨j, List.mem_range.mp h1, of_decide_eq_true h2, rfl⟩
  ·obtain ⟨i, hi, rfl⟩ := List.mem_map.mp h
   obtain ⟨h1, h2⟩ := List.mem_filter.mp hi
   exact .inr ⟨i, List.mem_range.mp h1, of_decide_eq_true h2, rfl⟩
 have dp : ∀ x ∈ L, 0 < den x := by
  intro x hx
  rcases inL x hx with ⟨j, _, h, rfl⟩ | ⟨i, _, h, rfl⟩
  ·show 0 < - d j; omega
  ·show 0 < sm n (fun j => a i j * d j) - δ; omega
 obtain ⟨j0, hj0, hd0⟩ := hneg
 obtain ⟨x, hx, hmin⟩ := kY num den L (List.ne_nil_of_mem (mL j0 hj0 hd0)) dp
 have hq := dp x hx
 have hp : 0 <= num x := by
  rcases inL x hx with ⟨j, hj, h, rfl⟩ | ⟨i, hi, h, rfl⟩
  ·exact P.nn j hj
  ·show 0 <= N - sm n (fun j => a i j * y j)
   have := P.le i hi
   omega
 generalize hpe : num x = p at hmin hp
 generalize hqe : den x = q at hmin hq
 have g : ∀ i, sm n (fun j => a i j * (q * y j + p * d j)) = q * sm n (fun j => a i j * y j) + p * sm n (fun j => a i j * d j) := fun i => zY (a i) y d q p n
 have tight : ∀ i, i < m -> sm n (fun j => a i j * y j) = N -> sm n (fun j => a i j * (q * y j + p * d j)) = q * N + p * δ := fun i hi h => by
  rw [g i, h, ht i hi h]
 refine ⟨fun j => q * y j + p * d j, q * S, q * N + p * δ, ⟨Int.mul_pos hq P.pos, ?_, ?_, ?_, ?_⟩, ?_, ?_, fun j hj e => ?_, fun i hi e => tight i hi e⟩
 ·intro j hj
  show 0 <= q * y j + p * d j
  by_cases h : d j < 0
  ·have := hmin _ (mL j hj h)
   have h1 : p * (- d j) <= y j * q := this
   have e : p * (- d j) = - (p * d j) := Int.mul_neg ..
   have e2 : y j * q = q * y j := Int.mul_comm ..
   omega
  ·have h1 : 0 <= q * y j := Int.mul_nonneg (Int.le_of_lt hq) (P.nn j hj)
   have h2 : 0 <= p * d j := Int.mul_nonneg hp (by omega)
   omega
 ·have e : sm n (fun j => q * y j + p * d j) = q * sm n y + p * sm n d := by rw [<- sm_mul, <- sm_mul, <- sm_add]
  rw [e, h0, P.sum]
  omega
 ·intro i hi
  show sm n (fun j => a i j * (q * y j + p * d j)) <= q * N + p * δ
  rw [g i]
  have hle := P.le i hi
  by_cases h : δ < sm n (fun j => a i j * d j)
  ·have := hmin _ (mR i hi h)
   have h1 : p * (sm n (fun j => a i j * d j) - δ) <= (N - sm n (fun j => a i j * y j)) * q := this
   grind
  ·have h1 : p * sm n (fun j => a i j * d j) <= p * δ := Int.mul_le_mul_of_nonneg_left (by omega) hp
   have h2 : q * sm n (fun j => a i j * y j) <= q * N := Int.mul_le_mul_of_nonneg_left hle (Int.le_of_lt hq)
   omega
 ·obtain ⟨i, hi, h⟩ := P.ti
  exact ⟨i, hi, tight i hi h⟩
 ·have h1 : p * δ <= 0 := Int.mul_nonpos_of_nonneg_of_nonpos hp hδ
  have h2 : p * δ * S <= 0 := Int.mul_nonpos_of_nonpos_of_nonneg h1 (Int.le_of_lt P.pos)
  grind
 ·have s1 : ∀ j, j < n -> decide (q * y j + p * d j ≠ 0) = true -> decide (y j ≠ 0) = true := fun j hj h => by
   refine decide_eq_true fun e => ?_
   have := of_decide_eq_true h
   rw [e, hs j hj e] at this
   simp at this
  have s2 : ∀ i, i < m -> decide (sm n (fun j => a i j * (q * y j + p * d j)) ≠ q * N + p * δ) = true -> decide (sm n (fun j => a i j * y j) ≠ N) = true := fun i hi h => by
   refine decide_eq_true fun e => ?_
   exact of_decide_eq_true h (tight i hi e)
  have c1 := xZ s1
  have c2 := xZ s2
  show cnt (fun j => decide (q * y j + p * d j ≠ 0)) n + cnt (fun i => decide (sm n (fun j => a i j * (q * y j + p * d j)) ≠ q * N + p * δ)) m < cnt (fun j => decide (y j ≠ 0)) n + cnt (fun i => decide (sm n (fun j => a i j * y j) ≠ N)) m
  rcases inL x hx with ⟨j, hj, h, rfl⟩ | ⟨i, hi, h, rfl⟩
  ·have e1 : p = y j := hpe.symm
   have e2 : q = - d j := hqe.symm
   have : cnt (fun j => decide (q * y j + p * d j ≠ 0)) n < cnt (fun j => decide (y j ≠ 0)) n := by
    refine wZ s1 ⟨j, hj, decide_eq_false ?_, decide_eq_true ?_⟩
    ·rw [e1, e2]
     intro z
     apply z
     grind
    ·intro z
     rw [hs j hj z] at h
     omega
   omega
  ·have e1 : p = N - sm n (fun j => a i j * y j) := hpe.symm
   have e2 : q = sm n (fun j => a i j * d j) - δ := hqe.symm
   have : cnt (fun i => decide (sm n (fun j => a i j * (q * y j + p * d j)) ≠ q * N + p * δ)) m < cnt (fun i => decide (sm n (fun j => a i j * y j) ≠ N)) m := by
    refine wZ s2 ⟨i, hi, decide_eq_false ?_, decide_eq_true ?_⟩
    ·intro z
     apply z
     rw [g i, e1, e2]
     grind
    ·intro z
     rw [ht i hi z] at h
     omega
   omega
 ·show q * y j + p * d j = 0
  rw [e, hs j hj e]
  simp
def vU (a : Nat -> Nat -> Int) (m n : Nat) (y : Nat -> Int) (N : Int) : Prop :=
 ∀ (d : Nat -> Int) (δ : Int), (∀ j, j < n -> y j = 0 -> d j = 0) -> sm n d = 0 -> (∀ i, i < m -> sm n (fun j => a i j * y j) = N -> sm n (fun j => a i j * d j) = δ) -> ∀ j, j < n -> d j = 0
theorem Gw {a : Nat -> Nat -> Int} {m n : Nat} : ∀ (k : Nat) {y : Nat -> Int} {S N : Int}, todo a m n y N = k -> Pt a m n y S N -> ∃ y' S' N', Pt a m n y' S' N' /\ N' * S <= N * S' /\ vU a m n y' N' /\ (∀ j, j < n -> y j = 0 -> y' j = 0) /\ ∀ i, i < m -> sm n (fun j => a i j * y j) = N -> sm n (fun j => a i j * y' j) = N' := by
 intro k
 induction k using Nat.strongRecOn with
 | ind k ih =>
  intro y S N hk P
  by_cases hr : vU a m n y N
  ·exact ⟨y, S, N, P, Int.le_refl _, hr, fun _ _ e => e, fun _ _ e => e⟩
  ·unfold vU at hr
   obtain ⟨d, hr⟩ := Classical.not_forall.mp hr
   obtain ⟨δ, hr⟩ := Classical.not_forall.mp hr
   obtain ⟨hs, hr⟩ := Classical.not_forall.mp hr
   obtain ⟨h0, hr⟩ := Classical.not_forall.mp hr
   obtain ⟨ht, hr⟩ := Classical.not_forall.mp hr
   obtain ⟨j, hr⟩ := Classical.not_forall.mp hr
   obtain ⟨hj, hne⟩ := Classical.not_forall.mp hr
   have go : ∃ y' S' N', Pt a m n y' S' N' /\ N' * S <= N * S' /\ todo a m n y' N' < todo a m n y N /\ (∀ j, j < n -> y j = 0 -> y' j = 0) /\ ∀ i, i < m -> sm n (fun j => a i j * y j) = N -> sm n (fun j => a i j * y' j) = N' := by
    by_cases hδ : δ <= 0
    ·exact step P hs h0 ⟨j, hj, hne⟩ hδ ht
    ·refine step P (d := fun j => -1 * d j) (δ := -1 * δ) (fun j hj e => by rw [hs j hj e]; rfl) (by rw [sm_mul, h0]; rfl) ⟨j, hj, by omega⟩ (by omega) fun i hi e => ?_
     have e2 : sm n (fun j => a i j * (-1 * d j)) = -1 * sm n (fun j => a i j * d j) := by
      rw [<- sm_mul]
      exact sm_congr fun j _ => by grind
     rw [e2, ht i hi e]
   obtain ⟨y1, S1, N1, P1, l1, t1, u1, w1⟩ := go
   obtain ⟨y2, S2, N2, P2, l2, r2, u2, w2⟩ := ih _ (by omega) rfl P1
   refine ⟨y2, S2, N2, P2, ?_, r2, fun j hj e => u2 j hj (u1 j hj e), fun i hi e => w2 i hi (w1 i hi e)⟩
   have p1 := P1.pos
   have a1 : N2 * S1 * S <= N1 * S2 * S := Int.mul_le_mul_of_nonneg_right l2 (Int.le_of_lt P.pos)
   have a2 : N1 * S * S2 <= N * S1 * S2 := Int.mul_le_mul_of_nonneg_right l1 (Int.le_of_lt P2.pos)
   have a3 : N2 * S * S1 <= N * S2 * S1 := by grind
   exact Int.le_of_mul_le_mul_right a3 p1
end Gm
set_option Elab.async false
set_option linter.all false
namespace Gm
inductive Cone (Cs : List (Nat -> Int)) : (Nat -> Int) -> Prop
 | base {c} : c ∈ Cs -> Cone Cs c
 | comb {u v : Nat -> Int} {p q : Int} : Cone Cs u -> Cone Cs v -> 0 < p -> 0 <= q -> Cone Cs (fun i => p * u i + q * v i)
theorem Cone.trans {Cs Ds : List (Nat -> Int)} (h : ∀ c ∈ Ds, Cone Cs c) {v : Nat -> Int} (hv : Cone Ds v) : Cone Cs v := by
 induction hv with
 | base hc => exact h _ hc
 | comb _ _ hp hq ih1 ih2 => exact .comb ih1 ih2 hp hq
theorem Cone.le {Cs : List (Nat -> Int)} {i : Nat} (h : ∀ c ∈ Cs, c i <= 0) {v : Nat -> Int} (hv : Cone Cs v) : v i <= 0 := by
 induction hv with
 | base hc => exact h _ hc
 | @comb u v p q _ _ hp hq ih1 ih2 =>
  show p * u i + q * v i <= 0
  have h1 : p * u i <= 0 := Int.mul_nonpos_of_nonneg_of_nonpos (Int.le_of_lt hp) ih1
  have h2 : q * v i <= 0 := Int.mul_nonpos_of_nonneg_of_nonpos hq ih2
  omega
theorem Cone.weights {n : Nat} {a : Nat -> Nat -> Int} {v : Nat -> Int} (hv : Cone ((List.range n).map fun j i => a i j) v) : ∃ y : Nat -> Int, (∀ j, j < n -> 0 <= y j) /\ (∃ j, j < n /\ 0 < y j) /\ ∀ i, v i = sm n fun j => a i j * y j := by
 induction hv with
 | base hc =>
  obtain ⟨k, hk, rfl⟩ := List.mem_map.mp hc
  have hk := List.mem_range.mp hk
  refine ⟨fun j => if j = k then 1 else 0, fun j _ => by show (0 : Int) <= if j = k then 1 else 0; split <;> decide, ⟨k, hk, by simp⟩, fun i => ?_⟩
  have e : sm n (fun j => a i j * if j = k then 1 else 0) = sm n fun j => if j = k then a i k else 0 := sm_congr fun j _ => by
   by_cases h : j = k
   ·simp [h]
   ·simp [h]
  rw [e, sm_single, if_pos hk]
 | @comb u w p q _ _ hp hq ih1 ih2 =>
  obtain ⟨y, h1, ⟨k, hk, hk0⟩, h3⟩ := ih1
  obtain ⟨z, g1, _, g3⟩ := ih2
  refine ⟨fun j => p * y j + q * z j, fun j hj => ?_, ⟨k, hk, ?_⟩, fun i => ?_⟩
  ·exact Int.add_nonneg (Int.mul_nonneg (Int.le_of_lt hp) (h1 j hj)) (Int.mul_nonneg hq (g1 j hj))
  ·have a1 := Int.mul_pos hp hk0
   have a2 := Int.mul_nonneg hq (g1 k hk)
   show 0 < p * y k + q * z k
   omega
  ·rw [zY, <- h3, <- g3]
theorem xK (f : Nat -> Int) : ∀ m, ∃ N : Int, 0 < N /\ ∀ i, i < m -> f i < N
 | 0 => ⟨1, by decide, fun i h => by omega⟩
 | m + 1 => by
  obtain ⟨N, h1, h2⟩ := xK f m
  by_cases h : f m < N
  ·exact ⟨N, h1, fun i hi => by
    by_cases e : i = m
    ·rw [e]; exact h
    ·exact h2 i (by omega)⟩
  ·refine ⟨f m + 1, by omega, fun i hi => ?_⟩
   by_cases e : i = m
   ·rw [e]; omega
   ·have := h2 i (by omega)
    omega
theorem Fw (x u v : Nat -> Int) (p q : Int) (m : Nat) : sm m (fun i => x i * (p * u i + q * v i)) = p * sm m (fun i => x i * u i) + q * sm m (fun i => x i * v i) := by
 rw [<- sm_mul, <- sm_mul, <- sm_add]
 exact sm_congr fun j _ => by grind
theorem Gi (m : Nat) : ∀ Cs : List (Nat -> Int), Cs ≠ [] -> (∃ x : Nat -> Int, (∀ i, i < m -> 0 <= x i) /\ (∃ i, i < m /\ 0 < x i) /\ ∀ c ∈ Cs, 0 <= sm m fun i => x i * c i) \/ ∃ v, Cone Cs v /\ ∀ i, i < m -> v i < 0 := by
 induction m with
 | zero =>
  intro Cs h
  obtain ⟨c, hc⟩ := List.exists_mem_of_ne_nil _ h
  exact .inr ⟨c, .base hc, fun i hi => by omega⟩
 | succ m ih =>
  intro Cs hne
  by_cases hk : ∃ c0 ∈ Cs, c0 m < 0
  ·obtain ⟨c0, hc0, hb0⟩ := hk
   let Ds : List (Nat -> Int) := (Cs.filter fun c => decide (c m <= 0)) ++ (Cs.filter fun c => decide (0 < c m)).flatMap fun c => (Cs.filter fun c' => decide (c' m < 0)).map fun c' i => c m * c' i + (- c' m) * c i
   have hD1 : ∀ c ∈ Cs, c m <= 0 -> c ∈ Ds := fun c hc h => List.mem_append_left _ (List.mem_filter.mpr ⟨hc, decide_eq_true h⟩)
   have hD2 : ∀ c ∈ Cs, 0 < c m -> ∀ c' ∈ Cs, c' m < 0 -> (fun i => c m * c' i + (- c' m) * c i) ∈ Ds := fun c hc h c' hc' h' =>
    List.mem_append_right _ (List.mem_flatMap.mpr ⟨c, List.mem_filter.mpr ⟨hc, decide_eq_true h⟩, List.mem_map.mpr ⟨c', List.mem_filter.mpr ⟨hc', decide_eq_true h'⟩, rfl⟩⟩)
   have inD : ∀ d ∈ Ds, Cone Cs d /\ d m <= 0 := by
    intro d hd
    rcases List.mem_append.mp hd with h | h
    ·obtain ⟨h1, h2⟩ := List.mem_filter.mp h
     exact ⟨.base h1, of_decide_eq_true h2⟩
    ·obtain ⟨c, hc, h⟩ := List.mem_flatMap.mp h
     obtain ⟨h1, h2⟩ := List.mem_filter.mp hc
     have h2 := of_decide_eq_true h2
     obtain ⟨c', hc', rfl⟩ := List.mem_map.mp h
     obtain ⟨h3, h4⟩ := List.mem_filter.mp hc'
     have h4 := of_decide_eq_true h4
     refine ⟨.comb (.base h3) (.base h1) h2 (by omega), ?_⟩
     show c m * c' m + (- c' m) * c m <= 0
     grind
   rcases ih Ds (List.ne_nil_of_mem (hD1 c0 hc0 (Int.le_of_lt hb0))) with ⟨x, hx1, ⟨i0, hi0, hx2⟩, hx3⟩ | ⟨v, hv, hneg⟩
   ·left
    have key : ∃ p q : Int, 0 <= p /\ 0 < q /\ ∀ c ∈ Cs, 0 <= q * sm m (fun i => x i * c i) + p * c m := by
     by_cases hpos : ∃ c ∈ Cs, 0 < c m
     ·obtain ⟨c1, hc1, hb1⟩ := hpos
      obtain ⟨cs, hcs, hmin⟩ := kY (fun c : Nat -> Int => sm m fun i => x i * c i) (fun c => c m) (Cs.filter fun c => decide (0 < c m)) (List.ne_nil_of_mem (List.mem_filter.mpr ⟨hc1, decide_eq_true hb1⟩)) fun c hc => of_decide_eq_true (List.mem_filter.mp hc).2
      obtain ⟨hcs1, hcs2⟩ := List.mem_filter.mp hcs
      have hcs2 := of_decide_eq_true hcs2
      have hmin' : ∀ c ∈ Cs, 0 < c m -> sm m (fun i => x i * cs i) * c m <= sm m (fun i => x i * c i) * cs m := fun c hc h => hmin c (List.mem_filter.mpr ⟨hc, decide_eq_true h⟩)
      by_cases hs : 0 <= sm m (fun i => x i * cs i)
      ·refine ⟨0, 1, Int.le_refl _, by decide, fun c hc => ?_⟩
       have : 0 <= sm m (fun i => x i * c i) := by
        by_cases hb : 0 < c m
        ·have h1 := hmin' c hc hb
         have h2 : 0 <= sm m (fun i => x i * cs i) * c m := Int.mul_nonneg hs (Int.le_of_lt hb)
         have h3 : 0 <= sm m (fun i => x i * c i) * cs m := by omega
         refine Classical.byContradiction fun hc => ?_
         have := Int.mul_neg_of_neg_of_pos (show sm m (fun i => x i * c i) < 0 by omega) hcs2
         omega
        ·exact hx3 c (hD1 c hc (by omega))
       omega
      ·refine ⟨- sm m (fun i => x i * cs i), cs m, by omega, hcs2, fun c hc => ?_⟩
       by_cases hb : 0 < c m
       ·have h1 := hmin' c hc hb
        grind
       ·by_cases hz : c m = 0
        ·have h1 := hx3 c (hD1 c hc (by omega))
         rw [hz]
         have := Int.mul_nonneg (Int.le_of_lt hcs2) h1
         omega
        ·have h1 := hx3 _ (hD2 cs hcs1 hcs2 c hc (by omega))
         rw [Fw] at h1
         grind
     ·refine ⟨0, 1, Int.le_refl _, by decide, fun c hc => ?_⟩
      have h : c m <= 0 := Classical.byContradiction fun h => hpos ⟨c, hc, by omega⟩
      have := hx3 c (hD1 c hc h)
      omega
    obtain ⟨p, q, hp, hq, hall⟩ := key
    refine ⟨fun i => if i = m then p else q * x i, fun i hi => ?_, ⟨i0, by omega, ?_⟩, fun c hc => ?_⟩
    ·show 0 <= if i = m then p else q * x i
     split
     ·exact hp
     ·exact Int.mul_nonneg (Int.le_of_lt hq) (hx1 i (by omega))
    ·show 0 < if i0 = m then p else q * x i0
     rw [if_neg (by omega)]
     exact Int.mul_pos hq hx2
    ·show 0 <= sm m (fun i => (if i = m then p else q * x i) * c i) + (if m = m then p else q * x m) * c m
     rw [if_pos rfl]
     have e : sm m (fun i => (if i = m then p else q * x i) * c i) = q * sm m (fun i => x i * c i) := by
      rw [<- sm_mul]
      refine sm_congr fun i hi => ?_
      rw [if_neg (by omega), Int.mul_assoc]
     rw [e]
     exact hall c hc
   ·right
    obtain ⟨N, hN, hb⟩ := xK c0 m
    have hv' : Cone Cs v := hv.trans fun d hd => (inD d hd).1
    have hvm : v m <= 0 := hv.le fun d hd => (inD d hd).2
    refine ⟨_, .comb hv' (.base hc0) hN (show (0 : Int) <= 1 by decide), fun i hi => ?_⟩
    show N * v i + 1 * c0 i < 0
    by_cases e : i = m
    ·rw [e]
     have : N * v m <= 0 := Int.mul_nonpos_of_nonneg_of_nonpos (Int.le_of_lt hN) hvm
     omega
    ·have h1 := hneg i (by omega)
     have h2 := hb i (by omega)
     have h3 : N * v i <= N * (-1) := Int.mul_le_mul_of_nonneg_left (by omega) (Int.le_of_lt hN)
     omega
  ·left
   refine ⟨fun i => if i = m then 1 else 0, fun i _ => by show (0 : Int) <= if i = m then 1 else 0; split <;> decide, ⟨m, by omega, by simp⟩, fun c hc => ?_⟩
   have e : sm (m + 1) (fun i => (if i = m then 1 else 0) * c i) = sm (m + 1) fun i => if i = m then c m else 0 := sm_congr fun i _ => by
    by_cases h : i = m
    ·simp [h]
    ·simp [h]
   rw [e, sm_single, if_pos (by omega)]
   exact Classical.byContradiction fun h => hk ⟨c, hc, by omega⟩
theorem alt (a : Nat -> Nat -> Int) (m n : Nat) (hn : 0 < n) :
  (∃ x : Nat -> Int, (∀ i, i < m -> 0 <= x i) /\ (∃ i, i < m /\ 0 < x i) /\ ∀ j, j < n -> 0 <= sm m fun i => x i * a i j) \/ ∃ y : Nat -> Int, (∀ j, j < n -> 0 <= y j) /\ (∃ j, j < n /\ 0 < y j) /\ ∀ i, i < m -> sm n (fun j => a i j * y j) < 0 := by
 have hne : (List.range n).map (fun j i => a i j) ≠ [] := fun e => by
  have := congrArg List.length e
  simp at this
  omega
 rcases Gi m _ hne with ⟨x, h1, h2, h3⟩ | ⟨v, hv, hneg⟩
 ·exact .inl ⟨x, h1, h2, fun j hj => h3 _ (List.mem_map.mpr ⟨j, List.mem_range.mpr hj, rfl⟩)⟩
 ·obtain ⟨y, h1, h2, h3⟩ := hv.weights
  exact .inr ⟨y, h1, h2, fun i hi => by rw [<- h3]; exact hneg i hi⟩
end Gm
set_option Elab.async false
set_option linter.all false
namespace Gm
def cut (r : List Int) (c : Nat) : List Int := r.take c ++ r.drop (c + 1)
def sg (c : Nat) : Int := if c % 2 = 0 then 1 else -1
def detN : Nat -> List (List Int) -> Int
 | 0, _ => 1
 | n + 1, M => sm (n + 1) fun c => sg c * (M.getD 0 []).getD c 0 * detN n ((M.drop 1).map fun r => cut r c)
def putC (r : List Int) (c : Nat) (x : Int) : List Int := r.take c ++ [x] ++ r.drop (c + 1)
def withC (M : List (List Int)) (c : Nat) (xs : List Int) : List (List Int) := List.zipWith (fun r x => putC r c x) M xs
abbrev cell (U : List (List Int)) (i j : Nat) : Int := (U.getD i []).getD j 0
def eqsM (U : List (List Int)) (R C : List Nat) : List (List Int) := List.replicate C.length 1 :: (R.drop 1).map fun i => C.map fun j => cell U i j - cell U (R.headD 0) j
def numsM (k : Nat) : List Int := 1 :: List.replicate (k - 1) 0
def wholeM (U : List (List Int)) (R C : List Nat) : Int := detN C.length (eqsM U R C)
def b8 (U : List (List Int)) (R C : List Nat) (t : Nat) : Int := detN C.length (withC (eqsM U R C) t (numsM C.length))
def d2 (a b c d : Int) : Int := a * d - b * c
def d3 (a b c d e f g h i : Int) : Int := a * d2 e f h i - b * d2 d f g i + c * d2 d e g h
theorem Jy (x : Int) : detN 1 [[x]] = x := by simp [detN, sm, sg]
theorem uf (a b c d : Int) : detN 2 [[a, b], [c, d]] = d2 a b c d := by simp [detN, sm, sg, cut, d2]; grind
theorem nJ (a b c d e f g h i : Int) : detN 3 [[a, b, c], [d, e, f], [g, h, i]] = d3 a b c d e f g h i := by
 have e : detN 3 [[a, b, c], [d, e, f], [g, h, i]] = 0 + 1 * a * detN 2 [[e, f], [h, i]] + (-1) * b * detN 2 [[d, f], [g, i]] + 1 * c * detN 2 [[d, e], [g, h]] := rfl
 rw [e, uf, uf, uf]
 unfold d3
 grind
theorem wu (a1 a2 a3 a4 b1 b2 b3 b4 c1 c2 c3 c4 e1 e2 e3 e4 : Int) : detN 4 [[a1, a2, a3, a4], [b1, b2, b3, b4], [c1, c2, c3, c4], [e1, e2, e3, e4]] =
  a1 * d3 b2 b3 b4 c2 c3 c4 e2 e3 e4 - a2 * d3 b1 b3 b4 c1 c3 c4 e1 e3 e4 + a3 * d3 b1 b2 b4 c1 c2 c4 e1 e2 e4 - a4 * d3 b1 b2 b3 c1 c2 c3 e1 e2 e3 := by
 have e : detN 4 [[a1, a2, a3, a4], [b1, b2, b3, b4], [c1, c2, c3, c4], [e1, e2, e3, e4]] =
  0 + 1 * a1 * detN 3 [[b2, b3, b4], [c2, c3, c4], [e2, e3, e4]] + (-1) * a2 * detN 3 [[b1, b3, b4], [c1, c3, c4], [e1, e3, e4]] + 1 * a3 * detN 3 [[b1, b2, b4], [c1, c2, c4], [e1, e2, e4]] + (-1) * a4 * detN 3 [[b1, b2, b3], [c1, c2, c3], [e1, e2, e3]] := rfl
 rw [e, nJ, nJ, nJ, nJ]
 grind
theorem Cd {l : List Nat} (h : l.length = 1) : ∃ a, l = [a] := List.length_eq_one_iff.mp h
theorem Gf {l : List Nat} {k : Nat} (h : l.length = k + 1) : ∃ a t, l = a :: t /\ t.length = k := by
 cases l with
 | nil => simp at h
 | cons a t => exact ⟨a, t, rfl, by simpa using h⟩
theorem Ci {l : List Nat} (h : l.length = 2) : ∃ a b, l = [a, b] := by
 obtain ⟨a, t, rfl, ht⟩ := Gf h
 obtain ⟨b, rfl⟩ := Cd ht
 exact ⟨a, b, rfl⟩
theorem BZ {l : List Nat} (h : l.length = 3) : ∃ a b c, l = [a, b, c] := by
 obtain ⟨a, t, rfl, ht⟩ := Gf h
 obtain ⟨b, c, rfl⟩ := Ci ht
 exact ⟨a, b, c, rfl⟩
theorem Fo {l : List Nat} (h : l.length = 4) : ∃ a b c d, l = [a, b, c, d] := by
 obtain ⟨a, t, rfl, ht⟩ := Gf h
 obtain ⟨b, c, d, rfl⟩ := BZ ht
 exact ⟨a, b, c, d, rfl⟩
theorem De {R C : List Nat} (h : R.length = C.length) (k : C.length = 1) : ∃ r c, R = [r] /\ C = [c] := by
 obtain ⟨c, rfl⟩ := Cd k
 obtain ⟨r, rfl⟩ := Cd h
 exact ⟨r, c, rfl, rfl⟩
theorem Dy {R C : List Nat} (h : R.length = C.length) (k : C.length = 2) : ∃ r s c d, R = [r, s] /\ C = [c, d] := by
 obtain ⟨c, d, rfl⟩ := Ci k
 obtain ⟨r, s, rfl⟩ := Ci h
 exact ⟨r, s, c, d, rfl, rfl⟩
theorem Cq {R C : List Nat} (h : R.length = C.length) (k : C.length = 3) : ∃ r s t c d e, R = [r, s, t] /\ C = [c, d, e] := by
 obtain ⟨c, d, e, rfl⟩ := BZ k
 obtain ⟨r, s, t, rfl⟩ := BZ h
 exact ⟨r, s, t, c, d, e, rfl, rfl⟩
theorem DY {R C : List Nat} (h : R.length = C.length) (k : C.length = 4) : ∃ r s t u c d e f, R = [r, s, t, u] /\ C = [c, d, e, f] := by
 obtain ⟨c, d, e, f, rfl⟩ := Fo k
 obtain ⟨r, s, t, u, rfl⟩ := Fo h
 exact ⟨r, s, t, u, c, d, e, f, rfl, rfl⟩
section
variable (U : List (List Int))
theorem yI (r c : Nat) : wholeM U [r] [c] = 1 := Jy 1
theorem whole2 (r s c d : Nat) : wholeM U [r, s] [c, d] = d2 1 1 (cell U s c - cell U r c) (cell U s d - cell U r d) := uf ..
theorem xV (r s t c d e : Nat) : wholeM U [r, s, t] [c, d, e] = d3 1 1 1 (cell U s c - cell U r c) (cell U s d - cell U r d) (cell U s e - cell U r e) (cell U t c - cell U r c) (cell U t d - cell U r d) (cell U t e - cell U r e) := nJ ..
theorem part1 (r c : Nat) : b8 U [r] [c] 0 = 1 := Jy 1
theorem part20 (r s c d : Nat) : b8 U [r, s] [c, d] 0 = d2 1 1 0 (cell U s d - cell U r d) := uf ..
theorem part21 (r s c d : Nat) : b8 U [r, s] [c, d] 1 = d2 1 1 (cell U s c - cell U r c) 0 := uf ..
theorem Dk (r s t c d e : Nat) : b8 U [r, s, t] [c, d, e] 0 = d3 1 1 1 0 (cell U s d - cell U r d) (cell U s e - cell U r e) 0 (cell U t d - cell U r d) (cell U t e - cell U r e) := nJ ..
theorem Es (r s t c d e : Nat) : b8 U [r, s, t] [c, d, e] 1 = d3 1 1 1 (cell U s c - cell U r c) 0 (cell U s e - cell U r e) (cell U t c - cell U r c) 0 (cell U t e - cell U r e) := nJ ..
theorem Fd (r s t c d e : Nat) : b8 U [r, s, t] [c, d, e] 2 = d3 1 1 1 (cell U s c - cell U r c) (cell U s d - cell U r d) 0 (cell U t c - cell U r c) (cell U t d - cell U r d) 0 := nJ ..
theorem v9 (r s t u c d e f : Nat) : wholeM U [r, s, t, u] [c, d, e, f] = 1 * d3 (cell U s d - cell U r d) (cell U s e - cell U r e) (cell U s f - cell U r f) (cell U t d - cell U r d) (cell U t e - cell U r e) (cell U t f - cell U r f) (cell U u d - cell U r d) (cell U u e - cell U r e) (cell U u f - cell U r f) - 1 * d3 (cell U s c - cell U r c) (cell U s e - cell U r e) (cell U s f - cell U r f) (cell U t c - cell U r c) (cell U t e - cell U r e) (cell U t f - cell U r f) (cell U u c - cell U r c) (cell U u e - cell U r e) (cell U u f - cell U r f) + 1 * d3 (cell U s c - cell U r c) (cell U s d - cell U r d) (cell U s f - cell U r f) (cell U t c - cell U r c) (cell U t d - cell U r d) (cell U t f - cell U r f) (cell U u c - cell U r c) (cell U u d - cell U r d) (cell U u f - cell U r f) - 1 * d3 (cell U s c - cell U r c) (cell U s d - cell U r d) (cell U s e - cell U r e) (cell U t c - cell U r c) (cell U t d - cell U r d) (cell U t e - cell U r e) (cell U u c - cell U r c) (cell U u d - cell U r d) (cell U u e - cell U r e) := wu ..
theorem Eh (r s t u c d e f : Nat) : b8 U [r, s, t, u] [c, d, e, f] 0 = 1 * d3 (cell U s d - cell U r d) (cell U s e - cell U r e) (cell U s f - cell U r f) (cell U t d - cell U r d) (cell U t e - cell U r e) (cell U t f - cell U r f) (cell U u d - cell U r d) (cell U u e - cell U r e) (cell U u f - cell U r f) - 1 * d3 0 (cell U s e - cell U r e) (cell U s f - cell U r f) 0 (cell U t e - cell U r e) (cell U t f - cell U r f) 0 (cell U u e - cell U r e) (cell U u f - cell U r f) + 1 * d3 0 (cell U s d - cell U r d) (cell U s f - cell U r f) 0 (cell U t d - cell U r d) (cell U t f - cell U r f) 0 (cell U u d - cell U r d) (cell U u f - cell U r f) - 1 * d3 0 (cell U s d - cell U r d) (cell U s e - cell U r e) 0 (cell U t d - cell U r d) (cell U t e - cell U r e) 0 (cell U u d - cell U r d) (cell U u e - cell U r e) := wu ..
theorem Du (r s t u c d e f : Nat) : b8 U [r, s, t, u] [c, d, e, f] 1 = 1 * d3 0 (cell U s e - cell U r e) (cell U s f - cell U r f) 0 (cell U t e - cell U r e) (cell U t f - cell U r f) 0 (cell U u e - cell U r e) (cell U u f - cell U r f) - 1 * d3 (cell U s c - cell U r c) (cell U s e - cell U r e) (cell U s f - cell U r f) (cell U t c - cell U r c) (cell U t e - cell U r e) (cell U t f - cell U r f) (cell U u c - cell U r c) (cell U u e - cell U r e) (cell U u f - cell U r f) + 1 * d3 (cell U s c - cell U r c) 0 (cell U s f - cell U r f) (cell U t c - cell U r c) 0 (cell U t f - cell U r f) (cell U u c - cell U r c) 0 (cell U u f - cell U r f) - 1 * d3 (cell U s c - cell U r c) 0 (cell U s e - cell U r e) (cell U t c - cell U r c) 0 (cell U t e - cell U r e) (cell U u c - cell U r c) 0 (cell U u e - cell U r e) := wu ..
theorem Er (r s t u c d e f : Nat) : b8 U [r, s, t, u] [c, d, e, f] 2 = 1 * d3 (cell U s d - cell U r d) 0 (cell U s f - cell U r f) (cell U t d - cell U r d) 0 (cell U t f - cell U r f) (cell U u d - cell U r d) 0 (cell U u f - cell U r f) - 1 * d3 (cell U s c - cell U r c) 0 (cell U s f - cell U r f) (cell U t c - cell U r c) 0 (cell U t f - cell U r f) (cell U u c - cell U r c) 0 (cell U u f - cell U r f) + 1 * d3 (cell U s c - cell U r c) (cell U s d - cell U r d) (cell U s f - cell U r f) (cell U t c - cell U r c) (cell U t d - cell U r d) (cell U t f - cell U r f) (cell U u c - cell U r c) (cell U u d - cell U r d) (cell U u f - cell U r f) - 1 * d3 (cell U s c - cell U r c) (cell U s d - cell U r d) 0 (cell U t c - cell U r c) (cell U t d - cell U r d) 0 (cell U u c - cell U r c) (cell U u d - cell U r d) 0 := wu ..
theorem Dw (r s t u c d e f : Nat) : b8 U [r, s, t, u] [c, d, e, f] 3 = 1 * d3 (cell U s d - cell U r d) (cell U s e - cell U r e) 0 (cell U t d - cell U r d) (cell U t e - cell U r e) 0 (cell U u d - cell U r d) (cell U u e - cell U r e) 0 - 1 * d3 (cell U s c - cell U r c) (cell U s e - cell U r e) 0 (cell U t c - cell U r c) (cell U t e - cell U r e) 0 (cell U u c - cell U r c) (cell U u e - cell U r e) 0 + 1 * d3 (cell U s c - cell U r c) (cell U s d - cell U r d) 0 (cell U t c - cell U r c) (cell U t d - cell U r d) 0 (cell U u c - cell U r c) (cell U u d - cell U r d) 0 - 1 * d3 (cell U s c - cell U r c) (cell U s d - cell U r d) (cell U s e - cell U r e) (cell U t c - cell U r c) (cell U t d - cell U r d) (cell U t e - cell U r e) (cell U u c - cell U r c) (cell U u d - cell U r d) (cell U u e - cell U r e) := wu ..
end
def partsM (U : List (List Int)) (R C : List Nat) : List Int := (List.range C.length).map (b8 U R C)
theorem Dt (U : List (List Int)) {R C : List Nat} (h : R.length = C.length) (h0 : 0 < C.length) (h4 : C.length <= 4) : (partsM U R C).sum = wholeM U R C := by
 have hk : C.length = 1 \/ C.length = 2 \/ C.length = 3 \/ C.length = 4 := by omega
 rcases hk with k | k | k | k
 ·obtain ⟨r, c, rfl, rfl⟩ := De h k
  show b8 U [r] [c] 0 + 0 = _
  rw [part1, yI]; rfl
 ·obtain ⟨r, s, c, d, rfl, rfl⟩ := Dy h k
  show b8 U [r, s] [c, d] 0 + (b8 U [r, s] [c, d] 1 + 0) = _
  rw [part20, part21, whole2]
  unfold d2; grind
 ·obtain ⟨r, s, t, c, d, e, rfl, rfl⟩ := Cq h k
  show b8 U [r, s, t] [c, d, e] 0 + (b8 U [r, s, t] [c, d, e] 1 + (b8 U [r, s, t] [c, d, e] 2 + 0)) = _
  rw [Dk, Es, Fd, xV]
  unfold d3 d2; grind
 ·obtain ⟨r, s, t, u, c, d, e, f, rfl, rfl⟩ := DY h k
  show b8 U [r, s, t, u] [c, d, e, f] 0 + (b8 U [r, s, t, u] [c, d, e, f] 1 + (b8 U [r, s, t, u] [c, d, e, f] 2 + (b8 U [r, s, t, u] [c, d, e, f] 3 + 0))) = _
  rw [v9, Eh, Du, Er, Dw]
  generalize cell U s c - cell U r c = b1
  generalize cell U s d - cell U r d = b2
  generalize cell U s e - cell U r e = b3
  generalize cell U s f - cell U r f = b4
  generalize cell U t c - cell U r c = c1
  generalize cell U t d - cell U r d = c2
  generalize cell U t e - cell U r e = c3
  generalize cell U t f - cell U r f = c4
  generalize cell U u c - cell U r c = e1
  generalize cell U u d - cell U r d = e2
  generalize cell U u e - cell U r e = e3
  generalize cell U u f - cell U r f = e4
  unfold d3 d2
  grind
def wsum (f : Nat -> Int) : List Nat -> List Int -> Int
 | c :: C, p :: ps => f c * p + wsum f C ps
 | _, _ => 0
theorem Iu (U : List (List Int)) {R C : List Nat} {ps : List Int} {S : Int} (h : R.length = C.length) (h0 : 0 < C.length) (h4 : C.length <= 4) (hp : ps.length = C.length) (hS : ps.sum = S)
  (he : ∀ i ∈ R, wsum (cell U i) C ps = wsum (cell U (R.headD 0)) C ps) : ∀ t, t < C.length -> wholeM U R C * ps.getD t 0 = S * b8 U R C t := by
 have hk : C.length = 1 \/ C.length = 2 \/ C.length = 3 \/ C.length = 4 := by omega
 have lenI : ∀ {l : List Int} {k : Nat}, l.length = k + 1 -> ∃ a t, l = a :: t /\ t.length = k := by
  intro l k h
  cases l with
  | nil => simp at h
  | cons a t => exact ⟨a, t, rfl, by simpa using h⟩
 rcases hk with k | k | k | k
 ·obtain ⟨r, c, rfl, rfl⟩ := De h k
  obtain ⟨p, t, rfl, ht⟩ := lenI hp
  obtain rfl := List.eq_nil_of_length_eq_zero ht
  intro t ht
  have : t = 0 := by simp at ht; omega
  subst this
  rw [part1, yI]
  simp at hS ⊢
  exact hS
 ·obtain ⟨r, s, c, d, rfl, rfl⟩ := Dy h k
  obtain ⟨p, l1, rfl, k1⟩ := lenI hp
  obtain ⟨q, l2, rfl, k2⟩ := lenI k1
  obtain rfl := List.eq_nil_of_length_eq_zero k2
  have e1 := he s (by simp)
  simp only [wsum, List.headD_cons] at e1
  simp only [List.sum_cons, List.sum_nil] at hS
  intro t ht
  have ht : t = 0 \/ t = 1 := by simp at ht; omega
  rcases ht with rfl | rfl
  ·rw [part20, whole2]
   show _ * p = _
   unfold d2; grind
  ·rw [part21, whole2]
   show _ * q = _
   unfold d2; grind
 ·obtain ⟨r, s, t, c, d, e, rfl, rfl⟩ := Cq h k
  obtain ⟨p, l1, rfl, k1⟩ := lenI hp
  obtain ⟨q, l2, rfl, k2⟩ := lenI k1
  obtain ⟨u, l3, rfl, k3⟩ := lenI k2
  obtain rfl := List.eq_nil_of_length_eq_zero k3
  have e1 := he s (by simp)
  have e2 := he t (by simp)
  simp only [wsum, List.headD_cons] at e1 e2
  simp only [List.sum_cons, List.sum_nil] at hS
  intro x hx
  have hx : x = 0 \/ x = 1 \/ x = 2 := by simp at hx; omega
  have f1 : (cell U s c - cell U r c) * p + (cell U s d - cell U r d) * q + (cell U s e - cell U r e) * u = 0 := by grind
  have f2 : (cell U t c - cell U r c) * p + (cell U t d - cell U r d) * q + (cell U t e - cell U r e) * u = 0 := by grind
  rw [xV]
  rcases hx with rfl | rfl | rfl
  ·rw [Dk]
   show _ * p = _
   generalize cell U s c - cell U r c = b1 at f1 ⊢
   generalize cell U s d - cell U r d = b2 at f1 ⊢
   generalize cell U s e - cell U r e = b3 at f1 ⊢
   generalize cell U t c - cell U r c = c1 at f2 ⊢
   generalize cell U t d - cell U r d = c2 at f2 ⊢
   generalize cell U t e - cell U r e = c3 at f2 ⊢
   unfold d3 d2; grind
  ·rw [Es]
   show _ * q = _
   generalize cell U s c - cell U r c = b1 at f1 ⊢
   generalize cell U s d - cell U r d = b2 at f1 ⊢
   generalize cell U s e - cell U r e = b3 at f1 ⊢
   generalize cell U t c - cell U r c = c1 at f2 ⊢
   generalize cell U t d - cell U r d = c2 at f2 ⊢
   generalize cell U t e - cell U r e = c3 at f2 ⊢
   unfold d3 d2; grind
  ·rw [Fd]
   show _ * u = _
   generalize cell U s c - cell U r c = b1 at f1 ⊢
   generalize cell U s d - cell U r d = b2 at f1 ⊢
   generalize cell U s e - cell U r e = b3 at f1 ⊢
   generalize cell U t c - cell U r c = c1 at f2 ⊢
   generalize cell U t d - cell U r d = c2 at f2 ⊢
   generalize cell U t e - cell U r e = c3 at f2 ⊢
   unfold d3 d2; grind
 ·obtain ⟨r, s, t, u, c, d, e, f, rfl, rfl⟩ := DY h k
  obtain ⟨p1, l1, rfl, k1⟩ := lenI hp
  obtain ⟨p2, l2, rfl, k2⟩ := lenI k1
  obtain ⟨p3, l3, rfl, k3⟩ := lenI k2
  obtain ⟨p4, l4, rfl, k4⟩ := lenI k3
  obtain rfl := List.eq_nil_of_length_eq_zero k4
  have g1 := he s (by simp)
  have g2 := he t (by simp)
  have g3 := he u (by simp)
  simp only [wsum, List.headD_cons] at g1 g2 g3
  simp only [List.sum_cons, List.sum_nil] at hS
  have f1 : (cell U s c - cell U r c) * p1 + (cell U s d - cell U r d) * p2 + (cell U s e - cell U r e) * p3 + (cell U s f - cell U r f) * p4 = 0 := by grind
  have f2 : (cell U t c - cell U r c) * p1 + (cell U t d - cell U r d) * p2 + (cell U t e - cell U r e) * p3 + (cell U t f - cell U r f) * p4 = 0 := by grind
  have f3 : (cell U u c - cell U r c) * p1 + (cell U u d - cell U r d) * p2 + (cell U u e - cell U r e) * p3 + (cell U u f - cell U r f) * p4 = 0 := by grind
  have hS' : p1 + p2 + p3 + p4 = S := by omega
  clear he g1 g2 g3
  intro x hx
  have hx : x = 0 \/ x = 1 \/ x = 2 \/ x = 3 := by simp at hx; omega
  rw [v9]
  rcases hx with rfl | rfl | rfl | rfl
  all_goals
   first
    | (rw [Eh]; show _ * p1 = _)
    | (rw [Du]; show _ * p2 = _)
    | (rw [Er]; show _ * p3 = _)
    | (rw [Dw]; show _ * p4 = _)
  all_goals
   clear h h0 hx lenI h4 hp hS k k1 k2 k3 k4
   generalize cell U s c - cell U r c = b1 at f1 ⊢
   generalize cell U s d - cell U r d = b2 at f1 ⊢
   generalize cell U s e - cell U r e = b3 at f1 ⊢
   generalize cell U s f - cell U r f = b4 at f1 ⊢
   generalize cell U t c - cell U r c = c1 at f2 ⊢
   generalize cell U t d - cell U r d = c2 at f2 ⊢
   generalize cell U t e - cell U r e = c3 at f2 ⊢
   generalize cell U t f - cell U r f = c4 at f2 ⊢
   generalize cell U u c - cell U r c = e1 at f3 ⊢
   generalize cell U u d - cell U r d = e2 at f3 ⊢
   generalize cell U u e - cell U r e = e3 at f3 ⊢
   generalize cell U u f - cell U r f = e4 at f3 ⊢
   unfold d3 d2
   grind
end Gm
set_option Elab.async false
set_option linter.all false
namespace Gm
def chM : Nat -> List (List Nat)
 | 0 => [[]]
 | n + 1 => chM n ++ (chM n).map fun c => c ++ [n]
theorem mem_chM : ∀ {m : Nat} {R : List Nat}, R.Sublist (List.range m) ↔ R ∈ chM m
 | 0, R => by
  show R.Sublist [] ↔ R ∈ [[]]
  rw [List.sublist_nil, List.mem_singleton]
 | m + 1, R => by
  rw [List.range_succ, List.sublist_append_iff]
  show _ ↔ R ∈ chM m ++ (chM m).map fun c => c ++ [m]
  rw [List.mem_append, List.mem_map]
  constructor
  ·rintro ⟨R1, R2, rfl, h1, h2⟩
   have h1 := mem_chM.mp h1
   cases h2 with
   | cons _ h =>
    rw [List.sublist_nil.mp h, List.append_nil]; exact .inl h1
   | cons_cons _ h =>
    rw [List.sublist_nil.mp h]; exact .inr ⟨R1, h1, rfl⟩
  ·rintro (h | ⟨R1, h, rfl⟩)
   ·exact ⟨R, [], by simp, mem_chM.mpr h, List.nil_sublist _⟩
   ·exact ⟨R1, [m], rfl, mem_chM.mpr h, List.Sublist.refl _⟩
def yOf (C : List Nat) (ps : List Int) (j : Nat) : Int := wsum (fun c => if c = j then 1 else 0) C ps
theorem yOf_cons (c : Nat) (C : List Nat) (p : Int) (ps : List Int) (j : Nat) : yOf (c :: C) (p :: ps) j = (if j = c then p else 0) + yOf C ps j := by
 show (if c = j then (1 : Int) else 0) * p + yOf C ps j = _
 by_cases h : j = c
 ·rw [if_pos h, if_pos h.symm]; omega
 ·rw [if_neg h, if_neg fun e => h e.symm]; omega
theorem gF (f : Nat -> Int) (ps : List Int) : wsum f [] ps = 0 := by cases ps <;> rfl
theorem j6 (f : Nat -> Int) (C : List Nat) : wsum f C [] = 0 := by cases C <;> rfl
theorem oK (f : Nat -> Int) (n : Nat) : ∀ (C : List Nat) (ps : List Int), (∀ c ∈ C, c < n) -> sm n (fun j => f j * yOf C ps j) = wsum f C ps
 | [], ps, _ => by
  have e : sm n (fun j => f j * yOf [] ps j) = sm n fun _ => 0 := sm_congr fun j _ => by
   unfold yOf
   rw [gF]; simp
  rw [e, sm_zero, gF]
 | c :: C, [], _ => by
  have e : sm n (fun j => f j * yOf (c :: C) [] j) = sm n fun _ => 0 := sm_congr fun j _ => by
   unfold yOf
   rw [j6]; simp
  rw [e, sm_zero, j6]
 | c :: C, p :: ps, h => by
  have e : sm n (fun j => f j * yOf (c :: C) (p :: ps) j) = sm n (fun j => (if j = c then f c * p else 0) + f j * yOf C ps j) := sm_congr fun j _ => by
   rw [yOf_cons, Int.mul_add]
   by_cases hj : j = c
   ·rw [if_pos hj, if_pos hj, hj]
   ·rw [if_neg hj, if_neg hj, Int.mul_zero]
  rw [e, sm_add, sm_single, if_pos (h c (by simp)), oK f n C ps fun x hx => h x (by simp [hx])]
  rfl
theorem xN : ∀ (C : List Nat) (ps : List Int), ps.length = C.length -> wsum (fun _ => 1) C ps = ps.sum
 | [], [], _ => rfl
 | c :: C, p :: ps, h => by
  show 1 * p + wsum (fun _ => 1) C ps = _
  rw [xN C ps (by simpa using h), List.sum_cons]; omega
 | [], _ :: _, h => by simp at h
 | _ :: _, [], h => by simp at h
theorem yOf_sum {n : Nat} {C : List Nat} {ps : List Int} (h : ∀ c ∈ C, c < n) (hl : ps.length = C.length) : sm n (yOf C ps) = ps.sum := by
 have := oK (fun _ => 1) n C ps h
 rw [xN C ps hl] at this
 rw [<- this]
 exact sm_congr fun j _ => by simp
theorem yOf_out : ∀ {C : List Nat} {ps : List Int} {j : Nat}, j ∉ C -> yOf C ps j = 0
 | [], ps, j, _ => gF _ _
 | c :: C, [], j, _ => j6 _ _
 | c :: C, p :: ps, j, h => by
  rw [yOf_cons, if_neg fun e => h (by simp [e]), yOf_out fun q => h (by simp [q])]; rfl
theorem CG : ∀ {C : List Nat} {ps : List Int}, C.Nodup -> ps.length = C.length -> ∀ t, t < C.length -> yOf C ps (C.getD t 0) = ps.getD t 0
 | [], _, _, _, t, h => by simp at h
 | c :: C, [], _, h, t, _ => by simp at h
 | c :: C, p :: ps, hn, hl, 0, _ => by
  show yOf (c :: C) (p :: ps) c = p
  rw [yOf_cons, if_pos rfl, yOf_out (List.nodup_cons.mp hn).1]; omega
 | c :: C, p :: ps, hn, hl, t + 1, h => by
  show yOf (c :: C) (p :: ps) (C.getD t 0) = ps.getD t 0
  have ht : t < C.length := by simpa using h
  have hm : C.getD t 0 ∈ C := by
   rw [List.getD_eq_getElem?_getD, List.getElem?_eq_getElem ht]
   exact List.getElem_mem ht
  rw [yOf_cons, if_neg fun e => (List.nodup_cons.mp hn).1 (by rw [<- e]; exact hm), CG (List.nodup_cons.mp hn).2 (by simpa using hl) t ht]; omega
theorem Ak {y : Nat -> Int} : ∀ {C : List Nat}, C.Nodup -> ∀ j, yOf C (C.map y) j = if j ∈ C then y j else 0
 | [], _, j => by simp [yOf, wsum]
 | c :: C, hn, j => by
  rw [List.map_cons, yOf_cons, Ak (List.nodup_cons.mp hn).2 j]
  by_cases h : j = c
  ·subst h
   rw [if_pos rfl, if_neg (List.nodup_cons.mp hn).1, if_pos (by simp)]; omega
  ·rw [if_neg h]
   by_cases q : j ∈ C
   ·rw [if_pos q, if_pos (by simp [q])]; omega
   ·rw [if_neg q, if_neg (by simp [h, q])]; rfl
theorem J6 (l : List (Int × Int)) (h : ∀ u ∈ l, ∀ v ∈ l, u.1 * v.2 - u.2 * v.1 = 0) : ∃ x y : Int, (x ≠ 0 \/ y ≠ 0) /\ ∀ u ∈ l, u.1 * x + u.2 * y = 0 := by
 by_cases hz : ∃ v ∈ l, v.1 ≠ 0 \/ v.2 ≠ 0
 ·obtain ⟨v, hv, hne⟩ := hz
  refine ⟨v.2, - v.1, by omega, fun u hu => ?_⟩
  have := h u hu v hv
  grind
 ·refine ⟨1, 0, .inl (by decide), fun u hu => ?_⟩
  have : u.1 = 0 := Classical.byContradiction fun e => hz ⟨u, hu, .inl e⟩
  rw [this]; simp
theorem lE {x y : Int} (h : x * y = 0) (hx : x ≠ 0) : y = 0 := (Int.mul_eq_zero.mp h).resolve_left hx
theorem Bo (u1 u2 u3 v1 v2 v3 w1 w2 w3 : Int) (h : d3 u1 u2 u3 v1 v2 v3 w1 w2 w3 = 0) :
  ∃ x y z : Int, (x ≠ 0 \/ y ≠ 0 \/ z ≠ 0) /\ u1 * x + u2 * y + u3 * z = 0 /\ v1 * x + v2 * y + v3 * z = 0 /\ w1 * x + w2 * y + w3 * z = 0 := by
 unfold d3 d2 at h
 by_cases A : u2 * v3 - u3 * v2 ≠ 0 \/ u3 * v1 - u1 * v3 ≠ 0 \/ u1 * v2 - u2 * v1 ≠ 0
 ·exact ⟨_, _, _, A, by grind, by grind, by grind⟩
 by_cases B : u2 * w3 - u3 * w2 ≠ 0 \/ u3 * w1 - u1 * w3 ≠ 0 \/ u1 * w2 - u2 * w1 ≠ 0
 ·exact ⟨_, _, _, B, by grind, by grind, by grind⟩
 by_cases D : v2 * w3 - v3 * w2 ≠ 0 \/ v3 * w1 - v1 * w3 ≠ 0 \/ v1 * w2 - v2 * w1 ≠ 0
 ·exact ⟨_, _, _, D, by grind, by grind, by grind⟩
 have a1 : u2 * v3 - u3 * v2 = 0 := by omega
 have a2 : u3 * v1 - u1 * v3 = 0 := by omega
 have a3 : u1 * v2 - u2 * v1 = 0 := by omega
 have b1 : u2 * w3 - u3 * w2 = 0 := by omega
 have b2 : u3 * w1 - u1 * w3 = 0 := by omega
 have b3 : u1 * w2 - u2 * w1 = 0 := by omega
 have c1 : v2 * w3 - v3 * w2 = 0 := by omega
 have c2 : v3 * w1 - v1 * w3 = 0 := by omega
 have c3 : v1 * w2 - v2 * w1 = 0 := by omega
 clear A B D h
 by_cases hu : u1 ≠ 0 \/ u2 ≠ 0
 ·exact ⟨u2, -u1, 0, by omega, by grind, by grind, by grind⟩
 have hu1 : u1 = 0 := by omega
 have hu2 : u2 = 0 := by omega
 subst hu1 hu2
 by_cases hu3 : u3 ≠ 0
 ·have q1 : v2 = 0 := lE (x := u3) (by omega) hu3
  have q2 : v1 = 0 := lE (x := u3) (by omega) hu3
  have q3 : w2 = 0 := lE (x := u3) (by omega) hu3
  have q4 : w1 = 0 := lE (x := u3) (by omega) hu3
  exact ⟨1, 0, 0, by decide, by simp, by simp [q2], by simp [q4]⟩
 have hu3 : u3 = 0 := by omega
 subst hu3
 by_cases hv : v1 ≠ 0 \/ v2 ≠ 0
 ·exact ⟨v2, -v1, 0, by omega, by grind, by grind, by grind⟩
 have hv1 : v1 = 0 := by omega
 have hv2 : v2 = 0 := by omega
 subst hv1 hv2
 by_cases hv3 : v3 ≠ 0
 ·have q4 : w1 = 0 := lE (x := v3) (by omega) hv3
  exact ⟨1, 0, 0, by decide, by simp, by simp, by simp [q4]⟩
 have hv3 : v3 = 0 := by omega
 subst hv3
 by_cases hw : w1 ≠ 0 \/ w2 ≠ 0
 ·exact ⟨w2, -w1, 0, by omega, by grind, by grind, by grind⟩
 have hw1 : w1 = 0 := by omega
 subst hw1
 exact ⟨1, 0, 0, by decide, by simp, by simp, by simp⟩
theorem xY : ∀ {l : List Nat} {i j : Nat}, i ∈ l -> j ∈ l -> i ≠ j -> [i, j].Sublist l \/ [j, i].Sublist l
 | [], i, j, h, _, _ => nomatch h
 | x :: l, i, j, hi, hj, hne => by
  rcases List.mem_cons.mp hi with e | hi'
  ·subst e
   rcases List.mem_cons.mp hj with e | hj'
   ·exact absurd e.symm hne
   ·exact .inl (.cons₂ _ (List.singleton_sublist.mpr hj'))
  ·rcases List.mem_cons.mp hj with e | hj'
   ·subst e
    exact .inr (.cons₂ _ (List.singleton_sublist.mpr hi'))
   ·rcases xY hi' hj' hne with h | h
    ·exact .inl (.cons _ h)
    ·exact .inr (.cons _ h)
theorem rank {U : List (List Int)} {m n : Nat} {y : Nat -> Int} {S N : Int} (P : Pt (cell U) m n y S N) (hr : vU (cell U) m n y N) (m4 : m <= 4) (n4 : n <= 4) :
  ∃ R C : List Nat, R.Sublist (List.range m) /\ C.Sublist (List.range n) /\ R.length = C.length /\ 0 < C.length /\ (∀ c ∈ C, 0 < y c) /\ (∀ j, j < n -> j ∉ C -> y j = 0) /\
   (∀ i ∈ R, sm n (fun j => cell U i j * y j) = N) /\ wholeM U R C ≠ 0 := by
 let C := (List.range n).filter fun j => decide (y j ≠ 0)
 let T := (List.range m).filter fun i => decide (sm n (fun j => cell U i j * y j) = N)
 have Cs : C.Sublist (List.range n) := List.filter_sublist
 have Ts : T.Sublist (List.range m) := List.filter_sublist
 have Cn : C.Nodup := Cs.nodup List.nodup_range
 have inC : ∀ j, j ∈ C ↔ j < n /\ y j ≠ 0 := fun j => by simp [C]
 have inT : ∀ i, i ∈ T ↔ i < m /\ sm n (fun j => cell U i j * y j) = N := fun i => by simp [T]
 have Cp : ∀ c ∈ C, 0 < y c := fun c hc => by
  obtain ⟨h1, h2⟩ := (inC c).mp hc
  have := P.nn c h1
  omega
 have Co : ∀ j, j < n -> j ∉ C -> y j = 0 := fun j hj h => Classical.byContradiction fun e => h ((inC j).mpr ⟨hj, e⟩)
 have C0 : 0 < C.length := by
  obtain ⟨j, hj, hp⟩ := sV (by rw [P.sum]; exact P.pos)
  exact List.length_pos_of_mem ((inC j).mpr ⟨hj, by omega⟩)
 have C4 : C.length <= 4 := by
  have := Cs.length_le
  rw [List.length_range] at this
  omega
 have T4 : T.length <= 4 := by
  have := Ts.length_le
  rw [List.length_range] at this
  omega
 obtain ⟨t0, T', hT⟩ : ∃ t0 T', T = t0 :: T' := by
  obtain ⟨i, hi, h⟩ := P.ti
  cases hT : T with
  | nil =>
   have := (inT i).mpr ⟨hi, h⟩
   rw [hT] at this
   cases this
  | cons a l => exact ⟨a, l, rfl⟩
 have rc : ∀ qs : List Int, qs.length = C.length -> qs.sum = 0 -> (∀ i ∈ T', wsum (cell U i) C qs = wsum (cell U t0) C qs) -> ∀ t, t < C.length -> qs.getD t 0 = 0 := by
  intro qs hl hs he t ht
  have hC : ∀ c ∈ C, c < n := fun c hc => ((inC c).mp hc).1
  rw [<- CG Cn hl t ht]
  refine hr (yOf C qs) (wsum (cell U t0) C qs) (fun j hj e => yOf_out fun h => ((inC j).mp h).2 e) (by rw [yOf_sum hC hl, hs]) (fun i hi e => ?_) _ (hC _ ?_)
  ·rw [oK _ n C qs hC]
   have := (inT i).mpr ⟨hi, e⟩
   rw [hT] at this
   rcases List.mem_cons.mp this with rfl | h
   ·rfl
   ·exact he i h
  ·rw [List.getD_eq_getElem?_getD, List.getElem?_eq_getElem ht]
   exact List.getElem_mem ht
 have fin : ∀ R : List Nat, R.Sublist T -> R.length = C.length -> wholeM U R C ≠ 0 -> ∃ R C : List Nat, R.Sublist (List.range m) /\ C.Sublist (List.range n) /\ R.length = C.length /\ 0 < C.length /\ (∀ c ∈ C, 0 < y c) /\ (∀ j, j < n -> j ∉ C -> y j = 0) /\
   (∀ i ∈ R, sm n (fun j => cell U i j * y j) = N) /\ wholeM U R C ≠ 0 :=
  fun R h1 h2 h3 => ⟨R, C, h1.trans Ts, Cs, h2, C0, Cp, Co, fun i hi => ((inT i).mp (h1.subset hi)).2, h3⟩
 clear_value C
 have hk : C.length = 1 \/ C.length = 2 \/ C.length = 3 \/ C.length = 4 := by omega
 rcases hk with k | k | k | k
 ·obtain ⟨c, rfl⟩ := Cd k
  refine fin [t0] (by rw [hT]; exact .cons₂ _ (List.nil_sublist _)) rfl ?_
  rw [yI]; decide
 ·obtain ⟨c, d, rfl⟩ := Ci k
  by_cases h : ∃ i ∈ T', wholeM U [t0, i] [c, d] ≠ 0
  ·obtain ⟨i, hi, h⟩ := h
   exact fin [t0, i] (by rw [hT]; exact .cons₂ _ (List.singleton_sublist.mpr hi)) rfl h
  ·exfalso
   have := rc [1, -1] rfl rfl (fun i hi => ?_) 0 (by simp)
   ·exact absurd this (by decide)
   ·have : wholeM U [t0, i] [c, d] = 0 := Classical.byContradiction fun e => h ⟨i, hi, e⟩
    rw [whole2] at this
    unfold d2 at this
    simp only [wsum]
    omega
 ·obtain ⟨c, d, e, rfl⟩ := BZ k
  by_cases h : ∃ i j, [i, j].Sublist T' /\ wholeM U [t0, i, j] [c, d, e] ≠ 0
  ·obtain ⟨i, j, hs, h⟩ := h
   exact fin [t0, i, j] (by rw [hT]; exact .cons₂ _ hs) rfl h
  ·exfalso
   let b : Nat -> Nat -> Int := fun i x => cell U i x - cell U t0 x
   have hz : ∀ i j, [i, j].Sublist T' -> d3 1 1 1 (b i c) (b i d) (b i e) (b j c) (b j d) (b j e) = 0 := fun i j hs => by
    rw [<- xV]
    exact Classical.byContradiction fun z => h ⟨i, j, hs, z⟩
   obtain ⟨x, z, hne, ho⟩ := J6 (T'.map fun i => (b i c - b i e, b i d - b i e)) (by
    intro u hu v hv
    obtain ⟨i, hi, rfl⟩ := List.mem_map.mp hu
    obtain ⟨j, hj, rfl⟩ := List.mem_map.mp hv
    by_cases q : i = j
    ·rw [q]
     show (b j c - b j e) * (b j d - b j e) - (b j d - b j e) * (b j c - b j e) = 0
     grind
    ·show (b i c - b i e) * (b j d - b j e) - (b i d - b i e) * (b j c - b j e) = 0
     rcases xY hi hj q with s | s
     ·have := hz i j s
      unfold d3 d2 at this
      grind
     ·have := hz j i s
      unfold d3 d2 at this
      grind)
   have hq := rc [x, z, -x - z] rfl (by simp only [List.sum_cons, List.sum_nil]; omega) (fun i hi => by
    have := ho _ (List.mem_map_of_mem hi)
    have q : (b i c - b i e) * x + (b i d - b i e) * z = 0 := this
    simp only [wsum]
    have b1 : b i c = cell U i c - cell U t0 c := rfl
    have b2 : b i d = cell U i d - cell U t0 d := rfl
    have b3 : b i e = cell U i e - cell U t0 e := rfl
    rw [b1, b2, b3] at q
    grind)
   have q0 : x = 0 := hq 0 (by simp)
   have q1 : z = 0 := hq 1 (by simp)
   omega
 ·obtain ⟨c, d, e, f, rfl⟩ := Fo k
  let b : Nat -> Nat -> Int := fun i x => cell U i x - cell U t0 x
  have pick : (∃ i j l, T' = [i, j, l] /\ wholeM U [t0, i, j, l] [c, d, e, f] ≠ 0) \/ ∃ x z w : Int, (x ≠ 0 \/ z ≠ 0 \/ w ≠ 0) /\ ∀ i ∈ T', (b i c - b i f) * x + (b i d - b i f) * z + (b i e - b i f) * w = 0 := by
   have T3 : T'.length <= 3 := by
    have := T4
    rw [hT, List.length_cons] at this
    omega
   match hT' : T', T3 with
   | [], _ => exact .inr ⟨1, 0, 0, by decide, fun i hi => nomatch hi⟩
   | [i], _ =>
    obtain ⟨x, z, w, hne, h1, _, _⟩ := Bo (b i c - b i f) (b i d - b i f) (b i e - b i f) 0 0 0 0 0 0 (by simp [d3, d2])
    exact .inr ⟨x, z, w, hne, fun q hq => by rw [List.mem_singleton.mp hq]; exact h1⟩
   | [i, j], _ =>
    obtain ⟨x, z, w, hne, h1, h2, _⟩ := Bo (b i c - b i f) (b i d - b i f) (b i e - b i f) (b j c - b j f) (b j d - b j f) (b j e - b j f) 0 0 0 (by simp [d3, d2])
    refine .inr ⟨x, z, w, hne, fun q hq => ?_⟩
    rcases List.mem_cons.mp hq with rfl | hq
    ·exact h1
    ·rw [List.mem_singleton.mp hq]; exact h2
   | [i, j, l], _ =>
    by_cases hw : wholeM U [t0, i, j, l] [c, d, e, f] = 0
    ·have ht : d3 (b i c - b i f) (b i d - b i f) (b i e - b i f) (b j c - b j f) (b j d - b j f) (b j e - b j f) (b l c - b l f) (b l d - b l f) (b l e - b l f) = 0 := by
      rw [v9] at hw
      have g : ∀ i x, cell U i x - cell U t0 x = b i x := fun _ _ => rfl
      simp only [g] at hw
      generalize b i c = x1 at *
      generalize b i d = x2 at *
      generalize b i e = x3 at *
      generalize b i f = x4 at *
      generalize b j c = y1 at *
      generalize b j d = y2 at *
      generalize b j e = y3 at *
      generalize b j f = y4 at *
      generalize b l c = z1 at *
      generalize b l d = z2 at *
      generalize b l e = z3 at *
      generalize b l f = z4 at *
      unfold d3 d2 at hw ⊢
      grind
     obtain ⟨x, z, w, hne, h1, h2, h3⟩ := Bo _ _ _ _ _ _ _ _ _ ht
     refine .inr ⟨x, z, w, hne, fun q hq => ?_⟩
     rcases List.mem_cons.mp hq with rfl | hq
     ·exact h1
     rcases List.mem_cons.mp hq with rfl | hq
     ·exact h2
     ·rw [List.mem_singleton.mp hq]; exact h3
    ·exact .inl ⟨i, j, l, rfl, hw⟩
   | _ :: _ :: _ :: _ :: _, h => simp at h
  rcases pick with ⟨i, j, l, rfl, hw⟩ | ⟨x, z, w, hne, ho⟩
  ·exact fin [t0, i, j, l] (by rw [hT]; exact List.Sublist.refl _) rfl hw
  ·exfalso
   have hq := rc [x, z, w, -x - z - w] rfl (by simp only [List.sum_cons, List.sum_nil]; omega) (fun i hi => by
    have q := ho i hi
    simp only [wsum]
    have b1 : b i c = cell U i c - cell U t0 c := rfl
    have b2 : b i d = cell U i d - cell U t0 d := rfl
    have b3 : b i e = cell U i e - cell U t0 e := rfl
    have b4 : b i f = cell U i f - cell U t0 f := rfl
    rw [b1, b2, b3, b4] at q
    grind)
   have q0 : x = 0 := hq 0 (by simp)
   have q1 : z = 0 := hq 1 (by simp)
   have q2 : w = 0 := hq 2 (by simp)
   omega
end Gm
set_option Elab.async false
set_option linter.all false
namespace Gm
def sgn (w : Int) : Int := if 0 < w then 1 else -1
theorem sgn_pos {w : Int} (h : w ≠ 0) : 0 < sgn w * w := by
 unfold sgn
 split <;> omega
def shM (U : List (List Int)) (R C : List Nat) : List Int := (partsM U R C).map fun p => sgn (wholeM U R C) * p
def smM (U : List (List Int)) (R C : List Nat) : Int := sgn (wholeM U R C) * wholeM U R C
def gain (U : List (List Int)) (n : Nat) (y : Nat -> Int) (i : Nat) : Int := sm n fun j => cell U i j * y j
structure Good2 (m n : Nat) (R C : List Nat) : Prop where
 rs : R.Sublist (List.range m)
 cs : C.Sublist (List.range n)
 len : R.length = C.length
 pos : 0 < C.length
theorem Good2.c4 {m n : Nat} {R C : List Nat} (g : Good2 m n R C) (n4 : n <= 4) : C.length <= 4 := by
 have := g.cs.length_le
 rw [List.length_range] at this
 omega
theorem Good2.lt {m n : Nat} {R C : List Nat} (g : Good2 m n R C) : ∀ c ∈ C, c < n := fun c hc => List.mem_range.mp (g.cs.subset hc)
theorem Good2.nd {m n : Nat} {R C : List Nat} (g : Good2 m n R C) : C.Nodup := g.cs.nodup List.nodup_range
theorem Good2.r0 {m n : Nat} {R C : List Nat} (g : Good2 m n R C) : R.headD 0 ∈ R := by
 have := g.len
 have := g.pos
 cases R with
 | nil => simp at *; omega
 | cons r R => simp
theorem Good2.r0m {m n : Nat} {R C : List Nat} (g : Good2 m n R C) : R.headD 0 < m := List.mem_range.mp (g.rs.subset g.r0)
structure Corner (U : List (List Int)) (m n : Nat) (R C : List Nat) : Prop where
 ne : wholeM U R C ≠ 0
 pos : ∀ q ∈ shM U R C, 0 < q
 le : ∀ i, i < m -> gain U n (yOf C (shM U R C)) i <= gain U n (yOf C (shM U R C)) (R.headD 0)
theorem shM_len (U : List (List Int)) (R C : List Nat) : (shM U R C).length = C.length := by
 unfold shM partsM
 simp
theorem pL (c : Int) : ∀ l : List Int, (l.map fun p => c * p).sum = c * l.sum
 | [] => by simp
 | x :: l => by
  rw [List.map_cons, List.sum_cons, List.sum_cons, pL c l, Int.mul_add]
theorem shM_sum (U : List (List Int)) {m n : Nat} {R C : List Nat} (g : Good2 m n R C) (n4 : n <= 4) : (shM U R C).sum = smM U R C := by
 unfold shM smM
 rw [pL, Dt U g.len g.pos (g.c4 n4)]
theorem yOf_nn : ∀ {C : List Nat} {ps : List Int} {j : Nat}, (∀ q ∈ ps, 0 <= q) -> 0 <= yOf C ps j
 | [], ps, j, _ => by
  unfold yOf
  rw [gF]; exact Int.le_refl _
 | c :: C, [], j, _ => by
  unfold yOf
  rw [j6]; exact Int.le_refl _
 | c :: C, p :: ps, j, h => by
  rw [yOf_cons]
  have h1 := h p (by simp)
  have h2 := yOf_nn (C := C) (ps := ps) (j := j) fun q hq => h q (by simp [hq])
  split <;> omega
theorem corner_pt {U : List (List Int)} {m n : Nat} {R C : List Nat} (g : Good2 m n R C) (n4 : n <= 4) (k : Corner U m n R C) : Pt (cell U) m n (yOf C (shM U R C)) (smM U R C) (gain U n (yOf C (shM U R C)) (R.headD 0)) := by
 refine ⟨sgn_pos k.ne, fun j _ => yOf_nn fun q hq => Int.le_of_lt (k.pos q hq), ?_, k.le, ⟨R.headD 0, g.r0m, rfl⟩⟩
 rw [yOf_sum g.lt (shM_len U R C), shM_sum U g n4]
theorem wy (c : Int) (l : List Int) (t : Nat) : (l.map fun p => c * p).getD t 0 = c * l.getD t 0 := by
 rw [List.getD_eq_getElem?_getD, List.getElem?_map, List.getD_eq_getElem?_getD]
 cases l[t]? <;> simp
theorem Bv {U : List (List Int)} {R C : List Nat} {t : Nat} (h : t < C.length) : (partsM U R C).getD t 0 = b8 U R C t := by
 unfold partsM
 rw [List.getD_eq_getElem?_getD, List.getElem?_map, List.getElem?_eq_getElem (by simpa using h)]
 simp
theorem uL (f : Nat -> Int) {a b : Int} : ∀ {C : List Nat} {ps qs : List Int}, ps.length = C.length -> qs.length = C.length -> (∀ t, t < C.length -> ps.getD t 0 * a = qs.getD t 0 * b) -> wsum f C ps * a = wsum f C qs * b
 | [], ps, qs, _, _, _ => by rw [gF, gF]; simp
 | c :: C, p :: ps, q :: qs, h1, h2, h => by
  have h0 : p * a = q * b := h 0 (by simp)
  have ih := uL f (C := C) (ps := ps) (qs := qs) (by simpa using h1) (by simpa using h2) fun t ht => h (t + 1) (by simpa using ht)
  show (f c * p + wsum f C ps) * a = (f c * q + wsum f C qs) * b
  grind
 | c :: C, [], _, h, _, _ => by simp at h
 | c :: C, _ :: _, [], _, h, _ => by simp at h
theorem nY {U : List (List Int)} {m n : Nat} {y : Nat -> Int} {S N : Int} (P : Pt (cell U) m n y S N) (m4 : m <= 4) (n4 : n <= 4) :
  ∃ R C, Good2 m n R C /\ Corner U m n R C /\ gain U n (yOf C (shM U R C)) (R.headD 0) * S <= N * smM U R C /\ (∀ j, j < n -> y j = 0 -> yOf C (shM U R C) j = 0) /\
   ∀ i, i < m -> sm n (fun j => cell U i j * y j) = N -> gain U n (yOf C (shM U R C)) i = gain U n (yOf C (shM U R C)) (R.headD 0) := by
 obtain ⟨y1, S1, N1, P1, l1, r1, u1, w1⟩ := Gw _ rfl P
 obtain ⟨R, C, hR, hC, hl, h0, hp, ho, ht, hw⟩ := rank P1 r1 m4 n4
 have g : Good2 m n R C := ⟨hR, hC, hl, h0⟩
 have hlt := g.lt
 have hnd := g.nd
 have e0 : ∀ j, j < n -> yOf C (C.map y1) j = y1 j := fun j hj => by
  rw [Ak hnd]
  by_cases h : j ∈ C
  ·rw [if_pos h]
  ·rw [if_neg h, ho j hj h]
 have eg : ∀ i, wsum (cell U i) C (C.map y1) = sm n fun j => cell U i j * y1 j := fun i => by
  rw [<- oK (cell U i) n C _ hlt]
  exact sm_congr fun j hj => by rw [e0 j hj]
 have es : (C.map y1).sum = S1 := by
  rw [<- yOf_sum hlt (List.length_map ..), <- P1.sum]
  exact sm_congr fun j hj => e0 j hj
 have cr := Iu U (R := R) (C := C) (ps := C.map y1) hl h0 (g.c4 n4) (List.length_map ..) es (fun i hi => by rw [eg, eg, ht i hi, ht _ g.r0])
 have hS1 := P1.pos
 have hW := sgn_pos hw
 have q1 : ∀ t, t < C.length -> (shM U R C).getD t 0 * S1 = (C.map y1).getD t 0 * smM U R C := fun t h => by
  have := cr t h
  unfold shM smM
  rw [wy, Bv h]
  grind
 have hm : ∀ t, t < C.length -> 0 < (C.map y1).getD t 0 := fun t h => by
  rw [List.getD_eq_getElem?_getD, List.getElem?_map, List.getElem?_eq_getElem h]
  exact hp _ (List.getElem_mem h)
 have hg : ∀ i, gain U n (yOf C (shM U R C)) i * S1 = (sm n fun j => cell U i j * y1 j) * smM U R C := fun i => by
  unfold gain
  rw [oK (cell U i) n C _ hlt, uL (cell U i) (shM_len U R C) (List.length_map ..) q1, eg]
 have k : Corner U m n R C := by
  refine ⟨hw, fun q hq => ?_, fun i hi => ?_⟩
  ·obtain ⟨t, ht, e⟩ := List.mem_iff_getElem.mp hq
   rw [shM_len] at ht
   have h1 := q1 t ht
   have h2 := Int.mul_pos (hm t ht) (show 0 < smM U R C from hW)
   rw [List.getD_eq_getElem?_getD, List.getElem?_eq_getElem (by rw [shM_len]; exact ht)] at h1
   have h3 : q * S1 = (C.map y1).getD t 0 * smM U R C := by rw [<- h1, <- e]; rfl
   refine Classical.byContradiction fun hc => ?_
   have := Int.mul_nonpos_of_nonpos_of_nonneg (show q <= 0 by omega) (Int.le_of_lt hS1)
   omega
  ·have a1 := hg i
   have a2 := hg (R.headD 0)
   rw [ht _ g.r0] at a2
   have a3 : (sm n fun j => cell U i j * y1 j) * smM U R C <= N1 * smM U R C := Int.mul_le_mul_of_nonneg_right (P1.le i hi) (Int.le_of_lt hW)
   exact Int.le_of_mul_le_mul_right (by omega) hS1
 refine ⟨R, C, g, k, ?_, fun j hj e => yOf_out fun hj' => ?_, fun i hi e => ?_⟩
 rotate_left
 ·have := hp j hj'
  rw [u1 j hj e] at this
  omega
 ·have a1 := hg i
  have a2 := hg (R.headD 0)
  rw [ht _ g.r0] at a2
  rw [w1 i hi e] at a1
  exact Int.eq_of_mul_eq_mul_right (by omega) (a1.trans a2.symm)
 have a2 := hg (R.headD 0)
 rw [ht _ g.r0] at a2
 generalize gain U n (yOf C (shM U R C)) (R.headD 0) = G at a2 ⊢
 have b1 : N1 * S * smM U R C <= N * S1 * smM U R C := Int.mul_le_mul_of_nonneg_right l1 (Int.le_of_lt hW)
 have b2 : G * S * S1 <= N * smM U R C * S1 := by
  have : G * S * S1 = N1 * S * smM U R C := by grind
  rw [this]
  grind
 exact Int.le_of_mul_le_mul_right b2 hS1
theorem complete {U : List (List Int)} {m n : Nat} {y : Nat -> Int} {S N : Int} (P : Pt (cell U) m n y S N) (m4 : m <= 4) (n4 : n <= 4) :
  ∃ R C, Good2 m n R C /\ Corner U m n R C /\ gain U n (yOf C (shM U R C)) (R.headD 0) * S <= N * smM U R C := by
 obtain ⟨R, C, h1, h2, h3, _⟩ := nY P m4 n4
 exact ⟨R, C, h1, h2, h3⟩
theorem max_of (f : Nat -> Int) : ∀ {m : Nat}, 0 < m -> ∃ i, i < m /\ ∀ j, j < m -> f j <= f i
 | 0, h => by omega
 | 1, _ => ⟨0, by decide, fun j hj => by
  have : j = 0 := by omega
  rw [this]; exact Int.le_refl _⟩
 | m + 2, _ => by
  obtain ⟨i, hi, h⟩ := max_of f (m := m + 1) (by omega)
  by_cases c : f i <= f (m + 1)
  ·refine ⟨m + 1, by omega, fun j hj => ?_⟩
   by_cases e : j = m + 1
   ·rw [e]; exact Int.le_refl _
   ·have := h j (by omega)
    omega
  ·refine ⟨i, by omega, fun j hj => ?_⟩
   by_cases e : j = m + 1
   ·rw [e]; omega
   ·exact h j (by omega)
theorem Ie {a b : Nat -> Nat -> Int} {m n : Nat} (hn : 0 < n) (hm : 0 < m) (hb : ∀ i j, i < m -> j < n -> b j i = - a i j) {y : Nat -> Int} {S N : Int} (P : Pt a m n y S N) (hmin : ∀ y' S' N', Pt a m n y' S' N' -> N * S' <= N' * S) :
  ∃ x S' N', Pt b n m x S' N' /\ N' * S + N * S' <= 0 := by
 rcases alt (fun i j => a i j * S - N) m n hn with ⟨x, h1, ⟨i0, hi0, hp⟩, h3⟩ | ⟨z, h1, ⟨j0, hj0, hp⟩, h3⟩
 ·obtain ⟨j1, hj1, hmax⟩ := max_of (fun j => sm m fun i => b j i * x i) hn
  have hx := sm_pos h1 ⟨i0, hi0, hp⟩
  refine ⟨x, sm m x, _, ⟨hx, h1, rfl, hmax, ⟨j1, hj1, rfl⟩⟩, ?_⟩
  have e1 : (sm m fun i => b j1 i * x i) = - sm m fun i => x i * a i j1 := by
   have : (sm m fun i => b j1 i * x i) = sm m fun i => -1 * (x i * a i j1) := sm_congr fun i hi => by
    rw [hb i j1 hi hj1]; grind
   rw [this, sm_mul]; omega
  have e2 : (sm m fun i => x i * (a i j1 * S - N)) = S * (sm m fun i => x i * a i j1) + (-N) * sm m x := by
   rw [<- sm_mul, <- sm_mul, <- sm_add]
   exact sm_congr fun i _ => by grind
  have h4 := h3 j1 hj1
  rw [e2] at h4
  rw [e1]
  grind
 ·exfalso
  obtain ⟨i1, hi1, hmax⟩ := max_of (fun i => sm n fun j => a i j * z j) hm
  have hz := sm_pos h1 ⟨j0, hj0, hp⟩
  have h4 := hmin z (sm n z) _ ⟨hz, h1, rfl, hmax, ⟨i1, hi1, rfl⟩⟩
  have h5 := h3 i1 hi1
  have e2 : (sm n fun j => (a i1 j * S - N) * z j) = S * (sm n fun j => a i1 j * z j) + (-N) * sm n z := by
   rw [<- sm_mul, <- sm_mul, <- sm_add]
   exact sm_congr fun i _ => by grind
  rw [e2] at h5
  grind
theorem meet {a b : Nat -> Nat -> Int} {m n : Nat} (hn : 0 < n) (hm : 0 < m) (hb : ∀ i j, i < m -> j < n -> b j i = - a i j) {y x : Nat -> Int} {S N S' N' : Int} (P : Pt a m n y S N) (hmin : ∀ y' S' N', Pt a m n y' S' N' -> N * S' <= N' * S)
  (P' : Pt b n m x S' N') (hmin' : ∀ y1 S1 N1, Pt b n m y1 S1 N1 -> N' * S1 <= N1 * S') : N' * S + N * S' <= 0 := by
 obtain ⟨x2, S2, N2, P2, h⟩ := Ie hn hm hb P hmin
 have h2 := hmin' x2 S2 N2 P2
 have p0 := P.pos
 have p1 := P'.pos
 have p2 := P2.pos
 have a1 : N' * S2 * S <= N2 * S' * S := Int.mul_le_mul_of_nonneg_right h2 (Int.le_of_lt p0)
 have a2 : (N2 * S + N * S2) * S' <= 0 * S' := Int.mul_le_mul_of_nonneg_right h (Int.le_of_lt p1)
 have a3 : (N' * S + N * S') * S2 <= 0 * S2 := by grind
 exact Int.le_of_mul_le_mul_right a3 p2
end Gm
set_option linter.all false
namespace Ns
def sr : Nat -> (Nat -> Rat) -> Rat
 | 0, _ => 0
 | n + 1, f => sr n f + f n
theorem cN {f g : Nat -> Rat} : ∀ {n : Nat}, (∀ j, j < n -> f j = g j) -> sr n f = sr n g
 | 0, _ => rfl
 | n + 1, h => by
  show sr n f + f n = sr n g + g n
  rw [cN fun j hj => h j (by omega), h n (by omega)]
theorem nU (f g : Nat -> Rat) (r : Rat) : ∀ n, sr n (fun j => f j + r * g j) = sr n f + r * sr n g
 | 0 => by show (0 : Rat) = 0 + r * 0; grind
 | n + 1 => by
  show sr n (fun j => f j + r * g j) + (f n + r * g n) = (sr n f + f n) + r * (sr n g + g n)
  rw [nU f g r n]
  grind
theorem eZ {f : Nat -> Rat} : ∀ {n : Nat}, (∀ j, j < n -> f j = 0) -> sr n f = 0
 | 0, _ => rfl
 | n + 1, h => by
  show sr n f + f n = 0
  rw [eZ fun j hj => h j (by omega), h n (by omega)]
  grind
theorem rA {f : Nat -> Rat} {p : Nat} : ∀ {n : Nat}, p < n -> (∀ j, j < n -> j ≠ p -> f j = 0) -> sr n f = f p
 | n + 1, hp, h => by
  show sr n f + f n = f p
  by_cases e : p = n
  ·subst e
   rw [eZ fun j hj => h j (by omega) (by omega)]
   grind
  ·rw [rA (by omega) fun j hj => h j (by omega), h n (by omega) (Ne.symm e)]
   grind
theorem rW (f : Nat -> Rat) (r : Rat) (n : Nat) : sr n (fun j => r * f j) = r * sr n f := by
 have := nU (fun _ => 0) f r n
 rw [eZ (f := fun _ => 0) fun _ _ => rfl] at this
 have e : sr n (fun j => 0 + r * f j) = sr n (fun j => r * f j) := cN fun j _ => by grind
 rw [<- e, this]
 grind
theorem Eo (f g : Nat -> Rat) (n : Nat) : sr n (fun j => f j + g j) = sr n f + sr n g := by
 have := nU f g 1 n
 have e : sr n (fun j => f j + 1 * g j) = sr n (fun j => f j + g j) := cN fun j _ => by grind
 rw [<- e, this]
 grind
theorem Bb (f : Nat -> Nat -> Rat) (m : Nat) : ∀ n, sr n (fun j => sr m fun i => f i j) = sr m fun i => sr n fun j => f i j
 | 0 => by rw [eZ (n := m) (f := fun i => sr 0 fun j => f i j) fun _ _ => rfl]; rfl
 | n + 1 => by
  show sr n (fun j => sr m fun i => f i j) + sr m (fun i => f i n) = sr m fun i => (sr n fun j => f i j) + f i n
  rw [Bb f m n, <- Eo]
theorem uV {f : Nat -> Rat} : ∀ {n : Nat}, (∀ j, j < n -> 0 <= f j) -> 0 <= sr n f
 | 0, _ => by show (0 : Rat) <= 0; grind
 | n + 1, h => by
  show 0 <= sr n f + f n
  have h1 := uV (n := n) fun j hj => h j (show j < n + 1 by omega)
  have h2 := h n (by omega)
  grind
theorem Dh {f : Nat -> Rat} : ∀ {n p : Nat}, (∀ j, j < n -> 0 <= f j) -> p < n -> 0 < f p -> 0 < sr n f
 | n + 1, p, h, hp, h0 => by
  show 0 < sr n f + f n
  have h1 := uV (n := n) fun j hj => h j (show j < n + 1 by omega)
  have h2 := h n (by omega)
  by_cases e : p = n
  ·subst e; grind
  ·have := Dh (n := n) (fun j hj => h j (by omega)) (by omega) h0
   grind
theorem fl : ∀ (k : Nat) (M : Nat -> Nat -> Rat), ∃ d : Nat -> Rat, (∃ j, j < k + 1 /\ d j ≠ 0) /\ ∀ i, i < k -> sr (k + 1) (fun j => M i j * d j) = 0
 | 0, M => ⟨fun _ => 1, ⟨0, by omega, by decide⟩, fun i h => absurd h (by omega)⟩
 | k + 1, M => by
  by_cases h : ∃ i, i < k + 1 /\ M i (k + 1) ≠ 0
  ·obtain ⟨i0, h0, hne⟩ := h
   obtain ⟨d, hd, he⟩ := fl k (fun i j => M (if i < i0 then i else i + 1) j - M (if i < i0 then i else i + 1) (k + 1) / M i0 (k + 1) * M i0 j)
   refine ⟨fun j => if j < k + 1 then d j else -(sr (k + 1) fun j => M i0 j * d j) / M i0 (k + 1), ?_, ?_⟩
   ·obtain ⟨j, hj, hne'⟩ := hd
    exact ⟨j, by omega, by dsimp only; rw [if_pos hj]; exact hne'⟩
   ·intro i hi
    have e : sr (k + 1 + 1) (fun j => M i j * (if j < k + 1 then d j else -(sr (k + 1) fun j => M i0 j * d j) / M i0 (k + 1))) = sr (k + 1) (fun j => M i j * d j) + M i (k + 1) * (-(sr (k + 1) fun j => M i0 j * d j) / M i0 (k + 1)) := by
     show sr (k + 1) _ + M i (k + 1) * (if k + 1 < k + 1 then _ else _) = _
     rw [if_neg (Nat.lt_irrefl _)]
     congr 1
     exact cN fun j hj => by rw [if_pos hj]
    rw [e]
    by_cases hi0 : i = i0
    ·subst hi0
     generalize sr (k + 1) (fun j => M i j * d j) = s
     grind
    ·have hex : ∃ i', i' < k /\ (if i' < i0 then i' else i' + 1) = i := by
      by_cases hlt : i < i0
      ·exact ⟨i, by omega, if_pos hlt⟩
      ·exact ⟨i - 1, by omega, by rw [if_neg (by omega)]; omega⟩
     obtain ⟨i', hi', ei⟩ := hex
     have h1 := he i' hi'
     simp only [ei] at h1
     have h2 : sr (k + 1) (fun j => (M i j - M i (k + 1) / M i0 (k + 1) * M i0 j) * d j) = sr (k + 1) (fun j => M i j * d j) + (-(M i (k + 1) / M i0 (k + 1))) * sr (k + 1) (fun j => M i0 j * d j) := by
      rw [<- nU]
      exact cN fun j _ => by grind
     rw [h2] at h1
     generalize sr (k + 1) (fun j => M i j * d j) = s at *
     generalize sr (k + 1) (fun j => M i0 j * d j) = t at *
     grind
  ·refine ⟨fun j => if j = k + 1 then 1 else 0, ⟨k + 1, by omega, by dsimp only; rw [if_pos rfl]; decide⟩, fun i hi => ?_⟩
   refine eZ fun j hj => ?_
   show M i j * (if j = k + 1 then 1 else 0) = 0
   by_cases e : j = k + 1
   ·have : M i (k + 1) = 0 := Classical.byContradiction fun hz => h ⟨i, hi, hz⟩
    rw [e, this]; grind
   ·rw [if_neg e]; grind
def LZ (L : Nat) (v : Nat -> Rat) : Prop := ∀ c, c < L -> v c = 0
def LP (L : Nat) (v : Nat -> Rat) : Prop := ∃ c, c < L /\ (∀ c', c' < c -> v c' = 0) /\ 0 < v c
def GE (L : Nat) (v : Nat -> Rat) : Prop := LZ L v \/ LP L v
theorem GE.congr {L : Nat} {u v : Nat -> Rat} (h : GE L u) (e : ∀ c, c < L -> u c = v c) : GE L v := by
 rcases h with h | ⟨c, hc, h1, h2⟩
 ·exact .inl fun c hc => by rw [<- e c hc]; exact h c hc
 ·exact .inr ⟨c, hc, fun c' h' => by rw [<- e c' (by omega)]; exact h1 c' h', by rw [<- e c hc]; exact h2⟩
theorem LZ.congr {L : Nat} {u v : Nat -> Rat} (h : LZ L u) (e : ∀ c, c < L -> u c = v c) : LZ L v := fun c hc => by rw [<- e c hc]; exact h c hc
theorem tri (v : Nat -> Rat) : ∀ L, GE L v \/ LP L fun c => - v c
 | 0 => .inl (.inl fun c h => absurd h (by omega))
 | L + 1 => by
  rcases tri v L with (h | ⟨c, hc, h1, h2⟩) | ⟨c, hc, h1, h2⟩
  ·by_cases h0 : v L = 0
   ·refine .inl (.inl fun c hc => ?_)
    by_cases e : c = L
    ·rw [e]; exact h0
    ·exact h c (by omega)
   ·by_cases hp : 0 < v L
    ·exact .inl (.inr ⟨L, by omega, fun c hc => h c hc, hp⟩)
    ·exact .inr ⟨L, by omega, fun c hc => by dsimp only; rw [h c hc]; grind, by dsimp only; grind⟩
  ·exact .inl (.inr ⟨c, by omega, h1, h2⟩)
  ·exact .inr ⟨c, by omega, h1, h2⟩
theorem GE.add {L : Nat} {u v : Nat -> Rat} (hu : GE L u) (hv : GE L v) : GE L fun c => u c + v c := by
 rcases hu with hu | ⟨a, ha, a1, a2⟩
 ·exact hv.congr fun c hc => by rw [hu c hc]; grind
 ·rcases hv with hv | ⟨b, hb, b1, b2⟩
  ·exact GE.congr (.inr ⟨a, ha, a1, a2⟩) fun c hc => by rw [hv c hc]; grind
  ·by_cases h : a < b
   ·exact .inr ⟨a, ha, fun c hc => by dsimp only; rw [a1 c hc, b1 c (by omega)]; grind, by dsimp only; rw [b1 a h]; grind⟩
   ·by_cases h' : b < a
    ·exact .inr ⟨b, hb, fun c hc => by dsimp only; rw [a1 c (by omega), b1 c hc]; grind, by dsimp only; rw [a1 b h']; grind⟩
    ·have : a = b := by omega
     subst this
     exact .inr ⟨a, ha, fun c hc => by dsimp only; rw [a1 c hc, b1 c hc]; grind, by grind⟩
theorem GE.smul {L : Nat} {u : Nat -> Rat} {r : Rat} (hr : 0 <= r) (hu : GE L u) : GE L fun c => r * u c := by
 by_cases h0 : r = 0
 ·exact .inl fun c _ => by rw [h0]; grind
 ·rcases hu with hu | ⟨a, ha, a1, a2⟩
  ·exact .inl fun c hc => by dsimp only; rw [hu c hc]; grind
  ·exact .inr ⟨a, ha, fun c hc => by dsimp only; rw [a1 c hc]; grind, Rat.mul_pos (by grind) a2⟩
theorem GE.anti {L : Nat} {u : Nat -> Rat} (h : GE L u) (h' : GE L fun c => - u c) : LZ L u := by
 rcases h with h | ⟨a, ha, a1, a2⟩
 ·exact h
 ·rcases h' with h' | ⟨b, hb, b1, b2⟩
  ·have := h' a ha; grind
  ·by_cases e : a < b
   ·have := b1 a e; grind
   ·by_cases e' : b < a
    ·have := a1 b e'; grind
    ·have : a = b := by omega
     subst this
     grind
theorem GE.lead {L : Nat} {u : Nat -> Rat} (h : GE L u) (hL : 0 < L) : 0 <= u 0 := by
 rcases h with h | ⟨a, ha, a1, a2⟩
 ·have := h 0 hL; grind
 ·by_cases e : a = 0
  ·subst e; grind
  ·have := a1 0 (by omega); grind
theorem Cm (L : Nat) (p : Nat -> Prop) (ρ : Nat -> Nat -> Rat) : ∀ n, (∃ q, q < n /\ p q) -> ∃ q, q < n /\ p q /\ ∀ q', q' < n -> p q' -> GE L fun c => ρ q' c - ρ q c
 | 0, h => by obtain ⟨q, h, _⟩ := h; omega
 | n + 1, h => by
  have self : ∀ q, GE L fun c => ρ q c - ρ q c := fun q => .inl fun c _ => by grind
  by_cases hn : ∃ q, q < n /\ p q
  ·obtain ⟨q, hq, pq, hm⟩ := Cm L p ρ n hn
   by_cases pn : p n
   ·rcases tri (fun c => ρ n c - ρ q c) L with h1 | h1
    ·refine ⟨q, by omega, pq, fun q' h' p' => ?_⟩
     by_cases e : q' = n
     ·rw [e]; exact h1
     ·exact hm q' (by omega) p'
    ·have h2 : GE L fun c => ρ q c - ρ n c := GE.congr (.inr h1) fun c _ => by grind
     refine ⟨n, by omega, pn, fun q' h' p' => ?_⟩
     by_cases e : q' = n
     ·rw [e]; exact self n
     ·exact GE.congr ((hm q' (by omega) p').add h2) fun c _ => by grind
   ·refine ⟨q, by omega, pq, fun q' h' p' => ?_⟩
    by_cases e : q' = n
    ·rw [e] at p'; exact absurd p' pn
    ·exact hm q' (by omega) p'
  ·obtain ⟨q, hq, pq⟩ := h
   have : q = n := Classical.byContradiction fun e => hn ⟨q, by omega, pq⟩
   subst this
   refine ⟨q, by omega, pq, fun q' h' p' => ?_⟩
   have : q' = q := Classical.byContradiction fun e => hn ⟨q', by omega, p'⟩
   rw [this]; exact self q
end Ns
set_option linter.all false
namespace Ns
def lin (C : Nat -> Nat -> Rat) (N : Nat) (f : Nat × Bool) (d : Nat -> Rat) : Rat := if f.2 = true then - sr N (fun j => C f.1 j * d j) else d f.1
def bb (i c : Nat) : Rat := if c = 0 then 1 else if c = i + 1 then 1 else 0
def cst (f : Nat × Bool) (c : Nat) : Rat := if f.2 = true then bb f.1 c else 0
def slk (C : Nat -> Nat -> Rat) (N : Nat) (f : Nat × Bool) (z : Nat -> Nat -> Rat) (c : Nat) : Rat := lin C N f (fun j => z j c) + cst f c
variable {C : Nat -> Nat -> Rat}
theorem lK {N : Nat} (f : Nat × Bool) (a b : Nat -> Rat) (r : Rat) : lin C N f (fun j => a j + r * b j) = lin C N f a + r * lin C N f b := by
 unfold lin
 by_cases h : f.2 = true
 ·rw [if_pos h, if_pos h, if_pos h]
  have e : sr N (fun j => C f.1 j * (a j + r * b j)) = sr N (fun j => C f.1 j * a j) + r * sr N (fun j => C f.1 j * b j) := by
   rw [<- nU]
   exact cN fun j _ => by grind
  rw [e]
  grind
 ·rw [if_neg h, if_neg h, if_neg h]
theorem ye {N : Nat} (f : Nat × Bool) (z : Nat -> Nat -> Rat) (s : Nat -> Rat) (d : Nat -> Rat) (c : Nat) : slk C N f (fun j c => z j c + s c * d j) c = slk C N f z c + s c * lin C N f d := by
 unfold slk
 rw [lK]
 grind
def lW (C : Nat -> Nat -> Rat) (f : Nat × Bool) (j : Nat) : Rat := if f.2 = true then - C f.1 j else if j = f.1 then 1 else 0
theorem lU {N : Nat} {f : Nat × Bool} (h : f.1 < N) (d : Nat -> Rat) : lin C N f d = sr N fun j => lW C f j * d j := by
 unfold lin lW
 by_cases hf : f.2 = true
 ·rw [if_pos hf]
  have e : sr N (fun j => (if f.2 = true then - C f.1 j else if j = f.1 then 1 else 0) * d j) = -1 * sr N (fun j => C f.1 j * d j) := by
   rw [<- rW]
   exact cN fun j _ => by rw [if_pos hf]; grind
  rw [e]
  grind
 ·rw [if_neg hf, rA h fun j _ hj => by rw [if_neg hf, if_neg hj]; grind]
  rw [if_neg hf, if_pos rfl]
  grind
def fct (k : Nat) (σ : Nat -> Bool) (q : Nat) : Nat × Bool := if q < k then (q, !σ q) else (k, decide (q = k + 1))
theorem jF {k : Nat} {σ : Nat -> Bool} {q : Nat} : (fct k σ q).1 < k + 1 := by
 unfold fct
 split
 ·show q < k + 1; omega
 ·show k < k + 1; omega
theorem Ax {k : Nat} {σ : Nat -> Bool} {q q' : Nat} (hq : q < k + 2) (hq' : q' < k + 2) (h : fct k σ q = fct k σ q') : q = q' := by
 unfold fct at h
 by_cases h1 : q < k
 ·by_cases h2 : q' < k
  ·rw [if_pos h1, if_pos h2] at h
   exact congrArg Prod.fst h
  ·rw [if_pos h1, if_neg h2] at h
   have : q = k := congrArg Prod.fst h
   omega
 ·by_cases h2 : q' < k
  ·rw [if_neg h1, if_pos h2] at h
   have : k = q' := congrArg Prod.fst h
   omega
  ·rw [if_neg h1, if_neg h2] at h
   have : decide (q = k + 1) = decide (q' = k + 1) := congrArg Prod.snd h
   rw [decide_eq_decide] at this
   omega
theorem pD {k : Nat} {σ : Nat -> Bool} {q j : Nat} (hj : j < k) : (j, σ j) ≠ fct k σ q := by
 intro h
 unfold fct at h
 split at h
 ·have h1 : j = q := congrArg Prod.fst h
  have h2 : σ j = !σ q := congrArg Prod.snd h
  rw [<- h1] at h2
  cases hs : σ j <;> rw [hs] at h2 <;> simp at h2
 ·have h1 : j = k := congrArg Prod.fst h
  omega
theorem sZ {k : Nat} (σ : Nat -> Bool) {i : Nat} (hi : i < k + 1) (s : Bool) : (i < k /\ σ i = s) \/ ∃ q, q < k + 2 /\ fct k σ q = (i, s) := by
 by_cases h : i < k
 ·by_cases e : σ i = s
  ·exact .inl ⟨h, e⟩
  ·refine .inr ⟨i, by omega, ?_⟩
   unfold fct
   rw [if_pos h]
   cases hs : σ i <;> cases s <;> simp_all
 ·have : i = k := by omega
  subst this
  cases s
  ·exact .inr ⟨i, by omega, by unfold fct; rw [if_neg (by omega)]; simp⟩
  ·exact .inr ⟨i + 1, by omega, by unfold fct; rw [if_neg (by omega)]; simp⟩
theorem nd {k : Nat} {σ : Nat -> Bool} {z : Nat -> Nat -> Rat} (hz : ∀ j, j < k -> LZ (k + 2) (slk C (k + 1) (j, σ j) z)) {q1 q2 : Nat} (h1 : q1 < k + 2) (h2 : q2 < k + 2) (hne : q1 ≠ q2)
  (t1 : LZ (k + 2) (slk C (k + 1) (fct k σ q1) z)) (t2 : LZ (k + 2) (slk C (k + 1) (fct k σ q2) z)) : False := by
 let φ : Nat -> Nat × Bool := fun p => if p < k then (p, σ p) else if p = k then fct k σ q1 else fct k σ q2
 have φl : ∀ p, p < k + 2 -> (φ p).1 < k + 1 := fun p hp => by
  show (if p < k then (p, σ p) else if p = k then fct k σ q1 else fct k σ q2).1 < k + 1
  split
  ·show p < k + 1; omega
  ·split
   ·exact jF
   ·exact jF
 have φt : ∀ p, p < k + 2 -> LZ (k + 2) (slk C (k + 1) (φ p) z) := fun p hp => by
  show LZ (k + 2) (slk C (k + 1) (if p < k then (p, σ p) else if p = k then fct k σ q1 else fct k σ q2) z)
  split
  ·exact hz p (by assumption)
  ·split
   ·exact t1
   ·exact t2
 have φi : ∀ p p', p < k + 2 -> p' < k + 2 -> φ p = φ p' -> p = p' := fun p p' hp hp' h => by
  have h : (if p < k then (p, σ p) else if p = k then fct k σ q1 else fct k σ q2) = (if p' < k then (p', σ p') else if p' = k then fct k σ q1 else fct k σ q2) := h
  by_cases a : p < k
  ·rw [if_pos a] at h
   by_cases b : p' < k
   ·rw [if_pos b] at h
    exact congrArg Prod.fst h
   ·rw [if_neg b] at h
    split at h
    ·exact absurd h (pD a)
    ·exact absurd h (pD a)
  ·rw [if_neg a] at h
   by_cases b : p' < k
   ·rw [if_pos b] at h
    split at h
    ·exact absurd h.symm (pD b)
    ·exact absurd h.symm (pD b)
   ·rw [if_neg b] at h
    by_cases a' : p = k
    ·rw [if_pos a'] at h
     by_cases b' : p' = k
     ·omega
     ·rw [if_neg b'] at h
      exact absurd (Ax h1 h2 h) hne
    ·rw [if_neg a'] at h
     by_cases b' : p' = k
     ·rw [if_pos b'] at h
      exact absurd (Ax h2 h1 h).symm hne
     ·omega
 obtain ⟨u, ⟨p0, hp0, hu0⟩, hu⟩ := fl (k + 1) (fun j p => lW C (φ p) j)
 have rhs : ∀ c, c < k + 2 -> sr (k + 2) (fun p => u p * cst (φ p) c) = 0 := fun c hc => by
  have e1 : sr (k + 2) (fun p => u p * slk C (k + 1) (φ p) z c) = 0 := eZ fun p hp => by rw [φt p hp c hc]; grind
  have e2 : sr (k + 2) (fun p => u p * slk C (k + 1) (φ p) z c) = sr (k + 2) (fun p => u p * lin C (k + 1) (φ p) (fun j => z j c)) + sr (k + 2) (fun p => u p * cst (φ p) c) := by
   rw [<- Eo]
   exact cN fun p _ => by unfold slk; grind
  have e3 : sr (k + 2) (fun p => u p * lin C (k + 1) (φ p) (fun j => z j c)) = 0 := by
   have : sr (k + 2) (fun p => u p * lin C (k + 1) (φ p) (fun j => z j c)) = sr (k + 2) (fun p => sr (k + 1) fun j => z j c * (lW C (φ p) j * u p)) := cN fun p hp => by
    rw [lU (φl p hp), <- rW]
    exact cN fun j _ => by grind
   rw [this, Bb (fun j p => z j c * (lW C (φ p) j * u p)) (k + 1) (k + 2)]
   refine eZ fun j hj => ?_
   rw [rW, hu j hj]
   grind
  rw [e2, e3] at e1
  grind
 have ut : ∀ p, p < k + 2 -> (φ p).2 = true -> u p = 0 := fun p hp hs => by
  have h := rhs ((φ p).1 + 1) (by have := φl p hp; omega)
  rw [rA hp fun p' hp' hne' => ?_] at h
  ·unfold cst bb at h
   rw [if_pos hs, if_neg (by omega), if_pos rfl] at h
   grind
  ·show u p' * cst (φ p') ((φ p).1 + 1) = 0
   unfold cst bb
   by_cases hs' : (φ p').2 = true
   ·rw [if_pos hs', if_neg (by omega), if_neg fun e => hne' (φi p' p hp' hp (Prod.ext (by omega) (by rw [hs, hs'])))]
    grind
   ·rw [if_neg hs']; grind
 apply hu0
 by_cases hs : (φ p0).2 = true
 ·exact ut p0 hp0 hs
 ·have h := hu (φ p0).1 (φl p0 hp0)
  rw [rA hp0 fun p' hp' hne' => ?_] at h
  ·unfold lW at h
   rw [if_neg hs, if_pos rfl] at h
   grind
  ·show lW C (φ p') (φ p0).1 * u p' = 0
   by_cases hs' : (φ p').2 = true
   ·rw [ut p' hp' hs']; grind
   ·unfold lW
    rw [if_neg hs', if_neg fun e => hne' (φi p' p0 hp' hp0 (Prod.ext e.symm (by cases a : (φ p').2 <;> cases b : (φ p0).2 <;> simp_all)))]
    grind
theorem seen {k : Nat} {σ : Nat -> Bool} {d : Nat -> Rat} (hd : ∀ j, j < k -> lin C (k + 1) (j, σ j) d = 0) {j0 : Nat} (h0 : j0 < k + 1) : d j0 = 0 \/ ∃ q, q < k + 2 /\ lin C (k + 1) (fct k σ q) d = d j0 := by
 rcases sZ σ h0 false with ⟨h, e⟩ | ⟨q, hq, e⟩
 ·have := hd j0 h
  rw [e] at this
  exact .inl this
 ·exact .inr ⟨q, hq, by rw [e]; rfl⟩
theorem vt {k : Nat} {σ : Nat -> Bool} {z : Nat -> Nat -> Rat} (hz : ∀ j, j < k -> LZ (k + 2) (slk C (k + 1) (j, σ j) z)) {q1 : Nat} (h1 : q1 < k + 2) (t1 : LZ (k + 2) (slk C (k + 1) (fct k σ q1) z))
  {d : Nat -> Rat} (hd : ∀ j, j < k -> lin C (k + 1) (j, σ j) d = 0) (hd1 : lin C (k + 1) (fct k σ q1) d = 0) : ∀ j, j < k + 1 -> d j = 0 := by
 intro j0 h0
 rcases seen hd h0 with h | ⟨q, hq, e⟩
 ·exact h
 ·refine Classical.byContradiction fun hne => ?_
  have hq1 : q1 ≠ q := fun h => by rw [<- h, hd1] at e; exact hne e.symm
  have mv : ∀ f c, slk C (k + 1) f (fun j c => z j c + (- slk C (k + 1) (fct k σ q) z c / d j0) * d j) c = slk C (k + 1) f z c + (- slk C (k + 1) (fct k σ q) z c / d j0) * lin C (k + 1) f d := fun f c => ye f z (fun c => - slk C (k + 1) (fct k σ q) z c / d j0) d c
  refine nd (C := C) (σ := σ) (z := fun j c => z j c + (- slk C (k + 1) (fct k σ q) z c / d j0) * d j) (fun j hj c hc => ?_) h1 hq hq1 (fun c hc => ?_) (fun c hc => ?_)
  ·rw [mv, hd j hj, hz j hj c hc]; grind
  ·rw [mv, hd1, t1 c hc]; grind
  ·rw [mv, e]; grind
theorem bd {k : Nat} {σ : Nat -> Bool} (C0 : ∀ i j, i < k + 1 -> j < k + 1 -> 0 <= C i j) (C1 : ∀ j, j < k + 1 -> ∃ i, i < k + 1 /\ 0 < C i j) {d : Nat -> Rat} (hd : ∀ j, j < k -> lin C (k + 1) (j, σ j) d = 0) {j0 : Nat} (h0 : j0 < k + 1) (hne : d j0 ≠ 0) : ∃ q, q < k + 2 /\ lin C (k + 1) (fct k σ q) d < 0 := by
 refine Classical.byContradiction fun hc => ?_
 have all : ∀ i, i < k + 1 -> ∀ s, 0 <= lin C (k + 1) (i, s) d := fun i hi s => by
  rcases sZ σ hi s with ⟨h, e⟩ | ⟨q, hq, e⟩
  ·rw [<- e, hd i h]; grind
  ·rw [<- e]
   refine Classical.byContradiction fun hl => hc ⟨q, hq, by grind⟩
 have dn : ∀ j, j < k + 1 -> 0 <= d j := fun j hj => all j hj false
 obtain ⟨i, hi, hp⟩ := C1 j0 h0
 have h1 : 0 <= - sr (k + 1) (fun j => C i j * d j) := all i hi true
 have h2 : 0 < sr (k + 1) (fun j => C i j * d j) := Dh (fun j hj => Rat.mul_nonneg (C0 i j hi hj) (dn j hj)) h0 (Rat.mul_pos hp (by have := dn j0 h0; grind))
 grind
theorem EY {r : Rat} (h : 0 < r) : 0 <= 1 / r := by
 rw [Rat.div_def, Rat.one_mul]
 exact Rat.le_of_lt (Rat.inv_pos.mpr h)
def vx (C : Nat -> Nat -> Rat) (k : Nat) (σ : Nat -> Bool) (f : Nat × Bool) : Prop := ∃ z, (∀ i, i < k + 1 -> ∀ s, GE (k + 2) (slk C (k + 1) (i, s) z)) /\ (∀ j, j < k -> LZ (k + 2) (slk C (k + 1) (j, σ j) z)) /\ LZ (k + 2) (slk C (k + 1) f z)
theorem edge {k : Nat} {σ : Nat -> Bool} (C0 : ∀ i j, i < k + 1 -> j < k + 1 -> 0 <= C i j) (C1 : ∀ j, j < k + 1 -> ∃ i, i < k + 1 /\ 0 < C i j) {q1 : Nat} (h1 : q1 < k + 2) (v1 : vx C k σ (fct k σ q1)) :
  ∃ q2, q2 < k + 2 /\ q2 ≠ q1 /\ vx C k σ (fct k σ q2) /\ ∀ q, q < k + 2 -> vx C k σ (fct k σ q) -> q = q1 \/ q = q2 := by
 obtain ⟨z, zf, zs, z1⟩ := v1
 have way : ∃ d : Nat -> Rat, (∃ j, j < k + 1 /\ d j ≠ 0) /\ (∀ j, j < k -> lin C (k + 1) (j, σ j) d = 0) /\ 0 < lin C (k + 1) (fct k σ q1) d := by
  obtain ⟨d, ⟨j0, h0, hne⟩, hd⟩ := fl k (fun i j => lW C (i, σ i) j)
  have hd' : ∀ j, j < k -> lin C (k + 1) (j, σ j) d = 0 := fun j hj => by rw [lU (show j < k + 1 by omega)]; exact hd j hj
  have hn : lin C (k + 1) (fct k σ q1) d ≠ 0 := fun e => hne (vt zs h1 z1 hd' e j0 h0)
  by_cases hp : 0 < lin C (k + 1) (fct k σ q1) d
  ·exact ⟨d, ⟨j0, h0, hne⟩, hd', hp⟩
  ·have neg : ∀ f, lin C (k + 1) f (fun j => 0 + (-1) * d j) = - lin C (k + 1) f d := fun f => by
    rw [lK f (fun _ => 0) d (-1)]
    have : lin C (k + 1) f (fun _ => 0) = 0 := by
     unfold lin
     split
     ·rw [eZ fun j _ => by grind]; grind
     ·rfl
    rw [this]; grind
   refine ⟨fun j => 0 + (-1) * d j, ⟨j0, h0, by dsimp only; grind⟩, fun j hj => by rw [neg, hd' j hj]; grind, by rw [neg]; grind⟩
 obtain ⟨d, ⟨j0, h0, hne⟩, hd, hp⟩ := way
 have ff : ∀ q, GE (k + 2) (slk C (k + 1) (fct k σ q) z) := fun q => zf _ jF _
 obtain ⟨q2, h2, n2, hm⟩ := Cm (k + 2) (fun q => lin C (k + 1) (fct k σ q) d < 0) (fun q c => slk C (k + 1) (fct k σ q) z c / (- lin C (k + 1) (fct k σ q) d)) (k + 2) (bd C0 C1 hd h0 hne)
 generalize he2 : lin C (k + 1) (fct k σ q2) d = e2 at n2 hm
 have r0 : GE (k + 2) (fun c => slk C (k + 1) (fct k σ q2) z c / (- e2)) := GE.congr (GE.smul (r := 1 / (- e2)) (EY (by grind)) (ff q2)) fun c _ => by grind
 have mv : ∀ f c, slk C (k + 1) f (fun j c => z j c + (slk C (k + 1) (fct k σ q2) z c / (- e2)) * d j) c = slk C (k + 1) f z c + (slk C (k + 1) (fct k σ q2) z c / (- e2)) * lin C (k + 1) f d := fun f c => ye f z (fun c => slk C (k + 1) (fct k σ q2) z c / (- e2)) d c
 refine ⟨q2, h2, fun e => by rw [<- e, he2] at hp; grind, ⟨fun j c => z j c + (slk C (k + 1) (fct k σ q2) z c / (- e2)) * d j, fun i hi s => ?_, fun j hj c hc => ?_, fun c hc => ?_⟩, ?_⟩
 ·have key : ∀ f, GE (k + 2) (slk C (k + 1) f z) -> 0 <= lin C (k + 1) f d -> GE (k + 2) (slk C (k + 1) f (fun j c => z j c + (slk C (k + 1) (fct k σ q2) z c / (- e2)) * d j)) := fun f h1 h2 =>
   GE.congr (h1.add (r0.smul h2)) fun c _ => by rw [mv]; grind
  rcases sZ σ hi s with ⟨h, e⟩ | ⟨q, hq, e⟩
  ·exact key _ (zf i hi s) (by rw [<- e, hd i h]; grind)
  ·rw [<- e]
   by_cases hl : lin C (k + 1) (fct k σ q) d < 0
   ·have h3 := hm q hq hl
    refine GE.congr (h3.smul (r := - lin C (k + 1) (fct k σ q) d) (by grind)) fun c _ => ?_
    rw [mv]
    generalize lin C (k + 1) (fct k σ q) d = x at *
    generalize slk C (k + 1) (fct k σ q) z c = y at *
    generalize slk C (k + 1) (fct k σ q2) z c / (- e2) = w at *
    grind
   ·exact key _ (ff q) (by grind)
 ·rw [mv, hd j hj, zs j hj c hc]; grind
 ·rw [mv, he2]; grind
 ·intro q hq ⟨z', zf', zs', zq'⟩
  refine Classical.byContradiction fun hno => ?_
  have nq1 : q ≠ q1 := fun e => hno (.inl e)
  have nq2 : q ≠ q2 := fun e => hno (.inr e)
  generalize he1 : lin C (k + 1) (fct k σ q1) d = e1 at hp
  have ff' : ∀ q, GE (k + 2) (slk C (k + 1) (fct k σ q) z') := fun q => zf' _ jF _
  have on : ∀ c, c < k + 2 -> ∀ j, j < k + 1 -> z' j c = z j c + (slk C (k + 1) (fct k σ q1) z' c / e1) * d j := fun c hc => by
   have h3 : ∀ f, lin C (k + 1) f (fun j => (z' j c + (-1) * z j c) + (-(slk C (k + 1) (fct k σ q1) z' c / e1)) * d j) = (slk C (k + 1) f z' c - slk C (k + 1) f z c) - (slk C (k + 1) (fct k σ q1) z' c / e1) * lin C (k + 1) f d := fun f => by
    rw [lK f (fun j => z' j c + (-1) * z j c) d, lK f (fun j => z' j c) (fun j => z j c)]
    unfold slk
    grind
   have h4 := vt zs h1 z1 (d := fun j => (z' j c + (-1) * z j c) + (-(slk C (k + 1) (fct k σ q1) z' c / e1)) * d j) (fun j hj => by rw [h3, hd j hj, zs' j hj c hc, zs j hj c hc]; grind) (by rw [h3, he1, z1 c hc]; grind)
   intro j hj
   have := h4 j hj
   grind
  have sl : ∀ f, f.1 < k + 1 -> ∀ c, c < k + 2 -> slk C (k + 1) f z' c = slk C (k + 1) f z c + (slk C (k + 1) (fct k σ q1) z' c / e1) * lin C (k + 1) f d := fun f hf c hc => by
   have h5 : lin C (k + 1) f (fun j => z' j c) = lin C (k + 1) f (fun j => z j c + (slk C (k + 1) (fct k σ q1) z' c / e1) * d j) := by
    rw [lU hf, lU hf]
    exact cN fun j hj => by rw [on c hc j hj]
   unfold slk at *
   rw [h5, lK f (fun j => z j c) d]
   grind
  have sg : GE (k + 2) (fun c => slk C (k + 1) (fct k σ q1) z' c / e1) := GE.congr (GE.smul (r := 1 / e1) (EY hp) (ff' q1)) fun c _ => by grind
  by_cases hl : lin C (k + 1) (fct k σ q) d < 0
  ·
   have a1 := hm q hq hl
   have a2 : LZ (k + 2) (fun c => slk C (k + 1) (fct k σ q2) z' c) := by
    refine GE.anti (ff' q2) ?_
    refine GE.congr (a1.smul (r := - e2) (by grind)) fun c hc => ?_
    have b1 := sl (fct k σ q) jF c hc
    have b2 := sl (fct k σ q2) jF c hc
    rw [zq' c hc] at b1
    rw [he2] at b2
    generalize slk C (k + 1) (fct k σ q2) z' c = y2' at *
    generalize slk C (k + 1) (fct k σ q1) z' c / e1 = s at *
    generalize lin C (k + 1) (fct k σ q) d = x at *
    generalize slk C (k + 1) (fct k σ q) z c = y at *
    generalize slk C (k + 1) (fct k σ q2) z c = y2 at *
    have b3 : y / (-x) = s := by grind
    rw [b3, b2]
    grind
   exact nd zs' hq h2 nq2 zq' a2
  ·have a1 : LZ (k + 2) (slk C (k + 1) (fct k σ q) z) := by
    refine GE.anti (ff q) ?_
    refine GE.congr (sg.smul (r := lin C (k + 1) (fct k σ q) d) (by grind)) fun c hc => ?_
    have b1 := sl (fct k σ q) jF c hc
    rw [zq' c hc] at b1
    grind
   exact nd zs hq h1 nq1 a1 z1
end Ns
set_option linter.all false
namespace Ns
open Classical in
noncomputable def ind (p : Prop) : Nat := if p then 1 else 0
theorem vV {p : Prop} (h : p) : ind p = 1 := by unfold ind; rw [if_pos h]
theorem vW {p : Prop} (h : ¬ p) : ind p = 0 := by unfold ind; rw [if_neg h]
theorem oA {p q : Prop} (h : p ↔ q) : ind p = ind q := by rw [propext h]
noncomputable def cn : Nat -> (Nat -> Prop) -> Nat
 | 0, _ => 0
 | n + 1, p => cn n p + ind (p n)
theorem tK {p : Nat -> Prop} : ∀ {n : Nat}, (∀ q, q < n -> ¬ p q) -> cn n p = 0
 | 0, _ => rfl
 | n + 1, h => by
  show cn n p + ind (p n) = 0
  rw [tK fun q hq => h q (by omega), vW (h n (by omega))]
theorem xT {p : Nat -> Prop} {a : Nat} : ∀ {n : Nat}, a < n -> p a -> (∀ q, q < n -> p q -> q = a) -> cn n p = 1
 | n + 1, ha, pa, h => by
  show cn n p + ind (p n) = 1
  by_cases e : a = n
  ·subst e
   rw [tK fun q hq pq => by have := h q (by omega) pq; omega, vV pa]
  ·rw [xT (by omega) pa fun q hq pq => h q (by omega) pq, vW fun pn => e (h n (by omega) pn).symm]
theorem Et {p : Nat -> Prop} {a b : Nat} : ∀ {n : Nat}, a < n -> b < n -> a ≠ b -> p a -> p b -> (∀ q, q < n -> p q -> q = a \/ q = b) -> cn n p = 2
 | n + 1, ha, hb, hab, pa, pb, h => by
  show cn n p + ind (p n) = 2
  by_cases e : a = n
  ·subst e
   rw [xT (a := b) (by omega) pb fun q hq pq => (h q (by omega) pq).resolve_left (by omega), vV pa]
  ·by_cases e' : b = n
   ·subst e'
    rw [xT (a := a) (by omega) pa fun q hq pq => (h q (by omega) pq).resolve_right (by omega), vV pb]
   ·rw [Et (by omega) (by omega) hab pa pb fun q hq pq => h q (by omega) pq, vW fun pn => by rcases h n (by omega) pn with z | z <;> omega]
def st (σ : Nat -> Bool) (k : Nat) (b : Bool) : Nat -> Bool := fun j => if j = k then b else σ j
theorem j5 (σ : Nat -> Bool) (k : Nat) (b : Bool) : st σ k b k = b := by unfold st; rw [if_pos rfl]
theorem jr (σ : Nat -> Bool) {k j : Nat} (b : Bool) (h : j ≠ k) : st σ k b j = σ j := by unfold st; rw [if_neg h]
theorem Ah (σ : Nat -> Bool) {i k : Nat} (b c : Bool) (h : i ≠ k) : st (st σ i b) k c = st (st σ k c) i b := by
 funext j
 unfold st
 by_cases h1 : j = k
 ·subst h1
  rw [if_pos rfl, if_neg (Ne.symm h), if_pos rfl]
 ·rw [if_neg h1]
  by_cases h2 : j = i
  ·rw [if_pos h2, if_pos h2]
  ·rw [if_neg h2, if_neg h2, if_neg h1]
def bs : Nat -> ((Nat -> Bool) -> Nat) -> Nat
 | 0, F => F fun _ => false
 | k + 1, F => bs k fun σ => F (st σ k false) + F (st σ k true)
theorem mD {F G : (Nat -> Bool) -> Nat} : ∀ {k : Nat}, (∀ σ, F σ = G σ) -> bs k F = bs k G
 | 0, h => h _
 | k + 1, h => mD (k := k) fun σ => by rw [h, h]
theorem yG (F G : (Nat -> Bool) -> Nat) : ∀ k, bs k (fun σ => F σ + G σ) = bs k F + bs k G
 | 0 => rfl
 | k + 1 => by
  show bs k (fun σ => (F (st σ k false) + G (st σ k false)) + (F (st σ k true) + G (st σ k true))) = bs k _ + bs k _
  rw [<- yG]
  exact mD fun σ => by omega
theorem pH : ∀ {k : Nat} {F : (Nat -> Bool) -> Nat}, (∀ σ, F σ % 2 = 0) -> bs k F % 2 = 0
 | 0, F, h => h _
 | k + 1, F, h => pH (k := k) fun σ => by have := h (st σ k false); have := h (st σ k true); omega
theorem xP {i : Nat} : ∀ {k : Nat} {F : (Nat -> Bool) -> Nat}, i < k -> (∀ σ b, F (st σ i b) = F σ) -> bs k F % 2 = 0
 | k + 1, F, hi, h => by
  by_cases e : i = k
  ·subst e
   exact pH (k := i) fun σ => by rw [h, h]; omega
  ·exact xP (i := i) (k := k) (by omega) fun σ b => by rw [Ah σ b false e, Ah σ b true e, h, h]
theorem z_ : ∀ {n : Nat} {F : (Nat -> Bool) -> Nat}, (∀ τ, (∃ i, i < n /\ τ i = true) -> F τ = 0) -> (∀ τ, (∀ i, i < n -> τ i = false) -> F τ = 1) -> bs n F = 1
 | 0, F, _, h1 => h1 _ fun i hi => absurd hi (by omega)
 | n + 1, F, h0, h1 => by
  refine z_ (n := n) (fun τ ⟨i, hi, ht⟩ => ?_) fun τ ht => ?_
  ·rw [h0 (st τ n false) ⟨i, by omega, by rw [jr _ _ (by omega)]; exact ht⟩, h0 (st τ n true) ⟨n, by omega, j5 ..⟩]
  ·rw [h1 (st τ n false) fun i hi => ?_, h0 (st τ n true) ⟨n, by omega, j5 ..⟩]
   by_cases e : i = n
   ·rw [e]; exact j5 ..
   ·rw [jr _ _ e]; exact ht i (by omega)
variable {C : Nat -> Nat -> Rat}
theorem m7 {k : Nat} {σ τ : Nat -> Bool} {f : Nat × Bool} (h : ∀ j, j < k -> σ j = τ j) : vx C k σ f -> vx C k τ f := fun ⟨z, a, b, c⟩ => ⟨z, a, fun j hj => by rw [<- h j hj]; exact b j hj, c⟩
theorem Ag {k i : Nat} (hi : i < k) (σ : Nat -> Bool) (b : Bool) : vx C k (st σ i b) (i, !(st σ i b i)) -> vx C k σ (i, !σ i) := by
 rintro ⟨z, z1, z2, z3⟩
 rw [j5] at z3
 have h2 := z2 i hi
 rw [j5] at h2
 refine ⟨z, z1, fun j hj => ?_, ?_⟩
 ·by_cases e : j = i
  ·subst e
   cases hb : b <;> cases hs : σ j <;> rw [hb] at h2 z3
   ·exact h2
   ·exact z3
   ·exact z3
   ·exact h2
  ·have := z2 j hj
   rw [jr _ _ e] at this
   exact this
 ·cases hb : b <;> cases hs : σ i <;> rw [hb] at h2 z3
  ·exact z3
  ·exact h2
  ·exact h2
  ·exact z3
theorem HN {k i : Nat} (hi : i < k) (σ : Nat -> Bool) (b : Bool) : ind (vx C k (st σ i b) (i, !(st σ i b i))) = ind (vx C k σ (i, !σ i)) := by
 refine oA ⟨Ag hi σ b, fun h => ?_⟩
 have e : st (st σ i b) i (σ i) = σ := by
  funext j
  by_cases h : j = i
  ·rw [h]; exact j5 ..
  ·rw [jr _ _ h, jr _ _ h]
 refine Ag hi (st σ i b) (σ i) ?_
 rw [e]
 exact h
theorem places (k : Nat) (C0 : ∀ i j, i < k + 1 -> j < k + 1 -> 0 <= C i j) (C1 : ∀ j, j < k + 1 -> ∃ i, i < k + 1 /\ 0 < C i j) :
  ∃ τ : Nat -> Bool, (∃ i, i < k + 1 /\ τ i = true) /\ vx C k τ (k, τ k) := by
 refine Classical.byContradiction fun hno => ?_
 have e1 : bs k (fun σ => cn (k + 2) fun q => vx C k σ (fct k σ q)) % 2 = 0 := pH fun σ => by
  by_cases h : ∃ q, q < k + 2 /\ vx C k σ (fct k σ q)
  ·obtain ⟨q1, h1, v1⟩ := h
   obtain ⟨q2, h2, hne, v2, hu⟩ := edge C0 C1 h1 v1
   rw [Et h1 h2 (Ne.symm hne) v1 v2 hu]
  ·rw [tK fun q hq v => h ⟨q, hq, v⟩]
 have e2 : ∀ n, n <= k -> bs k (fun σ => cn n fun q => vx C k σ (fct k σ q)) % 2 = 0 := by
  intro n
  induction n with
  | zero => exact fun _ => pH fun σ => rfl
  | succ n ih =>
   intro hn
   have h1 : bs k (fun σ => cn (n + 1) fun q => vx C k σ (fct k σ q)) = bs k (fun σ => cn n fun q => vx C k σ (fct k σ q)) + bs k (fun σ => ind (vx C k σ (fct k σ n))) := yG _ _ k
   have h2 : bs k (fun σ => ind (vx C k σ (fct k σ n))) % 2 = 0 := by
    have h3 : bs k (fun σ => ind (vx C k σ (fct k σ n))) = bs k (fun σ => ind (vx C k σ (n, !σ n))) := mD fun σ => by
     unfold fct
     rw [if_pos (by omega)]
    rw [h3]
    exact xP (i := n) (by omega) fun σ b => HN (by omega) σ b
   have := ih (by omega)
   omega
 have e3 : bs k (fun σ => cn (k + 2) fun q => vx C k σ (fct k σ q)) = bs k (fun σ => cn k fun q => vx C k σ (fct k σ q)) + bs (k + 1) (fun τ => ind (vx C k τ (k, τ k))) := by
  rw [show bs (k + 1) (fun τ => ind (vx C k τ (k, τ k))) = bs k (fun σ => ind (vx C k (st σ k false) (k, st σ k false k)) + ind (vx C k (st σ k true) (k, st σ k true k))) from rfl, <- yG]
  refine mD fun σ => ?_
  show cn k _ + ind (vx C k σ (fct k σ k)) + ind (vx C k σ (fct k σ (k + 1))) = _
  have f1 : fct k σ k = (k, false) := by unfold fct; rw [if_neg (by omega)]; simp
  have f2 : fct k σ (k + 1) = (k, true) := by unfold fct; rw [if_neg (by omega)]; simp
  rw [f1, f2, j5, j5, Nat.add_assoc]
  congr 2
  ·exact oA ⟨m7 fun j hj => (jr _ _ (by omega)).symm, m7 fun j hj => jr _ _ (by omega)⟩
  ·exact oA ⟨m7 fun j hj => (jr _ _ (by omega)).symm, m7 fun j hj => jr _ _ (by omega)⟩
 have e4 : bs (k + 1) (fun τ => ind (vx C k τ (k, τ k))) = 1 := by
  refine z_ (fun τ ht => vW fun h => hno ⟨τ, ht, h⟩) fun τ ht => vV ?_
  have z0 : ∀ f, lin C (k + 1) f (fun _ => (0 : Rat)) = 0 := fun f => by
   unfold lin
   split
   ·rw [eZ fun j _ => by grind]; grind
   ·rfl
  have s0 : ∀ i, LZ (k + 2) (slk C (k + 1) (i, false) fun _ _ => 0) := fun i c _ => by
   unfold slk
   rw [z0]
   show (0 : Rat) + 0 = 0
   grind
  refine ⟨fun _ _ => 0, fun i hi s => ?_, fun j hj => by rw [ht j (by omega)]; exact s0 j, by rw [ht k (by omega)]; exact s0 k⟩
  cases s
  ·exact .inl (s0 i)
  ·refine .inr ⟨0, by omega, fun c hc => absurd hc (by omega), ?_⟩
   unfold slk
   rw [z0]
   show (0 : Rat) < 0 + 1
   grind
 have := e2 k (Nat.le_refl _)
 omega
theorem nash_z (k : Nat) (C0 : ∀ i j, i < k + 1 -> j < k + 1 -> 0 <= C i j) (C1 : ∀ j, j < k + 1 -> ∃ i, i < k + 1 /\ 0 < C i j) :
  ∃ w : Nat -> Rat, (∀ i, i < k + 1 -> 0 <= w i) /\ (∀ i, i < k + 1 -> sr (k + 1) (fun j => C i j * w j) <= 1) /\ (∀ i, i < k + 1 -> w i = 0 \/ sr (k + 1) (fun j => C i j * w j) = 1) /\ ∃ i, i < k + 1 /\ sr (k + 1) (fun j => C i j * w j) = 1 := by
 obtain ⟨τ, ⟨i0, hi0, ht0⟩, z, zf, zs, zk⟩ := places k C0 C1
 have all : ∀ j, j < k + 1 -> LZ (k + 2) (slk C (k + 1) (j, τ j) z) := fun j hj => by
  by_cases e : j = k
  ·rw [e]; exact zk
  ·exact zs j (by omega)
 have sF : ∀ i, slk C (k + 1) (i, false) z 0 = z i 0 := fun i => by
  show z i 0 + 0 = z i 0
  grind
 have sT : ∀ i, slk C (k + 1) (i, true) z 0 = 1 - sr (k + 1) (fun j => C i j * z j 0) := fun i => by
  show - sr (k + 1) (fun j => C i j * z j 0) + 1 = _
  grind
 refine ⟨fun j => z j 0, fun i hi => ?_, fun i hi => ?_, fun i hi => ?_, i0, hi0, ?_⟩
 ·have := (zf i hi false).lead (by omega)
  rw [sF] at this
  exact this
 ·have := (zf i hi true).lead (by omega)
  rw [sT] at this
  grind
 ·have := all i hi 0 (by omega)
  cases h : τ i
  ·rw [h, sF] at this
   exact .inl this
  ·rw [h, sT] at this
   exact .inr (by grind)
 ·have := all i0 hi0 0 (by omega)
  rw [ht0, sT] at this
  grind
end Ns
#print axioms Ns.nash_z
set_option linter.all false
namespace Ns
theorem wd (w : Rat) : w * ((w.den : Int) : Rat) = (w.num : Rat) := by
 have h : w = (w.num : Rat) / ((w.den : Int) : Rat) := by
  rw [<- Rat.divInt_eq_div, Rat.num_divInt_den]
 have hn : ((w.den : Int) : Rat) ≠ 0 := by
  have := w.den_nz
  intro e
  have := Rat.intCast_inj (a := (w.den : Int)) (b := 0) |>.mp e
  omega
 generalize ((w.den : Int) : Rat) = d at *
 generalize (w.num : Rat) = n at *
 grind
theorem common (w : Nat -> Rat) : ∀ n, ∃ (D : Int) (W : Nat -> Int), 0 < D /\ ∀ i, i < n -> w i * (D : Rat) = (W i : Rat)
 | 0 => ⟨1, fun _ => 0, by decide, fun i h => absurd h (by omega)⟩
 | n + 1 => by
  obtain ⟨D, W, hD, h⟩ := common w n
  refine ⟨D * (w n).den, fun i => if i = n then (w n).num * D else W i * (w n).den, Int.mul_pos hD (by have := (w n).den_pos; omega), fun i hi => ?_⟩
  dsimp only
  by_cases e : i = n
  ·subst e
   rw [if_pos rfl, Rat.intCast_mul, Rat.intCast_mul]
   rw [<- wd (w i)]
   grind
  ·have := h i (by omega)
   rw [if_neg e, Rat.intCast_mul, Rat.intCast_mul, <- this]
   grind
theorem DW (f : Nat -> Int) : ∀ n, sr n (fun j => (f j : Rat)) = ((Gm.sm n f : Int) : Rat)
 | 0 => rfl
 | n + 1 => by
  show sr n (fun j => (f j : Rat)) + (f n : Rat) = ((Gm.sm n f + f n : Int) : Rat)
  rw [DW f n, Rat.intCast_add]
theorem p6 (f : Nat -> Int) (m : Nat) : ∀ n, Gm.sm (m + n) f = Gm.sm m f + Gm.sm n fun j => f (m + j)
 | 0 => by show Gm.sm m f = Gm.sm m f + 0; omega
 | n + 1 => by
  show Gm.sm (m + n) f + f (m + n) = Gm.sm m f + (Gm.sm n (fun j => f (m + j)) + f (m + n))
  rw [p6 f m n]
  omega
theorem nash {a b : Nat -> Nat -> Int} {m n : Nat} {s : Int} (hm : 0 < m) (hn : 0 < n) (ha : ∀ i j, i < m -> j < n -> 0 < a i j + s) (hb : ∀ i j, i < m -> j < n -> 0 < b j i + s) :
  ∃ (x y : Nat -> Int) (X S N M : Int), Gm.Pt a m n y S N /\ Gm.Pt b n m x X M /\ (∀ i, i < m -> x i = 0 \/ Gm.sm n (fun j => a i j * y j) = N) /\ ∀ j, j < n -> y j = 0 \/ Gm.sm m (fun i => b j i * x i) = M := by
 obtain ⟨k, hk⟩ : ∃ k, m + n = k + 1 := ⟨m + n - 1, by omega⟩
 let c : Nat -> Nat -> Int := fun i j => if i < m then (if j < m then 0 else a i (j - m) + s) else (if j < m then b (i - m) j + s else 0)
 have c0 : ∀ i j, i < m + n -> j < m + n -> 0 <= c i j := fun i j hi hj => by
  show 0 <= if i < m then (if j < m then 0 else a i (j - m) + s) else (if j < m then b (i - m) j + s else 0)
  split
  ·split
   ·omega
   ·have := ha i (j - m) (by omega) (by omega); omega
  ·split
   ·have := hb j (i - m) (by omega) (by omega); omega
   ·omega
 obtain ⟨w, w0, w1, w2, i0, hi0, w3⟩ := nash_z (C := fun i j => (c i j : Rat)) k (fun i j hi hj => by have := c0 i j (by omega) (by omega); exact Rat.intCast_nonneg.mpr this) (fun j hj => by
  by_cases h : j < m
  ·refine ⟨m, by omega, ?_⟩
   have : 0 < c m j := by
    show 0 < if m < m then (if j < m then 0 else a m (j - m) + s) else (if j < m then b (m - m) j + s else 0)
    rw [if_neg (by omega), if_pos h]
    exact hb j (m - m) h (by omega)
   exact Rat.intCast_pos.mpr this
  ·refine ⟨0, by omega, ?_⟩
   have : 0 < c 0 j := by
    show 0 < if 0 < m then (if j < m then 0 else a 0 (j - m) + s) else (if j < m then b (0 - m) j + s else 0)
    rw [if_pos hm, if_neg h]
    exact ha 0 (j - m) hm (by omega)
   exact Rat.intCast_pos.mpr this)
 obtain ⟨D, W, hD, hW⟩ := common w (k + 1)
 have hDq : (0 : Rat) < (D : Rat) := Rat.intCast_pos.mpr hD
 have sums : ∀ i, sr (k + 1) (fun j => (c i j : Rat) * w j) * (D : Rat) = ((Gm.sm (k + 1) (fun j => c i j * W j) : Int) : Rat) := fun i => by
  rw [<- DW, Rat.mul_comm, <- rW]
  refine cN fun j hj => ?_
  rw [Rat.intCast_mul, <- hW j hj]
  grind
 have nn : ∀ i, i < m + n -> 0 <= W i := fun i hi => by
  have h1 := Rat.mul_nonneg (w0 i (by omega)) (Rat.le_of_lt hDq)
  rw [hW i (by omega)] at h1
  exact Rat.intCast_nonneg.mp h1
 have le : ∀ i, i < m + n -> Gm.sm (k + 1) (fun j => c i j * W j) <= D := fun i hi => by
  have h1 := Rat.mul_le_mul_of_nonneg_right (w1 i (by omega)) (Rat.le_of_lt hDq)
  rw [sums, Rat.one_mul] at h1
  exact Rat.intCast_le_intCast.mp h1
 have eq : ∀ i, i < m + n -> sr (k + 1) (fun j => (c i j : Rat) * w j) = 1 -> Gm.sm (k + 1) (fun j => c i j * W j) = D := fun i hi h => by
  have h1 := sums i
  rw [h, Rat.one_mul] at h1
  exact (Rat.intCast_inj.mp h1).symm
 have cp : ∀ i, i < m + n -> W i = 0 \/ Gm.sm (k + 1) (fun j => c i j * W j) = D := fun i hi => by
  rcases w2 i (by omega) with h | h
  ·have h1 := hW i (by omega)
   rw [h, Rat.zero_mul] at h1
   exact .inl (Rat.intCast_inj.mp (h1.symm))
  ·exact .inr (eq i hi h)
 have rowS : ∀ i, i < m -> Gm.sm (k + 1) (fun j => c i j * W j) = Gm.sm n (fun j => a i j * W (m + j)) + s * Gm.sm n (fun j => W (m + j)) := fun i hi => by
  rw [<- hk, p6]
  have e1 : Gm.sm m (fun j => c i j * W j) = 0 := by
   rw [Gm.sm_congr (g := fun _ => 0) fun j hj => ?_, Gm.sm_zero]
   show (if i < m then (if j < m then 0 else a i (j - m) + s) else (if j < m then b (i - m) j + s else 0)) * W j = 0
   rw [if_pos hi, if_pos hj, Int.zero_mul]
  rw [e1, <- Gm.sm_mul, <- Gm.sm_add, Int.zero_add]
  refine Gm.sm_congr fun j hj => ?_
  show (if i < m then (if m + j < m then 0 else a i (m + j - m) + s) else (if m + j < m then b (i - m) (m + j) + s else 0)) * W (m + j) = _
  rw [if_pos hi, if_neg (by omega), show m + j - m = j by omega, Int.add_mul]
 have colS : ∀ j, j < n -> Gm.sm (k + 1) (fun i => c (m + j) i * W i) = Gm.sm m (fun i => b j i * W i) + s * Gm.sm m W := fun j hj => by
  rw [<- hk, p6]
  have e1 : Gm.sm n (fun i => c (m + j) (m + i) * W (m + i)) = 0 := by
   rw [Gm.sm_congr (g := fun _ => 0) fun i hi => ?_, Gm.sm_zero]
   show (if m + j < m then (if m + i < m then 0 else a (m + j) (m + i - m) + s) else (if m + i < m then b (m + j - m) (m + i) + s else 0)) * W (m + i) = 0
   rw [if_neg (by omega), if_neg (by omega), Int.zero_mul]
  rw [e1, <- Gm.sm_mul, <- Gm.sm_add, Int.add_zero]
  refine Gm.sm_congr fun i hi => ?_
  show (if m + j < m then (if i < m then 0 else a (m + j) (i - m) + s) else (if i < m then b (m + j - m) i + s else 0)) * W i = _
  rw [if_neg (by omega), if_pos hi, show m + j - m = j by omega, Int.add_mul]
 have xpos : (∃ i, i < m /\ 0 < W i) -> ∃ j, j < n /\ 0 < W (m + j) := by
  rintro ⟨i, hi, h⟩
  refine Classical.byContradiction fun hc => ?_
  have z : ∀ j, j < n -> W (m + j) = 0 := fun j hj => by
   have := nn (m + j) (by omega)
   refine Classical.byContradiction fun hz => hc ⟨j, hj, by omega⟩
  rcases cp i (by omega) with h' | h'
  ·omega
  ·rw [rowS i hi, Gm.sm_congr (g := fun _ => 0) (fun j hj => by rw [z j hj, Int.mul_zero]), Gm.sm_zero, Gm.sm_congr (g := fun _ => 0) (fun j hj => z j hj), Gm.sm_zero] at h'
   omega
 have ypos : (∃ j, j < n /\ 0 < W (m + j)) -> ∃ i, i < m /\ 0 < W i := by
  rintro ⟨j, hj, h⟩
  refine Classical.byContradiction fun hc => ?_
  have z : ∀ i, i < m -> W i = 0 := fun i hi => by
   have := nn i (by omega)
   refine Classical.byContradiction fun hz => hc ⟨i, hi, by omega⟩
  rcases cp (m + j) (by omega) with h' | h'
  ·omega
  ·rw [colS j hj, Gm.sm_congr (g := fun _ => 0) (fun i hi => by rw [z i hi, Int.mul_zero]), Gm.sm_zero, Gm.sm_congr (f := W) (g := fun _ => 0) (fun i hi => z i hi), Gm.sm_zero] at h'
   omega
 have both : (∃ i, i < m /\ 0 < W i) /\ ∃ j, j < n /\ 0 < W (m + j) := by
  have h1 := eq i0 (by omega) w3
  have h2 : ∃ j, j < k + 1 /\ 0 < W j := by
   refine Classical.byContradiction fun hc => ?_
   have z : ∀ j, j < k + 1 -> W j = 0 := fun j hj => by
    have := nn j (by omega)
    refine Classical.byContradiction fun hz => hc ⟨j, hj, by omega⟩
   rw [Gm.sm_congr (g := fun _ => 0) (fun j hj => by rw [z j hj, Int.mul_zero]), Gm.sm_zero] at h1
   omega
  obtain ⟨j, hj, hp⟩ := h2
  by_cases h : j < m
  ·exact ⟨⟨j, h, hp⟩, xpos ⟨j, h, hp⟩⟩
  ·have : ∃ j, j < n /\ 0 < W (m + j) := ⟨j - m, by omega, by rw [show m + (j - m) = j by omega]; exact hp⟩
   exact ⟨ypos this, this⟩
 obtain ⟨⟨i1, hi1, p1⟩, j1, hj1, p2⟩ := both
 have S0 : 0 < Gm.sm n fun j => W (m + j) := Gm.sm_pos (fun j hj => nn (m + j) (by omega)) ⟨j1, hj1, p2⟩
 have X0 : 0 < Gm.sm m W := Gm.sm_pos (fun i hi => nn i (by omega)) ⟨i1, hi1, p1⟩
 have tr : ∀ i, i < m -> W i = 0 \/ Gm.sm n (fun j => a i j * W (m + j)) = D - s * Gm.sm n fun j => W (m + j) := fun i hi => by
  rcases cp i (by omega) with h | h
  ·exact .inl h
  ·rw [rowS i hi] at h; exact .inr (by omega)
 have tc : ∀ j, j < n -> W (m + j) = 0 \/ Gm.sm m (fun i => b j i * W i) = D - s * Gm.sm m W := fun j hj => by
  rcases cp (m + j) (by omega) with h | h
  ·exact .inl h
  ·rw [colS j hj] at h; exact .inr (by omega)
 refine ⟨W, fun j => W (m + j), Gm.sm m W, Gm.sm n fun j => W (m + j), D - s * Gm.sm n fun j => W (m + j), D - s * Gm.sm m W, ⟨S0, fun j hj => nn (m + j) (by omega), rfl, fun i hi => ?_, i1, hi1, ?_⟩, ⟨X0, fun i hi => nn i (by omega), rfl, fun j hj => ?_, j1, hj1, ?_⟩, tr, tc⟩
 ·have := le i (by omega)
  rw [rowS i hi] at this
  omega
 ·rcases tr i1 hi1 with h | h
  ·omega
  ·exact h
 ·have := le (m + j) (by omega)
  rw [colS j hj] at this
  omega
 ·rcases tc j1 hj1 with h | h
  ·omega
  ·exact h
end Ns
namespace Gm
structure Sett (U V : List (List Int)) (m n : Nat) (R C R' C' : List Nat) : Prop where
 g : Good2 m n R C
 k : Corner U m n R C
 g' : Good2 n m R' C'
 k' : Corner V n m R' C'
 rows : ∀ i, i < m -> yOf C' (shM V R' C') i = 0 \/ gain U n (yOf C (shM U R C)) i = gain U n (yOf C (shM U R C)) (R.headD 0)
 cols : ∀ j, j < n -> yOf C (shM U R C) j = 0 \/ gain V m (yOf C' (shM V R' C')) j = gain V m (yOf C' (shM V R' C')) (R'.headD 0)
theorem sett {U V : List (List Int)} {m n : Nat} (hm : 0 < m) (hn : 0 < n) (m4 : m <= 4) (n4 : n <= 4) (ha : ∀ i j, i < m -> j < n -> -200 <= cell U i j) (hb : ∀ i j, i < m -> j < n -> -200 <= cell V j i) : ∃ R C R' C', Sett U V m n R C R' C' := by
 obtain ⟨x, y, X, S, N, M, P, P', tr, tc⟩ := Ns.nash (a := cell U) (b := cell V) (m := m) (n := n) (s := 201) hm hn (fun i j hi hj => by have := ha i j hi hj; omega) (fun i j hi hj => by have := hb i j hi hj; omega)
 obtain ⟨R, C, g, k, _, hs, ht⟩ := nY P m4 n4
 obtain ⟨R', C', g', k', _, hs', ht'⟩ := nY P' n4 m4
 refine ⟨R, C, R', C', g, k, g', k', fun i hi => ?_, fun j hj => ?_⟩
 ·rcases tr i hi with h | h
  ·exact .inl (hs' i hi h)
  ·exact .inr (ht i hi h)
 ·rcases tc j hj with h | h
  ·exact .inl (hs j hj h)
  ·exact .inr (ht' j hj h)
end Gm
namespace Gm
def Bt (A : Nat -> Nat -> Int) (m : Nat) (R C : List Nat) (r : Nat) : Prop :=
 ∃ w : Nat -> Int, (∀ i, i < m -> 0 <= w i) /\ (∀ i, i < m -> i ∉ R -> w i = 0) /\ w r = 0 /\ 0 < sm m w /\ ∀ j ∈ C, A r j * sm m w < sm m fun i => w i * A i j
theorem Bt.less {A : Nat -> Nat -> Int} {m r : Nat} {R C C' : List Nat} (h : Bt A m R C r) (hC : ∀ j ∈ C', j ∈ C) : Bt A m R C' r :=
 let ⟨w, h1, h2, h3, h4, h5⟩ := h
 ⟨w, h1, h2, h3, h4, fun j hj => h5 j (hC j hj)⟩
theorem Bt.more {A : Nat -> Nat -> Int} {m r : Nat} {R R' C : List Nat} (h : Bt A m R C r) (hR : ∀ i ∈ R, i ∈ R') : Bt A m R' C r :=
 let ⟨w, h1, h2, h3, h4, h5⟩ := h
 ⟨w, h1, fun i hi n => h2 i hi fun z => n (hR i z), h3, h4, h5⟩
theorem rJ (f : Nat -> Int) {s m : Nat} (hs : s < m) : sm m (fun i => if i = s then 0 else f i) = sm m f - f s := by
 have e : sm m f = sm m (fun i => if i = s then 0 else f i) + sm m (fun i => if i = s then f s else 0) := by
  rw [<- sm_add]
  refine sm_congr fun i _ => ?_
  by_cases h : i = s
  ·simp [h]
  ·simp [h]
 rw [sm_single, if_pos hs] at e
 omega
theorem Bt.strike {A : Nat -> Nat -> Int} {m r s : Nat} {R C : List Nat} (hr : r < m) (hs : s < m) (hne : r ≠ s) (hC : C ≠ []) (h1 : Bt A m R C s) (h2 : Bt A m R C r) : Bt A m (R.filter fun i => decide (i ≠ s)) C r := by
 obtain ⟨v, v1, v2, v3, v4, v5⟩ := h1
 obtain ⟨w, w1, w2, w3, w4, w5⟩ := h2
 have hu : ∃ u : Nat -> Int, ∀ i, u i = sm m v * (if i = s then 0 else w i) + w s * v i := ⟨_, fun _ => rfl⟩
 obtain ⟨u, hu⟩ := hu
 have a3 := w1 s hs
 have un : ∀ i, i < m -> 0 <= u i := fun i hi => by
  rw [hu]
  have b1 := Int.mul_nonneg a3 (v1 i hi)
  by_cases h : i = s
  ·rw [if_pos h]; omega
  ·rw [if_neg h]
   have := Int.mul_nonneg (Int.le_of_lt v4) (w1 i hi)
   omega
 have eu : sm m u = sm m v * sm m w := by
  rw [sm_congr fun i _ => hu i, sm_add, sm_mul, sm_mul, rJ w hs]
  grind
 have eA : ∀ j, sm m (fun i => u i * A i j) = sm m v * (sm m (fun i => w i * A i j) - w s * A s j) + w s * sm m (fun i => v i * A i j) := fun j => by
  have : ∀ i, u i * A i j = sm m v * (if i = s then 0 else w i * A i j) + w s * (v i * A i j) := fun i => by
   rw [hu]
   by_cases h : i = s
   ·simp only [h, if_true]; grind
   ·simp only [h, if_false]; grind
  rw [sm_congr fun i _ => this i, sm_add, sm_mul, sm_mul, rJ (fun i => w i * A i j) hs]
 have e1 : sm m (fun i => if i = r then 0 else u i) = sm m u - u r := rJ u hr
 have e2 : ∀ j, sm m (fun i => (if i = r then 0 else u i) * A i j) = sm m (fun i => u i * A i j) - u r * A r j := fun j => by
  have : ∀ i, (if i = r then 0 else u i) * A i j = if i = r then 0 else u i * A i j := fun i => by
   by_cases h : i = r
   ·simp [h]
   ·simp [h]
  rw [sm_congr fun i _ => this i, rJ (fun i => u i * A i j) hr]
 have key : ∀ j ∈ C, A r j * (sm m u - u r) < sm m (fun i => u i * A i j) - u r * A r j := fun j hj => by
  have a1 := w5 j hj
  have a2 := v5 j hj
  rw [eA j, eu]
  have b1 := Int.mul_le_mul_of_nonneg_left (Int.le_of_lt a2) a3
  have b2 := Int.mul_lt_mul_of_pos_left a1 v4
  generalize sm m (fun i => w i * A i j) = W at *
  generalize sm m (fun i => v i * A i j) = X at *
  grind
 have nn : ∀ i, i < m -> 0 <= (if i = r then 0 else u i) := fun i hi => by
  by_cases h : i = r
  ·rw [if_pos h]; exact Int.le_refl _
  ·rw [if_neg h]; exact un i hi
 refine ⟨fun i => if i = r then 0 else u i, nn, fun i hi hn => ?_, by simp, ?_, fun j hj => by rw [e1, e2]; exact key j hj⟩
 ·show (if i = r then 0 else u i) = 0
  by_cases h : i = r
  ·rw [if_pos h]
  ·rw [if_neg h, hu]
   by_cases h' : i = s
   ·rw [if_pos h', h', v3]; simp
   ·have hR : i ∉ R := fun z => hn (List.mem_filter.mpr ⟨z, decide_eq_true h'⟩)
    rw [if_neg h', w2 i hi hR, v2 i hi hR]
    simp
 ·refine Decidable.byContradiction fun hc => ?_
  have h0 : ∀ i, i < m -> (if i = r then 0 else u i) = 0 := fun i hi => by
   refine Decidable.byContradiction fun z => hc (sm_pos nn ⟨i, hi, ?_⟩)
   have := nn i hi
   omega
  obtain ⟨j, hj⟩ : ∃ j, j ∈ C := List.exists_mem_of_ne_nil C hC
  have := key j hj
  rw [<- e1, <- e2, sm_congr h0, sm_zero, sm_congr (g := fun _ => 0) fun i hi => by rw [h0 i hi, Int.zero_mul], sm_zero] at this
  simp at this
inductive Str (A B : Nat -> Nat -> Int) (m n : Nat) : List Nat -> List Nat -> Prop
 | start : Str A B m n (List.range m) (List.range n)
 | row {R C : List Nat} {r : Nat} : Str A B m n R C -> r ∈ R -> Bt A m R C r -> Str A B m n (R.filter fun i => decide (i ≠ r)) C
 | col {R C : List Nat} {c : Nat} : Str A B m n R C -> c ∈ C -> Bt B n C R c -> Str A B m n R (C.filter fun i => decide (i ≠ c))
theorem Str.swap {A B : Nat -> Nat -> Int} {m n : Nat} {R C : List Nat} (h : Str A B m n R C) : Str B A n m C R := by
 induction h with
 | start => exact .start
 | row _ h1 h2 ih => exact .col ih h1 h2
 | col _ h1 h2 ih => exact .row ih h1 h2
theorem Str.lt {A B : Nat -> Nat -> Int} {m n : Nat} {R C : List Nat} (h : Str A B m n R C) : ∀ i ∈ R, i < m := by
 induction h with
 | start => exact fun i hi => List.mem_range.mp hi
 | row _ _ _ ih => exact fun i hi => ih i (List.mem_filter.mp hi).1
 | col _ _ _ ih => exact ih
theorem Str.form {A B : Nat -> Nat -> Int} {m n : Nat} {R C : List Nat} (h : Str A B m n R C) : ∃ p : Nat -> Bool, R = (List.range m).filter p := by
 induction h with
 | start => exact ⟨fun _ => true, (List.filter_eq_self.mpr fun _ _ => rfl).symm⟩
 | row _ _ _ ih =>
  obtain ⟨p, rfl⟩ := ih
  exact ⟨_, List.filter_filter⟩
 | col _ _ _ ih => exact ih
theorem Str.nodup {A B : Nat -> Nat -> Int} {m n : Nat} {R C : List Nat} (h : Str A B m n R C) : R.Nodup := by
 obtain ⟨p, rfl⟩ := h.form
 exact List.nodup_range.filter _
theorem Str.ne1 {A B : Nat -> Nat -> Int} {m n : Nat} {R C : List Nat} (hm : 0 < m) (h : Str A B m n R C) : R ≠ [] := by
 induction h with
 | start => intro e; have := congrArg List.length e; rw [List.length_range] at this; simp at this; omega
 | row _ _ h2 _ =>
  obtain ⟨w, w1, w2, w3, w4, _⟩ := h2
  obtain ⟨i, hi, hw⟩ := sV w4
  refine List.ne_nil_of_mem (a := i) (List.mem_filter.mpr ⟨?_, decide_eq_true ?_⟩)
  ·refine Decidable.byContradiction fun z => ?_
   rw [w2 i hi z] at hw
   omega
  ·intro e
   rw [e, w3] at hw
   omega
 | col _ _ _ ih => exact ih
theorem Str.ne2 {A B : Nat -> Nat -> Int} {m n : Nat} {R C : List Nat} (hn : 0 < n) (h : Str A B m n R C) : C ≠ [] := h.swap.ne1 hn
theorem Str.push {A B : Nat -> Nat -> Int} {m n : Nat} {R C : List Nat} (h : Str A B m n R C) : ∀ {r : Nat} {C' : List Nat}, r ∈ R -> (∀ j ∈ C', j ∈ C) -> C' ≠ [] -> Bt A m (List.range m) C' r -> Bt A m R C' r := by
 induction h with
 | start => exact fun _ _ _ h => h
 | row h1 h2 h3 ih =>
  intro r' C' hr hC hne hb
  have hr' := List.mem_filter.mp hr
  exact Bt.strike (h1.lt _ hr'.1) (h1.lt _ h2) (of_decide_eq_true hr'.2) hne (h3.less hC) (ih hr'.1 hC hne hb)
 | col h1 h2 h3 ih =>
  intro r' C' hr hC hne hb
  exact ih hr (fun j hj => (List.mem_filter.mp (hC j hj)).1) hne hb
def End (A B : Nat -> Nat -> Int) (m n : Nat) (R C : List Nat) : Prop := (∀ r ∈ R, ¬ Bt A m R C r) /\ ∀ c ∈ C, ¬ Bt B n C R c
theorem Str.incl {A B : Nat -> Nat -> Int} {m n : Nat} {R C R' C' : List Nat} (hm : 0 < m) (hn : 0 < n) (h : Str A B m n R C) (e : End A B m n R C) (h' : Str A B m n R' C') : (∀ i ∈ R, i ∈ R') /\ ∀ j ∈ C, j ∈ C' := by
 induction h' with
 | start => exact ⟨fun i hi => List.mem_range.mpr (h.lt i hi), fun j hj => List.mem_range.mpr (h.swap.lt j hj)⟩
 | row h1 h2 h3 ih =>
  refine ⟨fun i hi => List.mem_filter.mpr ⟨ih.1 i hi, decide_eq_true fun z => ?_⟩, ih.2⟩
  subst z
  exact e.1 _ hi (h.push hi (fun _ hj => hj) (h.ne2 hn) ((h3.less ih.2).more fun i hi => List.mem_range.mpr (h1.lt i hi)))
 | col h1 h2 h3 ih =>
  refine ⟨ih.1, fun j hj => List.mem_filter.mpr ⟨ih.2 j hj, decide_eq_true fun z => ?_⟩⟩
  subst z
  exact e.2 _ hj (h.swap.push hj (fun _ hi => hi) (h.ne1 hm) ((h3.less ih.1).more fun i hi => List.mem_range.mpr (h1.swap.lt i hi)))
theorem pR {m : Nat} {p q : Nat -> Bool} (h : ∀ i, i ∈ (List.range m).filter p ↔ i ∈ (List.range m).filter q) : (List.range m).filter p = (List.range m).filter q := by
 refine List.filter_congr fun i hi => ?_
 have := h i
 rw [List.mem_filter, List.mem_filter] at this
 cases hp : p i <;> cases hq : q i <;> simp [hi, hp, hq] at this ⊢
theorem Str.uniq {A B : Nat -> Nat -> Int} {m n : Nat} {R C R' C' : List Nat} (hm : 0 < m) (hn : 0 < n) (h : Str A B m n R C) (e : End A B m n R C) (h' : Str A B m n R' C') (e' : End A B m n R' C') : R = R' /\ C = C' := by
 have i1 := h.incl hm hn e h'
 have i2 := h'.incl hm hn e' h
 obtain ⟨p, hp⟩ := h.form
 obtain ⟨p', hp'⟩ := h'.form
 obtain ⟨q, hq⟩ := h.swap.form
 obtain ⟨q', hq'⟩ := h'.swap.form
 subst hp
 subst hp'
 subst hq
 subst hq'
 exact ⟨pR fun i => ⟨i1.1 i, i2.1 i⟩, pR fun i => ⟨i1.2 i, i2.2 i⟩⟩
theorem Str.rows {A B : Nat -> Nat -> Int} {m n : Nat} {C : List Nat} (hn : 0 < n) : ∀ (L : List Nat) {R : List Nat}, L.Nodup -> Str A B m n R C -> (∀ r ∈ L, r ∈ R /\ Bt A m R C r) -> Str A B m n (R.filter fun i => decide (i ∉ L)) C
 | [], R, _, h, _ => by
  have e : (R.filter fun i => decide (i ∉ ([] : List Nat))) = R := List.filter_eq_self.mpr fun i _ => by simp
  rw [e]
  exact h
 | r :: L, R, nd, h, hL => by
  have hr := hL r (by simp)
  have nd' := List.nodup_cons.mp nd
  have h1 := Str.row h hr.1 hr.2
  have h2 := Str.rows hn L nd'.2 h1 fun s hs => by
   have hs' := hL s (by simp [hs])
   have ne : s ≠ r := fun e => nd'.1 (e ▸ hs)
   exact ⟨List.mem_filter.mpr ⟨hs'.1, decide_eq_true ne⟩, Bt.strike (h.lt _ hs'.1) (h.lt _ hr.1) ne (h.ne2 hn) hr.2 hs'.2⟩
  have e : (R.filter fun i => decide (i ∉ r :: L)) = (R.filter fun i => decide (i ≠ r)).filter fun i => decide (i ∉ L) := by
   rw [List.filter_filter]
   refine List.filter_congr fun i _ => ?_
   by_cases a : i = r <;> by_cases b : i ∈ L <;> simp [a, b]
  rw [e]
  exact h2
theorem Str.some {A B : Nat -> Nat -> Int} {m n : Nat} {R C : List Nat} (hn : 0 < n) (h : Str A B m n R C) (f : Nat -> Bool) (hf : ∀ r ∈ R, f r = false -> Bt A m R C r) : Str A B m n (R.filter f) C := by
 have h1 := h.rows hn (R.filter fun r => !f r) (h.nodup.filter _) fun r hr => by
  have hr' := List.mem_filter.mp hr
  exact ⟨hr'.1, hf r hr'.1 (by simpa using hr'.2)⟩
 have e : (R.filter fun i => decide (i ∉ R.filter fun r => !f r)) = R.filter f := by
  refine List.filter_congr fun i hi => ?_
  cases hf : f i <;> simp [List.mem_filter, hi, hf]
 rw [e] at h1
 exact h1
theorem Str.both {A B : Nat -> Nat -> Int} {m n : Nat} {R C : List Nat} (hm : 0 < m) (hn : 0 < n) (h : Str A B m n R C) (f g : Nat -> Bool) (hf : ∀ r ∈ R, f r = false -> Bt A m R C r) (hg : ∀ c ∈ C, g c = false -> Bt B n C R c) : Str A B m n (R.filter f) (C.filter g) :=
 (Str.some hm (h.some hn f hf).swap g fun c hc hgc => (hg c hc hgc).less fun i hi => (List.mem_filter.mp hi).1).swap
theorem Str.supp {A B : Nat -> Nat -> Int} {m n : Nat} {R C : List Nat} {x y : Nat -> Int} (hy : ∀ j, j < n -> 0 <= y j) (hx : ∀ i, i < m -> 0 <= x i) (sy : 0 < sm n y) (sx : 0 < sm m x)
  (bx : ∀ i, i < m -> x i = 0 \/ ∀ i', i' < m -> sm n (fun j => A i' j * y j) <= sm n (fun j => A i j * y j)) (yb : ∀ j, j < n -> y j = 0 \/ ∀ j', j' < n -> sm m (fun i => B j' i * x i) <= sm m (fun i => B j i * x i))
  (h : Str A B m n R C) : (∀ i, i < m -> x i ≠ 0 -> i ∈ R) /\ ∀ j, j < n -> y j ≠ 0 -> j ∈ C := by
 have one : ∀ {A : Nat -> Nat -> Int} {m n : Nat} {R C : List Nat} {x y : Nat -> Int} {r : Nat}, (∀ j, j < n -> 0 <= y j) -> 0 < sm n y -> (∀ i, i < m -> x i = 0 \/ ∀ i', i' < m -> sm n (fun j => A i' j * y j) <= sm n (fun j => A i j * y j)) ->
   (∀ j, j < n -> y j ≠ 0 -> j ∈ C) -> r < m -> Bt A m R C r -> x r = 0 := by
  intro A m n R C x y r hy sy bx sc hr hb
  rcases bx r hr with h | h
  ·exact h
  ·exfalso
   obtain ⟨w, w1, w2, w3, w4, w5⟩ := hb
   have e1 : sm n (fun j => y j * sm m fun i => w i * A i j) = sm m fun i => w i * sm n fun j => A i j * y j := by
    have a1 : sm n (fun j => y j * sm m fun i => w i * A i j) = sm n fun j => sm m fun i => w i * (A i j * y j) := sm_congr fun j _ => by
     rw [<- sm_mul]
     exact sm_congr fun i _ => by grind
    rw [a1, oZ (fun i j => w i * (A i j * y j))]
    exact sm_congr fun i _ => sm_mul ..
   have e2 : (sm m fun i => w i * sm n fun j => A i j * y j) <= sm m w * sm n fun j => A r j * y j := by
    have a1 : (sm m fun i => w i * sm n fun j => A i j * y j) <= sm m fun i => (sm n fun j => A r j * y j) * w i := Bm fun i hi => by
     have := Int.mul_le_mul_of_nonneg_left (h i hi) (w1 i hi)
     rw [Int.mul_comm (sm n fun j => A r j * y j)]
     exact this
    rw [sm_mul, Int.mul_comm] at a1
    exact a1
   have e3 : 0 < sm n fun j => y j * ((sm m fun i => w i * A i j) - A r j * sm m w) := by
    obtain ⟨j, hj, hyj⟩ := sV sy
    refine sm_pos (fun j hj => ?_) ⟨j, hj, ?_⟩
    ·by_cases z : y j = 0
     ·rw [z]; simp
     ·have := w5 j (sc j hj z)
      exact Int.mul_nonneg (hy j hj) (by omega)
    ·have := w5 j (sc j hj (by omega))
     exact Int.mul_pos hyj (by omega)
   have e4 : (sm n fun j => y j * ((sm m fun i => w i * A i j) - A r j * sm m w)) = (sm n fun j => y j * sm m fun i => w i * A i j) + (- sm m w) * sm n fun j => A r j * y j := by
    rw [<- sm_mul, <- sm_add]
    exact sm_congr fun j _ => by grind
   rw [e4, e1] at e3
   grind
 induction h with
 | start => exact ⟨fun i hi _ => List.mem_range.mpr hi, fun j hj _ => List.mem_range.mpr hj⟩
 | row h1 h2 h3 ih =>
  refine ⟨fun i hi hxi => List.mem_filter.mpr ⟨ih.1 i hi hxi, decide_eq_true fun z => ?_⟩, ih.2⟩
  subst z
  exact hxi (one hy sy bx ih.2 hi h3)
 | col h1 h2 h3 ih =>
  refine ⟨ih.1, fun j hj hyj => List.mem_filter.mpr ⟨ih.2 j hj hyj, decide_eq_true fun z => ?_⟩⟩
  subst z
  exact hyj (one hx sx yb ih.1 hj h3)
theorem getD_mem {R : List Nat} {k : Nat} (h : k < R.length) : R.getD k 0 ∈ R := by
 rw [List.getD_eq_getElem?_getD, List.getElem?_eq_getElem h]
 exact List.getElem_mem h
theorem Bt.of {A : Nat -> Nat -> Int} {m r : Nat} {R C : List Nat} (x : Nat -> Int) (hR : ∀ i ∈ R, i < m) (nn : ∀ k, k < R.length -> 0 <= x k) (z : ∀ k, k < R.length -> R.getD k 0 = r -> x k = 0) (pos : 0 < sm R.length x)
  (gt : ∀ j ∈ C, A r j * sm R.length x < sm R.length fun k => x k * A (R.getD k 0) j) : Bt A m R C r := by
 have hw : ∃ w : Nat -> Int, ∀ i, w i = sm R.length fun k => if i = R.getD k 0 then x k else 0 := ⟨_, fun _ => rfl⟩
 obtain ⟨w, hw⟩ := hw
 have key : ∀ g : Nat -> Int, sm m (fun i => w i * g i) = sm R.length fun k => x k * g (R.getD k 0) := fun g => by
  have a1 : sm m (fun i => w i * g i) = sm m fun i => sm R.length fun k => if i = R.getD k 0 then x k * g (R.getD k 0) else 0 := sm_congr fun i _ => by
   rw [hw, Int.mul_comm, <- sm_mul]
   refine sm_congr fun k _ => ?_
   by_cases h : i = R.getD k 0
   ·rw [if_pos h, if_pos h, h, Int.mul_comm]
   ·rw [if_neg h, if_neg h, Int.mul_zero]
  rw [a1, oZ fun k i => if i = R.getD k 0 then x k * g (R.getD k 0) else 0]
  refine sm_congr fun k hk => ?_
  rw [sm_single, if_pos (hR _ (getD_mem hk))]
 have e0 : sm m w = sm R.length x := by
  have := key fun _ => 1
  rw [sm_congr (g := w) fun i _ => Int.mul_one _, sm_congr (g := x) fun i _ => Int.mul_one _] at this
  exact this
 refine ⟨w, fun i _ => ?_, fun i _ hn => ?_, ?_, by rw [e0]; exact pos, fun j hj => by rw [e0, key fun i => A i j]; exact gt j hj⟩
 ·rw [hw]
  refine nZ fun k hk => ?_
  by_cases h : i = R.getD k 0
  ·rw [if_pos h]; exact nn k hk
  ·rw [if_neg h]; exact Int.le_refl _
 ·rw [hw, sm_congr (g := fun _ => 0) fun k hk => if_neg fun (h : i = R.getD k 0) => hn (h ▸ getD_mem hk), sm_zero]
 ·rw [hw, sm_congr (g := fun _ => 0) fun k hk => ?_, sm_zero]
  by_cases h : r = R.getD k 0
  ·rw [if_pos h]; exact z k hk h.symm
  ·rw [if_neg h]
theorem Bt.not {A : Nat -> Nat -> Int} {m r : Nat} {R C : List Nat} (y : Nat -> Int) (hy : ∀ l, l < C.length -> 0 <= y l) (sy : 0 < sm C.length y) (best : ∀ i ∈ R, sm C.length (fun l => A i (C.getD l 0) * y l) <= sm C.length (fun l => A r (C.getD l 0) * y l)) : ¬ Bt A m R C r := by
 rintro ⟨w, w1, w2, w3, w4, w5⟩
 have e1 : sm C.length (fun l => y l * sm m fun i => w i * A i (C.getD l 0)) = sm m fun i => w i * sm C.length fun l => A i (C.getD l 0) * y l := by
  have a1 : sm C.length (fun l => y l * sm m fun i => w i * A i (C.getD l 0)) = sm C.length fun l => sm m fun i => w i * (A i (C.getD l 0) * y l) := sm_congr fun l _ => by
   rw [<- sm_mul]
   exact sm_congr fun i _ => by grind
  rw [a1, oZ (fun i l => w i * (A i (C.getD l 0) * y l))]
  exact sm_congr fun i _ => sm_mul ..
 have e2 : (sm m fun i => w i * sm C.length fun l => A i (C.getD l 0) * y l) <= sm m w * sm C.length fun l => A r (C.getD l 0) * y l := by
  have a1 : (sm m fun i => w i * sm C.length fun l => A i (C.getD l 0) * y l) <= sm m fun i => (sm C.length fun l => A r (C.getD l 0) * y l) * w i := Bm fun i hi => by
   by_cases h : i ∈ R
   ·have := Int.mul_le_mul_of_nonneg_left (best i h) (w1 i hi)
    rw [Int.mul_comm (sm C.length fun l => A r (C.getD l 0) * y l)]
    exact this
   ·rw [w2 i hi h]; simp
  rw [sm_mul, Int.mul_comm] at a1
  exact a1
 have e3 : 0 < sm C.length fun l => y l * ((sm m fun i => w i * A i (C.getD l 0)) - A r (C.getD l 0) * sm m w) := by
  obtain ⟨l, hl, hyl⟩ := sV sy
  refine sm_pos (fun l hl => ?_) ⟨l, hl, ?_⟩
  ·have := w5 _ (getD_mem hl)
   exact Int.mul_nonneg (hy l hl) (by omega)
  ·have := w5 _ (getD_mem hl)
   exact Int.mul_pos hyl (by omega)
 have e4 : (sm C.length fun l => y l * ((sm m fun i => w i * A i (C.getD l 0)) - A r (C.getD l 0) * sm m w)) = (sm C.length fun l => y l * sm m fun i => w i * A i (C.getD l 0)) + (- sm m w) * sm C.length fun l => A r (C.getD l 0) * y l := by
  rw [<- sm_mul, <- sm_add]
  exact sm_congr fun j _ => by grind
 rw [e4, e1] at e3
 grind
end Gm
set_option Elab.async false
set_option linter.all false
set_option maxRecDepth 100000
namespace L2
open PySem PySem.Spec PyProof.Rows
def Sz (k : Nat) (x : Int) : Prop := x.natAbs < 2 ^ k
theorem Sz.mono {a b : Nat} {x : Int} (h : Sz a x) (hab : a <= b) : Sz b x := Nat.lt_of_lt_of_le h (Nat.pow_le_pow_right (by decide) hab)
theorem Sz.mul {a b : Nat} {x y : Int} (h : Sz a x) (q : Sz b y) : Sz (a + b) (x * y) := by
 unfold Sz at *
 rw [Int.natAbs_mul, Nat.pow_add]
 exact Nat.mul_lt_mul'' h q
theorem Sz.add {k : Nat} {x y : Int} (h : Sz k x) (q : Sz k y) : Sz (k + 1) (x + y) := by
 unfold Sz at *
 rw [Nat.pow_succ]
 have := Int.natAbs_add_le x y
 omega
theorem Sz.neg {k : Nat} {x : Int} (h : Sz k x) : Sz k (-x) := by
 unfold Sz at *
 rw [Int.natAbs_neg]; exact h
theorem Sz.fst {k : Nat} {a b : Int} (hb : 0 < b) (h : Sz k a) : Sz k (Fr.mk a b).1 := Nat.lt_of_le_of_lt (Fr.mk_fst_le hb) h
theorem Sz.snd {k : Nat} {a b : Int} (hb : 0 < b) (h : Sz k b) : Sz k (Fr.mk a b).2 := by
 unfold Sz at *
 have h1 := Fr.mk_snd_le (a := a) hb
 have h2 := Fr.mk_pos (a := a) hb
 omega
theorem Sz.log {k : Nat} {x : Int} (h : Sz k x) (hk : 0 < k) : x.natAbs.log2 < k := by
 rcases Nat.eq_zero_or_pos x.natAbs with h0 | hp
 ·rw [h0]; simpa using hk
 ·exact (Nat.log2_lt (Nat.ne_of_gt hp)).mpr h
theorem Sz.bits {x : Int} (h : Sz 4000 x) : Builtin.Int.intBits x <= 2 ^ 20 := by
 unfold Builtin.Int.intBits
 split
 ·exact Nat.zero_le _
 ·have := h.log (by decide)
  have e : (2 : Nat) ^ 20 = 1048576 := by decide
  omega
variable {X : Cx}
def JZ (i j : Int) : Prop := Sz 4000 i /\ Sz 4000 j
theorem bV : OpR X (binaryOp .Mult) (rI JZ fun i j => .int (i * j)) := opI fun _ _ _ _ _ _ _ hc q => mul_int q (IntMulOk.of_bits hc.1.bits hc.2.bits)
theorem lY {i j : Int} (h0 : 0 < j) (h : Sz 8000 j) : GD i j := ⟨h0, Nat.lt_of_lt_of_le (h.log (by decide)) (by decide)⟩
theorem peF (K : PySem.W.Frag) {e : Expr} {f : Str} {pos : Pos} {ta : TE} (he : PE X e ta) (hb : attributeBase e f X.env (eval e X.env) = eval e X.env) (h : X.K = K := by rfl) : PE X (.Attribute e f pos) (JL K ta f) := by
 subst h
 exact jL he hb
structure Pq (q : Int × Int) : Prop where
 pos : 0 < q.2
 cop : Int.gcd q.1 q.2 = 1
theorem Pq.mk_eq {q : Int × Int} (h : Pq q) : Fr.mk q.1 q.2 = q := by
 have := h.cop
 unfold Fr.mk
 rw [this]
 simp
theorem Pq.of {a b : Int} (h : 0 < b) : Pq (Fr.mk a b) := ⟨Fr.mk_pos h, Fr.mk_cop h⟩
structure GQ (qs : List (Int × Int)) : Prop where
 pr : ∀ q ∈ qs, Pq q
 s1 : ∀ q ∈ qs, Sz 60 q.1
 s2 : ∀ q ∈ qs, Sz 60 q.2
 len : qs.length <= 8
def stp (a : Int × Int) (x : Int × (Int × Int)) : Int × Int := (a.1 * x.2.2 + x.1 * x.2.1 * a.2, a.2 * x.2.2)
def acc (l : List (Int × (Int × Int))) : Int × Int := l.foldl stp (0, 1)
theorem wk (l : List (Int × (Int × Int))) (x : Int × (Int × Int)) : acc (l ++ [x]) = stp (acc l) x := by
 unfold acc
 rw [List.foldl_append]
 rfl
theorem vZ {l : List (Int × (Int × Int))} {i : Nat} {x : Int × (Int × Int)} (h : l[i]? = some x) : acc (l.take (i + 1)) = stp (acc (l.take i)) x := by
 rw [List.take_add_one, h]
 exact wk _ _
def GX (l : List (Int × (Int × Int))) : Prop := ∀ x ∈ l, Sz 9 x.1 /\ Pq x.2 /\ Sz 60 x.2.1 /\ Sz 60 x.2.2
theorem rR : ∀ (k : Nat) (l : List (Int × (Int × Int))), l.length = k -> GX l -> 0 < (acc l).2 /\ Sz (70 + 61 * k) (acc l).1 /\ Sz (1 + 60 * k) (acc l).2
 | 0, l, h, _ => by
  have := List.eq_nil_of_length_eq_zero h
  subst this
  exact ⟨by decide, show Sz 70 0 from by unfold Sz; exact Nat.pow_pos (by decide), show Sz 1 1 from by unfold Sz; decide⟩
 | k + 1, l, h, g => by
  have hne : l ≠ [] := fun e => by rw [e] at h; simp at h
  have e : l = l.dropLast ++ [l.getLast hne] := (List.dropLast_concat_getLast hne).symm
  obtain ⟨h1, h2, h3, h4⟩ := g _ (List.getLast_mem hne)
  have ih := rR k l.dropLast (by rw [List.length_dropLast]; omega) fun x hx => g x (List.dropLast_subset l hx)
  rw [e, wk]
  unfold stp
  refine ⟨Int.mul_pos ih.1 h2.pos, ?_, ?_⟩
  ·have a1 : Sz (130 + 61 * k) ((acc l.dropLast).1 * (l.getLast hne).2.2) := (ih.2.1.mul h4).mono (by omega)
   have a2 : Sz (130 + 61 * k) ((l.getLast hne).1 * (l.getLast hne).2.1 * (acc l.dropLast).2) := ((h1.mul h3).mul ih.2.2).mono (by omega)
   exact (a1.add a2).mono (by omega)
  ·exact (ih.2.2.mul h4).mono (by omega)
theorem GX.take {l : List (Int × (Int × Int))} (g : GX l) (i : Nat) : GX (l.take i) := fun x hx => g x (List.mem_of_mem_take hx)
def aZ (r : List Int) (qs : List (Int × Int)) : Int × Int := Fr.mk (acc (r.zip qs)).1 (acc (r.zip qs)).2
theorem iC {r : List Int} {qs : List (Int × Int)} (hr : ∀ x ∈ r, Sz 9 x) (g : GQ qs) : GX (r.zip qs) := fun x hx => by
 have h1 := List.of_mem_zip hx
 exact ⟨hr _ h1.1, g.pr _ h1.2, g.s1 _ h1.2, g.s2 _ h1.2⟩
theorem gD {l : List (Int × (Int × Int))} (g : GX l) : 0 < (acc l).2 := (rR _ l rfl g).1
theorem yQ {l : List (Int × (Int × Int))} (g : GX l) (h : l.length <= 8) : Sz 900 (acc l).1 := (rR _ l rfl g).2.1.mono (by omega)
theorem su {l : List (Int × (Int × Int))} (g : GX l) (h : l.length <= 8) : Sz 900 (acc l).2 := (rR _ l rfl g).2.2.mono (by omega)
theorem ph {r : List Int} {qs : List (Int × Int)} (hr : ∀ x ∈ r, Sz 9 x) (g : GQ qs) : Pq (aZ r qs) := Pq.of (gD (iC hr g))
theorem sS (r : List Int) {qs : List (Int × Int)} (g : GQ qs) : (r.zip qs).length <= 8 := by
 rw [List.length_zip]
 have := g.len
 omega
theorem gP {r : List Int} {qs : List (Int × Int)} (hr : ∀ x ∈ r, Sz 9 x) (g : GQ qs) : Sz 900 (aZ r qs).1 := (yQ (iC hr g) (sS r g)).fst (gD (iC hr g))
theorem gY {r : List Int} {qs : List (Int × Int)} (hr : ∀ x ∈ r, Sz 9 x) (g : GQ qs) : Sz 900 (aZ r qs).2 := (su (iC hr g) (sS r g)).snd (gD (iC hr g))
theorem Jo {A D x c d : Int} (hD : 0 < D) (hq : Pq (c, d)) :
  Fr.mk ((Fr.mk A D).1 * (Fr.mk (x * c) (1 * d)).2 + (Fr.mk (x * c) (1 * d)).1 * (Fr.mk A D).2) ((Fr.mk A D).2 * (Fr.mk (x * c) (1 * d)).2) = Fr.mk (stp (A, D) (x, (c, d))).1 (stp (A, D) (x, (c, d))).2 := by
 have hd : 0 < 1 * d := by have := hq.pos; simp only at this; omega
 rw [Fr.mk_add hD hd]
 unfold stp
 simp only [Int.one_mul]
def ones (qs : List (Int × Int)) : List (Int × (Int × Int)) := qs.map fun q => (1, q)
def dD (qs : List (Int × Int)) (n : Nat) : Bool := decide (qs.length = n) && (qs.all fun q => decide (0 <= q.1)) && decide (Fr.mk (acc (ones qs)).1 (acc (ones qs)).2 = (1, 1))
theorem Hq {qs : List (Int × Int)} (g : GQ qs) : GX (ones qs) := fun x hx => by
 obtain ⟨q, hq, rfl⟩ := List.mem_map.mp hx
 exact ⟨show Sz 9 1 from by unfold Sz; decide, g.pr q hq, g.s1 q hq, g.s2 q hq⟩
theorem m5 : ∀ qs : List (Int × Int), (qs.map fun _ => (1 : Int)).zip qs = ones qs
 | [] => rfl
 | q :: qs => by
  have h := m5 qs
  show (1, q) :: (qs.map fun _ => (1 : Int)).zip qs = (1, q) :: ones qs
  rw [h]
def ltQ (p q : Int × Int) : Bool := decide (p.1 * q.2 < q.1 * p.2)
theorem yC (S : Int) (hS : 0 < S) : ∀ (r ws : List Int), (acc (r.zip (mks ws S))).1 * S = Fr.dot r ws * (acc (r.zip (mks ws S))).2 := by
 have go : ∀ (r ws : List Int) (a : Int × Int) (d : Int), a.1 * S = d * a.2 -> ((r.zip (mks ws S)).foldl stp a).1 * S = (d + Fr.dot r ws) * ((r.zip (mks ws S)).foldl stp a).2 := by
  intro r
  induction r with
  | nil =>
   intro ws a d h
   have e : Fr.dot [] ws = 0 := by cases ws <;> rfl
   rw [e]
   simpa using h
  | cons x r ih =>
   intro ws a d h
   cases ws with
   | nil =>
    show a.1 * S = (d + 0) * a.2
    rw [Int.add_zero]; exact h
   | cons w ws =>
    show ((r.zip (mks ws S)).foldl stp (stp a (x, Fr.mk w S))).1 * S = _
    have hr := Fr.mk_ratio (a := w) hS
    rw [ih ws (stp a (x, Fr.mk w S)) (d + x * w) ?_]
    ·show (d + x * w + Fr.dot r ws) * _ = (d + (x * w + Fr.dot r ws)) * _
     rw [Int.add_assoc]
     rfl
    ·unfold stp
     simp only
     generalize Fr.mk w S = q at hr
     grind
 intro r ws
 have := go r ws (0, 1) 0 (by simp)
 rw [Int.zero_add] at this
 exact this
theorem I_ {ws : List Int} {S : Int} (hS : 0 < S) (h1 : ∀ x ∈ ws, Sz 60 x) (h2 : Sz 60 S) (hl : ws.length <= 8) : GQ (mks ws S) := by
 refine ⟨fun q hq => ?_, fun q hq => ?_, fun q hq => ?_, by rw [cQ]; exact hl⟩
 ·obtain ⟨x, _, rfl⟩ := List.mem_map.mp hq
  exact Pq.of hS
 ·obtain ⟨x, hx, rfl⟩ := List.mem_map.mp hq
  exact (h1 x hx).fst hS
 ·obtain ⟨x, hx, rfl⟩ := List.mem_map.mp hq
  exact h2.snd hS
theorem bR {r ws : List Int} {S : Int} (hS : 0 < S) (hr : ∀ x ∈ r, Sz 9 x) (g : GQ (mks ws S)) : aZ r (mks ws S) = Fr.mk (Fr.dot r ws) S := by
 unfold aZ
 exact Fr.mk_cross (gD (iC hr g)) hS (yC S hS r ws)
theorem mF : ∀ ws : List Int, Fr.dot (ws.map fun _ => 1) ws = ws.sum
 | [] => rfl
 | w :: ws => by
  show 1 * w + Fr.dot (ws.map fun _ => 1) ws = _
  rw [mF ws, List.sum_cons]; omega
theorem pY {ws : List Int} {S : Int} {n : Nat} (hS : 0 < S) (g : GQ (mks ws S)) (hl : ws.length = n) (hn : ∀ x ∈ ws, 0 <= x) (hs : ws.sum = S) : dD (mks ws S) n = true := by
 unfold dD
 have e1 : (mks ws S).length = n := by rw [cQ, hl]
 have e2 : ((mks ws S).all fun q => decide (0 <= q.1)) = true := by
  rw [List.all_eq_true]
  intro q hq
  obtain ⟨x, hx, rfl⟩ := List.mem_map.mp hq
  exact decide_eq_true (Fr.mk_nonneg hS (hn x hx))
 have e3 : Fr.mk (acc (ones (mks ws S))).1 (acc (ones (mks ws S))).2 = (1, 1) := by
  rw [<- Fr.mk_self hS]
  refine Fr.mk_cross (gD (Hq g)) hS ?_
  rw [<- m5]
  have e : ((mks ws S).map fun _ => (1 : Int)) = ws.map fun _ => 1 := by unfold mks; rw [List.map_map]; rfl
  rw [e, yC S hS, mF, hs]
 rw [decide_eq_true e1, e2, decide_eq_true e3]
 rfl
theorem sz9 {x : Int} (h : -200 <= x /\ x <= 200) : Sz 9 x := by
 show x.natAbs < 512
 omega
theorem IsFr.inj {H : Hp} {v : V} {p q : Int × Int} (h : IsFr H v p) (k : IsFr H v q) : p = q := by
 obtain ⟨a, rfl, e⟩ := h
 obtain ⟨b, eb, f⟩ := k
 cases eb
 rw [e] at f
 simp at f
 exact Prod.ext f.1 f.2
theorem IsFr.at {l : Addr} {H : Hp} {v : V} {q : Int × Int} {xs : List V} {o : HO} (hl : H l = some (.lst xs)) (h : IsFr H v q) : IsFr (upd H l o) v q := by
 obtain ⟨b, e, z⟩ := h
 exact ⟨b, e, by rw [aH (jj z hl (by intro z; cases z))]; exact z⟩
end L2
namespace PySem
theorem Paired.drop1 {α β : Type} {F : α -> β -> Prop} : ∀ {l : List α} {r : List β}, Paired F l r -> Paired F (l.drop 1) (r.drop 1)
 | _, _, .nil => .nil
 | _, _, .cons _ t => t
end PySem
namespace L2
open PySem PySem.Spec PyProof.Rows
theorem IsTab.drop1 {H : Hp} {p : Addr} {vs : List V} {M : List (List Int)} (hp : H p = none) (h : Paired (IsRow H) vs M) : IsTab (upd H p (.lst (vs.drop 1))) p (M.drop 1) :=
 ⟨_, aq, h.drop1.imp2 fun _ _ z => z.mono (ak hp)⟩
structure Isi (K : PySem.W.Frag) (C : Addr) : Prop where
 ha : PySem.W.findIn K (.ref C) "__class__" = some (some (.builtin "object.__class__"))
 hn : PySem.W.specialIn K (.builtin "object.__class__") "__get__" = some (some (.builtin "getset_descriptor.__get__"))
 htk : PySem.W.takesIn K (.builtin "object.__class__") = some true
 hm : PySem.W.mroIn K C (.type "object") = some true
theorem Isi.ty {K : PySem.W.Frag} {C a dx : Addr} {fs : List (Str × V)} {H : Hp} (i : Isi K C) (c : Cls K C) (e : H a = some (.ins C dx fs)) : TyOf K H (.ref a) (.ref C) := .ins e c i.ha i.hn i.htk i.hm
def GR (K : PySem.W.Frag) : List V -> Hp -> VK -> Prop := fun xs H Q => ∃ x t c b, xs = [x, .ref c] /\ TyOf K H x t /\ PySem.W.kitOne K t (.ref c) = some b /\ Q (.bl b) H
theorem xj {X : Cx} : CallR X (.builtin "isinstance") (GR X.K) := by
 intro pins s σ H xs us Q I r h
 obtain ⟨x, t, c, b, rfl, ty, e, q⟩ := h
 cases r with
 | cons r1 rr =>
  cases rr with
  | cons r2 rr =>
   cases rr
   cases r2
   exact uM I r1 ty e fun tk => ⟨.bl b, H, I.tok _, rfl, q⟩
theorem Bq {X : Cx} (K : PySem.W.Frag) (h : X.K = K := by rfl) : CallR X (.builtin "isinstance") (GR K) := by subst h; exact xj
theorem peC {X : Cx} {x : Str} {a : Addr} {pos : Pos} (hm : X.mg x = some (.ref a)) (hg : Gl X x) (hd : (x == ("__debug__" : Str)) = false := by decide) : PE X (.Name x pos) (tC (.ref a)) := zW hg hm rfl hd
end L2
set_option Elab.async false
set_option linter.all false
set_option maxRecDepth 100000
namespace L2
open PySem PySem.Spec PyProof.Rows
section
variable {X : Cx}
def Jh : V -> List V -> Hp -> VK -> Prop := fun x vs H Q => ∃ (l : Addr) (ns : List Int) (k : Int), x = .ref l /\ vs = [.int k] /\ H l = some (.lst (ns.map V.int)) /\ k ∈ ns /\ Q (.int (ns.idxOf k : Nat)) H
theorem Gu : MtM X "list.index" Jh := by
 intro pins s σ H x vs v us Q I rx rv h
 obtain ⟨l, ns, k, rfl, rfl, hH, hk, q⟩ := h
 cases rx
 obtain ⟨u, rfl, ru⟩ := rv.one
 obtain ⟨t, rfl⟩ := ru
 obtain ⟨z, its, n, r, hl, e⟩ := I.lstM hH
 have hi := intsAre_of r
 have hlen := hi.length
 have hj : ns.idxOf k < ns.length := List.idxOf_lt_length_iff.mpr hk
 have hn := oU
 refine call_meets F.slot_list_index ⟨_, e, rfl⟩ F.entry_list_index (F.args_list_index_2 _ _)
  (MeetsSeq.list_index l its.toArray n (.int k t) (isInt k) (fun y hy => eq_isInt k t hi y (by simpa using hy)) (ns.idxOf k) (by rw [List.size_toArray]; omega) (by rw [List.length_map] at z; omega) ?_ ?_) ⟨e, .int (ns.idxOf k : Nat), H, I.tok _, ⟨_, rfl⟩, q⟩
 ·show isInt k its[ns.idxOf k] = true
  rw [isInt_at k hi _ (by omega) hj]
  simpa using List.getElem_idxOf hj
 ·intro j hjs hlt
  show isInt k its[j] = false
  rw [isInt_at k hi j (by simpa using hjs) (by omega)]
  exact ne_of_lt_idxOf hlt _
def Hc : V -> List V -> Hp -> VK -> Prop := fun x vs H Q => ∃ (l : Addr) (ns : List Int) (k : Int), x = .ref l /\ vs = [.int k] /\ H l = some (.lst (ns.map V.int)) /\ k ∈ ns /\ Q .non (upd H l (.lst ((ns.map V.int).eraseIdx (ns.idxOf k))))
theorem CJ : MtM X "list.remove" Hc := by
 intro pins s σ H x vs v us Q I rx rv h
 obtain ⟨l, ns, k, rfl, rfl, hH, hk, q⟩ := h
 cases rx
 obtain ⟨u, rfl, ru⟩ := rv.one
 obtain ⟨t, rfl⟩ := ru
 obtain ⟨z, its, n, r, hl, e⟩ := I.lstM hH
 have hi := intsAre_of r
 have hlen := hi.length
 have hj : ns.idxOf k < ns.length := List.idxOf_lt_length_iff.mpr hk
 refine call_meets F.slot_list_remove ⟨_, e, rfl⟩ F.entry_list_remove (F.args_list_remove_2 _ _)
  (MeetsSeq.list_remove l its.toArray n (.int k t) (isInt k) (fun y hy => eq_isInt k t hi y (by simpa using hy)) (ns.idxOf k) (by rw [List.size_toArray]; omega) ?_ ?_ (by rw [List.size_toArray]; omega)) ⟨e, ?_⟩
 ·show isInt k its[ns.idxOf k] = true
  rw [isInt_at k hi _ (by omega) hj]
  simpa using List.getElem_idxOf hj
 ·intro j hjs hlt
  show isInt k its[j] = false
  rw [isInt_at k hi j (by simpa using hjs) (by omega)]
  exact ne_of_lt_idxOf hlt _
 ·refine ⟨.non, _, I.lset (its' := its.eraseIdx (ns.idxOf k)) hH e ?_ (r.eraseIdx (ns.idxOf k)) ?_, rfl, q⟩
  ·show its.toArray.eraseIdxIfInBounds (ns.idxOf k) = (its.eraseIdx (ns.idxOf k)).toArray
   rw [List.eraseIdxIfInBounds_toArray]
  ·have := vq (ns.map V.int) (ns.idxOf k)
   omega
theorem rK : ∀ (l : List Value) (off : Nat), (∀ j v, l[j]? = some v -> ∃ t, v = Value.int ((off + j : Nat) : Int) t) -> Vals ((List.range' off l.length).map fun (i : Nat) => V.int i) l
 | [], _, _ => .nil
 | v :: l, off, h => by
  have h0 := h 0 v rfl
  have ih := rK l (off + 1) fun j u hj => by
   have := h (j + 1) u hj
   rw [show off + 1 + j = off + (j + 1) by omega]
   exact this
  show Vals (V.int (off : Nat) :: ((List.range' (off + 1) l.length).map fun (i : Nat) => V.int i)) (v :: l)
  exact .cons h0 ih
def J2 (ta : TA) : TE := fun σ H Q => ta σ H fun vs H1 => ∃ n : Nat, vs = [.int n] /\ n <= 1000 /\ ∀ l, H1 l = none -> Q (.ref l) (upd H1 l (.lst ((List.range n).map fun (i : Nat) => V.int i)))
theorem j4 {a : Expr} {ta : TA} {p p' pos pos' : Pos} (hc : X.calm = true) (hl : Gl X "list") (ml : X.mg "list" = none) (hg : Gl X "range") (hm : X.mg "range" = none) (ha : PA X [a] ta) (hs : starEach [a] X.env = [(false, eval a X.env)] := by rfl) :
  PE X (.Call (.Name "list" p) [.Call (.Name "range" p') [a] [] pos'] [] pos) (J2 ta) := by
 intro pins s σ H Q I h
 refine wpAny_Call_Name_kw (iD I hl ml dj ?_)
 refine PyProof.Rows.callWith_type1 ?_ rfl rfl
 show wpAny _ _ (spliced ((false, eval (.Call (.Name "range" p') [a] [] pos') X.env) :: [])) _ _ s
 refine Calls.spliced_cons ?_
 refine Call_ (iD I hg hm boot_range (PyProof.Rows.callWith_type1 (thn (ha pos' pins s σ H _ I h) fun us s1 ⟨vs, H1, I1, r1, q1⟩ => ?_) hs rfl))
 obtain ⟨n, e, hn, q⟩ := q1
 subst e
 cases r1 with
 | cons r rr =>
  cases rr
  obtain ⟨t, rfl⟩ := r
  refine call_range_1 ?_
  refine Calls.spliced_nil ?_
  have I2 : Inv X pins σ H1 { s1 with heap := s1.heap.push { cls := .type "range", data := .fields #[.int 0 s1.toks, .int (n : Int) t, .int 1 (s1.toks + 1)] }, toks := s1.toks + 1 + 1 } := I1.kept fun b o e => Heap.get?_push_of_some _ e
  refine call_list_range (n := n) (I2.ok.hd hc) (IsRange.new ..) (small_one (by decide) (by decide) (by omega) (by omega)) (by rw [rangeSize_one]; split <;> omega) (by omega) fun h' tk acc' c' kp e hacc => ?_
  obtain ⟨hsz, hat⟩ := hacc
  have hv : Vals ((List.range n).map fun (i : Nat) => V.int i) acc'.toList := by
   have := rK acc'.toList 0 fun j v hj => by
    obtain ⟨t, rfl⟩ := hat j v (by rw [<- Array.getElem?_toList]; exact hj)
    exact ⟨t, by congr 1; simp⟩
   rw [Array.length_toList, hsz, <- List.range_eq_range'] at this
   exact this
  refine ⟨.ref _, _, I2.laid (t' := tk) kp (Nat.le_refl _) (show ObjOk X.prog X.w _ h' _ (.lst ((List.range n).map fun (i : Nat) => V.int i)) from ⟨?_, acc'.toList, c', hv, e⟩), rfl, q _ (I2.hok.fresh (Nat.le_refl _))⟩
  rw [List.length_map, List.length_range]
  exact Nat.le_trans hn (by decide)
end
end L2
set_option Elab.async false
set_option linter.all false
set_option maxRecDepth 100000
set_option maxHeartbeats 4000000
namespace K10
open PySem L2
def top (i : Nat) : Stmt := PySem.Challenge.pw_unseen_k10_whole_struck.main.body.getD i (.Pass ⟨0, 0, 0, 0⟩)
structure Blt (mg : Str -> Option Value) : Prop where
 LEAST_NUMBER : ∃ t, mg "LEAST_NUMBER" = some (.int (-100) t)
 MOST_CARDS : ∃ t, mg "MOST_CARDS" = some (.int (4) t)
 MOST_NUMBER : ∃ t, mg "MOST_NUMBER" = some (.int (100) t)
 abs_ : mg "abs" = none
 all_ : mg "all" = none
 any_ : mg "any" = none
 bool_ : mg "bool" = none
 enumerate_ : mg "enumerate" = none
 int_ : mg "int" = none
 isinstance_ : mg "isinstance" = none
 len_ : mg "len" = none
 list_ : mg "list" = none
 range_ : mg "range" = none
 tuple_ : mg "tuple" = none
 zip_ : mg "zip" = none
def A_ (K : PySem.W.Frag) : Sp := fun vs H Q _ => ∃ (a : Addr) (ns : List Int) (k : Int), vs = [.ref a, .int k] /\ SqL K H a (ns.map V.int) /\ 0 <= k /\ Q (.int (ns.getD k.toNat 0)) H
def uy : Sp := fun vs H Q _ => ∃ c k m : Int, vs = [.int c, .int k, .int m] /\ 0 < m /\ Q (.int (Fr.draw c k m)) H
def p8 : Sp := fun vs H Q _ => ∃ i : Int, vs = [.int i] /\ Q (.bl true) H
def vC : Sp := fun vs H Q _ => ∃ i : Int, vs = [.int i] /\ -100 <= i /\ i <= 100 /\ Q (.bl true) H
def Cu : Sp := fun vs H Q _ => ∃ (a : Addr) (r : List Int), vs = [.ref a] /\ H a = some (.lst (r.map V.int)) /\ 1 <= r.length /\ r.length <= 4 /\ (∀ x ∈ r, -100 <= x /\ x <= 100) /\ ∀ H', Same H H' -> Q (.bl true) H'
def vX : Sp := fun vs H Q _ => ∃ (a : Addr) (T : List (List Int)) (m n : Nat), vs = [.ref a] /\ IsTab H a T /\ Good T m n /\ ∀ H', Same H H' -> Q (.bl true) H'
def qe : Sp := fun vs H Q _ => ∃ (a : Addr) (T : List (List Int)) (m n : Nat), vs = [.ref a] /\ IsTab H a T /\ Good T m n /\ ∀ H', Same H H' -> Q .non H'
def vz : Sp := fun vs H Q _ => ∃ (c : Int) (m n : Nat), vs = [.int c, .int m, .int n] /\ 1 <= m /\ m <= 4 /\ 1 <= n /\ n <= 4 /\ ∀ a T H', Same H H' -> IsTab H' a T -> Good T m n -> Q (.ref a) H'
def KC : Sp := fun vs H Q _ => ∃ c : Int, vs = [.int c] /\ ∀ (p : Addr) (m n : Nat) H', 1 <= m -> m <= 4 -> 1 <= n -> n <= 4 -> Same H H' -> H' p = some (.tup [.int m, .int n]) -> Q (.ref p) H'
def qZ (K : PySem.W.Frag) : Sp := fun vs H Q _ => ∃ (a : Addr) (ns : List Int), vs = [.ref a] /\ SqL K H a (ns.map V.int) /\ ns.length <= 63 /\ ∀ H', Q (.bl true) H'
section
variable {P : Program} {w : World} {K : PySem.W.Frag} {mg : Str -> Option Value} {base : Heap}
abbrev mK : Stmt := top 2
theorem zr : FnScope ["thing"] ["thing"] (aC mK) := ⟨rfl, rfl, rfl, by decide +kernel, rfl, by decide +kernel, by decide +kernel⟩
theorem zN (F : FunM K mg "is_whole" mK ["thing"]) (T : Blt mg) : Def P w K mg base "is_whole" ["thing"] 1 p8 := by
 have S := zr
 refine Def.of F S (fun vs H Q E h => ?_) (fun f cdv A outer s H vs Q E hr h => ?_)
 ·obtain ⟨i, rfl, _⟩ := h
  rfl
 ·obtain ⟨i, rfl, k⟩ := h
  refine ⟨_, (aB (aN (oh (aM (mJ K) (by rfl) T.isinstance_ bD (aa (pv 0) (aa (eU (v := .ty "int") rfl T.int_ Dz rfl) ao aj) aj) (he := aj)) (lF (rm (aM (mJ K) (by rfl) T.isinstance_ bD (aa (pv 0) (aa (eU (v := .ty "bool") rfl T.bool_ Ac rfl) ao aj) aj) (he := aj))))))), ?_⟩
  refine ⟨_, rfl, _, _, _, _, rfl, TyOf.int i, rfl, _, rfl, ?_⟩
  refine d_ ?_
  exact ⟨_, rfl, _, _, _, _, rfl, TyOf.int i, rfl, _, rfl, k⟩
abbrev km : Stmt := top 30
theorem w6 : FnScope ["number"] ["number"] (aC km) := ⟨rfl, rfl, rfl, by decide +kernel, rfl, by decide +kernel, by decide +kernel⟩
theorem xx (F : FunM K mg "is_within" km ["number"]) (T : Blt mg) : Def P w K mg base "is_within" ["number"] 1 vC := by
 have S := w6
 refine Def.of F S (fun vs H Q E h => ?_) (fun f cdv A outer s H vs Q E hr h => ?_)
 ·obtain ⟨i, rfl, _⟩ := h
  rfl
 ·obtain ⟨i, rfl, h1, h2, k⟩ := h
  refine ⟨_, (aB (aN (Gp mX mX (peI T.LEAST_NUMBER rfl) (pv 0) (peI T.MOST_NUMBER rfl)))), ?_⟩
  refine ⟨_, rfl, _, _, rfl, rfl, _, rfl, ?_⟩
  refine ifP (decide_eq_true h1) ?_
  exact ⟨_, _, rfl, rfl, Hh h2 k⟩
abbrev p_ : Stmt := top 31
theorem DX : FnScope ["thing"] ["thing"] (aC p_) := ⟨rfl, rfl, rfl, by decide +kernel, rfl, by decide +kernel, by decide +kernel⟩
theorem D_ (F : FunM K mg "is_row" p_ ["thing"]) (T : Blt mg) (eY : Def P w K mg base "is_whole" ["thing"] 1 p8) (kW : Def P w K mg base "is_within" ["number"] 1 vC) : Def P w K mg base "is_row" ["thing"] 2 Cu := by
 have S := DX
 refine Def.of F S (fun vs H Q E h => ?_) (fun f cdv A outer s H vs Q E hr h => ?_)
 ·obtain ⟨a, r, rfl, _⟩ := h
  rfl
 ·obtain ⟨a, r, rfl, ha, h1, h4, hn, k⟩ := h
  refine ⟨_, (aA (bB (PW.pt (fJ (cX (bG (aM (mJ K) (by rfl) T.isinstance_ bD (aa (pv 0) (aa (eU (v := .ty "list") rfl T.list_ dj rfl) ao aj) aj) (he := aj)))) (fY (cX (lX mX mX au (aM (bK K) (by rfl) T.len_ bj (aa (pv 0) ao aj) (he := aj)) (peI T.MOST_CARDS rfl))))))
    (aB (aN fu)) aY)
   (aB (aN (aM (uE K) (by rfl) T.all_ lA (aa (aX rfl (N' := ["number"]) (src := [none]) rfl (piL K (pv 0)) (fun _ _ _ _ _ => (aG (i := 0) (show (["number"] : List Str).Nodup from by decide +kernel) rfl (Or.inl rfl))) (fun _ _ _ _ _ => aW) (fun _ _ _ _ _ => (oh (aF eY (hr.mono (by decide)) rfl (aa (pv 0) ao aj) (he := aj)) (lF (aF kW (hr.mono (by decide)) rfl (aa (pv 0) ao aj) (he := aj)))))) ao aU) (he := aU))))), ?_⟩
  refine ⟨_, rfl, _, _, _, _, rfl, TyOf.lst ha, rfl, _, rfl, ?_⟩
  refine cD ?_
  refine ⟨_, rfl, a, _, rfl, .inl (SqL.of ha), _, _, rfl, rfl, _, rfl, ?_⟩
  have hl : (r.map V.int).length = r.length := List.length_map ..
  refine ifP (decide_eq_true (by rw [hl]; omega)) ?_
  refine ⟨_, _, rfl, rfl, _, rfl, ?_⟩
  refine G6 (by rw [hl]; omega) ?_
  refine ⟨_, rfl, a, rfl, ⟨_, SqL.of ha⟩, bu (xs := r.map V.int) (fun _ y _ => y = .bl true) (fun _ _ _ _ _ h => h) (SqL.of ha) (by rw [hl]; exact Nat.le_of_lt (aJ (by omega))) ?_ ?_⟩
  ·intro x hx H1 s1 Q' q
   obtain ⟨i, hi, rfl⟩ := List.mem_map.mp hx
   refine ⟨_, rfl, i, rfl, _, rfl, ?_⟩
   refine d_ ?_
   exact ⟨_, rfl, i, rfl, (hn i hi).1, (hn i hi).2, q _ H1 (Same.refl _) rfl⟩
  ·intro ys H' s' p q hq
   have e := jW p
   subst e
   refine ⟨q, _, rfl, SqL.of aq, ?_⟩
   rw [qP]
   exact k _ (s'.trans (ak hq))
abbrev m_ : Stmt := top 32
theorem zx : FnScope ["thing"] ["thing"] (aC m_) := ⟨rfl, rfl, rfl, by decide +kernel, rfl, by decide +kernel, by decide +kernel⟩
theorem zj (F : FunM K mg "is_table" m_ ["thing"]) (T : Blt mg) (qy : Def P w K mg base "is_row" ["thing"] 2 Cu) : Def P w K mg base "is_table" ["thing"] 3 vX := by
 have S := zx
 refine Def.of F S (fun vs H Q E h => ?_) (fun f cdv A outer s H vs Q E hr h => ?_)
 ·obtain ⟨a, r, m, n, rfl, _⟩ := h
  rfl
 ·obtain ⟨a, U, m, n, rfl, ⟨vs, ha, hp⟩, g, k⟩ := h
  have hl : vs.length = m := by rw [hp.length, g.rows]
  have m1 := g.m1
  have m4 := g.m4
  have n1 := g.n1
  have n4 := g.n4
  refine ⟨_, (aA (bB (PW.pt (fJ (cX (bG (aM (mJ K) (by rfl) T.isinstance_ bD (aa (pv 0) (aa (eU (v := .ty "list") rfl T.list_ dj rfl) ao aj) aj) (he := aj)))) (fY (cX (lX mX mX au (aM (bK K) (by rfl) T.len_ bj (aa (pv 0) ao aj) (he := aj)) (peI T.MOST_CARDS rfl))))))
    (aB (aN fu)) aY)
   (aA (bB (cX (bG (aM (uE K) (by rfl) T.all_ lA (aa (aX rfl (N' := ["row"]) (src := [none]) rfl (piL K (pv 0)) (fun _ _ _ _ _ => (aG (i := 0) (show (["row"] : List Str).Nodup from by decide +kernel) rfl (Or.inl rfl))) (fun _ _ _ _ _ => aW) (fun _ _ _ _ _ => (aF qy (hr.mono (by decide)) rfl (aa (pv 0) ao aj) (he := aj)))) ao aU) (he := aU))))
    (aB (aN fu)) aY)
   (aB (aN (aM (uE K) (by rfl) T.all_ lA (aa (aX rfl (N' := ["row", "thing"]) (src := [none, some 0]) rfl (piL K (pv 0)) (fun _ _ _ _ _ => (aG (i := 0) (show (["row", "thing"] : List Str).Nodup from by decide +kernel) rfl (Or.inl rfl))) (fun _ _ _ _ _ => aW) (fun _ _ _ _ _ => (dF fG (aM (bK K) (by rfl) T.len_ bj (aa (pv 0) ao aj) (he := aj)) (aM (bK K) (by rfl) T.len_ bj (aa (aP (ixL K) (pv 1) au (fun _ _ => rfl)) ao aK) (he := aK)) (bf _)))) ao aU) (he := aU)))))), ?_⟩
  refine ⟨_, rfl, _, _, _, _, rfl, TyOf.lst ha, rfl, _, rfl, ?_⟩
  refine cD ?_
  refine ⟨_, rfl, a, _, rfl, .inl (SqL.of ha), _, _, rfl, rfl, _, rfl, ?_⟩
  refine ifP (decide_eq_true (by rw [hl]; omega)) ?_
  refine ⟨_, _, rfl, rfl, _, rfl, ?_⟩
  refine G6 (by rw [hl]; omega) ?_
  refine ⟨_, rfl, a, rfl, ⟨_, SqL.of ha⟩, bu (xs := vs) (fun _ y _ => y = .bl true) (fun _ _ _ _ _ h => h) (SqL.of ha) (by rw [hl]; exact Nat.le_of_lt (aJ (by omega))) ?_ ?_⟩
  ·intro x hx H1 s1 Q' q
   obtain ⟨r, hr', b, rfl, hb⟩ := hp.mem2 hx
   exact ⟨_, rfl, b, r, rfl, s1 _ _ hb, by rw [g.cols r hr']; exact n1, by rw [g.cols r hr']; exact n4, g.num r hr', fun H2 s2 => q _ H2 s2 rfl⟩
  ·intro ys H' s' p q hq
   have e := jW p
   subst e
   refine ⟨q, _, rfl, SqL.of aq, ?_⟩
   rw [qP]
   refine ⟨_, rfl, ?_⟩
   refine cD ?_
   have s2 := s'.trans (ak (o := .lst ((List.replicate vs.length true).map V.bl)) hq)
   have ha2 := s2 _ _ ha
   refine ⟨_, rfl, a, rfl, ⟨_, SqL.of ha2⟩, bu (xs := vs) (fun _ y _ => y = .bl true) (fun _ _ _ _ _ h => h) (SqL.of ha2) (by rw [hl]; exact Nat.le_of_lt (aJ (by omega))) ?_ ?_⟩
   ·intro x hx H1 s1 Q' q'
    obtain ⟨r, hr', b, rfl, hb⟩ := hp.mem2 hx
    have h0 : 0 < vs.length := by omega
    obtain ⟨r0, er0, b0, eb0, hb0⟩ := hp.get2 (List.getElem?_eq_getElem h0)
    have s3 := s2.trans s1
    refine ⟨_, rfl, b, _, rfl, .inl (SqL.of (s3 _ _ hb)), _, rfl, a, vs, 0, _, rfl, rfl, SqL.of (s3 _ _ ha), eQ h0, b0, _, (by rw [eb0]), .inl (SqL.of (s3 _ _ hb0)), rfl, ?_⟩
    refine q' _ H1 (Same.refl _) (congrArg V.bl (decide_eq_true ?_))
    rw [List.length_map, List.length_map, g.cols r hr', g.cols r0 (List.mem_of_getElem? er0)]
   ·intro ys H3 s3 p q2 hq2
    have e := jW p
    subst e
    refine ⟨q2, _, rfl, SqL.of aq, ?_⟩
    rw [qP]
    exact k _ ((s2.trans s3).trans (ak hq2))
abbrev i_ : Stmt := top 33
theorem tU : FnScope ["thing"] ["thing"] (aC i_) := ⟨rfl, rfl, rfl, by decide +kernel, rfl, by decide +kernel, by decide +kernel⟩
theorem uA (F : FunM K mg "check_table" i_ ["thing"]) (T : Blt mg) (m6 : Def P w K mg base "is_table" ["thing"] 3 vX) : Def P w K mg base "check_table" ["thing"] 4 qe := by
 have S := tU
 refine Def.of F S (fun vs H Q E h => ?_) (fun f cdv A outer s H vs Q E hr h => ?_)
 ·obtain ⟨a, r, m, n, rfl, _⟩ := h
  rfl
 ·obtain ⟨a, U, m, n, rfl, hU, g, k⟩ := h
  refine ⟨_, (aB (bB (cX (bG (aF m6 (hr.mono (by decide)) rfl (aa (pv 0) ao aj) (he := aj))))
    (aB qD) aY)), ?_⟩
  refine ⟨_, rfl, a, U, m, n, rfl, hU, g, fun H' s' => ⟨_, rfl, ?_⟩⟩
  refine cD ?_
  exact k H' s'
abbrev gQ : Stmt := top 61
theorem qQ : FnScope ["_law_script", "_law_k"] ["_law_script", "_law_k"] (aC gQ) := ⟨rfl, rfl, rfl, by decide +kernel, rfl, by decide +kernel, by decide +kernel⟩
theorem sH (F : FunM K mg "_law_cell_at" gQ ["_law_script", "_law_k"]) (T : Blt mg) : Def P w K mg base "_law_cell_at" ["_law_script", "_law_k"] 1 (A_ K) := by
 have S := qQ
 refine Def.of F S (fun vs H Q E h => ?_) (fun f cdv A outer s H vs Q E hr h => ?_)
 ·obtain ⟨a, ns, k, rfl, _⟩ := h
  rfl
 ·obtain ⟨a, ns, k, rfl, hS, hk, q⟩ := h
  refine ⟨_, (aA (bB (bh jY (pv 1) (aM (bK K) (by rfl) T.len_ bj (aa (pv 0) ao aj) (he := aj)) (bf _))
    (aB (aN (aP (ixL K) (pv 0) (pv 1) (fun _ _ => rfl)))) aY)
   (aB (aN au))), ?_⟩
  refine ⟨_, rfl, _, rfl, _, _, rfl, .inl hS, _, _, rfl, rfl, _, rfl, ?_⟩
  refine mY (fun hlt => ?_) (fun hge => ?_)
  ·have hlt' : k < (ns.length : Int) := by simpa using hlt
   have hn : k.toNat < ns.length := by omega
   have e : ns.getD k.toNat 0 = ns[k.toNat] := by simp [List.getD_eq_getElem?_getD, hn]
   refine ⟨_, rfl, _, rfl, _, _, _, _, rfl, rfl, hS, ?_, q⟩
   unfold atI ixN
   rw [if_pos hk, if_pos (by simpa using hlt')]
   simp [hn, List.getD_eq_getElem?_getD]
  ·have hge' : ¬ k < (ns.length : Int) := by simpa using hge
   have e : ns.getD k.toNat 0 = 0 := by
    rw [List.getD_eq_getElem?_getD, List.getElem?_eq_none (by omega)]
    rfl
   rw [e] at q
   exact q
abbrev j8 : Stmt := top 62
theorem v_ : FnScope ["_law_cell", "_law_k", "_law_many", "_law_mixed"] ["_law_cell", "_law_k", "_law_many"] (aC j8) := ⟨rfl, rfl, rfl, by decide +kernel, rfl, by decide +kernel, by decide +kernel⟩
theorem yV (F : FunM K mg "_law_draw" j8 ["_law_cell", "_law_k", "_law_many"]) (T : Blt mg) : Def P w K mg base "_law_draw" ["_law_cell", "_law_k", "_law_many"] 1 uy := by
 have S := v_
 refine Def.of F S (fun vs H Q E h => ?_) (fun f cdv A outer s H vs Q E hr h => ?_)
 ·obtain ⟨c, k, m, rfl, _⟩ := h
  rfl
 ·obtain ⟨c, k, m, rfl, hm, q⟩ := h
  refine ⟨_, (aA (aO (i := 3) S.nd rfl (Or.inl rfl) (aQ dN (aQ dB (aQ dB (aQ lz (aQ dN (pv 0) au) au) (aQ lz (pv 1) au)) au) au))
   (aB (aN (aQ dN (aQ dN (aQ o_ (aQ lz (pv 3) (pv 3)) au) au) (pv 2))))), ?_⟩
  refine ⟨_, rfl, _, _, rfl, rfl, (by show (0 : Int) < 1000000007; decide), _, _, rfl, rfl, .inr ⟨by decide, by decide⟩, _, rfl, _, _, rfl, rfl, .inr ⟨by decide, by decide⟩, _, _, rfl, rfl, _, _, rfl, rfl, _, _, rfl, rfl, (by show (0 : Int) < 1000000007; decide), ?_⟩
  have h1 := Int.emod_nonneg (c % 1000000007 * 48271 + k * 69621 + 7) (show (1000000007 : Int) ≠ 0 by decide)
  have h2 := Int.emod_lt_of_pos (c % 1000000007 * 48271 + k * 69621 + 7) (show (0 : Int) < 1000000007 by decide)
  exact ⟨_, rfl, _, rfl, _, _, rfl, rfl, .inl ⟨by omega, by omega⟩, _, _, rfl, rfl, ⟨by decide, by decide⟩, _, _, rfl, rfl, (by show (0 : Int) < 1000003; decide), _, rfl, _, _, rfl, rfl, hm, q⟩
abbrev JG : Stmt := top 64
abbrev jG : Stmt := top 63
theorem vP : FnScope ["_law_cell", "_law_rows", "_law_columns", "_law_most", "_law_found", "_law_row", "_law_kind", "_law_less_here"] ["_law_cell", "_law_rows", "_law_columns"] (aC jG) := ⟨rfl, rfl, rfl, by decide +kernel, rfl, by decide +kernel, by decide +kernel⟩
theorem vM (F : FunM K mg "_law_table" jG ["_law_cell", "_law_rows", "_law_columns"]) (T : Blt mg) (cz : Def P w K mg base "_law_draw" ["_law_cell", "_law_k", "_law_many"] 1 uy) : Def P w K mg base "_law_table" ["_law_cell", "_law_rows", "_law_columns"] 2 vz := by
 have S := vP
 refine Def.of F S (fun vs H Q E h => ?_) (fun f cdv A outer s H vs Q E hr h => ?_)
 ·obtain ⟨c, m, n, rfl, _⟩ := h
  rfl
 ·obtain ⟨c, m, n, rfl, m1, m4, n1, n4, k⟩ := h
  refine ⟨_, (aA (aO (i := 3) S.nd rfl (Or.inr rfl) (aP (ixT K) (bz (Hz (.cons (.cons (.cons (.cons .nil)))))) (aF cz (hr.mono (by decide)) rfl (aa (pv 0) (aa au (aa au ao aD) aD) aj) (he := aj)) (fun _ _ => rfl)))
   (aA (aO (i := 4) S.nd rfl (Or.inr rfl) (bO ao))
   (aA (bU PassesOwn.never rfl (cg rfl T.range_ (aa (pv 1) ao aj)) (aG (i := 5) S.nd rfl (Or.inr rfl))
    (aB (cu (g8 PySem.F.plainAttrs_list PySem.F.slot_list_append PySem.F.type_list_append dH (pv 4) (aa (aX rfl (N' := ["_law_k", "_law_cell", "_law_row", "_law_most"]) (src := [none, some 0, some 5, some 3]) rfl (cg rfl T.range_ (aa (pv 2) ao aj)) (fun _ _ _ _ _ => (aG (i := 0) (show (["_law_k", "_law_cell", "_law_row", "_law_most"] : List Str).Nodup from by decide +kernel) rfl (Or.inl rfl))) (fun _ _ _ _ _ => aW) (fun _ _ _ _ _ => (aQ lD (aF cz (hr.mono (by decide)) rfl (aa (aQ dB (aQ dB (pv 1) (aQ lz au (pv 2))) (aQ lz au (pv 0))) (aa au (aa (aQ dB (aQ lz au (pv 3)) au) ao bA) aD) bA) (he := bA)) (pv 3)))) ao aU)))))
   (aA (aO (i := 6) S.nd rfl (Or.inl rfl) (aF cz (hr.mono (by decide)) rfl (aa (pv 0) (aa au (aa au ao aD) aD) aj) (he := aj)))
   (aA (bB (bh fG (pv 6) au (bf _))
    (aB (aO (i := 4) S.nd rfl (Or.inr rfl) (aX rfl (N' := ["_law_row", "_law_found", "_law_columns"]) (src := [none, some 4, some 2]) rfl (cg rfl T.range_ (aa (pv 1) ao aj)) (fun _ _ _ _ _ => (aG (i := 0) (show (["_law_row", "_law_found", "_law_columns"] : List Str).Nodup from by decide +kernel) rfl (Or.inl rfl))) (fun _ _ _ _ _ => aW) (fun _ _ _ _ _ => (aQ dO (b_ (slL K) (aP (ixL K) (pv 1) au (fun _ _ => rfl)) (cG (aQ dN (pv 0) (pv 2))) cI) (b_ (slL K) (aP (ixL K) (pv 1) au (fun _ _ => rfl)) cI (cG (aQ dN (pv 0) (pv 2))))))))) aY)
   (aA (bB (PW.pt (lG (bh fG (pv 6) au (bf _)) (ju (bh pG (pv 1) au (bf _)))))
    (aA (aO (i := 7) S.nd rfl (Or.inr rfl) (aQ lD (aF cz (hr.mono (by decide)) rfl (aa (pv 0) (aa au (aa au ao aD) aD) aj) (he := aj)) au))
   (aB (rC (aX rfl (N' := ["_law_one", "_law_two", "_law_less_here"]) (src := [none, none, some 7]) rfl (pF K rfl T.zip_ (aa (aP (ixL K) (pv 4) au (fun _ _ => rfl)) (aa (aP (ixL K) (pv 4) au (fun _ _ => rfl)) ao aK) aK)) (fun _ _ _ _ _ => (pgT K (n := 2) (a_ (aG (i := 0) (show (["_law_one", "_law_two", "_law_less_here"] : List Str).Nodup from by decide +kernel) rfl (Or.inl rfl)) (a_ (aG (i := 1) (show (["_law_one", "_law_two", "_law_less_here"] : List Str).Nodup from by decide +kernel) rfl (Or.inl rfl)) cH)))) (fun _ _ _ _ _ => aW) (fun _ _ _ _ _ => (aQ lD (aQ o_ (aQ dB (pv 0) (pv 1)) au) (pv 2)))) (CQ (pv 4) au set_list)))) aY)
   (aB (aN (pv 4))))))))), ?_⟩
  have a1 := Fr.draw_nn c 1 (show (0 : Int) < 4 by decide)
  have a2 := Fr.draw_lt c 1 (show (0 : Int) < 4 by decide)
  obtain ⟨v, hv, v1, v2⟩ := Tb.pick4 a1 a2
  refine ⟨(by show 4 <= sizeLine; decide), fun p hp => ⟨_, rfl, _, _, _, rfl, (by decide), p, _, _, _, rfl, rfl, SqT.of aq, hv, ?_⟩⟩
  refine ⟨Nat.zero_le _, fun l hl => ?_⟩
  have hl0 : H l = none := (ak hp).free hl
  have s0 : Same H (upd (upd H p (.tup (([2, 5, 9, 98] : List Int).map V.int))) l (.lst [])) := (ak hp).trans (ak hl)
  refine ⟨_, rfl, _, rfl, by omega, by omega, iH (n := m) (fun i σ H1 => ∃ o5 vs U, σ = [some (.int c), some (.int m), some (.int n), some (.int v), some (.ref l), o5, none, none] /\ Same H H1 /\ H1 l = some (.lst vs) /\ Paired (RowNe l H1) vs U /\ U.length = i /\
    (∀ r ∈ U, r.length = n) /\ ∀ r ∈ U, ∀ x ∈ r, -98 <= x /\ x <= 98)
   ⟨_, [], [], rfl, s0, aq, .nil, rfl, (fun _ h => nomatch h), fun _ h => nomatch h⟩ ?_ ?_⟩
  ·rintro i σ H1 hi ⟨o5, vs, U, rfl, s1, hL, hP, hU, hc, hb⟩
   refine ⟨_, rfl, .inl ⟨rfl, _, SqL.of hL⟩, _, rfl, _, rfl, by omega, by omega, cP (n := n) (fun _ y _ => ∃ x, y = .int x /\ -98 <= x /\ x <= 98) (fun _ _ _ _ _ h => h) (Nat.le_of_lt (aJ (by omega))) ?_ ?_⟩
   ·intro j hj H2 s2 Q' q
    refine ⟨_, rfl, _, rfl, _, _, rfl, rfl, .inl ⟨by decide, by decide⟩, _, _, rfl, rfl, _, rfl, _, _, rfl, rfl, .inl ⟨by decide, by decide⟩, _, _, rfl, rfl, _, rfl, _, _, rfl, rfl, .inl ⟨by decide, by decide⟩, _, _, rfl, rfl, _, _, _, rfl, ?_, _, rfl, _, _, rfl, rfl, q _ H2 (Same.refl _) ⟨_, rfl, ?_⟩⟩
    ·omega
    ·have d1 := Fr.draw_nn (c + 31 * (0 + (i : Int)) + 7 * (j : Int)) 2 (show (0 : Int) < 2 * v + 1 by omega)
     have d2 := Fr.draw_lt (c + 31 * (0 + (i : Int)) + 7 * (j : Int)) 2 (show (0 : Int) < 2 * v + 1 by omega)
     exact ⟨by omega, by omega⟩
   ·intro ys H2 s2 pr q hq
    obtain ⟨r, rfl, rl, rb⟩ := ints_of (fun x => -98 <= x /\ x <= 98) pr
    rw [List.length_range] at rl
    have nql : q ≠ l := fun e => by rw [e, s2 _ _ hL] at hq; cases hq
    have hL2 : upd H2 q (.lst (r.map V.int)) l = some (.lst vs) := by rw [aH (Ne.symm nql)]; exact s2 _ _ hL
    have vl : vs.length = i := by rw [hP.length, hU]
    refine ⟨l, vs, .ref q, rfl, rfl, hL2, aJ (by omega), ?_⟩
    refine ⟨_, vs ++ [.ref q], U ++ [r], rfl, ?_, aq, ?_, ?_, ?_, ?_⟩
    ·exact di ((s1.trans s2).trans (ak hq)) hl0
    ·refine (hP.imp2 fun _ _ z => ?_).app2 (.cons ⟨q, rfl, nql, ?_⟩ .nil)
     ·exact ((z.mono s2).mono (ak hq)).at
     ·rw [aH nql, aq]
    ·rw [List.length_append, hU]; rfl
    ·intro r' hr'
     rcases List.mem_append.mp hr' with z | z
     ·exact hc r' z
     ·rw [List.mem_singleton.mp z]; exact rl
    ·intro r' hr'
     rcases List.mem_append.mp hr' with z | z
     ·exact hb r' z
     ·rw [List.mem_singleton.mp z]; exact rb
  ·rintro σ H1 ⟨o5, vs, U, rfl, s1, hL, hP, hU, hc, hb⟩
   refine ⟨_, rfl, _, _, _, rfl, (by decide), ?_⟩
   refine iG ?_
   refine dR (fun σ' H' => ∃ (l' : Addr) (o5' : Option V) (vs' : List V) (U' : List (List Int)), σ' = [some (.int c), some (.int m), some (.int n), some (.int v), some (.ref l'), o5', some (.int (Fr.draw c 3 5)), none] /\ Same H H' /\ H l' = none /\ H' l' = some (.lst vs') /\ Paired (RowNe l' H') vs' U' /\ U'.length = m /\
    (∀ r ∈ U', r.length = n) /\ ∀ r ∈ U', ∀ x ∈ r, -98 <= x /\ x <= 98) (fun R hR => ?_) ?_
   ·refine ⟨_, rfl, rfl, _, rfl, ?_⟩
    refine mY (fun _ => ?_) (fun _ => hR _ _ ⟨l, o5, vs, U, rfl, s1, hl0, hL, hP, hU, hc, hb⟩)
    have vl : vs.length = m := by rw [hP.length, hU]
    have h0 : 0 < vs.length := by omega
    obtain ⟨r0, er0, b0, eb0, nb0, hb0⟩ := hP.get2 (List.getElem?_eq_getElem h0)
    have r0l := hc r0 (List.mem_of_getElem? er0)
    have r0b := hb r0 (List.mem_of_getElem? er0)
    refine ⟨_, rfl, _, rfl, by omega, by omega, cP (n := m) (fun _ y H' => ∃ r : List Int, OwnRow H1 H' y r /\ r.length = n /\ ∀ x ∈ r, -98 <= x /\ x <= 98) (fun _ _ _ _ z h => let ⟨r, h1, h2⟩ := h; ⟨r, h1.mono z, h2⟩) (Nat.le_of_lt (aJ (by omega))) ?_ ?_⟩
    ·intro j hj H2 s2 Q' q
     have e1 := Int.emod_nonneg (j : Int) (show (n : Int) ≠ 0 by omega)
     have e2 := Int.emod_lt_of_pos (j : Int) (show (0 : Int) < (n : Int) by omega)
     have hlen : (r0.map V.int).length = n := by rw [List.length_map, r0l]
     refine ⟨_, rfl, l, vs, 0, _, rfl, rfl, SqL.of (s2 _ _ hL), eQ h0, _, rfl, _, rfl, _, _, rfl, rfl, (by show (0 : Int) < (n : Int); omega), _, rfl, b0, _, (by rw [eb0]), SqL.of (s2 _ _ hb0), fun q1 hq1 => ?_⟩
     have s3 := s2.trans (ak (o := .lst (bQ (r0.map V.int) (some ((j : Int) % (n : Int))) none)) hq1)
     refine ⟨_, rfl, l, vs, 0, _, rfl, rfl, SqL.of (s3 _ _ hL), eQ h0, _, rfl, _, rfl, _, _, rfl, rfl, (by show (0 : Int) < (n : Int); omega), _, rfl, b0, _, (by rw [eb0]), SqL.of (s3 _ _ hb0), fun q2 hq2 => ?_⟩
     have g1 : upd (upd H2 q1 (.lst (bQ (r0.map V.int) (some ((j : Int) % (n : Int))) none))) q2 (.lst (bQ (r0.map V.int) none (some ((j : Int) % (n : Int))))) q1 = some (.lst (bQ (r0.map V.int) (some ((j : Int) % (n : Int))) none)) := ak hq2 _ _ aq
     have c1 := eN (xs := r0.map V.int) (k := (j : Int) % (n : Int)) e1 (by rw [hlen]; omega)
     have c2 := gr (xs := r0.map V.int) (k := (j : Int) % (n : Int)) e1 (by rw [hlen]; omega)
     have ln : (bQ (r0.map V.int) (some ((j : Int) % (n : Int))) none).length + (bQ (r0.map V.int) none (some ((j : Int) % (n : Int)))).length = n := by
      rw [c1, c2, List.length_drop, List.length_take, hlen]; omega
     refine ⟨q1, q2, _, _, rfl, rfl, g1, aq, (by rw [ln]; exact Nat.le_of_lt (aJ (by omega))), fun q3 hq3 => ?_⟩
     have s5 : Same H2 _ := (ak hq1).trans ((ak hq2).trans (ak (o := .lst (bQ (r0.map V.int) (some ((j : Int) % (n : Int))) none ++ bQ (r0.map V.int) none (some ((j : Int) % (n : Int))))) hq3))
     refine q _ _ s5 ⟨r0.drop ((j : Int) % (n : Int)).toNat ++ r0.take ((j : Int) % (n : Int)).toNat, ⟨q3, rfl, ?_, ?_⟩, ?_, ?_⟩
     ·exact (s2.trans ((ak hq1).trans (ak hq2))).free hq3
     ·rw [aq, c1, c2, List.map_append, List.map_drop, List.map_take]
     ·rw [List.length_append, List.length_drop, List.length_take, r0l]; omega
     ·intro x hx
      rcases List.mem_append.mp hx with z | z
      ·exact r0b x (List.mem_of_mem_drop z)
      ·exact r0b x (List.mem_of_mem_take z)
    ·intro ys H2 s2 pr q hq
     obtain ⟨U', hp', hl', hx'⟩ := Av (fun r => r.length = n /\ ∀ x ∈ r, -98 <= x /\ x <= 98) pr
     rw [List.length_range] at hl'
     refine hR _ _ ⟨q, o5, ys, U', rfl, (s1.trans s2).trans (ak hq), (s1.trans s2).free hq, aq, ?_, hl', fun r hr' => (hx' r hr').1, fun r hr' => (hx' r hr').2⟩
     refine hp'.imp2 fun y r z => ?_
     obtain ⟨b, e, nb, hb'⟩ := z
     exact ⟨b, e, aV hb' hq, ak hq _ _ hb'⟩
   ·rintro σ' H2 ⟨l', o5', vs', U', rfl, s2, hl', hL', hP', hU', hc', hb'⟩
    refine dR (fun σ' H' => ∃ (o7 : Option V) (vs' : List V) (U' : List (List Int)), σ' = [some (.int c), some (.int m), some (.int n), some (.int v), some (.ref l'), o5', some (.int (Fr.draw c 3 5)), o7] /\ Same H H' /\ H' l' = some (.lst vs') /\ Paired (RowNe l' H') vs' U' /\ U'.length = m /\
     (∀ r ∈ U', r.length = n) /\ ∀ r ∈ U', ∀ x ∈ r, -100 <= x /\ x <= 100) (fun R hR => ?_) ?_
    ·have no : R [some (.int c), some (.int m), some (.int n), some (.int v), some (.ref l'), o5', some (.int (Fr.draw c 3 5)), none] H2 :=
      hR _ _ ⟨none, vs', U', rfl, s2, hL', hP', hU', hc', fun r hr' x hx => by have := hb' r hr' x hx; omega⟩
     refine ⟨_, rfl, rfl, _, rfl, ?_⟩
     refine mY (fun _ => ?_) (fun _ => no)
     refine ⟨_, rfl, _, _, rfl, rfl, _, rfl, ?_⟩
     refine mY (fun h2 => ?_) (fun _ => no)
     have m3 : 2 < m := by
      have : (2 : Int) < (m : Int) := by simpa using h2
      omega
     have vl : vs'.length = m := by rw [hP'.length, hU']
     have h0 : 0 < vs'.length := by omega
     have h1 : 1 < vs'.length := by omega
     obtain ⟨r0, er0, b0, eb0, nb0, hb0⟩ := hP'.get2 (List.getElem?_eq_getElem h0)
     obtain ⟨r1, er1, b1, eb1, nb1, hb1⟩ := hP'.get2 (List.getElem?_eq_getElem h1)
     have l0 := hc' r0 (List.mem_of_getElem? er0)
     have l1 := hc' r1 (List.mem_of_getElem? er1)
     have x0 := hb' r0 (List.mem_of_getElem? er0)
     have x1 := hb' r1 (List.mem_of_getElem? er1)
     have d1 := Fr.draw_nn c 4 (show (0 : Int) < 3 by decide)
     have d2 := Fr.draw_lt c 4 (show (0 : Int) < 3 by decide)
     refine ⟨_, rfl, _, _, _, rfl, (by decide), _, _, rfl, rfl, ?_⟩
     refine ⟨_, rfl, l', vs', 0, _, rfl, rfl, SqL.of hL', eQ h0, _, rfl, l', vs', 1, _, rfl, rfl, SqL.of hL', eQ h1, b0, b1, (by rw [eb0, eb1]), ⟨_, SqL.of hb0⟩, ⟨_, SqL.of hb1⟩,
      qp (xs := r0.map V.int) (ys := r1.map V.int) (fun i zs H' => Same H2 H' /\ ∃ r : List Int, zs = r.map V.int /\ r.length = i /\ ∀ x ∈ r, -100 <= x /\ x <= 100) ⟨Same.refl _, [], rfl, rfl, fun _ h => nomatch h⟩ ?_ (by rw [List.length_map]; exact Nat.le_of_lt (aJ (by omega))) ?_ ?_⟩
     ·rintro i zs H3 ⟨s3, r, rfl, rl, _⟩
      exact ⟨SqL.of (s3 _ _ hb0), SqL.of (s3 _ _ hb1), by rw [List.length_map, rl]; exact Nat.le_refl _⟩
     ·rintro i x y p' zs H3 hx hy hp' ⟨s3, r, rfl, rl, rb⟩
      obtain ⟨x', ex, rfl⟩ := List.mem_map.mp (List.mem_of_getElem? hx)
      obtain ⟨y', ey, rfl⟩ := List.mem_map.mp (List.mem_of_getElem? hy)
      have b1 := x0 x' ex
      have b2 := x1 y' ey
      refine ⟨p', _, rfl, SqT.of aq, rfl, _, _, rfl, _, _, rfl, rfl, ?_⟩
      refine yK ?_
      refine ⟨_, rfl, _, rfl, _, _, rfl, rfl, _, _, rfl, rfl, ⟨by decide, by decide⟩, _, rfl, _, _, rfl, rfl, ?_⟩
      refine ⟨s3.trans (ak hp'), r ++ [(x' + y') / 2 - (Fr.draw c 4 3 - 1)], by rw [List.map_append]; rfl, by rw [List.length_append, rl]; rfl, fun z hz => ?_⟩
      rcases List.mem_append.mp hz with q | q
      ·exact rb z q
      ·rw [List.mem_singleton.mp q]
       omega
     ·rintro zs H3 ⟨s3, r, rfl, rl, rb⟩ q hq
      rw [List.length_map, List.length_map, l0, l1, Nat.min_self] at rl
      have nql : q ≠ l' := fun e => by rw [e, s3 _ _ hL'] at hq; cases hq
      have hL3 : upd H3 q (.lst (r.map V.int)) l' = some (.lst vs') := by rw [aH (Ne.symm nql)]; exact s3 _ _ hL'
      refine ⟨_, rfl, l', vs', 2, 2, rfl, rfl, hL3, ?_, ?_⟩
      ·unfold ixN
       rw [if_pos (by decide), if_pos (by omega)]
       rfl
      ·refine hR _ _ ⟨_, vs'.set 2 (.ref q), U'.set 2 r, rfl, ?_, aq, ?_, ?_, ?_, ?_⟩
       ·exact di ((s2.trans s3).trans (ak hq)) hl'
       ·refine Paired.set2 ⟨q, rfl, nql, by rw [aH nql, aq]⟩ 2 (hP'.imp2 fun _ _ z => ((z.mono s3).mono (ak hq)).at)
       ·rw [List.length_set, hU']
       ·intro r' hr'
        rcases List.mem_or_eq_of_mem_set hr' with z | z
        ·exact hc' r' z
        ·rw [z]; exact rl
       ·intro r' hr' x hx
        rcases List.mem_or_eq_of_mem_set hr' with z | z
        ·have := hb' r' z x hx
         omega
        ·rw [z] at hx; exact rb x hx
    ·rintro σ' H3 ⟨o7, vs3, U3, rfl, s3, hL3, hP3, hU3, hc3, hb3⟩
     exact ⟨_, rfl, k l' U3 H3 s3 ⟨vs3, hL3, hP3.imp2 fun _ _ z => z.row⟩ ⟨m1, m4, n1, n4, hU3, hc3, hb3⟩⟩
structure Gd (T : List (List Int)) (m n : Nat) : Prop where
 m1 : 1 <= m
 m4 : m <= 4
 n1 : 1 <= n
 n4 : n <= 4
 rows : T.length = m
 cols : ∀ r ∈ T, r.length = n
 num : ∀ r ∈ T, ∀ x ∈ r, -200 <= x /\ x <= 200
theorem bH {T : List (List Int)} {m n : Nat} (g : Good T m n) : Gd T m n := ⟨g.m1, g.m4, g.n1, g.n4, g.rows, g.cols, fun r hr x hx => by have := g.num r hr x hx; omega⟩
theorem Gd.row {T : List (List Int)} {m n : Nat} (g : Gd T m n) {i : Nat} (hi : i < m) : T.getD i [] ∈ T /\ (T.getD i []).length = n := by
 have h : i < T.length := by rw [g.rows]; exact hi
 have e : T.getD i [] = T[i] := by rw [List.getD_eq_getElem?_getD, List.getElem?_eq_getElem h]; rfl
 rw [e]
 exact ⟨List.getElem_mem h, g.cols _ (List.getElem_mem h)⟩
theorem Gd.sz {T : List (List Int)} {m n : Nat} (g : Gd T m n) {r : List Int} (hr : r ∈ T) : ∀ x ∈ r, Sz 9 x := fun x hx => sz9 (g.num r hr x hx)
def Dn : Sp := fun vs H Q _ => ∃ a b : Int, vs = [.int a, .int b] /\ Q (.int (Int.gcd a b : Int)) H
def lH : Sp := fun vs H Q _ => ∃ a b : Int, vs = [.int a, .int b] /\ 0 < b /\ Sz 4000 b /\ ∀ p, H p = none -> Q (.ref p) (upd H p (.tup [.int (Fr.mk a b).1, .int (Fr.mk a b).2]))
def Aj (K : PySem.W.Frag) : Sp := fun vs H Q _ => ∃ (p q : Addr) (a b c d : Int), vs = [.ref p, .ref q] /\ SqT K H p [.int a, .int b] /\ SqT K H q [.int c, .int d] /\ 0 < b /\ 0 < d /\ Sz 1000 a /\ Sz 1000 b /\ Sz 1000 c /\ Sz 1000 d /\
 ∀ r, H r = none -> Q (.ref r) (upd H r (.tup [.int (Fr.mk (a * d + c * b) (b * d)).1, .int (Fr.mk (a * d + c * b) (b * d)).2]))
def yx (K : PySem.W.Frag) : Sp := fun vs H Q _ => ∃ (p q : Addr) (a b c d : Int), vs = [.ref p, .ref q] /\ SqT K H p [.int a, .int b] /\ SqT K H q [.int c, .int d] /\ 0 < b /\ 0 < d /\ Sz 1000 a /\ Sz 1000 b /\ Sz 1000 c /\ Sz 1000 d /\
 ∀ r, H r = none -> Q (.ref r) (upd H r (.tup [.int (Fr.mk (a * c) (b * d)).1, .int (Fr.mk (a * c) (b * d)).2]))
def eH (K : PySem.W.Frag) : Sp := fun vs H Q _ => ∃ (p q : Addr) (a b c d : Int), vs = [.ref p, .ref q] /\ SqT K H p [.int a, .int b] /\ SqT K H q [.int c, .int d] /\ Sz 1000 a /\ Sz 1000 b /\ Sz 1000 c /\ Sz 1000 d /\ Q (.bl (decide (a * d < c * b))) H
theorem up {k : Nat} {x : Int} (h : Sz k x) (hk : k <= 4000 := by decide) : Sz 4000 x := h.mono hk
theorem gA {x y : Nat} : decide (V.int (x : Int) = V.int (y : Int)) = decide (x = y) := by
 refine decide_eq_decide.mpr ⟨fun h => ?_, fun h => by rw [h]⟩
 injection h with h
 omega
theorem fO (x y a b : Int) : eqD (.tup [.int x, .int y]) (.tup [.int a, .int b]) = decide ((x, y) = (a, b)) := by
 rw [Bool.eq_iff_iff]
 simp [eqD, cY]
abbrev eO : Stmt := top 3
theorem nA : FnScope ["a", "b", "left", "right", "rest"] ["a", "b"] (aC eO) := ⟨rfl, rfl, rfl, by decide +kernel, rfl, by decide +kernel, by decide +kernel⟩
theorem nC (F : FunM K mg "greatest_divisor" eO ["a", "b"]) (T : Blt mg) : Def P w K mg base "greatest_divisor" ["a", "b"] 1 Dn := by
 have S := nA
 refine Def.of F S (fun vs H Q E h => ?_) (fun f cdv A outer s H vs Q E hr h => ?_)
 ·obtain ⟨a, b, rfl, _⟩ := h
  rfl
 ·obtain ⟨a, b, rfl, k⟩ := h
  refine ⟨_, (aA (aO (i := 2) S.nd rfl (Or.inl rfl) (aM qN (by rfl) T.abs_ yh (aa (pv 0) ao aj) (he := aj)))
   (aA (aO (i := 3) S.nd rfl (Or.inl rfl) (aM qN (by rfl) T.abs_ yh (aa (pv 1) ao aj) (he := aj)))
   (aA (qm PassesOwn.never (bh Bj (pv 3) au (bf _))
    (aA (aO (i := 4) S.nd rfl (Or.inl rfl) (aQ dN (pv 2) (pv 3)))
   (aA (aO (i := 2) S.nd rfl (Or.inl rfl) (pv 3))
   (aB (aO (i := 3) S.nd rfl (Or.inl rfl) (pv 4))))))
   (aB (aN (pv 2)))))), ?_⟩
  refine ⟨_, rfl, _, rfl, _, rfl, _, rfl, ?_⟩
  refine ⟨fun m σ H' => ∃ (l r : Int) (o : Option V), σ = [some (.int a), some (.int b), some (.int l), some (.int r), o] /\ H' = H /\ 0 <= l /\ 0 <= r /\ Int.gcd l r = Int.gcd a b /\ r.toNat = m,
   ⟨_, _, _, _, rfl, rfl, by split <;> omega, by split <;> omega, ?_, rfl⟩, ?_⟩
  ·have e1 : (if a < 0 then -a else a) = (a.natAbs : Int) := by split <;> omega
   have e2 : (if b < 0 then -b else b) = (b.natAbs : Int) := by split <;> omega
   rw [e1, e2]
   simp [Int.gcd]
  ·rintro m σ H' ⟨l, r, o, rfl, rfl, hl, hr0, hg, hm⟩
   refine ⟨_, rfl, rfl, _, rfl, ?_⟩
   by_cases hz : r = 0
   ·subst hz
    refine ifN (by simp) ?_
    refine ⟨_, rfl, ?_⟩
    have e : (Int.gcd a b : Int) = l := by
     rw [<- hg, Int.gcd_zero_right]
     omega
    rw [e] at k
    exact k
   ·refine ifP (by simp [hz]) ?_
    have hp : 0 < r := by omega
    refine ⟨fun σ' H'' => ∃ o', σ' = [some (.int a), some (.int b), some (.int r), some (.int (l % r)), o'] /\ H'' = H', fun σ' H'' h => ?_, ?_⟩
    ·obtain ⟨o', rfl, rfl⟩ := h
     have h1 := Int.emod_nonneg l hz
     have h2 := Int.emod_lt_of_pos l hp
     exact ⟨_, by omega, r, l % r, o', rfl, rfl, hr0, h1, (Fr.gcd_step l r).trans hg, rfl⟩
    ·refine ⟨_, rfl, _, rfl, _, _, rfl, rfl, hp, _, rfl, _, rfl, _, rfl, rfl⟩
abbrev xH : Stmt := top 4
theorem Hu : FnScope ["a", "b", "divisor"] ["a", "b"] (aC xH) := ⟨rfl, rfl, rfl, by decide +kernel, rfl, by decide +kernel, by decide +kernel⟩
theorem HQ (F : FunM K mg "made" xH ["a", "b"]) (T : Blt mg) (eE : Def P w K mg base "greatest_divisor" ["a", "b"] 1 Dn) : Def P w K mg base "made" ["a", "b"] 2 lH := by
 have S := Hu
 refine Def.of F S (fun vs H Q E h => ?_) (fun f cdv A outer s H vs Q E hr h => ?_)
 ·obtain ⟨a, b, rfl, _⟩ := h
  rfl
 ·obtain ⟨a, b, rfl, hb, hb2, k⟩ := h
  have g1 := Fr.gcd_pos (a := a) hb
  have g2 := Fr.gcd_le (a := a) hb
  have g3 : Sz 8000 (Int.gcd a b : Int) := by
   have h8 := hb2.mono (show 4000 <= 8000 by decide)
   unfold Sz at h8 ⊢
   exact Nat.lt_of_le_of_lt (by omega) h8
  refine ⟨_, (aA (aO (i := 2) S.nd rfl (Or.inl rfl) (aF eE (hr.mono (by decide)) rfl (aa (pv 0) (aa (pv 1) ao aj) aj) (he := aj)))
   (aB (aN (bz (aa (aQ lO (pv 0) (pv 2)) (aa (aQ lO (pv 1) (pv 2)) ao bA) bA))))), ?_⟩
  refine ⟨_, rfl, _, rfl, _, _, rfl, ?_⟩
  exact ⟨_, rfl, _, rfl, _, _, rfl, rfl, lY g1 g3, _, rfl, _, rfl, _, _, rfl, rfl, lY g1 g3, (by show 2 <= sizeLine; decide), k⟩
abbrev yJ : Stmt := top 5
theorem HX : FnScope ["one", "other"] ["one", "other"] (aC yJ) := ⟨rfl, rfl, rfl, by decide +kernel, rfl, by decide +kernel, by decide +kernel⟩
theorem Ib (F : FunM K mg "plus" yJ ["one", "other"]) (T : Blt mg) (gb : Def P w K mg base "made" ["a", "b"] 2 lH) : Def P w K mg base "plus" ["one", "other"] 3 (Aj K) := by
 have S := HX
 refine Def.of F S (fun vs H Q E h => ?_) (fun f cdv A outer s H vs Q E hr h => ?_)
 ·obtain ⟨p, q, a, b, c, d, rfl, _⟩ := h
  rfl
 ·obtain ⟨p, q, a, b, c, d, rfl, h1, h2, hb, hd, za, zb, zc, zd, k⟩ := h
  have hbd0 : 0 < b * d := Int.mul_pos hb hd
  refine ⟨_, (aB (aN (aF gb (hr.mono (by decide)) rfl (aa (aQ dB (aQ bV (aP (ixT K) (pv 0) au (fun _ _ => rfl)) (aP (ixT K) (pv 1) au (fun _ _ => rfl))) (aQ bV (aP (ixT K) (pv 1) au (fun _ _ => rfl)) (aP (ixT K) (pv 0) au (fun _ _ => rfl)))) (aa (aQ bV (aP (ixT K) (pv 0) au (fun _ _ => rfl)) (aP (ixT K) (pv 1) au (fun _ _ => rfl))) ao bA) bA) (he := bA)))), ?_⟩
  refine ⟨_, rfl, _, _, _, _, rfl, rfl, h1, rfl, ?_⟩
  refine ⟨_, rfl, _, _, _, _, rfl, rfl, h2, rfl, _, _, rfl, rfl, ⟨up za, up zd⟩, ?_⟩
  refine ⟨_, rfl, _, _, _, _, rfl, rfl, h2, rfl, ?_⟩
  refine ⟨_, rfl, _, _, _, _, rfl, rfl, h1, rfl, _, _, rfl, rfl, ⟨up zc, up zb⟩, _, _, rfl, rfl, ?_⟩
  refine ⟨_, rfl, _, _, _, _, rfl, rfl, h1, rfl, ?_⟩
  refine ⟨_, rfl, _, _, _, _, rfl, rfl, h2, rfl, _, _, rfl, rfl, ⟨up zb, up zd⟩, ?_⟩
  exact ⟨_, _, rfl, hbd0, (zb.mul zd).mono (by decide), k⟩
abbrev uJ : Stmt := top 6
theorem Fz : FnScope ["one", "other"] ["one", "other"] (aC uJ) := ⟨rfl, rfl, rfl, by decide +kernel, rfl, by decide +kernel, by decide +kernel⟩
theorem Fi (F : FunM K mg "times" uJ ["one", "other"]) (T : Blt mg) (gb : Def P w K mg base "made" ["a", "b"] 2 lH) : Def P w K mg base "times" ["one", "other"] 3 (yx K) := by
 have S := Fz
 refine Def.of F S (fun vs H Q E h => ?_) (fun f cdv A outer s H vs Q E hr h => ?_)
 ·obtain ⟨p, q, a, b, c, d, rfl, _⟩ := h
  rfl
 ·obtain ⟨p, q, a, b, c, d, rfl, h1, h2, hb, hd, za, zb, zc, zd, k⟩ := h
  have hbd0 : 0 < b * d := Int.mul_pos hb hd
  refine ⟨_, (aB (aN (aF gb (hr.mono (by decide)) rfl (aa (aQ bV (aP (ixT K) (pv 0) au (fun _ _ => rfl)) (aP (ixT K) (pv 1) au (fun _ _ => rfl))) (aa (aQ bV (aP (ixT K) (pv 0) au (fun _ _ => rfl)) (aP (ixT K) (pv 1) au (fun _ _ => rfl))) ao bA) bA) (he := bA)))), ?_⟩
  refine ⟨_, rfl, _, _, _, _, rfl, rfl, h1, rfl, ?_⟩
  refine ⟨_, rfl, _, _, _, _, rfl, rfl, h2, rfl, _, _, rfl, rfl, ⟨up za, up zc⟩, ?_⟩
  refine ⟨_, rfl, _, _, _, _, rfl, rfl, h1, rfl, ?_⟩
  refine ⟨_, rfl, _, _, _, _, rfl, rfl, h2, rfl, _, _, rfl, rfl, ⟨up zb, up zd⟩, ?_⟩
  exact ⟨_, _, rfl, hbd0, (zb.mul zd).mono (by decide), k⟩
abbrev uC : Stmt := top 7
theorem Fp : FnScope ["one", "other"] ["one", "other"] (aC uC) := ⟨rfl, rfl, rfl, by decide +kernel, rfl, by decide +kernel, by decide +kernel⟩
theorem Fg (F : FunM K mg "below" uC ["one", "other"]) (T : Blt mg) : Def P w K mg base "below" ["one", "other"] 1 (eH K) := by
 have S := Fp
 refine Def.of F S (fun vs H Q E h => ?_) (fun f cdv A outer s H vs Q E hr h => ?_)
 ·obtain ⟨p, q, a, b, c, d, rfl, _⟩ := h
  rfl
 ·obtain ⟨p, q, a, b, c, d, rfl, h1, h2, za, zb, zc, zd, k⟩ := h
  refine ⟨_, (aB (aN (dF jY (aQ bV (aP (ixT K) (pv 0) au (fun _ _ => rfl)) (aP (ixT K) (pv 1) au (fun _ _ => rfl))) (aQ bV (aP (ixT K) (pv 1) au (fun _ _ => rfl)) (aP (ixT K) (pv 0) au (fun _ _ => rfl))) (bf _)))), ?_⟩
  refine ⟨_, rfl, _, _, _, _, rfl, rfl, h1, rfl, ?_⟩
  refine ⟨_, rfl, _, _, _, _, rfl, rfl, h2, rfl, _, _, rfl, rfl, ⟨up za, up zd⟩, ?_⟩
  refine ⟨_, rfl, _, _, _, _, rfl, rfl, h2, rfl, ?_⟩
  exact ⟨_, rfl, _, _, _, _, rfl, rfl, h1, rfl, _, _, rfl, rfl, ⟨up zc, up zb⟩, _, _, rfl, rfl, k⟩
theorem nP {α : Type} (f : α -> Bool) {R : V -> α -> Prop} : ∀ {vs ys : List V} {qs : List α}, Paired (fun x y => ∀ q, R x q -> y = V.bl (f q)) vs ys -> Paired R vs qs -> ys = (qs.map f).map V.bl
 | _, _, _, .nil, .nil => rfl
 | _, _, _, .cons h t, .cons q u => by rw [h _ q, nP f t u]; rfl
def uU : Sp := fun vs H Q _ => ∃ a b : Int, vs = [.int a, .int b] /\ 0 <= a /\ 0 <= b /\ Q (.int (Int.gcd a b : Int)) H
abbrev iZ : Stmt := top 65
theorem uc : FnScope ["_law_one", "_law_other"] ["_law_one", "_law_other"] (aC iZ) := ⟨rfl, rfl, rfl, by decide +kernel, rfl, by decide +kernel, by decide +kernel⟩
theorem uF (F : FunM K mg "_law_common" iZ ["_law_one", "_law_other"]) (T : Blt mg) : Def P w K mg base "_law_common" ["_law_one", "_law_other"] 1 uU := by
 have S := uc
 refine Def.of F S (fun vs H Q E h => ?_) (fun f cdv A outer s H vs Q E hr h => ?_)
 ·obtain ⟨a, b, rfl, _⟩ := h
  rfl
 ·obtain ⟨a, b, rfl, ha, hb, k⟩ := h
  refine ⟨_, (aA (qm PassesOwn.never (bh pG (pv 1) au (bf _))
    (aB (DQ (i := 0) (j := 1) rfl S.nd rfl rfl (by decide) rfl rfl (aa (pv 1) (aa (aQ dN (pv 0) (pv 1)) ao bA) aj) rfl)))
   (aB (aN (pv 0)))), ?_⟩
  refine ⟨fun m σ H' => ∃ (l r : Int), σ = [some (.int l), some (.int r)] /\ H' = H /\ 0 <= l /\ 0 <= r /\ Int.gcd l r = Int.gcd a b /\ r.toNat = m, ⟨_, _, _, rfl, rfl, ha, hb, rfl, rfl⟩, ?_⟩
  rintro m σ H' ⟨l, r, rfl, rfl, hl, hr0, hg, hm⟩
  refine ⟨_, rfl, _, _, rfl, rfl, _, rfl, ?_⟩
  by_cases hp : 0 < r
  ·refine ifP (by simpa using hp) ?_
   refine ⟨fun σ' H'' => σ' = [some (.int r), some (.int (l % r))] /\ H'' = H', fun σ' H'' h => ?_, ?_⟩
   ·obtain ⟨rfl, rfl⟩ := h
    have h1 := Int.emod_nonneg l (show r ≠ 0 by omega)
    have h2 := Int.emod_lt_of_pos l hp
    exact ⟨_, by omega, r, l % r, rfl, rfl, hr0, h1, (Fr.gcd_step l r).trans hg, rfl⟩
   ·exact ⟨_, rfl, _, rfl, _, rfl, _, _, rfl, rfl, hp, _, _, rfl, rfl, rfl⟩
  ·refine ifN (by simpa using hp) ?_
   refine ⟨_, rfl, ?_⟩
   have hz : r = 0 := by omega
   subst hz
   have e : (Int.gcd a b : Int) = l := by
    rw [<- hg, Int.gcd_zero_right]
    omega
   rw [e] at k
   exact k
def sI : Sp := fun vs H Q _ => ∃ (a b : Addr) (r : List Int) (qs : List (Int × Int)), vs = [.ref a, .ref b] /\ IsFrs H a (r.map fun x => (x, 1)) /\ IsFrs H b qs /\ GQ qs /\ (∀ x ∈ r, Sz 9 x) /\ ∀ p H', New H H' p (.tup [.int (aZ r qs).1, .int (aZ r qs).2]) -> Q (.ref p) H'
theorem FW {r : List Int} {i : Nat} {f : Int × Int} (h : (r.map fun x => (x, (1 : Int)))[i]? = some f) : ∃ u, r[i]? = some u /\ f = (u, 1) := by
 rw [List.getElem?_map] at h
 cases e : r[i]? with
 | none => rw [e] at h; cases h
 | some x => rw [e] at h; exact ⟨x, rfl, by cases h; rfl⟩
theorem sz1 : Sz 1000 1 := (show Sz 1 1 from by unfold Sz; decide).mono (by decide)
abbrev nO : Stmt := top 9
theorem BP : FnScope ["values", "mixture", "total", "value", "share"] ["values", "mixture"] (aC nO) := ⟨rfl, rfl, rfl, by decide +kernel, rfl, by decide +kernel, by decide +kernel⟩
theorem Bl (F : FunM K mg "weighed" nO ["values", "mixture"]) (T : Blt mg) (wN : Def P w K mg base "plus" ["one", "other"] 3 (Aj K)) (uB : Def P w K mg base "times" ["one", "other"] 3 (yx K)) : Def P w K mg base "weighed" ["values", "mixture"] 4 sI := by
 have S := BP
 refine Def.of F S (fun vs H Q E h => ?_) (fun f cdv A outer s H vs Q E hr h => ?_)
 ·obtain ⟨a, b, r, qs, rfl, _⟩ := h
  rfl
 ·obtain ⟨a, b, r, qs, rfl, hU, hW, g, hb, k⟩ := h
  obtain ⟨xs, ha, pa⟩ := id hU
  obtain ⟨ys, hbb, pb⟩ := id hW
  have gz := iC hb g
  have zl := sS r g
  refine ⟨_, (aA (aO (i := 2) S.nd rfl (Or.inl rfl) (bz (aa au (aa au ao aD) aD)))
   (aA (bU PassesOwn.never rfl (pF K rfl T.zip_ (aa (pv 0) (aa (pv 1) ao aj) aj)) (pgT K (n := 2) (a_ (aG (i := 3) S.nd rfl (Or.inl rfl)) (a_ (aG (i := 4) S.nd rfl (Or.inl rfl)) cH)))
    (aB (aO (i := 2) S.nd rfl (Or.inl rfl) (aF wN (hr.mono (by decide)) rfl (aa (pv 2) (aa (aF uB (hr.mono (by decide)) rfl (aa (pv 3) (aa (pv 4) ao aj) aj) (he := aj)) ao aR) aj) (he := aj)))))
   (aB (aN (pv 2))))), ?_⟩
  refine ⟨(by show 2 <= sizeLine; decide), fun t ht => ?_⟩
  have s1 : Same H (upd H t (.tup [.int 0, .int 1])) := ak ht
  refine ⟨_, rfl, _, rfl, a, b, rfl, ⟨_, SqL.of (s1 _ _ ha)⟩, ⟨_, SqL.of (s1 _ _ hbb)⟩, tu (K := K) (a := a) (b := b) (xs := xs) (ys := ys) (fun i σ H' => ∃ t o1 o2, σ = [some (.ref a), some (.ref b), some (.ref t), o1, o2] /\ New H H' t (.tup [.int (Fr.mk (acc ((r.zip qs).take i)).1 (acc ((r.zip qs).take i)).2).1, .int (Fr.mk (acc ((r.zip qs).take i)).1 (acc ((r.zip qs).take i)).2).2]))
    ⟨t, _, _, rfl, ht, by rw [aq, List.take_zero]; rfl, s1⟩ ?_ ?_ ?_⟩
  ·rintro i σ H' ⟨_, _, _, _, nw⟩
   exact ⟨SqL.of (nw.same _ _ ha), SqL.of (nw.same _ _ hbb)⟩
  ·rintro i x y p σ H' hx hy hp ⟨t', o1, o2, rfl, nw⟩
   obtain ⟨f1, e1, c1, rfl, h1⟩ := pa.get2 hx
   obtain ⟨u, hu, rfl⟩ := FW e1
   obtain ⟨f2, e2, c2, rfl, h2⟩ := pb.get2 hy
   have sp := nw.same.trans (ak (o := .tup [.ref c1, .ref c2]) hp)
   have mq := List.mem_of_getElem? e2
   have pq := g.pr _ mq
   have ez : (r.zip qs)[i]? = some (u, f2) := List.getElem?_zip_eq_some.mpr ⟨hu, e2⟩
   have gt := gz.take i
   have lt : ((r.zip qs).take i).length <= 8 := by rw [List.length_take]; omega
   have p0 := gD gt
   have szu := hb u (List.mem_of_getElem? hu)
   have d0 : 0 < 1 * f2.2 := by have := pq.pos; omega
   have sn : Sz 69 (u * f2.1) := szu.mul (g.s1 _ mq)
   have sd : Sz 61 (1 * f2.2) := (show Sz 1 1 from by unfold Sz; decide).mul (g.s2 _ mq)
   refine ⟨p, _, rfl, SqT.of aq, rfl, _, _, rfl, _, _, rfl, rfl, ?_⟩
   refine ⟨_, rfl, _, rfl, _, rfl, c1, c2, _, _, _, _, rfl, SqT.of (sp _ _ h1), SqT.of (sp _ _ h2), (by show (0 : Int) < 1; decide), pq.pos, szu.mono (by decide), sz1, (g.s1 _ mq).mono (by decide), (g.s2 _ mq).mono (by decide), fun r1 hr' => ?_⟩
   have nr := nw.post (ak (o := .tup [.ref c1, .ref c2]) hp)
   refine ⟨t', r1, _, _, _, _, rfl, SqT.of (ak hr' _ _ nr.is), SqT.of aq, Fr.mk_pos p0, Fr.mk_pos d0, ((yQ gt lt).fst p0).mono (by decide), ((su gt lt).snd p0).mono (by decide), (sn.fst d0).mono (by decide), (sd.snd d0).mono (by decide), fun r2 hr2 => ?_⟩
   have sq := sp.trans (ak (o := .tup [.int (Fr.mk (u * f2.1) (1 * f2.2)).1, .int (Fr.mk (u * f2.1) (1 * f2.2)).2]) hr')
   refine ⟨r2, _, _, rfl, ?_⟩
   rw [Jo p0 pq, vZ ez]
   exact New.of sq hr2
  ·rintro σ H' ⟨t', o1, o2, rfl, nw⟩
   have l1 : (r.zip qs).take (min xs.length ys.length) = r.zip qs := List.take_of_length_le (by rw [List.length_zip, pa.length, pb.length, List.length_map]; exact Nat.le_refl _)
   rw [l1] at nw
   exact ⟨_, rfl, k t' H' nw⟩
theorem pC {H : Hp} (f : Int -> Int × Int) : ∀ {r : List Int} {ys : List V}, Paired (fun x y => ∀ i, x = V.int i -> IsFr H y (f i)) (r.map V.int) ys -> Paired (IsFr H) ys (r.map f)
 | [], _, h => by cases h; exact .nil
 | i :: r, _, h => by
  cases h with
  | cons h t => exact .cons (h i rfl) (pC f t)
theorem Ay {H H' : Hp} (f : List Int -> Int × Int) : ∀ {vs ys : List V} {T : List (List Int)}, Paired (fun x y => ∀ r, IsRow H x r -> IsFr H' y (f r)) vs ys -> Paired (IsRow H) vs T -> Paired (IsFr H') ys (T.map f)
 | _, _, _, .nil, .nil => .nil
 | _, _, _, .cons h t, .cons q u => .cons (h _ q) (Ay f t u)
theorem B_ {a : Addr} {T : List (List Int)} {te : TE} {σc : St} {H : Hp} {Fin : List V -> Hp -> Prop} (f : List Int -> Int × Int) (hT : IsTab H a T) (hz : T.length <= 1000)
  (hs : ∀ r ∈ T, ∀ b, H b = some (.lst (r.map V.int)) -> ∀ H1, Same H H1 -> ∀ Q : VK, (∀ y H2, Same H1 H2 -> IsFr H2 y (f r) -> Q y H2) -> te (σc.set 0 (some (.ref b))) H1 Q)
  (hd : ∀ ys H', Same H H' -> Paired (IsFr H') ys (T.map f) -> Fin ys H') : dC (Itl K a) (fH 0) kJ te σc H Fin := by
 obtain ⟨vs, ha, hp⟩ := hT
 refine bu (xs := vs) (fun x y H' => ∀ r, IsRow H x r -> IsFr H' y (f r)) (fun _ _ _ _ s h r q => (h r q).mono s) (SqL.of ha) (by rw [hp.length]; exact Nat.le_of_lt (aJ hz)) ?_ ?_
 ·intro x hx H1 s1 Q q
  obtain ⟨r, hr, hrow⟩ := hp.mem2 hx
  obtain ⟨b, rfl, hb⟩ := id hrow
  exact hs r hr b hb H1 s1 Q fun y H2 s2 ho => q _ H2 s2 fun r' h' => by rw [<- hrow.inj h']; exact ho
 ·intro ys H' s' pr
  exact hd ys H' s' (Ay f pr hp)
def sY : Sp := fun vs H Q _ => ∃ (a b : Addr) (r : List Int) (qs : List (Int × Int)), vs = [.ref a, .ref b] /\ H a = some (.lst (r.map V.int)) /\ r.length <= 1000 /\ IsFrs H b qs /\ GQ qs /\ (∀ x ∈ r, Sz 9 x) /\ ∀ p H', New H H' p (.tup [.int (aZ r qs).1, .int (aZ r qs).2]) -> Q (.ref p) H'
abbrev mC : Stmt := top 10
theorem zO : FnScope ["row", "mixture"] ["row", "mixture"] (aC mC) := ⟨rfl, rfl, rfl, by decide +kernel, rfl, by decide +kernel, by decide +kernel⟩
theorem y_ (F : FunM K mg "row_gets" mC ["row", "mixture"]) (T : Blt mg) (oH : Def P w K mg base "weighed" ["values", "mixture"] 4 sI) : Def P w K mg base "row_gets" ["row", "mixture"] 5 sY := by
 have S := zO
 refine Def.of F S (fun vs H Q E h => ?_) (fun f cdv A outer s H vs Q E hr h => ?_)
 ·obtain ⟨a, b, r, qs, rfl, _⟩ := h
  rfl
 ·obtain ⟨a, b, r, qs, rfl, ha, hl, hW, g, hb, k⟩ := h
  refine ⟨_, (aB (aN (aF oH (hr.mono (by decide)) rfl (aa (aX rfl (N' := ["number"]) (src := [none]) rfl (piL K (pv 0)) (fun _ _ _ _ _ => (aG (i := 0) (show (["number"] : List Str).Nodup from by decide +kernel) rfl (Or.inl rfl))) (fun _ _ _ _ _ => aW) (fun _ _ _ _ _ => (bz (aa (pv 0) (aa au ao aD) aj)))) (aa (pv 1) ao aj) aU) (he := aU)))), ?_⟩
  refine ⟨_, rfl, a, rfl, ⟨_, SqL.of ha⟩, bu (xs := r.map V.int) (fun x y H' => ∀ i, x = V.int i -> IsFr H' y (i, 1)) (fun _ _ _ _ s h i e => (h i e).mono s) (SqL.of ha) (by rw [List.length_map]; exact Nat.le_of_lt (aJ hl)) ?_ ?_⟩
  ·intro x hx H1 s1 Q' q
   obtain ⟨i, hi, rfl⟩ := List.mem_map.mp hx
   refine ⟨_, rfl, (by show 2 <= sizeLine; decide), fun p hp => q _ _ (ak hp) fun j e => ?_⟩
   cases e
   exact ⟨p, rfl, aq⟩
  ·intro ys H' s' pr p hp
   have pf := pC (fun i => (i, 1)) pr
   exact ⟨_, rfl, p, b, r, qs, rfl, ⟨ys, aq, pf.imp2 fun _ _ z => z.mono (ak hp)⟩, (hW.mono s').mono (ak hp), g, hb, fun p' H2 nw => k p' H2 (nw.pre (s'.trans (ak hp)))⟩
def oV : Sp := fun vs H Q _ => ∃ (a c : Addr) (U : List (List Int)) (m n : Nat) (qs : List (Int × Int)), vs = [.ref a, .ref c] /\ IsTab H a U /\ Gd U m n /\ IsFrs H c qs /\ GQ qs /\ ∀ p H', Same H H' -> H p = none -> IsFrs H' p (U.map fun r => aZ r qs) -> Q (.ref p) H'
abbrev nM : Stmt := top 11
theorem Ce : FnScope ["rows", "mixture"] ["rows", "mixture"] (aC nM) := ⟨rfl, rfl, rfl, by decide +kernel, rfl, by decide +kernel, by decide +kernel⟩
theorem Cj (F : FunM K mg "all_get" nM ["rows", "mixture"]) (T : Blt mg) (lR : Def P w K mg base "row_gets" ["row", "mixture"] 5 sY) : Def P w K mg base "all_get" ["rows", "mixture"] 6 oV := by
 have S := Ce
 refine Def.of F S (fun vs H Q E h => ?_) (fun f cdv A outer s H vs Q E hr h => ?_)
 ·obtain ⟨a, c, U, m, n, qs, rfl, _⟩ := h
  rfl
 ·obtain ⟨a, c, U, m, n, qs, rfl, hU, g, hC, gc, k⟩ := h
  have m4 := g.m4
  have n4 := g.n4
  obtain ⟨vs, ha, hp⟩ := id hU
  refine ⟨_, (aB (aN (aX rfl (N' := ["row", "mixture"]) (src := [none, some 1]) rfl (piL K (pv 0)) (fun _ _ _ _ _ => (aG (i := 0) (show (["row", "mixture"] : List Str).Nodup from by decide +kernel) rfl (Or.inl rfl))) (fun _ _ _ _ _ => aW) (fun _ _ _ _ _ => (aF lR (hr.mono (by decide)) rfl (aa (pv 0) (aa (pv 1) ao aj) aj) (he := aj)))))), ?_⟩
  refine ⟨_, rfl, a, rfl, ⟨_, SqL.of ha⟩, B_ (fun r => aZ r qs) hU (by rw [g.rows]; omega) ?_ ?_⟩
  ·intro r hr' x hx H4 s4 Q' q
   exact ⟨_, rfl, _, rfl, x, c, r, qs, rfl, s4 _ _ hx, by rw [g.cols r hr']; omega, hC.mono s4, gc, g.sz hr', fun p H5 nw => q _ H5 nw.same ⟨p, rfl, nw.is⟩⟩
  ·intro ys H4 s4 pr p hp
   exact k p _ (s4.trans (ak hp)) (s4.free hp) ⟨ys, aq, pr.imp2 fun _ _ z => z.mono (ak hp)⟩
def cols (T : List (List Int)) (n : Nat) : List (List Int) := (List.range n).map fun j => T.map fun r => r.getD j 0
def DG : Sp := fun vs H Q _ => ∃ (a : Addr) (U : List (List Int)) (m n j : Nat), vs = [.ref a, .int j] /\ IsTab H a U /\ Gd U m n /\ j < n /\ ∀ p H', New H H' p (.lst ((U.map fun r => r.getD j 0).map V.int)) -> Q (.ref p) H'
def gU : Sp := fun vs H Q _ => ∃ (a : Addr) (U : List (List Int)) (m n : Nat), vs = [.ref a] /\ IsTab H a U /\ Gd U m n /\ ∀ p H', Same H H' -> OwnTab H H' p (cols U n) -> Q (.ref p) H'
theorem jO {U : List (List Int)} {n : Nat} {r : List Int} (h : r ∈ cols U n) : r.length = U.length := by
 unfold cols at h
 obtain ⟨j, _, rfl⟩ := List.mem_map.mp h
 rw [List.length_map]
theorem jM (U : List (List Int)) (n : Nat) : (cols U n).length = n := by
 unfold cols
 rw [List.length_map, List.length_range]
theorem map_getD {α : Type} (f : List Int -> α) (U : List (List Int)) (d : α) {i : Nat} (h : i < U.length) : (U.map f).getD i d = f (U.getD i []) := by
 rw [List.getD_eq_getElem?_getD, List.getElem?_map, List.getElem?_eq_getElem h, List.getD_eq_getElem?_getD, List.getElem?_eq_getElem h]
 rfl
abbrev kE : Stmt := top 37
theorem wU : FnScope ["table", "column"] ["table", "column"] (aC kE) := ⟨rfl, rfl, rfl, by decide +kernel, rfl, by decide +kernel, by decide +kernel⟩
theorem wM (F : FunM K mg "column_of" kE ["table", "column"]) (T : Blt mg) : Def P w K mg base "column_of" ["table", "column"] 1 DG := by
 have S := wU
 refine Def.of F S (fun vs H Q E h => ?_) (fun f cdv A outer s H vs Q E hr h => ?_)
 ·obtain ⟨a, U, m, n, j, rfl, _⟩ := h
  rfl
 ·obtain ⟨a, U, m, n, j, rfl, hU, g, hj, k⟩ := h
  have m4 := g.m4
  obtain ⟨vs, ha, hp⟩ := id hU
  refine ⟨_, (aB (aN (aX rfl (N' := ["row", "column"]) (src := [none, some 1]) rfl (piL K (pv 0)) (fun _ _ _ _ _ => (aG (i := 0) (show (["row", "column"] : List Str).Nodup from by decide +kernel) rfl (Or.inl rfl))) (fun _ _ _ _ _ => aW) (fun _ _ _ _ _ => (aP (ixL K) (pv 0) (pv 1) (fun _ _ => rfl)))))), ?_⟩
  refine ⟨_, rfl, a, rfl, ⟨_, SqL.of ha⟩, u9 (fun r => r.getD j 0) hU (by rw [g.rows]; omega) ?_ ?_⟩
  ·intro r hr' b hb H1 s1 Q' q
   exact ⟨_, rfl, _, rfl, b, _, _, _, rfl, rfl, SqL.of (s1 _ _ hb), fV (by rw [g.cols r hr']; exact hj), q H1 (Same.refl _)⟩
  ·intro H' s' p hp'
   exact k p _ (New.of s' hp')
abbrev jK : Stmt := top 38
theorem vH : FnScope ["table"] ["table"] (aC jK) := ⟨rfl, rfl, rfl, by decide +kernel, rfl, by decide +kernel, by decide +kernel⟩
theorem vN (F : FunM K mg "columns_of" jK ["table"]) (T : Blt mg) (j_ : Def P w K mg base "column_of" ["table", "column"] 1 DG) : Def P w K mg base "columns_of" ["table"] 2 gU := by
 have S := vH
 refine Def.of F S (fun vs H Q E h => ?_) (fun f cdv A outer s H vs Q E hr h => ?_)
 ·obtain ⟨a, U, m, n, rfl, _⟩ := h
  rfl
 ·obtain ⟨a, U, m, n, rfl, hU, g, k⟩ := h
  have n4 := g.n4
  obtain ⟨vs, b0, ha, h0, at0, hb0⟩ := hU.row (i := 0) (by rw [g.rows]; exact g.m1)
  have hl : ((U.getD 0 []).map V.int).length = n := by rw [List.length_map, (g.row g.m1).2]
  refine ⟨_, (aB (aN (aX rfl (N' := ["column", "table"]) (src := [none, some 0]) rfl (cg rfl T.range_ (aa (aM (bK K) (by rfl) T.len_ bj (aa (aP (ixL K) (pv 0) au (fun _ _ => rfl)) ao aK) (he := aK)) ao aR)) (fun _ _ _ _ _ => (aG (i := 0) (show (["column", "table"] : List Str).Nodup from by decide +kernel) rfl (Or.inl rfl))) (fun _ _ _ _ _ => aW) (fun _ _ _ _ _ => (aF j_ (hr.mono (by decide)) rfl (aa (pv 1) (aa (pv 0) ao aj) aj) (he := aj)))))), ?_⟩
  refine ⟨_, rfl, a, vs, 0, _, rfl, rfl, SqL.of ha, at0, b0, _, rfl, .inl (SqL.of hb0), _, rfl, by omega, by omega, cP (n := ((U.getD 0 []).map V.int).length) (fun (i : Nat) y H' => OwnRow H H' y (U.map fun (r : List Int) => r.getD i 0)) (fun _ _ _ _ s h => h.mono s) (Nat.le_of_lt (aJ (by omega))) ?_ ?_⟩
  ·intro i hi H1 s1 Q' q
   exact ⟨_, rfl, _, rfl, a, U, m, n, i, rfl, hU.mono s1, g, by omega, fun p H2 nw => q _ H2 nw.same ⟨p, rfl, s1.free nw.new, nw.is⟩⟩
  ·intro ys H' s' pr p hp'
   rw [hl] at pr
   exact k p _ (s'.trans (ak hp')) (OwnTab.lay s' hp' (oM _ pr))
theorem gk {U : List (List Int)} {m n : Nat} (g : Gd U m n) : Gd (cols U n) n m := by
 refine ⟨g.n1, g.n4, g.m1, g.m4, jM U n, fun r hr => by rw [jO hr, g.rows], fun r hr x hx => ?_⟩
 unfold cols at hr
 obtain ⟨j, hj, rfl⟩ := List.mem_map.mp hr
 obtain ⟨r, hr', rfl⟩ := List.mem_map.mp hx
 have hj' : j < r.length := by rw [g.cols r hr']; exact List.mem_range.mp hj
 exact g.num r hr' (r.getD j 0) (by rw [List.getD_eq_getElem?_getD, List.getElem?_eq_getElem hj']; exact List.getElem_mem hj')
theorem jV {U : List (List Int)} {r : List Int} (h : r ∈ U) : ∃ i, i < U.length /\ U.getD i [] = r := by
 obtain ⟨i, hi, e⟩ := List.mem_iff_getElem.mp h
 exact ⟨i, hi, by rw [List.getD_eq_getElem?_getD, List.getElem?_eq_getElem hi]; exact e⟩
def trn (U : List (List Int)) (n : Nat) : List (List Int) := (cols U n).map fun c => c.map fun x => -x
theorem zP (U : List (List Int)) (n : Nat) : (trn U n).length = n := by
 unfold trn
 rw [List.length_map, jM]
theorem Hb {U : List (List Int)} {n i : Nat} (h : i < n) : (trn U n).getD i [] = U.map fun r => -(r.getD i 0) := by
 unfold trn cols
 rw [List.map_map]
 refine dm ?_
 rw [List.getElem?_map, List.getElem?_eq_getElem (by simpa using h)]
 simp
theorem Ig {U : List (List Int)} {m n i j : Nat} (g : Gd U m n) (hi : i < n) (hj : j < m) : ((trn U n).getD i []).getD j 0 = -((U.getD j []).getD i 0) := by
 rw [Hb hi, map_getD _ U 0 (by rw [g.rows]; exact hj)]
theorem yw {U : List (List Int)} {m n : Nat} (g : Gd U m n) : Gd (trn U n) n m := by
 refine ⟨g.n1, g.n4, g.m1, g.m4, zP U n, fun r hr => ?_, fun r hr x hx => ?_⟩
 ·obtain ⟨c, hc, rfl⟩ := List.mem_map.mp hr
  rw [List.length_map, jO hc, g.rows]
 ·obtain ⟨c, hc, rfl⟩ := List.mem_map.mp hr
  obtain ⟨y, hy, rfl⟩ := List.mem_map.mp hx
  unfold cols at hc
  obtain ⟨j, hj, rfl⟩ := List.mem_map.mp hc
  obtain ⟨r, hr', rfl⟩ := List.mem_map.mp hy
  have hj' : j < r.length := by rw [g.cols r hr']; exact List.mem_range.mp hj
  have := g.num r hr' (r.getD j 0) (by rw [List.getD_eq_getElem?_getD, List.getElem?_eq_getElem hj']; exact List.getElem_mem hj')
  omega
def Al : Sp := fun vs H Q _ => ∃ (a : Addr) (U : List (List Int)) (m n : Nat), vs = [.ref a] /\ IsTab H a U /\ Gd U m n /\ ∀ p H', Same H H' -> OwnTab H H' p (trn U n) -> Q (.ref p) H'
abbrev e_ : Stmt := top 39
theorem oW : FnScope ["table", "found", "column"] ["table"] (aC e_) := ⟨rfl, rfl, rfl, by decide +kernel, rfl, by decide +kernel, by decide +kernel⟩
theorem n_ (F : FunM K mg "from_other_side" e_ ["table"]) (T : Blt mg) (bZ : Def P w K mg base "columns_of" ["table"] 2 gU) : Def P w K mg base "from_other_side" ["table"] 3 Al := by
 have S := oW
 refine Def.of F S (fun vs H Q E h => ?_) (fun f cdv A outer s H vs Q E hr h => ?_)
 ·obtain ⟨a, U, m, n, rfl, _⟩ := h
  rfl
 ·obtain ⟨a, U, m, n, rfl, hU, g, k⟩ := h
  have m4 := g.m4
  have n4 := g.n4
  refine ⟨_, (aA (aO (i := 1) S.nd rfl (Or.inl rfl) (bO ao))
   (aA (bU PassesOwn.never rfl (piL K (aF bZ (hr.mono (by decide)) rfl (aa (pv 0) ao aj) (he := aj))) (aG (i := 2) S.nd rfl (Or.inl rfl))
    (aB (cu (g8 PySem.F.plainAttrs_list PySem.F.slot_list_append PySem.F.type_list_append dH (pv 1) (aa (aX rfl (N' := ["number"]) (src := [none]) rfl (piL K (pv 2)) (fun _ _ _ _ _ => (aG (i := 0) (show (["number"] : List Str).Nodup from by decide +kernel) rfl (Or.inl rfl))) (fun _ _ _ _ _ => aW) (fun _ _ _ _ _ => (pB lw (pv 0)))) ao aU)))))
   (aB (aN (pv 1))))), ?_⟩
  have s1 : Same H H := Same.refl _
  refine ⟨Nat.zero_le _, fun l hl => ?_⟩
  have hl1 : H l = none := hl
  have sl := ak (o := .lst []) hl
  have hll : upd H l (.lst []) l = some (.lst []) := aq
  generalize upd H l (.lst []) = H2 at sl hll ⊢
  refine ⟨_, rfl, a, U, m, n, rfl, hU.mono (s1.trans sl), g, fun p H3 s3 own => ?_⟩
  obtain ⟨ws, hpn, hp, hw⟩ := own
  have npl : p ≠ l := fun e => by rw [e, hll] at hpn; cases hpn
  have wl : ws.length = n := by rw [hw.length, jM]
  have hL3 := s3 _ _ hll
  refine ⟨p, rfl, ⟨_, SqL.of hp⟩, cM (K := K) (a := p) (xs := ws) (fun i σ H' => ∃ o2 xs, σ = [some (.ref a), some (.ref l), o2] /\ Same H H' /\ SameX l H3 H' /\ H' l = some (.lst xs) /\ Paired (RowX H l H') xs ((trn U n).take i))
   ⟨_, [], rfl, sl.trans s3, SameX.refl, hL3, by simpa using Paired.nil⟩ ?_ ?_ ?_⟩
  ·rintro i σ H4 _ ⟨_, _, _, _, sx, _⟩
   exact SqL.of (sx _ _ npl hp)
  ·rintro i y σ H4 hi ⟨o2, xs, rfl, s4, sx, hL, hP⟩
   obtain ⟨c, ec, b, rfl, hbn, hb⟩ := hw.get2 hi
   have nbl : b ≠ l := fun e => by rw [e, hll] at hbn; cases hbn
   have hb4 := sx _ _ nbl hb
   have cl : c.length = m := by rw [jO (List.mem_of_getElem? ec), g.rows]
   have hin : i < n := by rw [<- wl]; exact (List.getElem?_eq_some_iff.mp hi).1
   refine ⟨_, rfl, .inl ⟨rfl, _, SqL.of hL⟩, _, rfl, b, rfl, ⟨_, SqL.of hb4⟩, iu (fun x => -x) (SqL.of hb4) (by omega) ?_ ?_⟩
   ·intro x hx H5 s5 Q' q
    exact ⟨_, rfl, _, rfl, q H5 (Same.refl _)⟩
   ·intro H5 s5 q hq
    have hL5 := s5 _ _ hL
    have nql : q ≠ l := fun e => by rw [e, hL5] at hq; cases hq
    have xl : xs.length <= 4 := by rw [hP.length, List.length_take]; omega
    refine ⟨l, xs, .ref q, rfl, rfl, ak hq _ _ hL5, aJ (by omega), ?_⟩
    refine ⟨_, _, rfl, di ((s4.trans s5).trans (ak hq)) hl1, ((sx.then s5).then (ak hq)).at, aq, ?_⟩
    have et : (trn U n)[i]? = some (c.map fun x => -x) := by
     unfold trn
     rw [List.getElem?_map, ec]
     rfl
    rw [List.take_add_one, et]
    refine (hP.imp2 fun _ _ z => ((z.mono s5).mono (ak hq)).at).app2 (.cons ⟨q, rfl, nql, ((s1.trans s4).trans s5).free hq, ?_⟩ .nil)
    rw [aH nql, aq]
  ·rintro σ H4 ⟨o2, xs, rfl, s4, sx, hL, hP⟩
   rw [wl, List.take_of_length_le (by rw [zP]; exact Nat.le_refl _)] at hP
   exact ⟨_, rfl, k l H4 (s1.trans s4) ⟨xs, s1.free hl1, hL, hP.imp2 fun _ _ z => z.own⟩⟩
structure Sqr (M : List (List Int)) (t : Nat) : Prop where
 rows : M.length = t
 cols : ∀ r ∈ M, r.length = t
 num : ∀ r ∈ M, ∀ x ∈ r, Sz 9 x
theorem GJ {s : Nat} {f : Nat -> Int} : ∀ n, (∀ j, j < n -> Sz s (f j)) -> Sz (s + n) (Gm.sm n f)
 | 0, _ => by
  unfold Sz
  exact Nat.pow_pos (by decide)
 | n + 1, h => ((GJ n fun j hj => h j (by omega)).add ((h n (by omega)).mono (by omega)) : Sz (s + n + 1) _)
theorem GK (c : Nat) : Sz 1 (Gm.sg c) := by
 unfold Gm.sg Sz
 split <;> decide
theorem uN {M : List (List Int)} {t : Nat} (g : Sqr M (t + 1)) {c : Nat} (hc : c < t + 1) : Sqr ((M.drop 1).map fun r => Gm.cut r c) t := by
 refine ⟨by rw [List.length_map, List.length_drop, g.rows]; omega, fun r hr => ?_, fun r hr x hx => ?_⟩
 ·obtain ⟨r0, h0, rfl⟩ := List.mem_map.mp hr
  have := g.cols r0 (List.mem_of_mem_drop h0)
  unfold Gm.cut
  rw [List.length_append, List.length_take, List.length_drop, this]
  omega
 ·obtain ⟨r0, h0, rfl⟩ := List.mem_map.mp hr
  unfold Gm.cut at hx
  rcases List.mem_append.mp hx with h | h
  ·exact g.num r0 (List.mem_of_mem_drop h0) x (List.mem_of_mem_take h)
  ·exact g.num r0 (List.mem_of_mem_drop h0) x (List.mem_of_mem_drop h)
theorem ue {r : List Int} (h : ∀ x ∈ r, Sz 9 x) (j : Nat) : Sz 9 (r.getD j 0) := by
 rw [List.getD_eq_getElem?_getD]
 cases e : r[j]? with
 | none => show Sz 9 0; unfold Sz; decide
 | some x => exact h x (List.mem_of_getElem? e)
theorem jJ : ∀ (t : Nat) (M : List (List Int)), t <= 4 -> Sqr M t -> Sz (14 * t + 2) (Gm.detN t M)
 | 0, M, _, _ => by
  show Sz 2 1
  unfold Sz; decide
 | t + 1, M, ht, g => by
  have h : ∀ c, c < t + 1 -> Sz (14 * t + 12) (Gm.sg c * (M.getD 0 []).getD c 0 * Gm.detN t ((M.drop 1).map fun r => Gm.cut r c)) := fun c hc => by
   have h0 : 0 < M.length := by rw [g.rows]; omega
   have hr : M.getD 0 [] ∈ M := by rw [List.getD_eq_getElem?_getD, List.getElem?_eq_getElem h0]; exact List.getElem_mem h0
   have := ((GK c).mul (ue (g.num _ hr) c)).mul (jJ t _ (by omega) (uN g hc))
   exact this.mono (by omega)
  exact (GJ (t + 1) h).mono (by omega)
def qT (k : Nat) : Sp := fun vs H Q _ => ∃ (a : Addr) (M : List (List Int)) (t : Nat), t < k /\ vs = [.ref a] /\ IsTab H a M /\ Sqr M t /\ ∀ H', Same H H' -> Q (.int (Gm.detN t M)) H'
theorem HW (c : Nat) : Gm.sg (c + 1) = - Gm.sg c := by
 unfold Gm.sg
 by_cases h : c % 2 = 0
 ·rw [if_neg (by omega), if_pos h]
 ·rw [if_pos (by omega), if_neg h]; rfl
theorem An {r : List Int} {c : Nat} (h : c < r.length) : bQ (r.map V.int) none (some (c : Int)) ++ bQ (r.map V.int) (some ((c : Int) + 1)) none = (Gm.cut r c).map V.int := by
 rw [gr (by omega) (by rw [List.length_map]; omega), eN (by omega) (by rw [List.length_map]; omega)]
 unfold Gm.cut
 rw [List.map_append, List.map_take, List.map_drop, Int.toNat_natCast, show ((c : Int) + 1).toNat = c + 1 by omega]
theorem Di {x : Str} {st : Stmt} {ps : List Str} (F : FunM K mg x st ps) : Def P w K mg base x ps 0 (fun _ _ _ _ => False) := by
 obtain ⟨f, fd, F1, hm, hb⟩ := F.ex
 exact ⟨f, fd, ⟨fun _ _ _ _ h => h.elim, fun _ _ _ _ _ _ _ _ _ _ _ _ _ h => h.elim⟩, hm, F1.kp, hb⟩
abbrev fB : Stmt := top 13
theorem uK : FnScope ["square", "total", "sign", "column", "rest"] ["square"] (aC fB) := ⟨rfl, rfl, rfl, by decide +kernel, rfl, by decide +kernel, by decide +kernel⟩
theorem jD (F : FunM K mg "determinant" fB ["square"]) (T : Blt mg) (j k : Nat) (hk : k <= 4) (dg : Def P w K mg base "determinant" ["square"] j (qT k)) : Def P w K mg base "determinant" ["square"] (j + 1) (qT (k + 1)) := by
 have S := uK
 refine Def.of F S (fun vs H Q E h => ?_) (fun f cdv A outer s H vs Q E hr h => ?_)
 ·obtain ⟨a, M, t, _, rfl, _⟩ := h
  rfl
 ·obtain ⟨a, M, t, ht, rfl, hM, g, kk⟩ := h
  obtain ⟨vs, ha, hp⟩ := id hM
  have vl : vs.length = t := by rw [hp.length, g.rows]
  refine ⟨_, (aA (bB (bh fG (aM (bK K) (by rfl) T.len_ bj (aa (pv 0) ao aj) (he := aj)) au (bf _))
    (aB (aN au)) aY)
   (aA (aO (i := 1) S.nd rfl (Or.inl rfl) au)
   (aA (aO (i := 2) S.nd rfl (Or.inl rfl) au)
   (aA (bU PassesOwn.never rfl (cg rfl T.range_ (aa (aM (bK K) (by rfl) T.len_ bj (aa (pv 0) ao aj) (he := aj)) ao aR)) (aG (i := 3) S.nd rfl (Or.inr rfl))
    (aA (pI (i := 4) rfl S.nd rfl rfl (N' := ["row", "column"]) (src := [none, some 3]) rfl (piL K (b_ (slL K) (pv 0) (cG au) cI)) (fun _ _ _ _ _ => (aG (i := 0) (show (["row", "column"] : List Str).Nodup from by decide +kernel) rfl (Or.inl rfl))) (fun _ _ _ _ _ => aW) (fun _ _ _ _ _ => (aQ dO (b_ (slL K) (pv 0) cI (cG (pv 1))) (b_ (slL K) (pv 0) (cG (aQ dB (pv 1) au)) cI))))
   (aA (aO (i := 1) S.nd rfl (Or.inl rfl) (aQ dB (pv 1) (aQ bV (aQ bV (pv 2) (aP (ixL K) (aP (ixL K) (pv 0) au (fun _ _ => rfl)) (pv 3) (fun _ _ => rfl))) (aF dg (hr.mono (by omega)) rfl (aa (pv 4) ao aj) (he := aj)))))
   (aB (aO (i := 2) S.nd rfl (Or.inl rfl) (pB lw (pv 2)))))))
   (aB (aN (pv 1))))))), ?_⟩
  refine ⟨_, rfl, a, vs, rfl, .inl (SqL.of ha), rfl, _, rfl, ?_⟩
  cases t with
  | zero =>
   refine ifP (by rw [vl]; rfl) ?_
   exact kk H (Same.refl _)
  | succ t =>
   refine ifN (by rw [vl]; simp; omega) ?_
   refine ⟨_, rfl, a, vs, rfl, .inl (SqL.of ha), _, rfl, by omega, by omega, iH (n := vs.length) (fun i σ H' => ∃ o3 o4, σ = [some (.ref a), some (.int (Gm.sm i fun c => Gm.sg c * (M.getD 0 []).getD c 0 * Gm.detN t ((M.drop 1).map fun r => Gm.cut r c))), some (.int (Gm.sg i)), o3, o4] /\ Same H H')
    ⟨_, _, rfl, Same.refl _⟩ ?_ ?_⟩
   ·rintro i σ H1 hi ⟨o3, o4, rfl, s1⟩
    rw [vl] at hi
    have ei : (0 : Int) + (i : Int) = (i : Int) := by omega
    rw [ei]
    have hp1 := hp.imp2 fun _ _ z => z.mono s1
    refine ⟨_, rfl, _, rfl, a, vs, rfl, SqL.of (s1 _ _ ha), fun q hq => ?_⟩
    have ed : bQ vs (some 1) none = vs.drop 1 := eN (k := 1) (by decide) (by rw [vl]; omega)
    rw [ed]
    have hR : IsTab (upd H1 q (.lst (vs.drop 1))) q (M.drop 1) := IsTab.drop1 hq hp1
    have s2 : Same H1 (upd H1 q (.lst (vs.drop 1))) := ak hq
    generalize upd H1 q (.lst (vs.drop 1)) = H2 at hR s2 ⊢
    obtain ⟨ws, hqw, _⟩ := id hR
    refine ⟨q, rfl, ⟨_, SqL.of hqw⟩, jm (fun r => Gm.cut r i) hR (by rw [List.length_drop, g.rows]; omega) ?_ ?_⟩
    ·intro r hr' b hb H3 s3 Q' q'
     have rl : i < r.length := by rw [g.cols r (List.mem_of_mem_drop hr')]; exact hi
     refine ⟨_, rfl, _, rfl, _, rfl, b, _, rfl, SqL.of (s3 _ _ hb), fun q1 hq1 => ?_⟩
     refine ⟨_, rfl, _, rfl, _, _, rfl, rfl, _, rfl, b, _, rfl, SqL.of (ak hq1 _ _ (s3 _ _ hb)), fun q2 hq2 => ?_⟩
     have g1 := ak (o := .lst (bQ (r.map V.int) (some ((i : Int) + 1)) none)) hq2 _ _ (aq (H := H3) (a := q1) (o := .lst (bQ (r.map V.int) none (some (i : Int)))))
     refine ⟨q1, q2, _, _, rfl, rfl, g1, aq, ?_, fun q3 hq3 => ?_⟩
     ·rw [<- List.length_append, An rl, List.length_map]
      unfold Gm.cut
      rw [List.length_append, List.length_take, List.length_drop]
      have := g.cols r (List.mem_of_mem_drop hr')
      exact Nat.le_of_lt (aJ (by omega))
     ·rw [An rl]
      have s5 := (ak (o := .lst (bQ (r.map V.int) none (some (i : Int)))) hq1).trans (ak (o := .lst (bQ (r.map V.int) (some ((i : Int) + 1)) none)) hq2)
      exact q' _ _ (s5.trans (ak hq3)) ⟨q3, rfl, (s3.trans s5).free hq3, aq⟩
    ·intro ys H3 s3 pr p3 hp3
     have hN := (OwnTab.lay s3 hp3 pr).tab
     have s4 : Same H2 (upd H3 p3 (.lst ys)) := s3.trans (ak hp3)
     generalize upd H3 p3 (.lst ys) = H4 at hN s4 ⊢
     have s14 := (s1.trans s2).trans s4
     have h0M : 0 < M.length := by rw [g.rows]; omega
     obtain ⟨vs', b0, ha0, h0, at0, hb0⟩ := (hM.mono s14).row (i := 0) h0M
     have hr0 : M.getD 0 [] ∈ M := by rw [List.getD_eq_getElem?_getD, List.getElem?_eq_getElem h0M]; exact List.getElem_mem h0M
     have c0 : i < (M.getD 0 []).length := by rw [g.cols _ hr0]; exact hi
     have z1 := (GK i)
     have z2 := ue (g.num _ hr0) i
     have gm := uN g hi
     have z3 := jJ t _ (by omega) gm
     have z4 := z1.mul z2
     refine ⟨_, rfl, _, rfl, _, rfl, a, _, 0, _, rfl, rfl, SqL.of ha0, at0, _, rfl, b0, _, _, _, rfl, rfl, SqL.of hb0, fV c0, _, _, rfl, rfl, ⟨up z1, z2.mono (by decide)⟩, ?_⟩
     refine ⟨_, rfl, p3, _, t, by omega, rfl, hN, gm, fun H5 s5 => ?_⟩
     refine ⟨_, _, rfl, rfl, ⟨z4.mono (by decide), z3.mono (by omega)⟩, _, _, rfl, rfl, ?_⟩
     refine ⟨_, rfl, _, rfl, some (.int (i : Int)), some (.ref p3), ?_, s14.trans s5⟩
     rw [HW]
     rfl
   ·rintro σ H1 ⟨o3, o4, rfl, s1⟩
    rw [vl]
    exact ⟨_, rfl, kk H1 s1⟩
def zX : Sp := qT 5
theorem t8 (F : FunM K mg "determinant" fB ["square"]) (T : Blt mg) : Def P w K mg base "determinant" ["square"] 5 zX := by
 have d0 : Def P w K mg base "determinant" ["square"] 0 (qT 0) := by
  obtain ⟨f, fd, F1, hm, hk, hb⟩ := (Di (P := P) (w := w) (base := base) F).ex
  exact ⟨f, fd, F1.imp fun _ _ _ _ ⟨_, _, _, h, _⟩ => absurd h (Nat.not_lt_zero _), hm, hk, hb⟩
 exact jD F T 4 4 (by decide) (jD F T 3 3 (by decide) (jD F T 2 2 (by decide) (jD F T 1 1 (by decide) (jD F T 0 0 (by decide) d0))))
def wj : Sp := fun vs H Q _ => ∃ (a b : Addr) (M : List (List Int)) (t c : Nat) (xs : List Int), vs = [.ref a, .int c, .ref b] /\ IsTab H a M /\ Sqr M t /\ t <= 4 /\ c < t /\ H b = some (.lst (xs.map V.int)) /\ xs.length = t /\ ∀ p H', Same H H' -> OwnTab H H' p (Gm.withC M c xs) -> Q (.ref p) H'
theorem Ih {r : List Int} {c : Nat} {x : Int} (h : c < r.length) : (Gm.putC r c x).length = r.length := by
 unfold Gm.putC
 rw [List.length_append, List.length_append, List.length_take, List.length_drop, List.length_singleton]
 omega
abbrev iV : Stmt := top 14
theorem tM : FnScope ["square", "column", "numbers"] ["square", "column", "numbers"] (aC iV) := ⟨rfl, rfl, rfl, by decide +kernel, rfl, by decide +kernel, by decide +kernel⟩
theorem tG (F : FunM K mg "with_column" iV ["square", "column", "numbers"]) (T : Blt mg) : Def P w K mg base "with_column" ["square", "column", "numbers"] 1 wj := by
 have S := tM
 refine Def.of F S (fun vs H Q E h => ?_) (fun f cdv A outer s H vs Q E hr h => ?_)
 ·obtain ⟨a, b, M, t, c, xs, rfl, _⟩ := h
  rfl
 ·obtain ⟨a, b, M, t, c, xs, rfl, hM, g, t4, hc, hb, xl, kk⟩ := h
  obtain ⟨vs, ha, hp⟩ := id hM
  have vl : vs.length = t := by rw [hp.length, g.rows]
  refine ⟨_, (aB (aN (aX rfl (N' := ["row", "number", "column"]) (src := [none, none, some 1]) rfl (pF K rfl T.zip_ (aa (pv 0) (aa (pv 2) ao aj) aj)) (fun _ _ _ _ _ => (pgT K (n := 2) (a_ (aG (i := 0) (show (["row", "number", "column"] : List Str).Nodup from by decide +kernel) rfl (Or.inl rfl)) (a_ (aG (i := 1) (show (["row", "number", "column"] : List Str).Nodup from by decide +kernel) rfl (Or.inl rfl)) cH)))) (fun _ _ _ _ _ => aW) (fun _ _ _ _ _ => (aQ dO (aQ dO (b_ (slL K) (pv 0) cI (cG (pv 2))) (bO (aa (pv 1) ao aj))) (b_ (slL K) (pv 0) (cG (aQ dB (pv 2) au)) cI)))))), ?_⟩
  refine ⟨_, rfl, _, rfl, a, b, rfl, ⟨_, SqL.of ha⟩, ⟨_, SqL.of hb⟩, qp (xs := vs) (ys := xs.map V.int) (fun i zs H' => Same H H' /\ Paired (OwnRow H H') zs ((Gm.withC M c xs).take i)) ⟨Same.refl _, by simpa using Paired.nil⟩ ?_ (by rw [vl]; exact Nat.le_of_lt (aJ (by omega))) ?_ ?_⟩
  ·rintro i zs H' ⟨s1, pr⟩
   refine ⟨SqL.of (s1 _ _ ha), SqL.of (s1 _ _ hb), ?_⟩
   rw [pr.length, List.length_take]
   omega
  ·rintro i x y p' zs H' hx hy hp' ⟨s1, pr⟩
   obtain ⟨r, er, b1, rfl, hb1⟩ := hp.get2 hx
   rw [List.getElem?_map] at hy
   obtain ⟨y', ey, rfl⟩ : ∃ y', xs[i]? = some y' /\ y = V.int y' := by
    cases e : xs[i]? with
    | none => rw [e] at hy; cases hy
    | some z => rw [e] at hy; exact ⟨z, rfl, by cases hy; rfl⟩
   have rl : c < r.length := by rw [g.cols r (List.mem_of_getElem? er)]; exact hc
   have s2 := s1.trans (ak (o := .tup [.ref b1, .int y']) hp')
   refine ⟨p', _, rfl, SqT.of aq, rfl, _, _, rfl, _, _, rfl, rfl, ?_⟩
   refine yK ?_
   have t2 : Same H' (upd H' p' (.tup [.ref b1, .int y'])) := ak hp'
   generalize upd H' p' (.tup [.ref b1, .int y']) = H2 at s2 t2 ⊢
   have k1 : bQ (r.map V.int) none (some (c : Int)) = (r.take c).map V.int := by
    rw [gr (by omega) (by rw [List.length_map]; omega), List.map_take, Int.toNat_natCast]
   have k2 : bQ (r.map V.int) (some ((c : Int) + 1)) none = (r.drop (c + 1)).map V.int := by
    rw [eN (by omega) (by rw [List.length_map]; omega), List.map_drop, show ((c : Int) + 1).toNat = c + 1 by omega]
   have rt := g.cols r (List.mem_of_getElem? er)
   refine ⟨_, rfl, _, rfl, _, rfl, b1, _, rfl, SqL.of (s2 _ _ hb1), fun q1 hq1 => ?_⟩
   rw [k1]
   have s3 := s2.trans (ak (o := .lst ((r.take c).map V.int)) hq1)
   have t3 := t2.trans (ak (o := .lst ((r.take c).map V.int)) hq1)
   have e1 : upd H2 q1 (.lst ((r.take c).map V.int)) q1 = some (.lst ((r.take c).map V.int)) := aq
   generalize upd H2 q1 (.lst ((r.take c).map V.int)) = H3 at s3 t3 e1 ⊢
   refine ⟨_, rfl, (by show 1 <= sizeLine; decide), fun q2 hq2 => ?_⟩
   have s4 := s3.trans (ak (o := .lst [.int y']) hq2)
   have t4 := t3.trans (ak (o := .lst [.int y']) hq2)
   have e2 : upd H3 q2 (.lst [.int y']) q2 = some (.lst [.int y']) := aq
   have e1' := ak (o := .lst [.int y']) hq2 _ _ e1
   generalize upd H3 q2 (.lst [.int y']) = H4 at s4 t4 e2 e1' ⊢
   refine ⟨q1, q2, _, _, rfl, rfl, e1', e2, (by rw [List.length_map, List.length_take, List.length_singleton]; exact Nat.le_of_lt (aJ (by omega))), fun q3 hq3 => ?_⟩
   have s5 := s4.trans (ak (o := .lst ((r.take c).map V.int ++ [.int y'])) hq3)
   have t5 := t4.trans (ak (o := .lst ((r.take c).map V.int ++ [.int y'])) hq3)
   have e3 : upd H4 q3 (.lst ((r.take c).map V.int ++ [.int y'])) q3 = some (.lst ((r.take c).map V.int ++ [.int y'])) := aq
   generalize upd H4 q3 (.lst ((r.take c).map V.int ++ [.int y'])) = H5 at s5 t5 e3 ⊢
   refine ⟨_, rfl, _, rfl, _, _, rfl, rfl, _, rfl, b1, _, rfl, SqL.of (s5 _ _ hb1), fun q4 hq4 => ?_⟩
   rw [k2]
   have s6 := s5.trans (ak (o := .lst ((r.drop (c + 1)).map V.int)) hq4)
   have t6 := t5.trans (ak (o := .lst ((r.drop (c + 1)).map V.int)) hq4)
   have e3' := ak (o := .lst ((r.drop (c + 1)).map V.int)) hq4 _ _ e3
   refine ⟨q3, q4, _, _, rfl, rfl, e3', aq, (by rw [List.length_append, List.length_map, List.length_map, List.length_take, List.length_drop, List.length_singleton]; exact Nat.le_of_lt (aJ (by omega))), fun q5 hq5 => ?_⟩
   have er' : (r.take c).map V.int ++ [V.int y'] ++ (r.drop (c + 1)).map V.int = (Gm.putC r c y').map V.int := by
    unfold Gm.putC
    rw [List.map_append, List.map_append]
    rfl
   rw [er']
   have s7 := s6.trans (ak (o := .lst ((Gm.putC r c y').map V.int)) hq5)
   refine ⟨s7, ?_⟩
   have et : (Gm.withC M c xs)[i]? = some (Gm.putC r c y') := by
    unfold Gm.withC
    rw [List.getElem?_zipWith, er, ey]
   rw [List.take_add_one, et]
   have t7 := t6.trans (ak (o := .lst ((Gm.putC r c y').map V.int)) hq5)
   exact (pr.imp2 fun _ _ z => z.mono t7).app2 (.cons ⟨q5, rfl, s6.free hq5, aq⟩ .nil)
  ·rintro zs H' ⟨s1, pr⟩ q hq
   rw [List.take_of_length_le (by unfold Gm.withC; rw [List.length_zipWith, List.length_map, vl, g.rows]; omega)] at pr
   exact kk q _ (s1.trans (ak hq)) (OwnTab.lay s1 hq pr)
theorem iB {M : List (List Int)} {t c : Nat} {xs : List Int} (g : Sqr M t) (hc : c < t) (xl : xs.length = t) (hx : ∀ x ∈ xs, Sz 9 x) : Sqr (Gm.withC M c xs) t := by
 unfold Gm.withC
 refine ⟨by rw [List.length_zipWith, g.rows, xl, Nat.min_self], fun r hr => ?_, fun r hr x hx' => ?_⟩
 ·obtain ⟨i, hi, rfl⟩ := List.mem_iff_getElem.mp hr
  rw [List.getElem_zipWith]
  have hm : M[i]'(by rw [List.length_zipWith] at hi; omega) ∈ M := List.getElem_mem _
  rw [Ih (by rw [g.cols _ hm]; exact hc), g.cols _ hm]
 ·obtain ⟨i, hi, rfl⟩ := List.mem_iff_getElem.mp hr
  rw [List.getElem_zipWith] at hx'
  have hm : M[i]'(by rw [List.length_zipWith] at hi; omega) ∈ M := List.getElem_mem _
  unfold Gm.putC at hx'
  rcases List.mem_append.mp hx' with h | h
  ·rcases List.mem_append.mp h with h | h
   ·exact g.num _ hm x (List.mem_of_mem_take h)
   ·rw [List.mem_singleton.mp h]
    exact hx _ (List.getElem_mem _)
  ·exact g.num _ hm x (List.mem_of_mem_drop h)
def qG (M : List (List Int)) (t : Nat) (xs : List Int) : List (Int × Int) := mks ((List.range t).map fun c => Gm.sgn (Gm.detN t M) * Gm.detN t (Gm.withC M c xs)) (Gm.sgn (Gm.detN t M) * Gm.detN t M)
def pU : Sp := fun vs H Q _ => ∃ (a b : Addr) (M : List (List Int)) (t : Nat) (xs : List Int), vs = [.ref a, .ref b] /\ IsTab H a M /\ Sqr M t /\ t <= 4 /\ H b = some (.lst (xs.map V.int)) /\ xs.length = t /\ (∀ x ∈ xs, Sz 9 x) /\
 (Gm.detN t M = 0 -> ∀ H', Same H H' -> Q .non H') /\ (Gm.detN t M ≠ 0 -> ∀ p H', Same H H' -> H p = none -> IsFrs H' p (qG M t xs) -> Q (.ref p) H')
abbrev mW : Stmt := top 15
theorem zL : FnScope ["square", "numbers", "whole", "sign", "parts"] ["square", "numbers"] (aC mW) := ⟨rfl, rfl, rfl, by decide +kernel, rfl, by decide +kernel, by decide +kernel⟩
theorem zB (F : FunM K mg "solution" mW ["square", "numbers"]) (T : Blt mg) (dg : Def P w K mg base "determinant" ["square"] 5 zX) (iY : Def P w K mg base "with_column" ["square", "column", "numbers"] 1 wj) (gb : Def P w K mg base "made" ["a", "b"] 2 lH) : Def P w K mg base "solution" ["square", "numbers"] 6 pU := by
 have S := zL
 refine Def.of F S (fun vs H Q E h => ?_) (fun f cdv A outer s H vs Q E hr h => ?_)
 ·obtain ⟨a, b, M, t, xs, rfl, _⟩ := h
  rfl
 ·obtain ⟨a, b, M, t, xs, rfl, hM, g, t4, hb, xl, hx, kn, ks⟩ := h
  obtain ⟨vs, ha, hp⟩ := id hM
  have vl : vs.length = t := by rw [hp.length, g.rows]
  refine ⟨_, (aA (aO (i := 2) S.nd rfl (Or.inr rfl) (aF dg (hr.mono (by decide)) rfl (aa (pv 0) ao aj) (he := aj)))
   (aA (bB (bh fG (pv 2) au (bf _))
    (aB (aN oO)) aY)
   (aA (aO (i := 3) S.nd rfl (Or.inr rfl) (qg (bh pG (pv 2) au (bf _)) au (pB lw au)))
   (aA (pI (i := 4) rfl S.nd rfl rfl (N' := ["column", "square", "numbers"]) (src := [none, some 0, some 1]) rfl (cg rfl T.range_ (aa (aM (bK K) (by rfl) T.len_ bj (aa (pv 0) ao aj) (he := aj)) ao aR)) (fun _ _ _ _ _ => (aG (i := 0) (show (["column", "square", "numbers"] : List Str).Nodup from by decide +kernel) rfl (Or.inl rfl))) (fun _ _ _ _ _ => aW) (fun _ _ _ _ _ => (aF dg (hr.mono (by decide)) rfl (aa (aF iY (hr.mono (by decide)) rfl (aa (pv 1) (aa (pv 0) (aa (pv 2) ao aj) aj) aj) (he := aj)) ao aR) (he := aR))))
   (aB (aN (aX rfl (N' := ["part", "sign", "whole"]) (src := [none, some 3, some 2]) rfl (piL K (pv 4)) (fun _ _ _ _ _ => (aG (i := 0) (show (["part", "sign", "whole"] : List Str).Nodup from by decide +kernel) rfl (Or.inl rfl))) (fun _ _ _ _ _ => aW) (fun _ _ _ _ _ => (aF gb (hr.mono (by decide)) rfl (aa (aQ bV (pv 1) (pv 0)) (aa (aQ bV (pv 1) (pv 2)) ao bA) bA) (he := bA)))))))))), ?_⟩
  refine ⟨_, rfl, a, M, t, by omega, rfl, hM, g, fun H1 s1 => ?_⟩
  refine ⟨_, rfl, rfl, _, rfl, ?_⟩
  by_cases hz : Gm.detN t M = 0
  ·refine ifP (decide_eq_true (by rw [hz])) ?_
   exact kn hz H1 s1
  refine ifN (by simpa using hz) ?_
  have zw := jJ t M t4 g
  have w0 := Gm.sgn_pos hz
  have zs : Sz 1 (Gm.sgn (Gm.detN t M)) := by unfold Gm.sgn Sz; split <;> decide
  have zS := zs.mul zw
  refine ⟨_, rfl, _, _, rfl, rfl, _, rfl, ?_⟩
  by_cases hc : 0 < Gm.detN t M
  ·have hs : Gm.sgn (Gm.detN t M) = 1 := if_pos hc
   have w0' := w0
   have zs' := zs
   have zS' := zS
   rw [hs] at w0' zs' zS'
   refine ifP (decide_eq_true hc) ?_
   refine ⟨_, rfl, a, vs, rfl, .inl (SqL.of (s1 _ _ ha)), _, rfl, by omega, by omega, cP (n := vs.length) (fun (c : Nat) y _ => y = V.int (Gm.detN t (Gm.withC M c xs))) (fun _ _ _ _ _ h => h) (Nat.le_of_lt (aJ (by omega))) ?_ ?_⟩
   ·intro c hc H2 s2 Q' q
    rw [vl] at hc
    have s12 := s1.trans s2
    refine ⟨_, rfl, _, rfl, _, rfl, a, b, M, t, c, xs, rfl, hM.mono s12, g, t4, hc, s12 _ _ hb, xl, fun p H3 s3 own => ?_⟩
    exact ⟨p, _, t, by omega, rfl, own.tab, iB g hc xl hx, fun H4 s4 => q _ H4 (s3.trans s4) rfl⟩
   ·intro ys H2 s2 pr p hp2
    have e := lQ (fun c => Gm.detN t (Gm.withC M c xs)) pr
    subst e
    rw [vl]
    have q2 : upd H2 p (.lst (((List.range t).map fun c => Gm.detN t (Gm.withC M c xs)).map V.int)) p = some (.lst (((List.range t).map fun c => Gm.detN t (Gm.withC M c xs)).map V.int)) := aq
    have s3 : Same H (upd H2 p (.lst (((List.range t).map fun c => Gm.detN t (Gm.withC M c xs)).map V.int))) := (s1.trans s2).trans (ak hp2)
    generalize upd H2 p (.lst (((List.range t).map fun c => Gm.detN t (Gm.withC M c xs)).map V.int)) = H3 at q2 s3 ⊢
    refine ⟨_, rfl, p, rfl, ⟨_, SqL.of q2⟩, bu (xs := ((List.range t).map fun c => Gm.detN t (Gm.withC M c xs)).map V.int) (fun x y H' => ∀ i, x = V.int i -> IsFr H' y (Fr.mk (Gm.sgn (Gm.detN t M) * i) (Gm.sgn (Gm.detN t M) * Gm.detN t M))) (fun _ _ _ _ s h i e => (h i e).mono s) (SqL.of q2) (by rw [List.length_map, List.length_map, List.length_range]; exact Nat.le_of_lt (aJ (by omega))) ?_ ?_⟩
    ·intro x hx' H4 s4 Q' q
     obtain ⟨d, hd, rfl⟩ := List.mem_map.mp hx'
     obtain ⟨c, hc, rfl⟩ := List.mem_map.mp hd
     have zd := jJ t _ t4 (iB g (List.mem_range.mp hc) xl hx)
     refine ⟨_, rfl, _, rfl, _, _, rfl, rfl, ⟨up zs', zd.mono (by omega)⟩, _, rfl, _, rfl, _, _, rfl, rfl, ⟨up zs', zw.mono (by omega)⟩, _, _, rfl, w0', zS'.mono (by omega), fun r hr' => ?_⟩
     refine q _ _ (ak hr') fun i e => ?_
     cases e
     exact ⟨r, rfl, by rw [hs]; exact aq⟩
    ·intro zsl H4 s4 pr2 r hr'
     have pf := pC (fun i => Fr.mk (Gm.sgn (Gm.detN t M) * i) (Gm.sgn (Gm.detN t M) * Gm.detN t M)) pr2
     refine ks hz r _ ((s3.trans s4).trans (ak hr')) ((s3.trans s4).free hr') ⟨zsl, aq, ?_⟩
     have e : qG M t xs = ((List.range t).map fun c => Gm.detN t (Gm.withC M c xs)).map fun i => Fr.mk (Gm.sgn (Gm.detN t M) * i) (Gm.sgn (Gm.detN t M) * Gm.detN t M) := by
      unfold qG mks
      rw [List.map_map, List.map_map]
      rfl
     rw [e]
     exact pf.imp2 fun _ _ z => z.mono (ak hr')
  ·have hs : Gm.sgn (Gm.detN t M) = -1 := if_neg hc
   have w0' := w0
   have zs' := zs
   have zS' := zS
   rw [hs] at w0' zs' zS'
   refine ifN (by simpa using hc) ?_
   refine ⟨_, rfl, ?_⟩
   refine ⟨_, rfl, a, vs, rfl, .inl (SqL.of (s1 _ _ ha)), _, rfl, by omega, by omega, cP (n := vs.length) (fun (c : Nat) y _ => y = V.int (Gm.detN t (Gm.withC M c xs))) (fun _ _ _ _ _ h => h) (Nat.le_of_lt (aJ (by omega))) ?_ ?_⟩
   ·intro c hc H2 s2 Q' q
    rw [vl] at hc
    have s12 := s1.trans s2
    refine ⟨_, rfl, _, rfl, _, rfl, a, b, M, t, c, xs, rfl, hM.mono s12, g, t4, hc, s12 _ _ hb, xl, fun p H3 s3 own => ?_⟩
    exact ⟨p, _, t, by omega, rfl, own.tab, iB g hc xl hx, fun H4 s4 => q _ H4 (s3.trans s4) rfl⟩
   ·intro ys H2 s2 pr p hp2
    have e := lQ (fun c => Gm.detN t (Gm.withC M c xs)) pr
    subst e
    rw [vl]
    have q2 : upd H2 p (.lst (((List.range t).map fun c => Gm.detN t (Gm.withC M c xs)).map V.int)) p = some (.lst (((List.range t).map fun c => Gm.detN t (Gm.withC M c xs)).map V.int)) := aq
    have s3 : Same H (upd H2 p (.lst (((List.range t).map fun c => Gm.detN t (Gm.withC M c xs)).map V.int))) := (s1.trans s2).trans (ak hp2)
    generalize upd H2 p (.lst (((List.range t).map fun c => Gm.detN t (Gm.withC M c xs)).map V.int)) = H3 at q2 s3 ⊢
    refine ⟨_, rfl, p, rfl, ⟨_, SqL.of q2⟩, bu (xs := ((List.range t).map fun c => Gm.detN t (Gm.withC M c xs)).map V.int) (fun x y H' => ∀ i, x = V.int i -> IsFr H' y (Fr.mk (Gm.sgn (Gm.detN t M) * i) (Gm.sgn (Gm.detN t M) * Gm.detN t M))) (fun _ _ _ _ s h i e => (h i e).mono s) (SqL.of q2) (by rw [List.length_map, List.length_map, List.length_range]; exact Nat.le_of_lt (aJ (by omega))) ?_ ?_⟩
    ·intro x hx' H4 s4 Q' q
     obtain ⟨d, hd, rfl⟩ := List.mem_map.mp hx'
     obtain ⟨c, hc, rfl⟩ := List.mem_map.mp hd
     have zd := jJ t _ t4 (iB g (List.mem_range.mp hc) xl hx)
     refine ⟨_, rfl, _, rfl, _, _, rfl, rfl, ⟨up zs', zd.mono (by omega)⟩, _, rfl, _, rfl, _, _, rfl, rfl, ⟨up zs', zw.mono (by omega)⟩, _, _, rfl, w0', zS'.mono (by omega), fun r hr' => ?_⟩
     refine q _ _ (ak hr') fun i e => ?_
     cases e
     exact ⟨r, rfl, by rw [hs]; exact aq⟩
    ·intro zsl H4 s4 pr2 r hr'
     have pf := pC (fun i => Fr.mk (Gm.sgn (Gm.detN t M) * i) (Gm.sgn (Gm.detN t M) * Gm.detN t M)) pr2
     refine ks hz r _ ((s3.trans s4).trans (ak hr')) ((s3.trans s4).free hr') ⟨zsl, aq, ?_⟩
     have e : qG M t xs = ((List.range t).map fun c => Gm.detN t (Gm.withC M c xs)).map fun i => Fr.mk (Gm.sgn (Gm.detN t M) * i) (Gm.sgn (Gm.detN t M) * Gm.detN t M) := by
      unfold qG mks
      rw [List.map_map, List.map_map]
      rfl
     rw [e]
     exact pf.imp2 fun _ _ z => z.mono (ak hr')
def IsNats (H : Hp) (v : V) (l : List Nat) : Prop := ∃ b, v = .ref b /\ H b = some (.lst (l.map fun (i : Nat) => V.int i))
theorem IsNats.mono {H H' : Hp} {v : V} {l : List Nat} (s : Same H H') (h : IsNats H v l) : IsNats H' v l := let ⟨b, e, q⟩ := h; ⟨b, e, s _ _ q⟩
def OwnNats (H H' : Hp) (v : V) (l : List Nat) : Prop := ∃ b, v = .ref b /\ H b = none /\ H' b = some (.lst (l.map fun (i : Nat) => V.int i))
theorem OwnNats.mono {H H1 H2 : Hp} {v : V} {l : List Nat} (s : Same H1 H2) (h : OwnNats H H1 v l) : OwnNats H H2 v l := let ⟨b, e, n, q⟩ := h; ⟨b, e, n, s _ _ q⟩
theorem OwnNats.nats {H H' : Hp} {v : V} {l : List Nat} (h : OwnNats H H' v l) : IsNats H' v l := let ⟨b, e, _, q⟩ := h; ⟨b, e, q⟩
def rY : Sp := fun vs H Q _ => ∃ n : Nat, vs = [.int n] /\ n <= 4 /\ ∀ p xs H', Same H H' -> H p = none -> H' p = some (.lst xs) -> Paired (OwnNats H H') xs (Gm.chM n) -> Q (.ref p) H'
theorem jy : ∀ n, (Gm.chM n).length = 2 ^ n
 | 0 => rfl
 | n + 1 => by
  show (Gm.chM n ++ (Gm.chM n).map fun c => c ++ [n]).length = _
  rw [List.length_append, List.length_map, jy n, Nat.pow_succ]; omega
theorem jE {n : Nat} (h : n <= 4) : 2 ^ n <= 16 := Nat.pow_le_pow_right (n := 2) (by decide) h
theorem C_ {n : Nat} {c : List Nat} (h : c ∈ Gm.chM n) : c.length <= n := by
 have := (Gm.mem_chM.mpr h).length_le
 rwa [List.length_range] at this
theorem x_ {H H1 H' : Hp} (f : List Nat -> List Nat) : ∀ {vs ys : List V} {L : List (List Nat)}, Paired (fun x y => ∀ l, OwnNats H H1 x l -> OwnNats H H' y (f l)) vs ys -> Paired (OwnNats H H1) vs L -> Paired (OwnNats H H') ys (L.map f)
 | _, _, _, .nil, .nil => .nil
 | _, _, _, .cons h t, .cons q u => .cons (h _ q) (x_ f t u)
theorem Ik {l r : List Nat} (h : (l.map fun (i : Nat) => V.int i) = r.map fun (i : Nat) => V.int i) : l = r := by
 have inj : ∀ (a b : List Nat), (a.map fun (i : Nat) => V.int i) = (b.map fun (i : Nat) => V.int i) -> a = b := by
  intro a
  induction a with
  | nil => intro b h; cases b with
   | nil => rfl
   | cons _ _ => simp at h
  | cons x a ih => intro b h; cases b with
   | nil => simp at h
   | cons y b =>
    simp only [List.map_cons, List.cons.injEq, V.int.injEq] at h
    rw [ih b h.2, show x = y by omega]
 exact inj l r h
theorem IsNats.inj {H : Hp} {v : V} {l r : List Nat} (h : IsNats H v l) (q : IsNats H v r) : l = r := by
 obtain ⟨a, rfl, e⟩ := h
 obtain ⟨b, eb, f⟩ := q
 cases eb
 rw [e] at f
 injection f with f
 injection f with f
 exact Ik f
abbrev nT : Stmt := top 16
theorem BJ : FnScope ["count", "found", "place"] ["count"] (aC nT) := ⟨rfl, rfl, rfl, by decide +kernel, rfl, by decide +kernel, by decide +kernel⟩
theorem BX (F : FunM K mg "choices" nT ["count"]) (T : Blt mg) : Def P w K mg base "choices" ["count"] 1 rY := by
 have S := BJ
 refine Def.of F S (fun vs H Q E h => ?_) (fun f cdv A outer s H vs Q E hr h => ?_)
 ·obtain ⟨n, rfl, _⟩ := h
  rfl
 ·obtain ⟨n, rfl, n4, k⟩ := h
  refine ⟨_, (aA (aO (i := 1) S.nd rfl (Or.inl rfl) (bO (aa (bO ao) ao jw)))
   (aA (bU PassesOwn.never rfl (cg rfl T.range_ (aa (pv 0) ao aj)) (aG (i := 2) S.nd rfl (Or.inr rfl))
    (aB (aO (i := 1) S.nd rfl (Or.inl rfl) (aQ dO (pv 1) (aX rfl (N' := ["chosen", "place"]) (src := [none, some 2]) rfl (piL K (pv 1)) (fun _ _ _ _ _ => (aG (i := 0) (show (["chosen", "place"] : List Str).Nodup from by decide +kernel) rfl (Or.inl rfl))) (fun _ _ _ _ _ => aW) (fun _ _ _ _ _ => (aQ dO (pv 0) (bO (aa (pv 1) ao aj)))))))))
   (aB (aN (pv 1))))), ?_⟩
  refine ⟨Nat.zero_le _, fun l0 hl0 => ?_⟩
  refine ⟨(by show 1 <= sizeLine; decide), fun l1 hl1 => ?_⟩
  have s1 := (ak (o := .lst []) hl0).trans (ak (o := .lst [.ref l0]) hl1)
  have e0 : Paired (OwnNats H (upd (upd H l0 (.lst [])) l1 (.lst [.ref l0]))) [.ref l0] (Gm.chM 0) := .cons ⟨l0, rfl, hl0, ak hl1 _ _ aq⟩ .nil
  have e1 : upd (upd H l0 (.lst [])) l1 (.lst [.ref l0]) l1 = some (.lst [.ref l0]) := aq
  have hn1 : H l1 = none := (ak (o := .lst []) hl0).free hl1
  generalize upd (upd H l0 (.lst [])) l1 (.lst [.ref l0]) = H1 at s1 e0 e1 ⊢
  refine ⟨_, rfl, _, rfl, by omega, by omega, iH (n := n) (fun i σ H' => ∃ l o xs, σ = [some (.int n), some (.ref l), o] /\ Same H H' /\ H l = none /\ H' l = some (.lst xs) /\ Paired (OwnNats H H') xs (Gm.chM i)) ⟨l1, _, _, rfl, s1, hn1, e1, e0⟩ ?_ ?_⟩
  ·rintro i σ H2 hi ⟨l, o, xs, rfl, s2, hln, hl, pr⟩
   have ei : (0 : Int) + (i : Int) = (i : Int) := by omega
   rw [ei]
   have xl : xs.length <= 16 := by rw [pr.length, jy]; exact jE (by omega)
   refine ⟨_, rfl, _, rfl, l, rfl, ⟨_, SqL.of hl⟩, bu (xs := xs) (fun x y H' => ∀ c, OwnNats H H2 x c -> OwnNats H H' y (c ++ [i])) (fun _ _ _ _ s h c q => (h c q).mono s) (SqL.of hl) (Nat.le_of_lt (aJ (by omega))) ?_ ?_⟩
   ·intro x hx H3 s3 Q' q
    obtain ⟨c, hc, hn⟩ := pr.mem2 hx
    obtain ⟨b, rfl, hbn, hb⟩ := id hn
    refine ⟨_, rfl, _, rfl, (by show 1 <= sizeLine; decide), fun q2 hq2 => ?_⟩
    have cl := C_ hc
    refine ⟨b, q2, _, _, rfl, rfl, ak hq2 _ _ (s3 _ _ hb), aq, (by rw [List.length_map, List.length_singleton]; exact Nat.le_of_lt (aJ (by omega))), fun q3 hq3 => ?_⟩
    refine q _ _ ((ak hq2).trans (ak hq3)) fun c' h' => ?_
    rw [<- hn.nats.inj h'.nats]
    exact ⟨q3, rfl, ((s2.trans s3).trans (ak hq2)).free hq3, by rw [aq, List.map_append]; rfl⟩
   ·intro ys H3 s3 prc p hp
    have pn := x_ (fun c => c ++ [i]) prc pr
    have s4 : Same H2 (upd H3 p (.lst ys)) := s3.trans (ak hp)
    have pn' := pn.imp2 fun _ _ z => z.mono (ak (o := .lst ys) hp)
    have ep : upd H3 p (.lst ys) p = some (.lst ys) := aq
    generalize upd H3 p (.lst ys) = H4 at s4 pn' ep ⊢
    refine ⟨l, p, xs, ys, rfl, rfl, s4 _ _ hl, ep, (by rw [pn'.length, List.length_map, <- pr.length]; exact Nat.le_of_lt (aJ (by omega))), fun q hq => ?_⟩
    refine ⟨q, _, _, rfl, (s2.trans s4).trans (ak hq), (s2.trans s4).free hq, aq, ?_⟩
    exact ((pr.imp2 fun _ _ z => (z.mono s4).mono (ak hq))).app2 (pn'.imp2 fun _ _ z => z.mono (ak hq))
  ·rintro σ H2 ⟨l, o, xs, rfl, s2, hln, hl, pr⟩
   exact ⟨_, rfl, k l xs H2 s2 hln hl pr⟩
def cR (qs : List (Int × Int)) (C : List Nat) (n : Nat) : List (Int × Int) := (qs.zip C).foldl (fun w x => w.set x.2 x.1) (List.replicate n (0, 1))
theorem ir (n : Nat) : ∀ (l : List ((Int × Int) × Nat)) (w : List (Int × Int)), (l.foldl (fun w x => w.set x.2 x.1) w).length = w.length
 | [], w => rfl
 | x :: l, w => by
  rw [List.foldl_cons, ir n l, List.length_set]
theorem FN {α : Type} (w : List α) (c j : Nat) (x d : α) : (w.set c x).getD j d = if c = j /\ c < w.length then x else w.getD j d := by
 rw [List.getD_eq_getElem?_getD, List.getElem?_set, List.getD_eq_getElem?_getD]
 by_cases h : c = j
 ·subst h
  rw [if_pos rfl]
  by_cases q : c < w.length
  ·rw [if_pos q, if_pos ⟨rfl, q⟩]; rfl
  ·rw [if_neg q, if_neg fun z => q z.2, List.getElem?_eq_none (by omega)]
 ·rw [if_neg h, if_neg fun z => h z.1]
theorem rH (S : Int) (hS : 0 < S) (j : Nat) : ∀ (C : List Nat) (sh : List Int) (w : List (Int × Int)), C.Nodup -> sh.length = C.length -> (∀ c ∈ C, c < w.length) ->
  (((mks sh S).zip C).foldl (fun w x => w.set x.2 x.1) w).getD j (0, 1) = if j ∈ C then Fr.mk (Gm.yOf C sh j) S else w.getD j (0, 1)
 | [], sh, w, _, _, _ => by
  have : sh = [] \/ sh ≠ [] := Classical.em _
  simp
 | c :: C, [], w, _, h, _ => by simp at h
 | c :: C, p :: ps, w, hn, hl, hlt => by
  have hn' := List.nodup_cons.mp hn
  show (((mks ps S).zip C).foldl (fun w x => w.set x.2 x.1) (w.set c (Fr.mk p S))).getD j (0, 1) = _
  rw [rH S hS j C ps _ hn'.2 (by simpa using hl) (fun x hx => by rw [List.length_set]; exact hlt x (by simp [hx])), Gm.yOf_cons, FN]
  by_cases h1 : j ∈ C
  ·have hne : j ≠ c := fun e => hn'.1 (by rw [<- e]; exact h1)
   rw [if_pos h1, if_pos (by simp [h1]), if_neg hne, Int.zero_add]
  ·rw [if_neg h1]
   by_cases h2 : j = c
   ·subst h2
    rw [if_pos ⟨rfl, hlt j (by simp)⟩, if_pos (by simp), if_pos rfl, Gm.yOf_out h1, Int.add_zero]
   ·rw [if_neg fun z => h2 z.1.symm, if_neg (by simp [h1, h2])]
def wsM (U : List (List Int)) (n : Nat) (R C : List Nat) : List Int := (List.range n).map (Gm.yOf C (Gm.shM U R C))
theorem jt (U : List (List Int)) (n : Nat) (R C : List Nat) : (wsM U n R C).length = n := by unfold wsM; rw [List.length_map, List.length_range]
theorem Cz {n : Nat} {C : List Nat} {sh : List Int} {S : Int} (hS : 0 < S) (hn : C.Nodup) (hl : sh.length = C.length) (hlt : ∀ c ∈ C, c < n) : cR (mks sh S) C n = mks ((List.range n).map (Gm.yOf C sh)) S := by
 have l1 : (cR (mks sh S) C n).length = n := by unfold cR; rw [ir n, List.length_replicate]
 have l2 : (mks ((List.range n).map (Gm.yOf C sh)) S).length = n := by rw [cQ, List.length_map, List.length_range]
 apply List.ext_getElem (by rw [l1, l2])
 intro j h1 h2
 rw [l1] at h1
 have e := rH S hS j C sh (List.replicate n (0, 1)) hn hl (fun c hc => by rw [List.length_replicate]; exact hlt c hc)
 have e1 : (cR (mks sh S) C n).getD j (0, 1) = (cR (mks sh S) C n)[j]'(by rw [l1]; exact h1) := by
  rw [List.getD_eq_getElem?_getD, List.getElem?_eq_getElem (by rw [l1]; exact h1)]; rfl
 rw [<- e1]
 unfold cR
 rw [e]
 have e3 : (mks ((List.range n).map (Gm.yOf C sh)) S)[j]'h2 = Fr.mk (Gm.yOf C sh j) S := by simp [mks]
 rw [e3]
 by_cases h : j ∈ C
 ·rw [if_pos h]
 ·rw [if_neg h, Gm.yOf_out h, Fr.mk_zero hS]
  rw [List.getD_eq_getElem?_getD, List.getElem?_replicate, if_pos h1]
  rfl
theorem lV {α : Type} (x : α) : ∀ n, (List.replicate n [x]).flatten = List.replicate n x
 | 0 => rfl
 | n + 1 => by
  rw [List.replicate_succ, List.flatten_cons, lV x n, List.replicate_succ]; rfl
theorem rB {α β : Type} {F : α -> β -> Prop} {x : α} {y : β} (h : F x y) : ∀ n, Paired F (List.replicate n x) (List.replicate n y)
 | 0 => .nil
 | n + 1 => .cons h (rB h n)
def oE : Sp := fun vs H Q _ => ∃ (a b : Addr) (qs : List (Int × Int)) (C : List Nat) (n : Nat), vs = [.ref a, .ref b, .int n] /\ IsFrs H a qs /\ IsNats H (.ref b) C /\ qs.length = C.length /\ (∀ c ∈ C, c < n) /\ n <= 4 /\ ∀ p H', Same H H' -> H p = none -> IsFrs H' p (cR qs C n) -> Q (.ref p) H'
abbrev qI : Stmt := top 17
theorem Ep : FnScope ["shares", "places", "count", "mixture", "share", "place"] ["shares", "places", "count"] (aC qI) := ⟨rfl, rfl, rfl, by decide +kernel, rfl, by decide +kernel, by decide +kernel⟩
theorem Ek (F : FunM K mg "spread" qI ["shares", "places", "count"]) (T : Blt mg) : Def P w K mg base "spread" ["shares", "places", "count"] 1 oE := by
 have S := Ep
 refine Def.of F S (fun vs H Q E h => ?_) (fun f cdv A outer s H vs Q E hr h => ?_)
 ·obtain ⟨a, b, qs, C, n, rfl, _⟩ := h
  rfl
 ·obtain ⟨a, b, qs, C, n, rfl, hA, hB, hl, hlt, n4, k⟩ := h
  obtain ⟨xs, ha, pa⟩ := id hA
  obtain ⟨b', eb, hb⟩ := id hB
  cases eb
  refine ⟨_, (aA (aO (i := 3) S.nd rfl (Or.inl rfl) (aQ yE (bO (aa (bz (aa au (aa au ao aD) aD)) ao dM)) (pv 2)))
   (aA (bU PassesOwn.never rfl (pF K rfl T.zip_ (aa (pv 0) (aa (pv 1) ao aj) aj)) (pgT K (n := 2) (a_ (aG (i := 4) S.nd rfl (Or.inl rfl)) (a_ (aG (i := 5) S.nd rfl (Or.inl rfl)) cH)))
    (aB (rC (pv 4) (CQ (pv 3) (pv 5) set_list))))
   (aB (aN (pv 3))))), ?_⟩
  refine ⟨(by show 2 <= sizeLine; decide), fun t ht => ⟨(by show 1 <= sizeLine; decide), fun l hl' => ?_⟩⟩
  refine ⟨_, rfl, l, (n : Int), _, rfl, rfl, aq, by omega, by omega, (by rw [List.length_singleton, Int.toNat_natCast]; exact Nat.le_of_lt (aJ (by omega))), fun p hp => ?_⟩
  rw [Int.toNat_natCast, lV]
  have s1 := (ak (o := .tup [.int 0, .int 1]) ht).trans (ak (o := .lst [.ref t]) hl')
  have hpn : H p = none := s1.free hp
  have ft : IsFr (upd (upd H t (.tup [.int 0, .int 1])) l (.lst [.ref t])) (.ref t) (0, 1) := ⟨t, rfl, ak hl' _ _ aq⟩
  generalize upd (upd H t (.tup [.int 0, .int 1])) l (.lst [.ref t]) = H1 at s1 ft hp ⊢
  have s2 := s1.trans (ak (o := .lst (List.replicate n (.ref t))) hp)
  have ft2 := ft.mono (ak (o := .lst (List.replicate n (.ref t))) hp)
  have ep : upd H1 p (.lst (List.replicate n (.ref t))) p = some (.lst (List.replicate n (.ref t))) := aq
  generalize upd H1 p (.lst (List.replicate n (.ref t))) = H2 at s2 ft2 ep ⊢
  refine ⟨_, rfl, _, rfl, a, b, rfl, ⟨_, SqL.of (s2 _ _ ha)⟩, ⟨_, SqL.of (s2 _ _ hb)⟩, tu (K := K) (a := a) (b := b) (xs := xs) (ys := C.map fun (i : Nat) => V.int i) (fun i σ H' => ∃ o4 o5 zs, σ = [some (.ref a), some (.ref b), some (.int n), some (.ref p), o4, o5] /\ Same H H' /\ H' p = some (.lst zs) /\ Paired (IsFr H') zs (((qs.zip C).take i).foldl (fun w x => w.set x.2 x.1) (List.replicate n (0, 1))))
    ⟨_, _, _, rfl, s2, ep, by rw [List.take_zero]; exact rB ft2 n⟩ ?_ ?_ ?_⟩
  ·rintro i σ H' ⟨_, _, _, _, s3, _⟩
   exact ⟨SqL.of (s3 _ _ ha), SqL.of (s3 _ _ hb)⟩
  ·rintro i x y q σ H' hx hy hq ⟨o4, o5, zs, rfl, s3, hz, pz⟩
   obtain ⟨f1, e1, c1, rfl, h1⟩ := pa.get2 hx
   rw [List.getElem?_map] at hy
   obtain ⟨c, ec, rfl⟩ : ∃ c, C[i]? = some c /\ y = V.int (c : Nat) := by
    cases e : C[i]? with
    | none => rw [e] at hy; cases hy
    | some z => rw [e] at hy; exact ⟨z, rfl, by cases hy; rfl⟩
   have ez : (qs.zip C)[i]? = some (f1, c) := List.getElem?_zip_eq_some.mpr ⟨e1, ec⟩
   have hc := hlt c (List.mem_of_getElem? ec)
   have zl : zs.length = n := by rw [pz.length, ir n, List.length_replicate]
   have sq := ak (o := .tup [.ref c1, .int (c : Nat)]) hq
   refine ⟨q, _, rfl, SqT.of aq, rfl, _, _, rfl, _, _, rfl, rfl, ?_⟩
   refine ⟨_, rfl, _, rfl, _, rfl, p, zs, (c : Int), c, rfl, rfl, sq _ _ hz, ?_, ?_⟩
   ·unfold ixN
    rw [if_pos (by omega), if_pos (by omega), Int.toNat_natCast]
   ·refine ⟨_, _, _, rfl, di (s3.trans sq) hpn, aq, ?_⟩
    rw [List.take_add_one, ez, List.foldl_append]
    refine Paired.set2 ?_ c (pz.imp2 fun _ _ z => (z.mono sq).at (sq _ _ hz))
    exact IsFr.at (sq _ _ hz) ⟨c1, rfl, sq _ _ (s3 _ _ h1)⟩
  ·rintro σ H' ⟨o4, o5, zs, rfl, s3, hz, pz⟩
   have l1 : (qs.zip C).take (min xs.length (C.map fun (i : Nat) => V.int i).length) = qs.zip C := List.take_of_length_le (by rw [List.length_zip, pa.length, List.length_map]; exact Nat.le_refl _)
   rw [l1] at pz
   exact ⟨_, rfl, k p H' s3 hpn ⟨zs, hz, pz⟩⟩
theorem Em (l : List Nat) : (l.map fun (i : Nat) => V.int i) = (l.map fun (i : Nat) => (i : Int)).map V.int := by rw [List.map_map]; rfl
theorem Dq {l : List Nat} {t : Nat} (h : t < l.length) : atI (l.map fun (i : Nat) => V.int i) (t : Int) = some (.int (l.getD t 0 : Nat)) := by
 have e : (l.map fun (i : Nat) => V.int i)[t]? = some (V.int (l.getD t 0 : Nat)) := by
  rw [List.getElem?_map, List.getElem?_eq_getElem h, List.getD_eq_getElem?_getD, List.getElem?_eq_getElem h]; rfl
 exact gR e
theorem lC {U : List (List Int)} {m n : Nat} {R C : List Nat} (g : Gd U m n) (g2 : Gm.Good2 m n R C) : Sqr (Gm.eqsM U R C) C.length := by
 unfold Gm.eqsM
 have l := g2.len
 have p := g2.pos
 refine ⟨by rw [List.length_cons, List.length_map, List.length_drop]; omega, fun r hr => ?_, fun r hr x hx => ?_⟩
 ·rcases List.mem_cons.mp hr with rfl | hr
  ·rw [List.length_replicate]
  ·obtain ⟨i, _, rfl⟩ := List.mem_map.mp hr
   rw [List.length_map]
 ·rcases List.mem_cons.mp hr with rfl | hr
  ·rw [(List.mem_replicate.mp hx).2]
   show (1 : Int).natAbs < 2 ^ 9
   decide
  ·obtain ⟨i, hi, rfl⟩ := List.mem_map.mp hr
   obtain ⟨j, hj, rfl⟩ := List.mem_map.mp hx
   have b : ∀ i j, i < m -> j < n -> -200 <= Gm.cell U i j /\ Gm.cell U i j <= 200 := fun i j hi hj => by
    have h1 := g.row hi
    refine g.num _ h1.1 _ ?_
    show (U.getD i []).getD j 0 ∈ U.getD i []
    rw [List.getD_eq_getElem?_getD (l := U.getD i []), List.getElem?_eq_getElem (by rw [h1.2]; exact hj)]
    exact List.getElem_mem _
   have hi' := List.mem_range.mp (g2.rs.subset (List.mem_of_mem_drop hi))
   have b1 := b i j hi' (g2.lt j hj)
   have b2 := b (R.headD 0) j g2.r0m (g2.lt j hj)
   show (Gm.cell U i j - Gm.cell U (R.headD 0) j).natAbs < 512
   omega
theorem IW (U : List (List Int)) (R C : List Nat) : qG (Gm.eqsM U R C) C.length (Gm.numsM C.length) = mks (Gm.shM U R C) (Gm.smM U R C) := by
 unfold qG Gm.shM Gm.smM Gm.partsM
 rw [List.map_map]
 rfl
def yg : Sp := fun vs H Q _ => ∃ (a b c : Addr) (U : List (List Int)) (m n : Nat) (R C : List Nat), vs = [.ref a, .ref b, .ref c] /\ IsTab H a U /\ Gd U m n /\ IsNats H (.ref b) R /\ IsNats H (.ref c) C /\ Gm.Good2 m n R C /\
 (Gm.wholeM U R C = 0 -> ∀ H', Same H H' -> Q .non H') /\ (Gm.wholeM U R C ≠ 0 -> ∀ p H', Same H H' -> H p = none -> IsFrs H' p (mks (Gm.shM U R C) (Gm.smM U R C)) -> Q (.ref p) H')
abbrev tD : Stmt := top 18
theorem Ft : FnScope ["table", "rows", "columns", "first", "equations", "row"] ["table", "rows", "columns"] (aC tD) := ⟨rfl, rfl, rfl, by decide +kernel, rfl, by decide +kernel, by decide +kernel⟩
theorem FJ (F : FunM K mg "level" tD ["table", "rows", "columns"]) (T : Blt mg) (mG : Def P w K mg base "solution" ["square", "numbers"] 6 pU) : Def P w K mg base "level" ["table", "rows", "columns"] 7 yg := by
 have S := Ft
 refine Def.of F S (fun vs H Q E h => ?_) (fun f cdv A outer s H vs Q E hr h => ?_)
 ·obtain ⟨a, b, c, U, m, n, R, C, rfl, _⟩ := h
  rfl
 ·obtain ⟨a, b, c, U, m, n, R, C, rfl, hU, g, hB, hC, g2, kn, ks⟩ := h
  obtain ⟨b', eb, hb⟩ := id hB
  cases eb
  obtain ⟨c', ec, hc⟩ := id hC
  cases ec
  have c4 := g2.c4 g.n4
  have cp := g2.pos
  have rl := g2.len
  have r0 : R.getD 0 0 = R.headD 0 := by cases R <;> rfl
  have h0m := g2.r0m
  obtain ⟨vs, f0, ha, h0, at0, hf0⟩ := hU.row (i := R.headD 0) (by rw [g.rows]; exact h0m)
  have rt : atI (R.map fun (i : Nat) => V.int i) (0 : Int) = some (.int (R.headD 0 : Nat)) := by
   have := Dq (l := R) (t := 0) (by omega)
   rw [r0] at this
   exact this
  refine ⟨_, (aA (aO (i := 3) S.nd rfl (Or.inr rfl) (aP (ixL K) (pv 0) (aP (ixL K) (pv 1) au (fun _ _ => rfl)) (fun _ _ => rfl)))
   (aA (aO (i := 4) S.nd rfl (Or.inl rfl) (bO (aa (aQ yE (bO (aa au ao aD)) (aM (bK K) (by rfl) T.len_ bj (aa (pv 2) ao aj) (he := aj))) ao bA)))
   (aA (bU PassesOwn.never rfl (piL K (b_ (slL K) (pv 1) (cG au) cI)) (aG (i := 5) S.nd rfl (Or.inr rfl))
    (aB (cu (g8 PySem.F.plainAttrs_list PySem.F.slot_list_append PySem.F.type_list_append dH (pv 4) (aa (aX rfl (N' := ["column", "table", "row", "first"]) (src := [none, some 0, some 5, some 3]) rfl (piL K (pv 2)) (fun _ _ _ _ _ => (aG (i := 0) (show (["column", "table", "row", "first"] : List Str).Nodup from by decide +kernel) rfl (Or.inl rfl))) (fun _ _ _ _ _ => aW) (fun _ _ _ _ _ => (aQ lD (aP (ixL K) (aP (ixL K) (pv 1) (pv 2) (fun _ _ => rfl)) (pv 0) (fun _ _ => rfl)) (aP (ixL K) (pv 3) (pv 0) (fun _ _ => rfl))))) ao aU)))))
   (aB (aN (aF mG (hr.mono (by decide)) rfl (aa (pv 4) (aa (aQ dO (bO (aa au ao aD)) (aQ yE (bO (aa au ao aD)) (aQ lD (aM (bK K) (by rfl) T.len_ bj (aa (pv 1) ao aj) (he := aj)) au))) ao bA) aj) (he := aj))))))), ?_⟩
  refine ⟨_, rfl, _, rfl, b, _, 0, _, rfl, rfl, SqL.of hb, rt, a, vs, _, _, rfl, rfl, SqL.of ha, at0, ?_⟩
  refine ⟨(by show 1 <= sizeLine; decide), fun l0 hl0 => ?_⟩
  have s0 : Same H (upd H l0 (.lst [.int 1])) := ak hl0
  refine ⟨_, rfl, c, _, rfl, .inl (SqL.of (s0 _ _ hc)), l0, _, _, rfl, rfl, aq, by omega, by rw [List.length_map]; omega, (by rw [List.length_singleton, List.length_map]; exact Nat.le_of_lt (aJ (by omega))), fun l1 hl1 => ?_⟩
  have e1 : (List.replicate ((C.map fun (i : Nat) => V.int i).length : Int).toNat [V.int 1]).flatten = (List.replicate C.length (1 : Int)).map V.int := by
   rw [Int.toNat_natCast, lV, List.length_map, List.map_replicate]
  rw [e1]
  have s1 := s0.trans (ak (o := .lst ((List.replicate C.length (1 : Int)).map V.int)) hl1)
  have l1n : H l1 = none := s0.free hl1
  have q1 : upd (upd H l0 (.lst [.int 1])) l1 (.lst ((List.replicate C.length (1 : Int)).map V.int)) l1 = some (.lst ((List.replicate C.length (1 : Int)).map V.int)) := aq
  generalize upd (upd H l0 (.lst [.int 1])) l1 (.lst ((List.replicate C.length (1 : Int)).map V.int)) = H1 at s1 q1 ⊢
  refine ⟨(by show 1 <= sizeLine; decide), fun e he => ?_⟩
  have he1 : H1 e = none := he
  have hen : H e = none := s1.free he
  have n1e : l1 ≠ e := aV q1 he
  have s2 := s1.trans (ak (o := .lst [.ref l1]) he)
  have q2 : upd H1 e (.lst [.ref l1]) e = some (.lst [.ref l1]) := aq
  have q1' := ak (o := .lst [.ref l1]) he _ _ q1
  generalize upd H1 e (.lst [.ref l1]) = H2 at s2 q2 q1' ⊢
  refine ⟨_, rfl, _, rfl, b, _, rfl, SqL.of (s2 _ _ hb), fun q hq => ?_⟩
  have ed : bQ (R.map fun (i : Nat) => V.int i) (some 1) none = (R.drop 1).map fun (i : Nat) => V.int i := by
   rw [eN (k := 1) (by decide) (by rw [List.length_map]; omega)]
   exact List.map_drop.symm
  rw [ed]
  have s3 := s2.trans (ak (o := .lst ((R.drop 1).map fun (i : Nat) => V.int i)) hq)
  have q3 := ak (o := .lst ((R.drop 1).map fun (i : Nat) => V.int i)) hq _ _ q2
  have q1'' := ak (o := .lst ((R.drop 1).map fun (i : Nat) => V.int i)) hq _ _ q1'
  have qq : upd H2 q (.lst ((R.drop 1).map fun (i : Nat) => V.int i)) q = some (.lst ((R.drop 1).map fun (i : Nat) => V.int i)) := aq
  have nqe : q ≠ e := fun z => by rw [z, q2] at hq; cases hq
  generalize upd H2 q (.lst ((R.drop 1).map fun (i : Nat) => V.int i)) = H3 at s3 q3 q1'' qq ⊢
  refine ⟨q, rfl, ⟨_, SqL.of qq⟩, cM (K := K) (a := q) (xs := (R.drop 1).map fun (i : Nat) => V.int i) (fun i σ H' => ∃ o5 zs, σ = [some (.ref a), some (.ref b), some (.ref c), some (.ref f0), some (.ref e), o5] /\ Same H H' /\ SameX e H3 H' /\ H' e = some (.lst zs) /\ Paired (RowX H e H') zs ((Gm.eqsM U R C).take (i + 1)))
   ⟨_, _, rfl, s3, SameX.refl, q3, .cons ⟨l1, rfl, n1e, l1n, q1''⟩ .nil⟩ ?_ ?_ ?_⟩
  ·rintro i σ H4 _ ⟨_, _, _, _, sx, _⟩
   exact SqL.of (sx _ _ nqe qq)
  ·rintro i y σ H4 hi ⟨o5, zs, rfl, s4, sx, hz, pz⟩
   rw [List.getElem?_map] at hi
   obtain ⟨ρ, eρ, rfl⟩ : ∃ ρ, (R.drop 1)[i]? = some ρ /\ y = V.int (ρ : Nat) := by
    cases e : (R.drop 1)[i]? with
    | none => rw [e] at hi; cases hi
    | some z => rw [e] at hi; exact ⟨z, rfl, by cases hi; rfl⟩
   have hρ : ρ < m := List.mem_range.mp (g2.rs.subset (List.mem_of_mem_drop (List.mem_of_getElem? eρ)))
   have hc4 := s4 _ _ hc
   rw [Em] at hc4
   refine ⟨_, rfl, .inl ⟨rfl, _, SqL.of hz⟩, _, rfl, c, rfl, ⟨_, SqL.of hc4⟩, iu (fun x => Gm.cell U ρ x.toNat - Gm.cell U (R.headD 0) x.toNat) (SqL.of hc4) (by rw [List.length_map]; omega) ?_ ?_⟩
   ·intro x hx H5 s5 Q' q'
    obtain ⟨j, hj, rfl⟩ := List.mem_map.mp hx
    have hjn := g2.lt j hj
    have s45 := s4.trans s5
    obtain ⟨vs5, b5, ha5, h5, at5, hb5⟩ := (hU.mono s45).row (i := ρ) (by rw [g.rows]; exact hρ)
    refine ⟨_, rfl, _, rfl, a, _, _, _, rfl, rfl, SqL.of ha5, at5, _, rfl, b5, _, _, _, rfl, rfl, SqL.of hb5, fV (by rw [(g.row hρ).2]; exact hjn), ?_⟩
    refine ⟨_, rfl, _, rfl, f0, _, _, _, rfl, rfl, SqL.of (s45 _ _ hf0), fV (by rw [(g.row h0m).2]; exact hjn), _, _, rfl, rfl, ?_⟩
    have := q' H5 (Same.refl _)
    rw [Int.toNat_natCast] at this
    exact this
   ·intro H5 s5 p hp
    have hz5 := s5 _ _ hz
    have npe : p ≠ e := fun z => by rw [z, hz5] at hp; cases hp
    have zl : zs.length <= 4 := by
     have er : (Gm.eqsM U R C).length = C.length := (lC g g2).rows
     rw [pz.length, List.length_take, er]
     omega
    refine ⟨e, zs, .ref p, rfl, rfl, ak hp _ _ hz5, aJ (by omega), ?_⟩
    refine ⟨_, _, rfl, di ((s4.trans s5).trans (ak hp)) hen, ((sx.then s5).then (ak hp)).at, aq, ?_⟩
    have et : (Gm.eqsM U R C)[i + 1]? = some (C.map fun j => Gm.cell U ρ j - Gm.cell U (R.headD 0) j) := by
     unfold Gm.eqsM
     rw [List.getElem?_cons_succ, List.getElem?_map, eρ]
     rfl
    rw [List.take_add_one, et]
    refine (pz.imp2 fun _ _ z => ((z.mono s5).mono (ak hp)).at).app2 (.cons ⟨p, rfl, npe, (s4.trans s5).free hp, ?_⟩ .nil)
    rw [aH npe, aq]
    have el : (C.map fun (i : Nat) => (i : Int)).map (fun x => Gm.cell U ρ x.toNat - Gm.cell U (R.headD 0) x.toNat) = C.map fun j => Gm.cell U ρ j - Gm.cell U (R.headD 0) j := by
     rw [List.map_map]
     exact List.map_congr_left fun j _ => by simp only [Function.comp, Int.toNat_natCast]
    rw [el]
  ·rintro σ H4 ⟨o5, zs, rfl, s4, sx, hz, pz⟩
   have er : (Gm.eqsM U R C).length = C.length := (lC g g2).rows
   rw [List.length_map, List.length_drop, List.take_of_length_le (by rw [er]; omega)] at pz
   have hE : IsTab H4 e (Gm.eqsM U R C) := ⟨zs, hz, pz.imp2 fun _ _ z => z.own.row⟩
   refine ⟨_, rfl, (by show 1 <= sizeLine; decide), fun k1 hk1 => ?_⟩
   refine ⟨(by show 1 <= sizeLine; decide), fun k2 hk2 => ?_⟩
   have t1 := ak (o := .lst [.int 1]) hk1
   have t2 := ak (o := .lst [.int 0]) hk2
   refine ⟨_, rfl, b, _, rfl, .inl (SqL.of (t2 _ _ (t1 _ _ (s4 _ _ hb)))), _, _, rfl, rfl, k2, _, _, rfl, rfl, aq, by omega, by rw [List.length_map]; omega, ?_, fun k3 hk3 => ?_⟩
   ·rw [List.length_singleton, List.length_map]
    exact Nat.le_of_lt (aJ (by omega))
   have e2 : (List.replicate (((R.map fun (i : Nat) => V.int i).length : Int) - 1).toNat [V.int 0]).flatten = (List.replicate (C.length - 1) (0 : Int)).map V.int := by
    rw [lV, List.length_map, List.map_replicate, show ((R.length : Int) - 1).toNat = C.length - 1 by omega]
   rw [e2]
   have t3 := ak (o := .lst ((List.replicate (C.length - 1) (0 : Int)).map V.int)) hk3
   have w1 := t3 _ _ (t2 _ _ (aq (H := H4) (a := k1) (o := .lst [.int 1])))
   refine ⟨k1, k3, _, _, rfl, rfl, w1, aq, ?_, fun k4 hk4 => ?_⟩
   ·rw [List.length_singleton, List.length_map, List.length_replicate]
    exact Nat.le_of_lt (aJ (by omega))
   have e3 : [V.int 1] ++ (List.replicate (C.length - 1) (0 : Int)).map V.int = (Gm.numsM C.length).map V.int := rfl
   rw [e3]
   have t4 := (t1.trans t2).trans (t3.trans (ak (o := .lst ((Gm.numsM C.length).map V.int)) hk4))
   have sT := s4.trans t4
   refine ⟨e, k4, Gm.eqsM U R C, C.length, Gm.numsM C.length, rfl, hE.mono t4, lC g g2, c4, aq, ?_, ?_, fun hz' H5 s5 => kn hz' H5 (sT.trans s5), fun hz' p H5 s5 hpn hf => ks hz' p H5 (sT.trans s5) (sT.free hpn) (by rw [<- IW]; exact hf)⟩
   ·unfold Gm.numsM
    rw [List.length_cons, List.length_replicate]; omega
   ·intro x hx
    unfold Gm.numsM at hx
    rcases List.mem_cons.mp hx with rfl | hx
    ·show (1 : Int).natAbs < 2 ^ 9
     decide
    ·rw [(List.mem_replicate.mp hx).2]
     show (0 : Int).natAbs < 2 ^ 9
     decide
abbrev cO := List (Int × Int) × (Int × Int)
def bC (U : List (List Int)) (n : Nat) (R C : List Nat) : cO := (mks (wsM U n R C) (Gm.smM U R C), Fr.mk (Gm.gain U n (Gm.yOf C (Gm.shM U R C)) (R.headD 0)) (Gm.smM U R C))
def IsCor (l : Addr) (H : Hp) (v : V) (q : cO) : Prop := ∃ t k u, v = .ref t /\ H t = some (.tup [.ref k, .ref u]) /\ k ≠ l /\ IsFrs H k q.1 /\ H u = some (.tup [.int q.2.1, .int q.2.2])
theorem IsCor.mono {l : Addr} {H H' : Hp} {v : V} {q : cO} (s : Same H H') (h : IsCor l H v q) : IsCor l H' v q := let ⟨t, k, u, e, a, b, c, d⟩ := h; ⟨t, k, u, e, s _ _ a, b, c.mono s, s _ _ d⟩
theorem IsCor.at {l : Addr} {H : Hp} {v : V} {q : cO} {xs : List V} {o : HO} (hl : H l = some (.lst xs)) (h : IsCor l H v q) : IsCor l (upd H l o) v q := by
 obtain ⟨t, k, u, e, a, b, ⟨vs, c1, c2⟩, d⟩ := h
 exact ⟨t, k, u, e, by rw [aH (jj a hl (by intro z; cases z))]; exact a, b, ⟨vs, by rw [aH b]; exact c1, c2.imp2 fun _ _ z => z.at hl⟩, by rw [aH (jj d hl (by intro z; cases z))]; exact d⟩
theorem wQ : ∀ (n : Nat) (r : List Int) (y : Nat -> Int), r.length = n -> Fr.dot r ((List.range n).map y) = Gm.sm n fun j => r.getD j 0 * y j := by
 have go : ∀ (n : Nat) (r : List Int) (y : Nat -> Int), r.length = n -> Fr.dot r ((List.range n).map y) = Gm.sm n fun j => r.getD j 0 * y j := by
  intro n
  induction n with
  | zero =>
   intro r y h
   have := List.eq_nil_of_length_eq_zero h
   subst this
   rfl
  | succ n ih =>
   intro r y h
   have hne : r ≠ [] := fun e => by rw [e] at h; simp at h
   have e : r = r.dropLast ++ [r.getLast hne] := (List.dropLast_concat_getLast hne).symm
   have dl : r.dropLast.length = n := by rw [List.length_dropLast]; omega
   rw [List.range_succ, List.map_append]
   show Fr.dot r ((List.range n).map y ++ [y n]) = Gm.sm n (fun j => r.getD j 0 * y j) + r.getD n 0 * y n
   have e2 : Gm.sm n (fun j => r.getD j 0 * y j) = Gm.sm n fun j => r.dropLast.getD j 0 * y j := Gm.sm_congr fun j hj => by
    congr 1
    conv => lhs; rw [e]
    rw [List.getD_eq_getElem?_getD, List.getElem?_append_left (by omega), List.getD_eq_getElem?_getD]
   have e3 : r.getD n 0 = r.getLast hne := by
    conv => lhs; rw [e]
    rw [List.getD_eq_getElem?_getD, List.getElem?_append_right (by omega), dl]
    simp
   rw [e2, e3, <- ih r.dropLast y dl]
   conv => lhs; rw [e]
   exact Fr.dot_snoc _ _ _ _ (by rw [dl, List.length_map, List.length_range])
 exact go
theorem d9 {U : List (List Int)} {m n : Nat} (g : Gd U m n) {i : Nat} (hi : i < m) (y : Nat -> Int) : Fr.dot (U.getD i []) ((List.range n).map y) = Gm.gain U n y i := wQ n _ y (g.row hi).2
theorem gO {a c S : Int} (h : 0 < S) : decide ((Fr.mk a S).1 * (Fr.mk c S).2 < (Fr.mk c S).1 * (Fr.mk a S).2) = decide (a < c) := by
 rw [Fr.mk_lt h h]
 exact decide_eq_decide.mpr ⟨fun q => Int.lt_of_mul_lt_mul_right q (by omega), fun q => Int.mul_lt_mul_of_pos_right q h⟩
theorem yq {U : List (List Int)} {m n : Nat} {R C : List Nat} (g : Gd U m n) (g2 : Gm.Good2 m n R C) : Sz 60 (Gm.smM U R C) := by
 have c4 := g2.c4 g.n4
 have zs : Sz 1 (Gm.sgn (Gm.wholeM U R C)) := by unfold Gm.sgn Sz; split <;> decide
 exact (zs.mul (jJ C.length _ c4 (lC g g2))).mono (by omega)
theorem Dc : ∀ {l : List Int}, (∀ x ∈ l, 0 <= x) -> ∀ x ∈ l, x <= l.sum
 | [], _, x, h => nomatch h
 | y :: l, h, x, hx => by
  have h1 := h y (by simp)
  have h2 : 0 <= l.sum := by
   exact le_sum_nn (l := l) fun z hz => h z (List.mem_cons_of_mem _ hz)
  rw [List.sum_cons]
  rcases List.mem_cons.mp hx with rfl | hx
  ·omega
  ·have := Dc (fun z hz => h z (by simp [hz])) x hx
   omega
where le_sum_nn : ∀ {l : List Int}, (∀ x ∈ l, 0 <= x) -> 0 <= l.sum
 | [], _ => by simp
 | y :: l, h => by
  have h1 := h y (by simp)
  have h2 := le_sum_nn fun z hz => h z (List.mem_cons_of_mem _ hz)
  rw [List.sum_cons]
  omega
theorem El (y : Nat -> Int) : ∀ n, ((List.range n).map y).sum = Gm.sm n y
 | 0 => rfl
 | n + 1 => by
  rw [List.range_succ, List.map_append, List.sum_append, El y n]
  show _ = Gm.sm n y + y n
  simp
theorem iz {U : List (List Int)} {m n : Nat} {R C : List Nat} (g : Gd U m n) (g2 : Gm.Good2 m n R C) (hw : Gm.wholeM U R C ≠ 0) (hp : ∀ q ∈ Gm.shM U R C, 0 < q) :
  (∀ x ∈ wsM U n R C, 0 <= x) /\ (wsM U n R C).sum = Gm.smM U R C /\ GQ (mks (wsM U n R C) (Gm.smM U R C)) := by
 have hS := Gm.sgn_pos hw
 have h1 : ∀ x ∈ wsM U n R C, 0 <= x := fun x hx => by
  unfold wsM at hx
  obtain ⟨j, _, rfl⟩ := List.mem_map.mp hx
  exact Gm.yOf_nn fun q hq => Int.le_of_lt (hp q hq)
 have h2 : (wsM U n R C).sum = Gm.smM U R C := by
  unfold wsM
  rw [El, Gm.yOf_sum g2.lt (Gm.shM_len U R C), Gm.shM_sum U g2 g.n4]
 have zb := yq g g2
 have n4 := g.n4
 refine ⟨h1, h2, I_ hS (fun x hx => ?_) zb (by rw [jt]; omega)⟩
 have a1 := h1 x hx
 have a2 := Dc h1 x hx
 rw [h2] at a2
 unfold Sz at zb ⊢
 exact Nat.lt_of_le_of_lt (by omega) zb
def vG : Sp := fun vs H Q _ => ∃ (a b c : Addr) (U : List (List Int)) (m n : Nat) (R C : List Nat), vs = [.ref a, .ref b, .ref c] /\ IsTab H a U /\ Gd U m n /\ IsNats H (.ref b) R /\ IsNats H (.ref c) C /\ Gm.Good2 m n R C /\
 (¬ Gm.Corner U m n R C -> ∀ H', Same H H' -> Q .non H') /\ (Gm.Corner U m n R C -> ∀ p H', Same H H' -> (∀ l, H l ≠ none -> IsCor l H' (.ref p) (bC U n R C)) -> Q (.ref p) H')
theorem vy {H : Hp} (f : Int × Int -> Bool) : ∀ {vs ys : List V} {qs : List (Int × Int)}, Paired (fun x y => ∀ q, IsFr H x q -> y = V.bl (f q)) vs ys -> Paired (IsFr H) vs qs -> ys = (qs.map f).map V.bl := nP f
theorem sG {x S : Int} (h : 0 < S) : 0 < (Fr.mk x S).1 ↔ 0 < x := by
 have h1 := Fr.mk_ratio (a := x) h
 have h2 := Fr.mk_pos (a := x) h
 constructor
 ·intro q
  have := Int.mul_pos q h
  rw [h1] at this
  exact Classical.byContradiction fun c => by
   have := Int.mul_nonpos_of_nonpos_of_nonneg (show x <= 0 by omega) (Int.le_of_lt h2)
   omega
 ·intro q
  have := Int.mul_pos q h2
  rw [<- h1] at this
  exact Classical.byContradiction fun c => by
   have := Int.mul_nonpos_of_nonpos_of_nonneg (show (Fr.mk x S).1 <= 0 by omega) (Int.le_of_lt h)
   omega
theorem sz0 : Sz 1000 0 := by unfold Sz; exact Nat.pow_pos (by decide)
abbrev qz : Stmt := top 19
theorem Ew : FnScope ["table", "rows", "columns", "shares", "mixture", "gains", "number"] ["table", "rows", "columns"] (aC qz) := ⟨rfl, rfl, rfl, by decide +kernel, rfl, by decide +kernel, by decide +kernel⟩
theorem CK (F : FunM K mg "corner" qz ["table", "rows", "columns"]) (T : Blt mg) (tH : Def P w K mg base "level" ["table", "rows", "columns"] 7 yg) (cU : Def P w K mg base "below" ["one", "other"] 1 (eH K)) (gZ : Def P w K mg base "spread" ["shares", "places", "count"] 1 oE) (fQ : Def P w K mg base "all_get" ["rows", "mixture"] 6 oV) : Def P w K mg base "corner" ["table", "rows", "columns"] 8 vG := by
 have S := Ew
 refine Def.of F S (fun vs H Q E h => ?_) (fun f cdv A outer s H vs Q E hr h => ?_)
 ·obtain ⟨a, b, c, U, m, n, R, C, rfl, _⟩ := h
  rfl
 ·obtain ⟨a, b, c, U, m, n, R, C, rfl, hU, g, hB, hC, g2, kn, ks⟩ := h
  have m4 := g.m4
  have n4 := g.n4
  have c4 := g2.c4 g.n4
  refine ⟨_, (aA (aO (i := 3) S.nd rfl (Or.inl rfl) (aF tH (hr.mono (by decide)) rfl (aa (pv 0) (aa (pv 1) (aa (pv 2) ao aj) aj) aj) (he := aj)))
   (aA (bB (PW.pt (fJ (bh Iv (pv 3) oO (bf _)) (fY (cX (bG (aM (uE K) (by rfl) T.all_ lA (aa (aX rfl (N' := ["share"]) (src := [none]) rfl (piL K (pv 3)) (fun _ _ _ _ _ => (aG (i := 0) (show (["share"] : List Str).Nodup from by decide +kernel) rfl (Or.inl rfl))) (fun _ _ _ _ _ => aW) (fun _ _ _ _ _ => (aF cU (hr.mono (by decide)) rfl (aa (bz (aa au (aa au ao aD) aD)) (aa (pv 0) ao aj) dM) (he := dM)))) ao aU) (he := aU)))))))
    (aB (aN oO)) aY)
   (aA (aO (i := 4) S.nd rfl (Or.inl rfl) (aF gZ (hr.mono (by decide)) rfl (aa (pv 3) (aa (pv 2) (aa (aM (bK K) (by rfl) T.len_ bj (aa (aP (ixL K) (pv 0) au (fun _ _ => rfl)) ao aK) (he := aK)) ao aR) aj) aj) (he := aj)))
   (aA (aO (i := 5) S.nd rfl (Or.inl rfl) (aF fQ (hr.mono (by decide)) rfl (aa (pv 0) (aa (pv 4) ao aj) aj) (he := aj)))
   (aA (aO (i := 6) S.nd rfl (Or.inr rfl) (aP (ixL K) (pv 5) (aP (ixL K) (pv 1) au (fun _ _ => rfl)) (fun _ _ => rfl)))
   (aA (bB (bG (aM (yS K) (by rfl) T.any_ nR (aa (aX rfl (N' := ["gain", "number"]) (src := [none, some 6]) rfl (piL K (pv 5)) (fun _ _ _ _ _ => (aG (i := 0) (show (["gain", "number"] : List Str).Nodup from by decide +kernel) rfl (Or.inl rfl))) (fun _ _ _ _ _ => aW) (fun _ _ _ _ _ => (aF cU (hr.mono (by decide)) rfl (aa (pv 1) (aa (pv 0) ao aj) aj) (he := aj)))) ao aU) (he := aU)))
    (aB (aN oO)) aY)
   (aB (aN (bz (aa (pv 4) (aa (pv 6) ao aj) aj)))))))))), ?_⟩
  refine ⟨_, rfl, _, rfl, _, rfl, a, b, c, U, m, n, R, C, rfl, hU, g, hB, hC, g2, fun hw H1 s1 => ?_, fun hw p H1 s1 hpn hF => ?_⟩
  ·refine ⟨_, rfl, rfl, _, rfl, ?_⟩
   refine d_ ?_
   exact kn (fun k => k.ne hw) H1 s1
  have hS : 0 < Gm.smM U R C := Gm.sgn_pos hw
  obtain ⟨vs, hvs, pr⟩ := id hF
  have shl := Gm.shM_len U R C
  have vl : vs.length = C.length := by rw [pr.length, cQ, shl]
  refine ⟨_, rfl, rfl, _, rfl, ?_⟩
  refine ifN (by simp) ?_
  have zb := yq g g2
  have zq : ∀ q ∈ mks (Gm.shM U R C) (Gm.smM U R C), Sz 60 q.1 /\ Sz 60 q.2 := fun q hq => by
   obtain ⟨x, hx, rfl⟩ := List.mem_map.mp hq
   refine ⟨Sz.fst hS ?_, zb.snd hS⟩
   unfold Gm.shM at hx
   obtain ⟨y, hy, rfl⟩ := List.mem_map.mp hx
   unfold Gm.partsM at hy
   obtain ⟨t, ht, rfl⟩ := List.mem_map.mp hy
   have zs : Sz 1 (Gm.sgn (Gm.wholeM U R C)) := by unfold Gm.sgn Sz; split <;> decide
   refine (zs.mul (jJ C.length _ c4 (iB (lC g g2) (List.mem_range.mp ht) ?_ ?_))).mono (by omega)
   ·unfold Gm.numsM
    rw [List.length_cons, List.length_replicate]
    have := g2.pos
    omega
   ·intro x hx
    unfold Gm.numsM at hx
    rcases List.mem_cons.mp hx with rfl | hx
    ·show (1 : Int).natAbs < 2 ^ 9
     decide
    ·rw [(List.mem_replicate.mp hx).2]
     show (0 : Int).natAbs < 2 ^ 9
     decide
  refine ⟨_, rfl, p, rfl, ⟨_, SqL.of hvs⟩, bu (xs := vs) (fun x y _ => ∀ q, IsFr H1 x q -> y = .bl (decide (0 < q.1))) (fun _ _ _ _ _ h => h) (SqL.of hvs) (by rw [vl]; exact Nat.le_of_lt (aJ (by omega))) ?_ ?_⟩
  ·intro x hx H2 s2 Q' q
   obtain ⟨r, hr', hf⟩ := pr.mem2 hx
   obtain ⟨d, rfl, hd⟩ := id hf
   refine ⟨(by show 2 <= sizeLine; decide), fun t ht => ⟨_, rfl, t, d, _, _, _, _, rfl, SqT.of aq, SqT.of (ak ht _ _ (s2 _ _ hd)), sz0, sz1, (zq r hr').1.mono (by decide), (zq r hr').2.mono (by decide), ?_⟩⟩
   refine q _ _ (ak ht) fun q' h' => ?_
   rw [hf.inj h']
   congr 1
   rw [Int.zero_mul, Int.mul_one]
  intro ys H2 s2 prb qb hqb
  have eb := vy (fun q => decide (0 < q.1)) prb pr
  subst eb
  refine ⟨qb, _, rfl, SqL.of aq, ?_⟩
  rw [List.all_map]
  have s12 : Same H1 (upd H2 qb (.lst (((mks (Gm.shM U R C) (Gm.smM U R C)).map fun q => decide (0 < q.1)).map V.bl))) := s2.trans (ak hqb)
  generalize upd H2 qb (.lst (((mks (Gm.shM U R C) (Gm.smM U R C)).map fun q => decide (0 < q.1)).map V.bl)) = H3 at s12 ⊢
  have s13 := s1.trans s12
  have eall : (mks (Gm.shM U R C) (Gm.smM U R C)).all (id ∘ fun q => decide (0 < q.1)) = true ↔ ∀ q ∈ Gm.shM U R C, 0 < q := by
   rw [List.all_eq_true]
   constructor
   ·intro h q hq
    exact (sG hS).mp (of_decide_eq_true (h _ (List.mem_map.mpr ⟨q, hq, rfl⟩)))
   ·intro h q hq
    obtain ⟨x, hx, rfl⟩ := List.mem_map.mp hq
    exact decide_eq_true ((sG hS).mpr (h x hx))
  refine ⟨_, rfl, ?_⟩
  by_cases hpos : ∀ q ∈ Gm.shM U R C, 0 < q
  rotate_left
  ·have hf : (mks (Gm.shM U R C) (Gm.smM U R C)).all (id ∘ fun q => decide (0 < q.1)) = false := by
    cases e : (mks (Gm.shM U R C) (Gm.smM U R C)).all (id ∘ fun q => decide (0 < q.1)) with
    | false => rfl
    | true => exact absurd (eall.mp e) hpos
   rw [hf]
   refine d_ ?_
   exact kn (fun k => hpos k.pos) H3 s13
  rw [eall.mpr hpos]
  refine cD ?_
  obtain ⟨w1, w2, w3⟩ := iz g g2 hw hpos
  have hU3 := hU.mono s13
  obtain ⟨vs3, b0, ha3, h03, at03, hb03⟩ := hU3.row (i := 0) (by rw [g.rows]; exact g.m1)
  have hl0 : ((U.getD 0 []).map V.int).length = n := by rw [List.length_map, (g.row g.m1).2]
  refine ⟨_, rfl, _, rfl, _, rfl, a, vs3, 0, _, rfl, rfl, SqL.of ha3, at03, b0, _, rfl, .inl (SqL.of hb03), p, c, _, C, n, (by rw [hl0]; rfl), hF.mono s12, hC.mono s13, by rw [cQ, shl], g2.lt, n4, fun mx H4 s4 hmx hM => ?_⟩
  rw [Cz hS g2.nd shl g2.lt] at hM
  have s14 := s13.trans s4
  refine ⟨_, rfl, _, rfl, a, mx, U, m, n, _, rfl, hU.mono s14, g, hM, w3, fun gn H5 s5 hgn hG => ?_⟩
  have s15 := s14.trans s5
  have eg : (U.map fun r => aZ r (mks (wsM U n R C) (Gm.smM U R C))) = mks (U.map fun r => Fr.dot r (wsM U n R C)) (Gm.smM U R C) := by
   unfold mks
   rw [List.map_map]
   exact List.map_congr_left fun r hr' => bR hS (g.sz hr') w3
  rw [show (mks ((List.range n).map (Gm.yOf C (Gm.shM U R C))) (Gm.smM U R C)) = mks (wsM U n R C) (Gm.smM U R C) from rfl, eg] at hG
  obtain ⟨gv, hgv, prg⟩ := id hG
  have gl : gv.length = m := by rw [prg.length, cQ, List.length_map, g.rows]
  obtain ⟨b', eb', hb⟩ := id hB
  cases eb'
  have h0m := g2.r0m
  have r0 : R.getD 0 0 = R.headD 0 := by cases R <;> rfl
  have rl := g2.len
  have cp := g2.pos
  have rt : atI (R.map fun (i : Nat) => V.int i) (0 : Int) = some (.int (R.headD 0 : Nat)) := by
   have := Dq (l := R) (t := 0) (by omega)
   rw [r0] at this
   exact this
  obtain ⟨q0, eq0, nu, enu, hnu⟩ := prg.get2 (List.getElem?_eq_getElem (show R.headD 0 < gv.length by rw [gl]; exact h0m))
  obtain ⟨x0, ex0, rfl⟩ := Il eq0
  have ex0' : x0 = Gm.gain U n (Gm.yOf C (Gm.shM U R C)) (R.headD 0) := by
   rw [<- d9 g h0m]
   rw [List.getElem?_map, List.getElem?_eq_getElem (show R.headD 0 < U.length by rw [g.rows]; exact h0m)] at ex0
   have e2 : U.getD (R.headD 0) [] = U[R.headD 0]'(by rw [g.rows]; exact h0m) := by
    rw [List.getD_eq_getElem?_getD, List.getElem?_eq_getElem]; rfl
   rw [e2]
   exact (Option.some.inj ex0).symm
  refine ⟨_, rfl, _, rfl, b, _, 0, _, rfl, rfl, SqL.of (s15 _ _ hb), rt, gn, gv, _, _, rfl, rfl, SqL.of hgv, (by rw [eQ (show R.headD 0 < gv.length by rw [gl]; exact h0m), enu]), ?_⟩
  have zg : ∀ q ∈ mks (U.map fun r => Fr.dot r (wsM U n R C)) (Gm.smM U R C), Sz 1000 q.1 /\ Sz 1000 q.2 := fun q hq => by
   rw [<- eg] at hq
   obtain ⟨r, hr', rfl⟩ := List.mem_map.mp hq
   exact ⟨(gP (g.sz hr') w3).mono (by decide), (gY (g.sz hr') w3).mono (by decide)⟩
  have z0 := zg _ (List.mem_of_getElem? eq0)
  refine ⟨_, rfl, gn, rfl, ⟨_, SqL.of hgv⟩, bu (xs := gv) (fun x y _ => ∀ q, IsFr H5 x q -> y = .bl (decide ((Fr.mk x0 (Gm.smM U R C)).1 * q.2 < q.1 * (Fr.mk x0 (Gm.smM U R C)).2))) (fun _ _ _ _ _ h => h) (SqL.of hgv) (by rw [gl]; exact Nat.le_of_lt (aJ (by omega))) ?_ ?_⟩
  ·intro x hx H6 s6 Q' q
   obtain ⟨r, hr', hf⟩ := prg.mem2 hx
   obtain ⟨d, rfl, hd⟩ := id hf
   refine ⟨_, rfl, _, rfl, nu, d, _, _, _, _, rfl, SqT.of (s6 _ _ hnu), SqT.of (s6 _ _ hd), z0.1, z0.2, (zg r hr').1, (zg r hr').2, q _ H6 (Same.refl _) fun q' h' => by rw [hf.inj h']⟩
  intro ys2 H6 s6 prc qc hqc
  have ec := vy (fun q => decide ((Fr.mk x0 (Gm.smM U R C)).1 * q.2 < q.1 * (Fr.mk x0 (Gm.smM U R C)).2)) prc prg
  subst ec
  refine ⟨qc, _, rfl, SqL.of aq, ?_⟩
  rw [List.any_map]
  have eany : (mks (U.map fun r => Fr.dot r (wsM U n R C)) (Gm.smM U R C)).any (id ∘ fun q => decide ((Fr.mk x0 (Gm.smM U R C)).1 * q.2 < q.1 * (Fr.mk x0 (Gm.smM U R C)).2)) = true ↔ ∃ i, i < m /\ x0 < Gm.gain U n (Gm.yOf C (Gm.shM U R C)) i := by
   rw [List.any_eq_true]
   constructor
   ·rintro ⟨q, hq, h⟩
    obtain ⟨d, hd, rfl⟩ := List.mem_map.mp hq
    obtain ⟨r, hr', rfl⟩ := List.mem_map.mp hd
    obtain ⟨i, hi, rfl⟩ := List.mem_iff_getElem.mp hr'
    refine ⟨i, by rw [<- g.rows]; exact hi, ?_⟩
    have h' : decide ((Fr.mk x0 (Gm.smM U R C)).1 * (Fr.mk (Fr.dot U[i] (wsM U n R C)) (Gm.smM U R C)).2 < (Fr.mk (Fr.dot U[i] (wsM U n R C)) (Gm.smM U R C)).1 * (Fr.mk x0 (Gm.smM U R C)).2) = true := h
    rw [gO hS] at h'
    have e2 : U.getD i [] = U[i] := by rw [List.getD_eq_getElem?_getD, List.getElem?_eq_getElem hi]; rfl
    rw [<- d9 g (by rw [<- g.rows]; exact hi), e2]
    exact of_decide_eq_true h'
   ·rintro ⟨i, hi, h⟩
    have hi' : i < U.length := by rw [g.rows]; exact hi
    have e2 : U.getD i [] = U[i] := by rw [List.getD_eq_getElem?_getD, List.getElem?_eq_getElem hi']; rfl
    refine ⟨Fr.mk (Fr.dot U[i] (wsM U n R C)) (Gm.smM U R C), List.mem_map.mpr ⟨_, List.mem_map.mpr ⟨U[i], List.getElem_mem hi', rfl⟩, rfl⟩, ?_⟩
    show decide ((Fr.mk x0 (Gm.smM U R C)).1 * (Fr.mk (Fr.dot U[i] (wsM U n R C)) (Gm.smM U R C)).2 < (Fr.mk (Fr.dot U[i] (wsM U n R C)) (Gm.smM U R C)).1 * (Fr.mk x0 (Gm.smM U R C)).2) = true
    rw [gO hS]
    rw [<- d9 g hi, e2] at h
    exact decide_eq_true h
  have s6' : Same H5 (upd H6 qc (.lst (((mks (U.map fun r => Fr.dot r (wsM U n R C)) (Gm.smM U R C)).map fun q => decide ((Fr.mk x0 (Gm.smM U R C)).1 * q.2 < q.1 * (Fr.mk x0 (Gm.smM U R C)).2)).map V.bl))) := s6.trans (ak hqc)
  generalize upd H6 qc (.lst (((mks (U.map fun r => Fr.dot r (wsM U n R C)) (Gm.smM U R C)).map fun q => decide ((Fr.mk x0 (Gm.smM U R C)).1 * q.2 < q.1 * (Fr.mk x0 (Gm.smM U R C)).2)).map V.bl)) = H7 at s6' ⊢
  have s17 := s15.trans s6'
  refine ⟨_, rfl, ?_⟩
  by_cases hk : ∃ i, i < m /\ x0 < Gm.gain U n (Gm.yOf C (Gm.shM U R C)) i
  ·rw [eany.mpr hk]
   refine d_ ?_
   obtain ⟨i, hi, hlt⟩ := hk
   refine kn (fun k => ?_) H7 s17
   have := k.le i hi
   rw [<- ex0'] at this
   omega
  ·have hf : (mks (U.map fun r => Fr.dot r (wsM U n R C)) (Gm.smM U R C)).any (id ∘ fun q => decide ((Fr.mk x0 (Gm.smM U R C)).1 * q.2 < q.1 * (Fr.mk x0 (Gm.smM U R C)).2)) = false := by
    cases e : (mks (U.map fun r => Fr.dot r (wsM U n R C)) (Gm.smM U R C)).any (id ∘ fun q => decide ((Fr.mk x0 (Gm.smM U R C)).1 * q.2 < q.1 * (Fr.mk x0 (Gm.smM U R C)).2)) with
    | false => rfl
    | true => exact absurd (eany.mp e) hk
   rw [hf]
   refine cD ?_
   have hcor : Gm.Corner U m n R C := ⟨hw, hpos, fun i hi => Classical.byContradiction fun c => hk ⟨i, hi, by rw [ex0']; omega⟩⟩
   refine ⟨_, rfl, _, rfl, (by show 2 <= sizeLine; decide), fun tp htp => ?_⟩
   have sE := s17.trans (ak (o := .tup [.ref mx, .ref nu]) htp)
   refine ks hcor tp _ sE fun l hl => ⟨tp, mx, nu, rfl, aq, fun e => ?_, ((hM.mono s5).mono s6').mono (ak htp), ?_⟩
   ·rw [e] at hmx
    exact hl (s13.free hmx)
   ·rw [ak htp _ _ (s6' _ _ hnu), ex0']
    rfl
def frD (q : Int × Int) : D := .tup [.int q.1, .int q.2]
def dJ (q : cO) : D := .tup [.lst (q.1.map frD), frD q.2]
theorem DN {H : Hp} {p : Addr} {q : Int × Int} (h : H p = some (.tup [.int q.1, .int q.2])) : Rep K H (frD q) (.ref p) := bT h
theorem yF {H : Hp} : ∀ {vs : List V} {qs : List (Int × Int)}, Paired (IsFr H) vs qs -> Reps K H (qs.map frD) vs
 | _, _, .nil => by simp [Reps]
 | _, _, .cons h t => by
  rw [List.map_cons]
  unfold Reps
  obtain ⟨b, rfl, q⟩ := h
  exact ⟨_, _, rfl, DN q, yF t⟩
theorem Ad {l : Addr} {H : Hp} {v : V} {q : cO} (h : IsCor l H v q) : Rep K H (dJ q) v := by
 obtain ⟨t, k, u, rfl, a, _, ⟨vs, c1, c2⟩, d⟩ := h
 unfold dJ Rep
 refine ⟨t, _, rfl, SqT.of a, ?_⟩
 unfold Reps
 refine ⟨_, _, rfl, ?_, ?_⟩
 ·unfold Rep
  exact ⟨k, vs, rfl, SqL.of c1, yF c2⟩
 ·unfold Reps
  exact ⟨_, _, rfl, DN d, by simp [Reps]⟩
theorem uR {l : Addr} {H : Hp} : ∀ {vs : List V} {qs : List cO}, Paired (IsCor l H) vs qs -> Reps K H (qs.map dJ) vs
 | _, _, .nil => by simp [Reps]
 | _, _, .cons h t => by
  rw [List.map_cons]
  unfold Reps
  exact ⟨_, _, rfl, Ad h, uR t⟩
theorem q_ : ∀ ps qs : List (Int × Int), bF (ps.map frD) (qs.map frD) = true
 | [], t => by unfold bF; cases t <;> rfl
 | _ :: _, [] => by simp [bF]
 | x :: r, y :: t => by
  rw [List.map_cons, List.map_cons]
  unfold bF
  rw [q_ r t, Bool.and_true]
  rfl
theorem xQ (p q : cO) : bL (dJ p) (dJ q) = true := by
 show (bF (p.1.map frD) (q.1.map frD) && (bL (frD p.2) (frD q.2) && true)) = true
 rw [q_]
 rfl
theorem uQ : ∀ ps : List (Int × Int), du (ps.map frD) <= 1
 | [] => by decide
 | x :: r => by
  rw [List.map_cons]
  unfold du
  have := uQ r
  have e : bW (frD x) = 1 := rfl
  omega
theorem Hn (q : cO) : bW (dJ q) <= 40 := by
 unfold dJ
 rw [lB]
 have h1 := uQ q.1
 show max (bW (.lst (q.1.map frD))) (max (bW (frD q.2)) 0) + 1 <= 40
 rw [iy]
 have e : bW (frD q.2) = 1 := rfl
 omega
theorem Bc {p q : Int × Int} (h : frD p = frD q) : p = q := by
 unfold frD at h
 simp at h
 exact Prod.ext h.1 h.2
theorem Gq {p q : cO} (h : dJ p = dJ q) : p = q := by
 have e := h
 unfold dJ at e
 injection e with e
 injection e with e1 e2
 injection e1 with e1
 injection e2 with e2
 refine Prod.ext ?_ (Bc e2)
 have inj : ∀ (a b : List (Int × Int)), a.map frD = b.map frD -> a = b := by
  intro a
  induction a with
  | nil => intro b h; cases b with
   | nil => rfl
   | cons _ _ => simp at h
  | cons x a ih => intro b h; cases b with
   | nil => simp at h
   | cons y b =>
    rw [List.map_cons, List.map_cons] at h
    injection h with h1 h2
    rw [Bc h1, ih b h2]
 exact inj _ _ e1
theorem wJ (p : cO) (ps : List cO) : (ps.map dJ).any (fun e => eqD e (dJ p)) = true ↔ p ∈ ps := by
 rw [List.any_eq_true]
 constructor
 ·rintro ⟨d, hd, he⟩
  obtain ⟨q, hq, rfl⟩ := List.mem_map.mp hd
  rw [<- Gq (rT he)]
  exact hq
 ·intro h
  exact ⟨dJ p, List.mem_map_of_mem h, gM _⟩
structure Cors (U : List (List Int)) (m n : Nat) (Ls : List cO) : Prop where
 of : ∀ q ∈ Ls, ∃ R C, Gm.Good2 m n R C /\ Gm.Corner U m n R C /\ q = bC U n R C
 all : ∀ R C, Gm.Good2 m n R C -> Gm.Corner U m n R C -> bC U n R C ∈ Ls
def tY : Sp := fun vs H Q _ => ∃ (a : Addr) (U : List (List Int)) (m n : Nat), vs = [.ref a] /\ IsTab H a U /\ Gd U m n /\ ∀ l zs Ls H', Same H H' -> H' l = some (.lst zs) -> Paired (IsCor l H') zs Ls -> Cors U m n Ls -> zs.length <= 1000 -> Q (.ref l) H'
abbrev jB : Stmt := top 20
theorem vO : FnScope ["table", "found", "columns", "rows", "place"] ["table"] (aC jB) := ⟨rfl, rfl, rfl, by decide +kernel, rfl, by decide +kernel, by decide +kernel⟩
theorem vI (F : FunM K mg "corners_of" jB ["table"]) (T : Blt mg) (jX : Def P w K mg base "choices" ["count"] 1 rY) (qt : Def P w K mg base "corner" ["table", "rows", "columns"] 8 vG) : Def P w K mg base "corners_of" ["table"] 9 tY := by
 have S := vO
 refine Def.of F S (fun vs H Q E h => ?_) (fun f cdv A outer s H vs Q E hr h => ?_)
 ·obtain ⟨a, U, m, n, rfl, _⟩ := h
  rfl
 ·obtain ⟨a, U, m, n, rfl, hU, g, k⟩ := h
  have m4 := g.m4
  have n4 := g.n4
  refine ⟨_, (aA (aO (i := 1) S.nd rfl (Or.inl rfl) (bO ao))
   (aA (bU PassesOwn.never rfl (piL K (aF jX (hr.mono (by decide)) rfl (aa (aM (bK K) (by rfl) T.len_ bj (aa (aP (ixL K) (pv 0) au (fun _ _ => rfl)) ao aK) (he := aK)) ao aR) (he := aR))) (aG (i := 2) S.nd rfl (Or.inl rfl))
    (aB (bU PassesOwn.never rfl (piL K (aF jX (hr.mono (by decide)) rfl (aa (aM (bK K) (by rfl) T.len_ bj (aa (pv 0) ao aj) (he := aj)) ao aR) (he := aR))) (aG (i := 3) S.nd rfl (Or.inl rfl))
    (aB (bB (lX jY fG au (aM (bK K) (by rfl) T.len_ bj (aa (pv 3) ao aj) (he := aj)) (aM (bK K) (by rfl) T.len_ bj (aa (pv 2) ao aj) (he := aj)))
    (aA (aO (i := 4) S.nd rfl (Or.inl rfl) (aF qt (hr.mono (by decide)) rfl (aa (pv 0) (aa (pv 3) (aa (pv 2) ao aj) aj) aj) (he := aj)))
   (aB (bB (PW.pt (lG (bh Hs (pv 4) oO (bf _)) (ju (bh (J4 K hr.units) (pv 4) (pv 1) rfl))))
    (aB (cu (g8 PySem.F.plainAttrs_list PySem.F.slot_list_append PySem.F.type_list_append dH (pv 1) (aa (pv 4) ao aj)))) aY))) aY)))))
   (aB (aN (pv 1))))), ?_⟩
  refine ⟨Nat.zero_le _, fun l hl => ?_⟩
  have hl0 : H l = none := hl
  have s0 := ak (o := .lst []) hl
  have q0 : upd H l (.lst []) l = some (.lst []) := aq
  generalize upd H l (.lst []) = H0 at s0 q0 ⊢
  have hU0 := hU.mono s0
  obtain ⟨vs0, b0, ha0, h00, at00, hb00⟩ := hU0.row (i := 0) (by rw [g.rows]; exact g.m1)
  have hln : ((U.getD 0 []).map V.int).length = n := by rw [List.length_map, (g.row g.m1).2]
  have hlm : vs0.length = m := by
   obtain ⟨vs', ha', hp⟩ := id hU0
   rw [ha0] at ha'
   cases ha'
   rw [hp.length, g.rows]
  refine ⟨_, rfl, a, vs0, 0, _, rfl, rfl, SqL.of ha0, at00, b0, _, rfl, .inl (SqL.of hb00), n, (by rw [hln]; rfl), n4, fun pc xc H1 s1 hpn hpc prc => ?_⟩
  have s01 := s0.trans s1
  have q1 := s1 _ _ q0
  have npl : pc ≠ l := fun e => by rw [e, q0] at hpn; cases hpn
  refine ⟨pc, rfl, ⟨_, SqL.of hpc⟩, cM (K := K) (a := pc) (xs := xc) (fun i σ H' => ∃ o2 o3 o4 zs Ls, σ = [some (.ref a), some (.ref l), o2, o3, o4] /\ Same H H' /\ SameX l H1 H' /\ H' l = some (.lst zs) /\ Paired (IsCor l H') zs Ls /\ zs.length <= 16 * i /\
    (∀ q ∈ Ls, ∃ R C, Gm.Good2 m n R C /\ Gm.Corner U m n R C /\ q = bC U n R C) /\ ∀ C ∈ (Gm.chM n).take i, ∀ R ∈ Gm.chM m, Gm.Good2 m n R C -> Gm.Corner U m n R C -> bC U n R C ∈ Ls)
   ⟨_, _, _, [], [], rfl, s01, SameX.refl, q1, .nil, Nat.zero_le _, (fun q h => nomatch h), fun C h => by simp at h⟩ ?_ ?_ ?_⟩
  ·rintro i σ H2 _ ⟨_, _, _, _, _, _, _, sx, _⟩
   exact SqL.of (sx _ _ npl hpc)
  ·rintro i x σ H2 hi ⟨o2, o3, o4, zs, Ls, rfl, s2, sx, hz, pz, zl, hof, hall⟩
   obtain ⟨C, hC, bc, rfl, bcn, hbc⟩ := prc.get2 hi
   have nbl : bc ≠ l := fun e => by rw [e, q0] at bcn; cases bcn
   have hbc2 := sx _ _ nbl hbc
   have il : i < 16 := by
    have h1 := (List.getElem?_eq_some_iff.mp hi).1
    rw [prc.length, jy] at h1
    have := jE n4
    omega
   obtain ⟨vs2, ha2, hp2⟩ := hU.mono s2
   have hlm : vs2.length = m := by rw [hp2.length, g.rows]
   refine ⟨_, rfl, a, vs2, rfl, .inl (SqL.of ha2), m, (by rw [hlm]; rfl), m4, fun pr xr H3 s3 hprn hpr prr => ?_⟩
   have s23 := s2.trans s3
   have nrl : pr ≠ l := fun e => by rw [e, hz] at hprn; cases hprn
   refine ⟨pr, rfl, ⟨_, SqL.of hpr⟩, cM (K := K) (a := pr) (xs := xr) (fun r σ H' => ∃ o3 o4 zs Ls, σ = [some (.ref a), some (.ref l), some (.ref bc), o3, o4] /\ Same H H' /\ SameX l H3 H' /\ H' l = some (.lst zs) /\ Paired (IsCor l H') zs Ls /\ zs.length <= 16 * i + r /\
     (∀ q ∈ Ls, ∃ R C, Gm.Good2 m n R C /\ Gm.Corner U m n R C /\ q = bC U n R C) /\ (∀ C ∈ (Gm.chM n).take i, ∀ R ∈ Gm.chM m, Gm.Good2 m n R C -> Gm.Corner U m n R C -> bC U n R C ∈ Ls) /\
     ∀ R ∈ (Gm.chM m).take r, Gm.Good2 m n R C -> Gm.Corner U m n R C -> bC U n R C ∈ Ls)
    ⟨_, _, zs, Ls, rfl, s23, SameX.refl, s3 _ _ hz, pz.imp2 fun _ _ z => z.mono s3, zl, hof, hall, fun R h => by simp at h⟩ ?_ ?_ ?_⟩
   ·rintro r σ H4 _ ⟨_, _, _, _, _, _, sx4, _⟩
    exact SqL.of (sx4 _ _ nrl hpr)
   ·rintro r y σ H4 hy ⟨o3', o4', zs4, Ls4, rfl, s4, sx4, hz4, pz4, zl4, hof4, hall4, hthis⟩
    obtain ⟨R, hR, br, rfl, brn, hbr⟩ := prr.get2 hy
    have nbrl : br ≠ l := fun e => by rw [e, hz] at brn; cases brn
    have hbr4 := sx4 _ _ nbrl hbr
    have hbc4 := sx4 _ _ nbl (s3 _ _ hbc2)
    have rl16 : r < 16 := by
     have h1 := (List.getElem?_eq_some_iff.mp hy).1
     rw [prr.length, jy] at h1
     have := jE m4
     omega
    have eR : (Gm.chM m).take (r + 1) = (Gm.chM m).take r ++ [R] := by rw [List.take_add_one, hR]; rfl
    have hRm := List.mem_of_getElem? hR
    have hCm := List.mem_of_getElem? hC
    have skip : ∀ H5, Same H H5 -> SameX l H3 H5 -> H5 l = some (.lst zs4) -> Paired (IsCor l H5) zs4 Ls4 -> (Gm.Good2 m n R C -> Gm.Corner U m n R C -> bC U n R C ∈ Ls4) -> ∀ o4'', ∃ o3 o4 zs Ls, ([some (.ref a), some (.ref l), some (.ref bc), some (.ref br), o4''] : St) = [some (.ref a), some (.ref l), some (.ref bc), o3, o4] /\ Same H H5 /\ SameX l H3 H5 /\ H5 l = some (.lst zs) /\ Paired (IsCor l H5) zs Ls /\ zs.length <= 16 * i + (r + 1) /\
     (∀ q ∈ Ls, ∃ R C, Gm.Good2 m n R C /\ Gm.Corner U m n R C /\ q = bC U n R C) /\ (∀ C ∈ (Gm.chM n).take i, ∀ R ∈ Gm.chM m, Gm.Good2 m n R C -> Gm.Corner U m n R C -> bC U n R C ∈ Ls) /\
     ∀ R ∈ (Gm.chM m).take (r + 1), Gm.Good2 m n R C -> Gm.Corner U m n R C -> bC U n R C ∈ Ls := by
     intro H5 a1 a2 a3 a4 a5 o4''
     refine ⟨_, _, zs4, Ls4, rfl, a1, a2, a3, a4, by omega, hof4, hall4, fun R' h' => ?_⟩
     rw [eR] at h'
     rcases List.mem_append.mp h' with h' | h'
     ·exact hthis R' h'
     ·rw [List.mem_singleton.mp h']
      exact a5
    refine ⟨_, rfl, br, _, rfl, .inl (SqL.of hbr4), _, _, rfl, rfl, _, rfl, ?_⟩
    by_cases h0 : 0 < R.length
    rotate_left
    ·refine ifN (by simpa using h0) ?_
     refine ⟨_, rfl, ?_⟩
     refine cD ?_
     exact skip H4 s4 sx4 hz4 pz4 (fun g2 => absurd (by rw [g2.len]; exact g2.pos) h0) _
    refine ifP (by simpa using h0) ?_
    refine ⟨_, rfl, bc, _, rfl, .inl (SqL.of hbc4), rfl, _, rfl, ?_⟩
    by_cases h1 : R.length = C.length
    rotate_left
    ·refine ifN (by rw [gA, List.length_map, List.length_map]; simpa using h1) ?_
     exact skip H4 s4 sx4 hz4 pz4 (fun g2 => absurd g2.len h1) _
    refine ifP (by rw [gA, List.length_map, List.length_map]; exact decide_eq_true h1) ?_
    have g2 : Gm.Good2 m n R C := ⟨Gm.mem_chM.mpr hRm, Gm.mem_chM.mpr hCm, h1, by omega⟩
    refine ⟨_, rfl, _, rfl, _, rfl, a, br, bc, U, m, n, R, C, rfl, hU.mono s4, g, ⟨br, rfl, hbr4⟩, ⟨bc, rfl, hbc4⟩, g2, fun hnc H5 s5 => ?_, fun hco p H5 s5 hcor => ?_⟩
    ·refine ⟨_, rfl, rfl, _, rfl, ?_⟩
     refine ifN (by simp) ?_
     exact skip H5 (s4.trans s5) (sx4.then s5) (s5 _ _ hz4) (pz4.imp2 fun _ _ z => z.mono s5) (fun _ h => absurd h hnc) _
    ·have hc := hcor l (by rw [hz4]; simp)
     have pz5 := pz4.imp2 fun _ _ z => z.mono s5
     have hz5 := s5 _ _ hz4
     refine ⟨_, rfl, rfl, _, rfl, ?_⟩
     refine ifP (by simp) ?_
     refine ⟨_, rfl, _, rfl, l, dJ (bC U n R C), Ls4.map dJ, zs4, rfl, Ad hc, SqL.of hz5, uR pz5, ?_, _, rfl, ?_⟩
     ·intro d hd
      obtain ⟨q, _, rfl⟩ := List.mem_map.mp hd
      refine ⟨xQ _ _, Hn _, fun d' hd' => ?_⟩
      obtain ⟨q', _, rfl⟩ := List.mem_map.mp hd'
      exact xQ _ _
     by_cases hin : bC U n R C ∈ Ls4
     ·refine ifN (by simp [(wJ (bC U n R C) Ls4).mpr hin]) ?_
      exact skip H5 (s4.trans s5) (sx4.then s5) hz5 pz5 (fun _ _ => hin) _
     ·have hf : ((Ls4.map dJ).any fun e => eqD e (dJ (bC U n R C))) = false := by
       cases e : (Ls4.map dJ).any fun e => eqD e (dJ (bC U n R C)) with
       | false => rfl
       | true => exact absurd ((wJ _ _).mp e) hin
      refine ifP (by simp [hf]) ?_
      refine ⟨_, rfl, .inl ⟨rfl, _, SqL.of hz5⟩, _, rfl, l, zs4, .ref p, rfl, rfl, hz5, aJ (by omega), ?_⟩
      refine ⟨_, _, zs4 ++ [.ref p], Ls4 ++ [bC U n R C], rfl, di (s4.trans s5) hl0, (sx4.then s5).at, aq, ?_, ?_, ?_, ?_, ?_⟩
      ·exact (pz5.imp2 fun _ _ z => z.at hz5).app2 (.cons (hc.at hz5) .nil)
      ·rw [List.length_append, List.length_singleton]; omega
      ·intro q hq
       rcases List.mem_append.mp hq with h | h
       ·exact hof4 q h
       ·rw [List.mem_singleton.mp h]
        exact ⟨R, C, g2, hco, rfl⟩
      ·intro C' hC' R' hR' a1 a2
       exact List.mem_append_left _ (hall4 C' hC' R' hR' a1 a2)
      ·intro R' hR' a1 a2
       rw [eR] at hR'
       rcases List.mem_append.mp hR' with h | h
       ·exact List.mem_append_left _ (hthis R' h a1 a2)
       ·rw [List.mem_singleton.mp h]
        exact List.mem_append_right _ (by simp)
   ·rintro σ H4 ⟨o3', o4', zs4, Ls4, rfl, s4, sx4, hz4, pz4, zl4, hof4, hall4, hthis⟩
    have xl : xr.length <= 16 := by rw [prr.length, jy]; exact jE m4
    rw [prr.length, List.take_length] at hthis
    have sx14 : SameX l H1 H4 := fun b o nb hb => sx4 b o nb (s3 b o (sx b o nb hb))
    refine ⟨_, _, _, zs4, Ls4, rfl, s4, sx14, hz4, pz4, by omega, hof4, fun C' hC' R' hR' a1 a2 => ?_⟩
    rw [List.take_add_one, hC] at hC'
    rcases List.mem_append.mp hC' with h | h
    ·exact hall4 C' h R' hR' a1 a2
    ·have e : C' = C := by simpa using h
     rw [e] at a1 a2 ⊢
     exact hthis R' hR' a1 a2
  ·rintro σ H2 ⟨o2, o3, o4, zs, Ls, rfl, s2, sx, hz, pz, zl, hof, hall⟩
   rw [prc.length, List.take_length] at hall
   have xl : xc.length <= 16 := by rw [prc.length, jy]; exact jE n4
   refine ⟨_, rfl, k l zs Ls H2 s2 hz pz ⟨hof, fun R C g2 hc => hall C (Gm.mem_chM.mp g2.cs) R (Gm.mem_chM.mp g2.rs) g2 hc⟩ (by omega)⟩
def leQ (p q : Int × Int) : Prop := p.1 * q.2 <= q.1 * p.2
theorem vm {p q r : Int × Int} (hp : 0 < p.2) (hq : 0 < q.2) (hr : 0 < r.2) (h1 : leQ p q) (h2 : leQ q r) : leQ p r := by
 unfold leQ at *
 have a1 : p.1 * q.2 * r.2 <= q.1 * p.2 * r.2 := Int.mul_le_mul_of_nonneg_right h1 (Int.le_of_lt hr)
 have a2 : q.1 * r.2 * p.2 <= r.1 * q.2 * p.2 := Int.mul_le_mul_of_nonneg_right h2 (Int.le_of_lt hp)
 have a3 : p.1 * r.2 * q.2 <= r.1 * p.2 * q.2 := by grind
 exact Int.le_of_mul_le_mul_right a3 hq
def vh : Sp := fun vs H Q _ => ∃ (a l : Addr) (zs : List V) (Ls : List cO), vs = [.ref a] /\ H a = some (.lst zs) /\ Paired (IsCor l H) zs Ls /\ Ls ≠ [] /\ (∀ q ∈ Ls, 0 < q.2.2 /\ Sz 1000 q.2.1 /\ Sz 1000 q.2.2) /\ ∀ v q, q ∈ Ls -> IsCor l H v q -> (∀ q' ∈ Ls, leQ q.2 q'.2) -> Q v H
abbrev pZ : Stmt := top 49
theorem Ez : FnScope ["corners", "found", "place"] ["corners"] (aC pZ) := ⟨rfl, rfl, rfl, by decide +kernel, rfl, by decide +kernel, by decide +kernel⟩
theorem Dp (F : FunM K mg "lowest" pZ ["corners"]) (T : Blt mg) (cU : Def P w K mg base "below" ["one", "other"] 1 (eH K)) : Def P w K mg base "lowest" ["corners"] 2 vh := by
 have S := Ez
 refine Def.of F S (fun vs H Q E h => ?_) (fun f cdv A outer s H vs Q E hr h => ?_)
 ·obtain ⟨a, l, zs, Ls, rfl, _⟩ := h
  rfl
 ·obtain ⟨a, l, zs, Ls, rfl, ha, pr, hne, hsz, k⟩ := h
  have zl : zs.length = Ls.length := pr.length
  have h0 : 0 < zs.length := by rw [zl]; exact List.length_pos_iff.mpr hne
  obtain ⟨q0, e0, hc0⟩ := pr.get2 (List.getElem?_eq_getElem h0)
  refine ⟨_, (aA (aO (i := 1) S.nd rfl (Or.inl rfl) (aP (ixL K) (pv 0) au (fun _ _ => rfl)))
   (aA (bU PassesOwn.never rfl (piL K (pv 0)) (aG (i := 2) S.nd rfl (Or.inl rfl))
    (aB (bB (bG (aF cU (hr.mono (by decide)) rfl (aa (aP (ixT K) (pv 2) au (fun _ _ => rfl)) (aa (aP (ixT K) (pv 1) au (fun _ _ => rfl)) ao aK) aK) (he := aK)))
    (aB (aO (i := 1) S.nd rfl (Or.inl rfl) (pv 2))) aY)))
   (aB (aN (pv 1))))), ?_⟩
  refine ⟨_, rfl, a, zs, 0, _, rfl, rfl, SqL.of ha, eQ h0, ?_⟩
  refine ⟨_, rfl, a, rfl, ⟨_, SqL.of ha⟩, cM (K := K) (a := a) (xs := zs) (fun i σ H' => ∃ v q o, σ = [some (.ref a), some v, o] /\ H' = H /\ q ∈ Ls /\ IsCor l H v q /\ ∀ q' ∈ Ls.take i, leQ q.2 q'.2)
   ⟨_, q0, _, rfl, rfl, List.mem_of_getElem? e0, hc0, fun q' h => by simp at h⟩ ?_ ?_ ?_⟩
  ·rintro i σ H' _ ⟨_, _, _, _, rfl, _⟩
   exact SqL.of ha
  ·rintro i x σ H' hi ⟨v, q, o, rfl, rfl, hq, hc, hle⟩
   obtain ⟨y, hy, hcy⟩ := pr.get2 hi
   have my := List.mem_of_getElem? hy
   obtain ⟨t, kk, u, rfl, t1, _, _, t2⟩ := id hc
   obtain ⟨t', kk', u', rfl, t1', _, _, t2'⟩ := id hcy
   have et : Ls.take (i + 1) = Ls.take i ++ [y] := by rw [List.take_add_one, hy]; rfl
   obtain ⟨p1, z1, z2⟩ := hsz q hq
   obtain ⟨p1', z1', z2'⟩ := hsz y my
   refine ⟨_, rfl, t', _, 1, _, rfl, rfl, SqT.of t1', rfl, _, rfl, t, _, 1, _, rfl, rfl, SqT.of t1, rfl, u', u, _, _, _, _, rfl, SqT.of t2', SqT.of t2, z1', z2', z1, z2, _, rfl, ?_⟩
   by_cases hlt : y.2.1 * q.2.2 < q.2.1 * y.2.2
   ·refine ifP (decide_eq_true hlt) ?_
    refine ⟨_, rfl, _, y, _, rfl, rfl, my, hcy, fun q' h => ?_⟩
    rw [et] at h
    rcases List.mem_append.mp h with h | h
    ·exact vm p1' p1 (hsz q' (List.mem_of_mem_take h)).1 (Int.le_of_lt hlt) (hle q' h)
    ·rw [List.mem_singleton.mp h]
     exact Int.le_refl _
   ·refine ifN (by simpa using hlt) ?_
    refine ⟨_, q, _, rfl, rfl, hq, hc, fun q' h => ?_⟩
    rw [et] at h
    rcases List.mem_append.mp h with h | h
    ·exact hle q' h
    ·rw [List.mem_singleton.mp h]
     unfold leQ
     omega
  ·rintro σ H' ⟨v, q, o, rfl, rfl, hq, hc, hle⟩
   rw [zl, List.take_length] at hle
   exact ⟨_, rfl, k v q hq hc hle⟩
def nQ (u l1 l2 : Addr) : List (Str × V) := cj "theirs" (.ref l2) (cj "mine" (.ref l1) (cj "value" (.ref u) []))
theorem fV1 : ¬ (("mine" : Str) = "theirs") := by decide +kernel
theorem fV2 : ¬ (("value" : Str) = "theirs") := by decide +kernel
theorem fV3 : ¬ (("value" : Str) = "mine") := by decide +kernel
theorem Bu (u l1 l2 : Addr) : (nQ u l1 l2).lookup ("value" : Str) = some (.ref u) := by
 unfold nQ
 rw [bJ, if_neg fV2, bJ, if_neg fV3, bJ, if_pos rfl]
theorem uZ (u l1 l2 : Addr) : (nQ u l1 l2).lookup ("mine" : Str) = some (.ref l1) := by
 unfold nQ
 rw [bJ, if_neg fV1, bJ, if_pos rfl]
theorem zy (u l1 l2 : Addr) : (nQ u l1 l2).lookup ("theirs" : Str) = some (.ref l2) := by
 unfold nQ
 rw [bJ, if_pos rfl]
def xR (C : Addr) : Sp := fun vs H Q _ => ∃ (p dx u b c : Addr) (xs ys : List V), vs = [.ref p, .ref u, .ref b, .ref c] /\ H p = some (.ins C dx []) /\ H b = some (.lst xs) /\ H c = some (.lst ys) /\
 ∀ l1 l2 H', H l1 = none -> H l2 = none -> l1 ≠ l2 -> H' l1 = some (.lst xs) -> H' l2 = some (.lst ys) -> H' p = some (.ins C dx (nQ u l1 l2)) -> (∀ q o, H q = some o -> q ≠ p -> H' q = some o) -> Q .non H'
abbrev jb : Stmt := inClass (top 44) 0
theorem uh : FnScope ["self", "value", "mine", "theirs"] ["self", "value", "mine", "theirs"] (aC jb) := ⟨rfl, rfl, rfl, by decide +kernel, rfl, by decide +kernel, by decide +kernel⟩
theorem tV {C : Addr} (F : FunC K C "__init__" "Solved.__init__" jb ["self", "value", "mine", "theirs"]) (T : Blt mg) (C_Solved : Cl K mg "Solved" ["value", "mine", "theirs"] [] C) : DefC P w K mg base C "__init__" ["self", "value", "mine", "theirs"] 1 (xR C) := by
 have S := uh
 refine DefC.of F S (fun vs H Q E h => ?_) (fun f cdv A outer s H vs Q E hr h => ?_)
 ·obtain ⟨p, dx, u, b, c, xs, ys, rfl, _⟩ := h
  rfl
 ·obtain ⟨p, dx, u, b, c, xs, ys, rfl, hp, hb, hc, k⟩ := h
  have nbp : b ≠ p := jj hb hp (by intro z; cases z)
  have ncp : c ≠ p := jj hc hp (by intro z; cases z)
  refine ⟨_, (aA (jC (pv 0) (pv 1) rfl)
   (aA (jC (pv 0) (dI (fW K) (by rfl) T.list_ dj (aa (pv 2) ao aj) (he := aj)) rfl)
   (aB (jC (pv 0) (dI (fW K) (by rfl) T.list_ dj (aa (pv 3) ao aj) (he := aj)) rfl)))), ?_⟩
  refine ⟨_, rfl, _, rfl, p, C, dx, [], rfl, hp, C_Solved.cl, C_Solved.no _ (by simp), (by show 0 < 1000; decide), ?_⟩
  have kp1 : ∀ q o, H q = some o -> q ≠ p -> upd H p (.ins C dx (cj "value" (.ref u) [])) q = some o := fun q o e nq => by rw [aH nq]; exact e
  have hp1 : upd H p (.ins C dx (cj "value" (.ref u) [])) p = some (.ins C dx (cj "value" (.ref u) [])) := aq
  have fr1 : ∀ q, upd H p (.ins C dx (cj "value" (.ref u) [])) q = none -> H q = none := fun q e => by
   by_cases z : q = p
   ·rw [z, aq] at e; cases e
   ·rw [aH z] at e; exact e
  generalize upd H p (.ins C dx (cj "value" (.ref u) [])) = H1 at kp1 hp1 fr1 ⊢
  have hb1 := kp1 _ _ hb nbp
  have hc1 := kp1 _ _ hc ncp
  refine ⟨_, rfl, b, xs, rfl, .inl (SqL.of hb1), fun l1 h1 => ?_⟩
  have np1 : p ≠ l1 := aV hp1 h1
  have nc1 : c ≠ l1 := aV hc1 h1
  refine ⟨_, rfl, p, C, dx, _, rfl, ak h1 _ _ hp1, C_Solved.cl, C_Solved.no _ (by simp), (by show 1 < 1000; decide), ?_⟩
  refine ⟨_, rfl, c, ys, rfl, .inl (SqL.of (by rw [aH ncp, aH nc1]; exact hc1)), fun l2 h2 => ?_⟩
  have np2 : p ≠ l2 := fun e => by rw [<- e, aq] at h2; cases h2
  have n12 : l1 ≠ l2 := fun e => by rw [<- e, aH np1.symm, aq] at h2; cases h2
  have h2' : H1 l2 = none := by rw [aH np2.symm, aH n12.symm] at h2; exact h2
  refine ⟨_, rfl, p, C, dx, _, rfl, (by rw [aH np2, aq]), C_Solved.cl, C_Solved.no _ (by simp), (by show 2 < 1000; decide), ?_⟩
  refine k l1 l2 _ (fr1 _ h1) (fr1 _ h2') n12 ?_ ?_ aq fun q o e nq => ?_
  ·rw [aH np1.symm, aH n12, aH np1.symm, aq]
  ·rw [aH np2.symm, aq]
  ·have e1 := kp1 q o e nq
   rw [aH nq, aH (aV e1 h2'), aH nq, aH (aV e1 h1)]
   exact e1
theorem Ji {a b c d : Int} (hb : 0 < b) (hd : 0 < d) (h : leQ (Fr.mk a b) (Fr.mk c d)) : a * d <= c * b := by
 have e := Fr.mk_lt (a := c) (b := d) (c := a) (d := b) hd hb
 unfold leQ at h
 have h1 : decide ((Fr.mk c d).1 * (Fr.mk a b).2 < (Fr.mk a b).1 * (Fr.mk c d).2) = false := decide_eq_false (by omega)
 rw [h1] at e
 have := of_decide_eq_false e.symm
 omega
theorem Dj (a : Nat -> Nat -> Int) {m n : Nat} (hm : 0 < m) (hn : 0 < n) : ∃ y S N, Gm.Pt a m n y S N := by
 obtain ⟨i, hi, h⟩ := Gm.max_of (fun i => Gm.sm n fun j => a i j * (if j = 0 then 1 else 0)) hm
 refine ⟨fun j => if j = 0 then 1 else 0, 1, _, by decide, fun j _ => by show (0 : Int) <= if j = 0 then 1 else 0; split <;> decide, ?_, h, ⟨i, hi, rfl⟩⟩
 rw [Gm.sm_single, if_pos hn]
theorem Am {U : List (List Int)} {m n : Nat} (g : Gd U m n) {Ls : List cO} (hC : Cors U m n Ls) {R C : List Nat} (g2 : Gm.Good2 m n R C) (hk : Gm.Corner U m n R C) (hmin : ∀ q' ∈ Ls, leQ (bC U n R C).2 q'.2) :
  ∀ y' S' N', Gm.Pt (Gm.cell U) m n y' S' N' -> Gm.gain U n (Gm.yOf C (Gm.shM U R C)) (R.headD 0) * S' <= N' * Gm.smM U R C := by
 intro y' S' N' P
 obtain ⟨R1, C1, g1, k1, h1⟩ := Gm.complete P g.m4 g.n4
 have hS : 0 < Gm.smM U R C := Gm.sgn_pos hk.ne
 have hS1 : 0 < Gm.smM U R1 C1 := Gm.sgn_pos k1.ne
 have h2 := Ji hS hS1 (hmin _ (hC.all R1 C1 g1 k1))
 have a1 := Int.mul_le_mul_of_nonneg_right h2 (Int.le_of_lt P.pos)
 have a2 := Int.mul_le_mul_of_nonneg_right h1 (Int.le_of_lt hS)
 generalize Gm.gain U n (Gm.yOf C (Gm.shM U R C)) (R.headD 0) = N at *
 generalize Gm.gain U n (Gm.yOf C1 (Gm.shM U R1 C1)) (R1.headD 0) = N1 at *
 generalize Gm.smM U R C = SS at *
 generalize Gm.smM U R1 C1 = S1 at *
 have a3 : N * S' * S1 <= N' * SS * S1 := by grind
 exact Int.le_of_mul_le_mul_right a3 hS1
theorem rF {U : List (List Int)} {m n : Nat} (g : Gd U m n) {R C : List Nat} (g2 : Gm.Good2 m n R C) (hk : Gm.Corner U m n R C) : 0 < (bC U n R C).2.2 /\ Sz 1000 (bC U n R C).2.1 /\ Sz 1000 (bC U n R C).2.2 /\ Sz 900 (bC U n R C).2.1 /\ Sz 900 (bC U n R C).2.2 := by
 have hS : 0 < Gm.smM U R C := Gm.sgn_pos hk.ne
 obtain ⟨_, _, w3⟩ := iz g g2 hk.ne hk.pos
 have hr := (g.row g2.r0m).1
 have e : (bC U n R C).2 = aZ (U.getD (R.headD 0) []) (mks (wsM U n R C) (Gm.smM U R C)) := by
  rw [bR hS (g.sz hr) w3]
  show Fr.mk _ _ = Fr.mk _ _
  congr 1
  exact (d9 g g2.r0m _).symm
 rw [e]
 exact ⟨(ph (g.sz hr) w3).pos, (gP (g.sz hr) w3).mono (by decide), (gY (g.sz hr) w3).mono (by decide), gP (g.sz hr) w3, gY (g.sz hr) w3⟩
structure SolM (U : List (List Int)) (m n : Nat) (N S : Int) (ys : List Int) (X : Int) (xs : List Int) : Prop where
 pos : 0 < S
 posx : 0 < X
 gy : GQ (mks ys S)
 gx : GQ (mks xs X)
 ly : ys.length = n
 lx : xs.length = m
 ny : ∀ x ∈ ys, 0 <= x
 nx : ∀ x ∈ xs, 0 <= x
 sy : ys.sum = S
 sx : xs.sum = X
 rows : ∀ r ∈ U, Fr.dot r ys <= N
 cls : ∀ c ∈ cols U n, N * X <= Fr.dot c xs * S
 z1 : Sz 1000 (Fr.mk N S).1
 z2 : Sz 1000 (Fr.mk N S).2
 pt : ∃ y, Gm.Pt (Gm.cell U) m n y S N
 min : ∀ y' S' N', Gm.Pt (Gm.cell U) m n y' S' N' -> N * S' <= N' * S
 w1 : Sz 900 (Fr.mk N S).1
 w2 : Sz 900 (Fr.mk N S).2
theorem SolM.value {U : List (List Int)} {m n : Nat} {N S X N' S' X' : Int} {ys xs ys' xs' : List Int} (h : SolM U m n N S ys X xs) (h' : SolM U m n N' S' ys' X' xs') : Fr.mk N S = Fr.mk N' S' := by
 obtain ⟨y, p⟩ := h.pt
 obtain ⟨y', p'⟩ := h'.pt
 have a1 := h.min _ _ _ p'
 have a2 := h'.min _ _ _ p
 exact Fr.mk_cross h.pos h'.pos (by omega)
theorem JC {U : List (List Int)} {m n : Nat} (g : Gd U m n) {Ls Ls' : List cO} (hC : Cors U m n Ls) (hC' : Cors (trn U n) n m Ls') {R C R' C' : List Nat} (g2 : Gm.Good2 m n R C) (hk : Gm.Corner U m n R C) (hmin : ∀ q' ∈ Ls, leQ (bC U n R C).2 q'.2)
  (g2' : Gm.Good2 n m R' C') (hk' : Gm.Corner (trn U n) n m R' C') (hmin' : ∀ q' ∈ Ls', leQ (bC (trn U n) m R' C').2 q'.2) :
  SolM U m n (Gm.gain U n (Gm.yOf C (Gm.shM U R C)) (R.headD 0)) (Gm.smM U R C) (wsM U n R C) (Gm.smM (trn U n) R' C') (wsM (trn U n) m R' C') := by
 have gV := yw g
 have hS : 0 < Gm.smM U R C := Gm.sgn_pos hk.ne
 have hX : 0 < Gm.smM (trn U n) R' C' := Gm.sgn_pos hk'.ne
 obtain ⟨a1, a2, a3⟩ := iz g g2 hk.ne hk.pos
 obtain ⟨b1, b2, b3⟩ := iz gV g2' hk'.ne hk'.pos
 have P := Gm.corner_pt g2 g.n4 hk
 have P' := Gm.corner_pt g2' g.m4 hk'
 have m1 := Am g hC g2 hk hmin
 have m2 := Am gV hC' g2' hk' hmin'
 have hb : ∀ i j, i < m -> j < n -> Gm.cell (trn U n) j i = - Gm.cell U i j := fun i j hi hj => Ig g hj hi
 have mt := Gm.meet (a := Gm.cell U) (b := Gm.cell (trn U n)) g.n1 g.m1 hb P m1 P' m2
 have z := rF g g2 hk
 refine ⟨hS, hX, a3, b3, jt .., jt .., a1, b1, a2, b2, fun r hr => ?_, fun c hc => ?_, z.2.1, z.2.2.1, ⟨_, P⟩, m1, z.2.2.2.1, z.2.2.2.2⟩
 ·obtain ⟨i, hi, rfl⟩ := jV hr
  rw [g.rows] at hi
  have := hk.le i hi
  rw [<- d9 g hi] at this
  exact this
 ·
  have hc0 := hc
  unfold cols at hc
  obtain ⟨j, hj, rfl⟩ := List.mem_map.mp hc
  have hj := List.mem_range.mp hj
  have h1 := hk'.le j hj
  have e1 : Gm.gain (trn U n) m (Gm.yOf C' (Gm.shM (trn U n) R' C')) j = - Fr.dot (U.map fun r => r.getD j 0) (wsM (trn U n) m R' C') := by
   unfold wsM
   rw [wQ m _ _ (by rw [List.length_map, g.rows])]
   have : (Gm.sm m fun i => (U.map fun r => r.getD j 0).getD i 0 * Gm.yOf C' (Gm.shM (trn U n) R' C') i) = -1 * Gm.gain (trn U n) m (Gm.yOf C' (Gm.shM (trn U n) R' C')) j := by
    unfold Gm.gain
    rw [<- Gm.sm_mul]
    refine Gm.sm_congr fun i hi => ?_
    rw [hb i j hi hj, map_getD (fun r => r.getD j 0) U 0 (by rw [g.rows]; exact hi)]
    show Gm.cell U i j * _ = _
    grind
   rw [this]; omega
  rw [e1] at h1
  generalize Fr.dot (U.map fun r => r.getD j 0) (wsM (trn U n) m R' C') = d at *
  generalize Gm.gain (trn U n) m (Gm.yOf C' (Gm.shM (trn U n) R' C')) (R'.headD 0) = N' at *
  generalize Gm.gain U n (Gm.yOf C (Gm.shM U R C)) (R.headD 0) = N at *
  have h2 := Int.mul_le_mul_of_nonneg_right h1 (Int.le_of_lt hS)
  grind
def uY (C : Addr) : Sp := fun vs H Q _ => ∃ (a : Addr) (U : List (List Int)) (m n : Nat), vs = [.ref a] /\ IsTab H a U /\ Gd U m n /\
 ∀ p dx u l1 l2 H' N S ys X xs, Same H H' -> H p = none -> H l1 = none -> H l2 = none -> l1 ≠ l2 -> H' p = some (.ins C dx (nQ u l1 l2)) -> H' u = some (.tup [.int (Fr.mk N S).1, .int (Fr.mk N S).2]) -> IsFrs H' l1 (mks xs X) -> IsFrs H' l2 (mks ys S) -> SolM U m n N S ys X xs -> Q (.ref p) H'
abbrev qu : Stmt := top 50
theorem Dd : FnScope ["table", "theirs", "mine"] ["table"] (aC qu) := ⟨rfl, rfl, rfl, by decide +kernel, rfl, by decide +kernel, by decide +kernel⟩
theorem Eb {CS : Addr} (F : FunM K mg "evened" qu ["table"]) (T : Blt mg) (C_Solved : Cl K mg "Solved" ["value", "mine", "theirs"] [] CS) (l_ : Def P w K mg base "lowest" ["corners"] 2 vh) (cW : Def P w K mg base "corners_of" ["table"] 9 tY)
  (fj : Def P w K mg base "from_other_side" ["table"] 3 Al) (jf : DefC P w K mg base CS "__init__" ["self", "value", "mine", "theirs"] 1 (xR CS)) : Def P w K mg base "evened" ["table"] 10 (uY CS) := by
 have S := Dd
 refine Def.of F S (fun vs H Q E h => ?_) (fun f cdv A outer s H vs Q E hr h => ?_)
 ·obtain ⟨a, U, m, n, rfl, _⟩ := h
  rfl
 ·obtain ⟨a, U, m, n, rfl, hU, g, k⟩ := h
  have gV := yw g
  have some1 : ∀ {V : List (List Int)} {m n : Nat} {Ls : List cO}, Gd V m n -> Cors V m n Ls -> Ls ≠ [] := by
   intro V m n Ls gv hc
   obtain ⟨y, S0, N0, P0⟩ := Dj (Gm.cell V) gv.m1 gv.n1
   obtain ⟨R1, C1, g1, k1, _⟩ := Gm.complete P0 gv.m4 gv.n4
   exact List.ne_nil_of_mem (hc.all R1 C1 g1 k1)
  have szs : ∀ {V : List (List Int)} {m n : Nat} {Ls : List cO}, Gd V m n -> Cors V m n Ls -> ∀ q ∈ Ls, 0 < q.2.2 /\ Sz 1000 q.2.1 /\ Sz 1000 q.2.2 := by
   intro V m n Ls gv hc q hq
   obtain ⟨R1, C1, g1, k1, rfl⟩ := hc.of q hq
   exact ⟨(rF gv g1 k1).1, (rF gv g1 k1).2.1, (rF gv g1 k1).2.2.1⟩
  refine ⟨_, (aA (aO (i := 1) S.nd rfl (Or.inl rfl) (aF l_ (hr.mono (by decide)) rfl (aa (aF cW (hr.mono (by decide)) rfl (aa (pv 0) ao aj) (he := aj)) ao aR) (he := aR)))
   (aA (aO (i := 2) S.nd rfl (Or.inl rfl) (aF l_ (hr.mono (by decide)) rfl (aa (aF cW (hr.mono (by decide)) rfl (aa (aF fj (hr.mono (by decide)) rfl (aa (pv 0) ao aj) (he := aj)) ao aR) (he := aR)) ao aR) (he := aR)))
   (aB (aN (jQ jf C_Solved (hr.mono (by decide)) rfl (aa (aP (ixT K) (pv 1) au (fun _ _ => rfl)) (aa (aP (ixT K) (pv 2) au (fun _ _ => rfl)) (aa (aP (ixT K) (pv 1) au (fun _ _ => rfl)) ao aK) aK) aK) (he := aK)))))), ?_⟩
  refine ⟨_, rfl, a, U, m, n, rfl, hU, g, fun l zs Ls H1 s1 hl pz hC _ => ?_⟩
  refine ⟨l, l, zs, Ls, rfl, hl, pz, some1 g hC, szs g hC, fun v q hq hcor hmin => ?_⟩
  refine ⟨_, rfl, a, U, m, n, rfl, hU.mono s1, g, fun pv H2 s2 own => ?_⟩
  refine ⟨pv, _, n, m, rfl, own.tab, gV, fun l' zs' Ls' H3 s3 hl' pz' hC' _ => ?_⟩
  refine ⟨l', l', zs', Ls', rfl, hl', pz', some1 gV hC', szs gV hC', fun v' q' hq' hcor' hmin' => ?_⟩
  have s23 := s2.trans s3
  have s13 := s1.trans s23
  obtain ⟨R, C, g2, hk, rfl⟩ := hC.of q hq
  obtain ⟨R', C', g2', hk', rfl⟩ := hC'.of q' hq'
  obtain ⟨t, kk, u, rfl, t1, _, hF, t2⟩ := hcor.mono s23
  obtain ⟨t', kk', u', rfl, t1', _, hF', _⟩ := hcor'
  obtain ⟨vs1, e1, pr1⟩ := id hF
  obtain ⟨vs2, e2, pr2⟩ := id hF'
  refine ⟨_, rfl, t, _, 1, _, rfl, rfl, SqT.of t1, rfl, ?_⟩
  refine ⟨_, rfl, t', _, 0, _, rfl, rfl, SqT.of t1', rfl, ?_⟩
  refine ⟨_, rfl, t, _, 0, _, rfl, rfl, SqT.of t1, rfl, ?_⟩
  intro x dx nx ndx nex
  have sm0 : Same H3 (upd (upd H3 dx (.own x)) x (.ins CS dx [])) := fun c o e => by
   rw [aH (aV e nx), aH (aV e ndx)]
   exact e
  refine ⟨x, dx, u, kk', kk, vs2, vs1, rfl, aq, sm0 _ _ e2, sm0 _ _ e1, fun l1 l2 HU n1' n2' n12 hl1 hl2 hins kp => ⟨rfl, ?_⟩⟩
  have sU : Same H3 HU := fun c o e => kp c o (sm0 c o e) (aV e nx)
  have sm1 := s13.trans sm0
  exact k x dx u l1 l2 HU _ _ _ _ _ (s13.trans sU) (s13.free nx) (sm1.free n1') (sm1.free n2') n12 hins (sU _ _ t2) ⟨vs2, hl1, pr2.imp2 fun _ _ z => z.mono sU⟩ ⟨vs1, hl2, pr1.imp2 fun _ _ z => z.mono sU⟩ (JC g hC hC' g2 hk hmin g2' hk' hmin')
def xO : Sp := fun vs H Q _ => ∃ (a : Addr) (qs : List (Int × Int)) (n : Nat), vs = [.ref a, .int n] /\ IsFrs H a qs /\ GQ qs /\ ∀ H', Same H H' -> Q (.bl (dD qs n)) H'
def qx : Sp := lH
abbrev kh : Stmt := top 66
theorem wY : FnScope ["_law_a", "_law_b", "_law_far"] ["_law_a", "_law_b"] (aC kh) := ⟨rfl, rfl, rfl, by decide +kernel, rfl, by decide +kernel, by decide +kernel⟩
theorem xm (F : FunM K mg "_law_made" kh ["_law_a", "_law_b"]) (T : Blt mg) (jh : Def P w K mg base "_law_common" ["_law_one", "_law_other"] 1 uU) : Def P w K mg base "_law_made" ["_law_a", "_law_b"] 2 qx := by
 have S := wY
 refine Def.of F S (fun vs H Q E h => ?_) (fun f cdv A outer s H vs Q E hr h => ?_)
 ·obtain ⟨a, b, rfl, _⟩ := h
  rfl
 ·obtain ⟨a, b, rfl, hb, hb2, k⟩ := h
  have g1 := Fr.gcd_pos (a := a) hb
  have g2 := Fr.gcd_le (a := a) hb
  have g3 : Sz 8000 (Int.gcd a b : Int) := by
   have h8 := hb2.mono (show 4000 <= 8000 by decide)
   unfold Sz at h8 ⊢
   exact Nat.lt_of_le_of_lt (by omega) h8
  have e : (Int.gcd (if a < 0 then -a else a) b : Int) = (Int.gcd a b : Int) := by
   have e1 : (if a < 0 then -a else a) = (a.natAbs : Int) := by split <;> omega
   rw [e1]
   simp [Int.gcd]
  refine ⟨_, (aA (aO (i := 2) S.nd rfl (Or.inl rfl) (aF jh (hr.mono (by decide)) rfl (aa (aM qN (by rfl) T.abs_ yh (aa (pv 0) ao aj) (he := aj)) (aa (pv 1) ao aj) aR) (he := aR)))
   (aB (aN (bz (aa (aQ lO (pv 0) (pv 2)) (aa (aQ lO (pv 1) (pv 2)) ao bA) bA))))), ?_⟩
  refine ⟨_, rfl, _, rfl, _, rfl, _, _, rfl, by split <;> omega, by omega, ?_⟩
  rw [e]
  exact ⟨_, rfl, _, rfl, _, _, rfl, rfl, lY g1 g3, _, rfl, _, rfl, _, _, rfl, rfl, lY g1 g3, (by show 2 <= sizeLine; decide), k⟩
abbrev kI : Stmt := top 68
theorem v7 : FnScope ["_law_one", "_law_other"] ["_law_one", "_law_other"] (aC kI) := ⟨rfl, rfl, rfl, by decide +kernel, rfl, by decide +kernel, by decide +kernel⟩
theorem yL (F : FunM K mg "_law_less" kI ["_law_one", "_law_other"]) (T : Blt mg) : Def P w K mg base "_law_less" ["_law_one", "_law_other"] 1 (eH K) := by
 have S := v7
 refine Def.of F S (fun vs H Q E h => ?_) (fun f cdv A outer s H vs Q E hr h => ?_)
 ·obtain ⟨p, q, a, b, c, d, rfl, _⟩ := h
  rfl
 ·obtain ⟨p, q, a, b, c, d, rfl, h1, h2, za, zb, zc, zd, k⟩ := h
  refine ⟨_, (aB (aN (dF jY (aQ bV (aP (ixT K) (pv 0) au (fun _ _ => rfl)) (aP (ixT K) (pv 1) au (fun _ _ => rfl))) (aQ bV (aP (ixT K) (pv 1) au (fun _ _ => rfl)) (aP (ixT K) (pv 0) au (fun _ _ => rfl))) (bf _)))), ?_⟩
  refine ⟨_, rfl, _, _, _, _, rfl, rfl, h1, rfl, ?_⟩
  refine ⟨_, rfl, _, _, _, _, rfl, rfl, h2, rfl, _, _, rfl, rfl, ⟨up za, up zd⟩, ?_⟩
  refine ⟨_, rfl, _, _, _, _, rfl, rfl, h2, rfl, ?_⟩
  exact ⟨_, rfl, _, _, _, _, rfl, rfl, h1, rfl, _, _, rfl, rfl, ⟨up zc, up zb⟩, _, _, rfl, rfl, k⟩
def pA : Sp := fun vs H Q _ => ∃ (a b : Addr) (r : List Int) (qs : List (Int × Int)), vs = [.ref a, .ref b] /\ H a = some (.lst (r.map V.int)) /\ IsFrs H b qs /\ GQ qs /\ (∀ x ∈ r, Sz 9 x) /\ ∀ p H', New H H' p (.tup [.int (aZ r qs).1, .int (aZ r qs).2]) -> Q (.ref p) H'
abbrev mz : Stmt := top 67
theorem zG : FnScope ["_law_worths", "_law_shares", "_law_over", "_law_under", "_law_worth", "_law_share"] ["_law_worths", "_law_shares"] (aC mz) := ⟨rfl, rfl, rfl, by decide +kernel, rfl, by decide +kernel, by decide +kernel⟩
theorem zF (F : FunM K mg "_law_sum" mz ["_law_worths", "_law_shares"]) (T : Blt mg) (dU : Def P w K mg base "_law_made" ["_law_a", "_law_b"] 2 qx) : Def P w K mg base "_law_sum" ["_law_worths", "_law_shares"] 3 pA := by
 have S := zG
 refine Def.of F S (fun vs H Q E h => ?_) (fun f cdv A outer s H vs Q E hr h => ?_)
 ·obtain ⟨a, b, r, qs, rfl, _⟩ := h
  rfl
 ·obtain ⟨a, b, r, qs, rfl, ha, hB, g, hb, k⟩ := h
  obtain ⟨ys, hbb, pb⟩ := id hB
  have gz := iC hb g
  have zl := sS r g
  refine ⟨_, (aA (rC (bz (aa au (aa au ao aD) aD)) (pgT K (n := 2) (a_ (aG (i := 2) S.nd rfl (Or.inl rfl)) (a_ (aG (i := 3) S.nd rfl (Or.inl rfl)) cH))))
   (aA (bU PassesOwn.never rfl (pF K rfl T.zip_ (aa (pv 0) (aa (pv 1) ao aj) aj)) (pgT K (n := 2) (a_ (aG (i := 4) S.nd rfl (Or.inl rfl)) (a_ (aG (i := 5) S.nd rfl (Or.inl rfl)) cH)))
    (aA (aO (i := 2) S.nd rfl (Or.inl rfl) (aQ dB (aQ bV (pv 2) (aP (ixT K) (pv 5) au (fun _ _ => rfl))) (aQ bV (aQ bV (pv 4) (aP (ixT K) (pv 5) au (fun _ _ => rfl))) (pv 3))))
   (aB (aO (i := 3) S.nd rfl (Or.inl rfl) (aQ bV (pv 3) (aP (ixT K) (pv 5) au (fun _ _ => rfl)))))))
   (aB (aN (aF dU (hr.mono (by decide)) rfl (aa (pv 2) (aa (pv 3) ao aj) aj) (he := aj)))))), ?_⟩
  refine ⟨(by show 2 <= sizeLine; decide), fun t ht => ⟨t, _, rfl, SqT.of aq, rfl, _, _, rfl, _, _, rfl, rfl, ?_⟩⟩
  have s0 : Same H (upd H t (.tup [.int 0, .int 1])) := ak ht
  refine ⟨_, rfl, _, rfl, a, b, rfl, ⟨_, SqL.of (s0 _ _ ha)⟩, ⟨_, SqL.of (s0 _ _ hbb)⟩, tu (K := K) (a := a) (b := b) (xs := r.map V.int) (ys := ys) (fun i σ H' => ∃ (o1 o2 : Option V), σ = [some (.ref a), some (.ref b), some (.int (acc ((r.zip qs).take i)).1), some (.int (acc ((r.zip qs).take i)).2), o1, o2] /\ Same H H')
    ⟨_, _, rfl, s0⟩ ?_ ?_ ?_⟩
  ·rintro i σ H' ⟨_, _, _, s1⟩
   exact ⟨SqL.of (s1 _ _ ha), SqL.of (s1 _ _ hbb)⟩
  ·rintro i x y p σ H' hx hy hp ⟨o1, o2, rfl, s1⟩
   obtain ⟨f2, e2, c2, rfl, h2⟩ := pb.get2 hy
   rw [List.getElem?_map] at hx
   obtain ⟨u, hu, rfl⟩ := Option.map_eq_some_iff.mp hx
   have mq := List.mem_of_getElem? e2
   have ez : (r.zip qs)[i]? = some (u, f2) := List.getElem?_zip_eq_some.mpr ⟨hu, e2⟩
   have gt := gz.take i
   have lt : ((r.zip qs).take i).length <= 8 := by rw [List.length_take]; omega
   have za := yQ gt lt
   have zd := su gt lt
   have zu := hb u (List.mem_of_getElem? hu)
   have z1 := g.s1 _ mq
   have z2 := g.s2 _ mq
   have s2 := s1.trans (ak (o := .tup [.int u, .ref c2]) hp)
   have h2' := s2 _ _ h2
   refine ⟨p, _, rfl, SqT.of aq, rfl, _, _, rfl, _, _, rfl, rfl, ?_⟩
   refine ⟨_, rfl, _, rfl, _, _, _, _, rfl, rfl, SqT.of h2', rfl, _, _, rfl, rfl, ⟨up za, up z2⟩, ?_⟩
   refine ⟨_, rfl, _, rfl, _, _, _, _, rfl, rfl, SqT.of h2', rfl, _, _, rfl, rfl, ⟨up zu, up z1⟩, _, rfl, _, _, rfl, rfl, ⟨(zu.mul z1).mono (by decide), up zd⟩, _, _, rfl, rfl, ?_⟩
   refine ⟨_, rfl, _, rfl, _, _, _, _, rfl, rfl, SqT.of h2', rfl, _, _, rfl, rfl, ⟨up zd, up z2⟩, ?_⟩
   refine ⟨some (.int u), some (.ref c2), ?_, s2⟩
   rw [vZ ez]
   rfl
  ·rintro σ H' ⟨o1, o2, rfl, s1⟩
   have l1 : (r.zip qs).take (min (r.map V.int).length ys.length) = r.zip qs := List.take_of_length_le (by rw [List.length_zip, pb.length, List.length_map]; exact Nat.le_refl _)
   rw [l1]
   exact ⟨_, rfl, _, rfl, _, _, rfl, gD gz, (su gz zl).mono (by decide), fun p hp => k p _ (New.of s1 hp)⟩
abbrev jg : Stmt := top 69
theorem tO : FnScope ["_law_table_here"] ["_law_table_here"] (aC jg) := ⟨rfl, rfl, rfl, by decide +kernel, rfl, by decide +kernel, by decide +kernel⟩
theorem ur (F : FunM K mg "_law_across" jg ["_law_table_here"]) (T : Blt mg) : Def P w K mg base "_law_across" ["_law_table_here"] 1 gU := by
 have S := tO
 refine Def.of F S (fun vs H Q E h => ?_) (fun f cdv A outer s H vs Q E hr h => ?_)
 ·obtain ⟨a, U, m, n, rfl, _⟩ := h
  rfl
 ·obtain ⟨a, U, m, n, rfl, hU, g, k⟩ := h
  have n4 := g.n4
  have m4 := g.m4
  obtain ⟨vs, b0, ha, h0, at0, hb0⟩ := hU.row (i := 0) (by rw [g.rows]; exact g.m1)
  have hl : ((U.getD 0 []).map V.int).length = n := by rw [List.length_map, (g.row g.m1).2]
  refine ⟨_, (aB (aN (aX rfl (N' := ["_law_column", "_law_table_here"]) (src := [none, some 0]) rfl (cg rfl T.range_ (aa (aM (bK K) (by rfl) T.len_ bj (aa (aP (ixL K) (pv 0) au (fun _ _ => rfl)) ao aK) (he := aK)) ao aR)) (fun _ _ _ _ _ => (aG (i := 0) (show (["_law_column", "_law_table_here"] : List Str).Nodup from by decide +kernel) rfl (Or.inr rfl))) (fun _ _ _ _ _ => aW) (fun _ _ _ _ _ => (aX rfl (N' := ["_law_row", "_law_column"]) (src := [none, some 0]) rfl (piL K (pv 1)) (fun _ _ _ _ _ => (aG (i := 0) (show (["_law_row", "_law_column"] : List Str).Nodup from by decide +kernel) rfl (Or.inl rfl))) (fun _ _ _ _ _ => aW) (fun _ _ _ _ _ => (aP (ixL K) (pv 0) (pv 1) (fun _ _ => rfl)))))))), ?_⟩
  refine ⟨_, rfl, a, vs, 0, _, rfl, rfl, SqL.of ha, at0, b0, _, rfl, .inl (SqL.of hb0), _, rfl, by omega, by omega, cP (n := ((U.getD 0 []).map V.int).length) (fun (i : Nat) y H' => OwnRow H H' y (U.map fun (r : List Int) => r.getD i 0)) (fun _ _ _ _ s h => h.mono s) (Nat.le_of_lt (aJ (by omega))) ?_ ?_⟩
  ·intro i hi H1 s1 Q' q
   obtain ⟨vs1, ha1, _⟩ := hU.mono s1
   refine ⟨_, rfl, a, rfl, ⟨_, SqL.of ha1⟩, u9 (fun r => r.getD i 0) (hU.mono s1) (by rw [g.rows]; omega) ?_ ?_⟩
   ·intro r hr' b hb H2 s2 Q2 q2
    exact ⟨_, rfl, _, rfl, b, _, _, _, rfl, rfl, SqL.of (s2 _ _ hb), fV (by rw [g.cols r hr', <- hl]; exact hi), q2 H2 (Same.refl _)⟩
   ·intro H2 s2 l hl'
    exact q _ _ (s2.trans (ak hl')) ⟨l, rfl, (s1.trans s2).free hl', aq⟩
  ·intro ys H' s' pr p hp'
   rw [hl] at pr
   exact k p _ (s'.trans (ak hp')) (OwnTab.lay s' hp' (oM _ pr))
abbrev gh : Stmt := top 70
theorem sJ : FnScope ["_law_mixture_here", "_law_many", "_law_share"] ["_law_mixture_here", "_law_many"] (aC gh) := ⟨rfl, rfl, rfl, by decide +kernel, rfl, by decide +kernel, by decide +kernel⟩
theorem sW (F : FunM K mg "_law_mixture" gh ["_law_mixture_here", "_law_many"]) (T : Blt mg) (dU : Def P w K mg base "_law_made" ["_law_a", "_law_b"] 2 qx) (cB : Def P w K mg base "_law_sum" ["_law_worths", "_law_shares"] 3 pA) : Def P w K mg base "_law_mixture" ["_law_mixture_here", "_law_many"] 4 xO := by
 have S := sJ
 refine Def.of F S (fun vs H Q E h => ?_) (fun f cdv A outer s H vs Q E hr h => ?_)
 ·obtain ⟨a, qs, n, rfl, _⟩ := h
  rfl
 ·obtain ⟨a, qs, n, rfl, hW, g, k⟩ := h
  obtain ⟨vs, ha, pr⟩ := id hW
  have hl : vs.length = qs.length := pr.length
  have n8 := g.len
  refine ⟨_, (aA (bB (PW.pt (fJ (cX (bG (aM (mJ K) (by rfl) T.isinstance_ bD (aa (pv 0) (aa (eU (v := .ty "list") rfl T.list_ dj rfl) ao aj) aj) (he := aj)))) (fY (bh Bj (aM (bK K) (by rfl) T.len_ bj (aa (pv 0) ao aj) (he := aj)) (pv 1) (bf _)))))
    (aB (aN fu)) aY)
   (aA (bU PassesOwn.never rfl (piL K (pv 0)) (aG (i := 2) S.nd rfl (Or.inl rfl))
    (aA (bB (PW.pt (fJ (cX (bG (aM (mJ K) (by rfl) T.isinstance_ bD (aa (pv 2) (aa (eU (v := .ty "tuple") rfl T.tuple_ wB rfl) ao aj) aj) (he := aj)))) (fY (bh Bj (aM (bK K) (by rfl) T.len_ bj (aa (pv 2) ao aj) (he := aj)) au (bf _)))))
    (aB (aN fu)) aY)
   (aA (bB (bG (aM (yS K) (by rfl) T.any_ nR (aa (aX rfl (N' := ["_law_one"]) (src := [none]) rfl (piT K (pv 2)) (fun _ _ _ _ _ => (aG (i := 0) (show (["_law_one"] : List Str).Nodup from by decide +kernel) rfl (Or.inl rfl))) (fun _ _ _ _ _ => aW) (fun _ _ _ _ _ => (JX (aM (mJ K) (by rfl) T.isinstance_ bD (aa (pv 0) (aa (eU (v := .ty "bool") rfl T.bool_ Ac rfl) ao aj) aj) (he := aj)) (lF (rm (aM (mJ K) (by rfl) T.isinstance_ bD (aa (pv 0) (aa (eU (v := .ty "int") rfl T.int_ Dz rfl) ao aj) aj) (he := aj))))))) ao aU) (he := aU)))
    (aB (aN fu)) aY)
   (aB (bB (PW.pt (fJ (bh jY (aP (ixT K) (pv 2) au (fun _ _ => rfl)) au (bf _)) (fJ (bh jY (aP (ixT K) (pv 2) au (fun _ _ => rfl)) au (bf _)) (fY (bh (wH K hr.units) (aF dU (hr.mono (by decide)) rfl (aa (aP (ixT K) (pv 2) au (fun _ _ => rfl)) (aa (aP (ixT K) (pv 2) au (fun _ _ => rfl)) ao aK) aK) (he := aK)) (pv 2) (bf _))))))
    (aB (aN fu)) aY)))))
   (aB (aN (dF (qH K hr.units) (aF cB (hr.mono (by decide)) rfl (aa (aX rfl (N' := ["_law_share"]) (src := [none]) rfl (piL K (pv 0)) (fun _ _ _ _ _ => (aG (i := 0) (show (["_law_share"] : List Str).Nodup from by decide +kernel) rfl (Or.inl rfl))) (fun _ _ _ _ _ => aW) (fun _ _ _ _ _ => au)) (aa (pv 0) ao aj) aU) (he := aU)) (bz (aa au (aa au ao aD) aD)) (bf _)))))), ?_⟩
  refine ⟨_, rfl, _, _, _, _, rfl, TyOf.lst ha, rfl, _, rfl, ?_⟩
  refine cD ?_
  refine ⟨_, rfl, a, _, rfl, .inl (SqL.of ha), _, rfl, rfl, _, rfl, ?_⟩
  by_cases hn : qs.length = n
  rotate_left
  ·refine ifP ?_ ?_
   ·rw [gA, hl, decide_eq_false hn]; rfl
   ·have e : dD qs n = false := by unfold dD; rw [decide_eq_false hn]; rfl
    rw [e] at k
    exact k H (Same.refl _)
  refine ifN (by rw [gA, hl, decide_eq_true hn]; decide) ?_
  refine ⟨_, rfl, a, rfl, ⟨_, SqL.of ha⟩, cM (K := K) (a := a) (xs := vs) (fun i σ H' => ∃ o, σ = [some (.ref a), some (.int n), o] /\ Same H H' /\ ∀ q ∈ qs.take i, 0 <= q.1)
   ⟨_, rfl, Same.refl _, fun q h => by simp at h⟩ ?_ ?_ ?_⟩
  ·rintro i σ H' _ ⟨_, _, s3, _⟩
   exact SqL.of (s3 _ _ ha)
  ·rintro i x σ H1 hi ⟨o, rfl, s1, hnn⟩
   obtain ⟨y, hy, b, rfl, hb⟩ := pr.get2 hi
   have my := List.mem_of_getElem? hy
   have py := g.pr y my
   have hb1 := s1 _ _ hb
   have et : qs.take (i + 1) = qs.take i ++ [y] := by rw [List.take_add_one, hy]; rfl
   refine ⟨_, rfl, _, _, _, _, rfl, TyOf.tup hb1, rfl, _, rfl, ?_⟩
   refine cD ?_
   refine ⟨_, rfl, b, _, rfl, .inr (SqT.of hb1), rfl, _, rfl, ?_⟩
   refine cD ?_
   refine ⟨_, rfl, b, rfl, ⟨_, SqT.of hb1⟩, zA (xs := [.int y.1, .int y.2]) (fun _ z _ => z = .bl false) (fun _ _ _ _ _ h => h) (SqT.of hb1) (by show 2 <= sizeLine; decide) ?_ ?_⟩
   ·intro x hx H2 s2 Q' q
    obtain ⟨z, rfl⟩ : ∃ z, x = V.int z := by
     rcases List.mem_cons.mp hx with e | e
     ·exact ⟨_, e⟩
     ·exact ⟨_, List.mem_singleton.mp e⟩
    refine ⟨_, rfl, _, _, _, _, rfl, TyOf.int z, rfl, _, rfl, ?_⟩
    refine cD ?_
    exact ⟨_, rfl, _, _, _, _, rfl, TyOf.int z, rfl, _, rfl, q _ H2 (Same.refl _) rfl⟩
   intro ysC H2 s2 prC q9 hq9
   have e := jq prC
   subst e
   refine ⟨q9, _, rfl, SqL.of aq, ?_⟩
   rw [Gx]
   refine ⟨_, rfl, ?_⟩
   refine cD ?_
   have s3 : Same H (upd H2 q9 (.lst ((List.replicate ([V.int y.1, V.int y.2] : List V).length false).map V.bl))) := (s1.trans s2).trans (ak hq9)
   generalize upd H2 q9 (.lst ((List.replicate ([V.int y.1, V.int y.2] : List V).length false).map V.bl)) = H3 at s3 ⊢
   have hb3 := s3 _ _ hb
   refine ⟨_, rfl, b, _, 0, _, rfl, rfl, SqT.of hb3, rfl, _, _, rfl, rfl, _, rfl, ?_⟩
   by_cases hneg : y.1 < 0
   ·refine ifP (decide_eq_true hneg) ?_
    have e : dD qs n = false := by
     unfold dD
     have : (qs.all fun q => decide (0 <= q.1)) = false := by
      rw [List.all_eq_false]
      exact ⟨y, my, by simp; omega⟩
     rw [this, Bool.and_false, Bool.false_and]
    rw [e] at k
    exact k H3 s3
   refine ifN (by simpa using hneg) ?_
   refine ⟨_, rfl, b, _, 1, _, rfl, rfl, SqT.of hb3, rfl, _, _, rfl, rfl, _, rfl, ?_⟩
   have y0 := py.pos
   refine ifN (by simp; omega) ?_
   refine ⟨_, rfl, b, _, 0, _, rfl, rfl, SqT.of hb3, rfl, _, rfl, b, _, 1, _, rfl, rfl, SqT.of hb3, rfl, _, _, rfl, y0, (g.s2 y my).mono (by decide), fun r hr' => ?_⟩
   refine ⟨_, rfl, _, _, bT aq, bT (ak hr' _ _ hb3), rfl, (by show 1 <= 40; decide), _, rfl, ?_⟩
   refine vR ?_ ?_
   ·rw [fO, py.mk_eq]
    exact decide_eq_true rfl
   ·refine ⟨_, rfl, s3.trans (ak hr'), fun q hq => ?_⟩
    rw [et] at hq
    rcases List.mem_append.mp hq with h | h
    ·exact hnn q h
    ·rw [List.mem_singleton.mp h]; omega
  ·rintro σ H1 ⟨o, rfl, s1, hnn⟩
   rw [hl, List.take_length] at hnn
   have ha1 := s1 _ _ ha
   refine ⟨_, rfl, a, rfl, ⟨_, SqL.of ha1⟩, bu (xs := vs) (fun _ y _ => y = .int 1) (fun _ _ _ _ _ h => h) (SqL.of ha1) (by rw [hl]; exact Nat.le_of_lt (aJ (by omega))) ?_ ?_⟩
   ·intro x hx H2 s2 Q' q
    exact q _ H2 (Same.refl _) rfl
   intro ys H2 s2 p1 q hq
   have e : ys = (qs.map fun _ => (1 : Int)).map V.int := by
    have go : ∀ {vs ys : List V} {qs : List (Int × Int)}, Paired (fun _ y => y = V.int 1) vs ys -> vs.length = qs.length -> ys = (qs.map fun _ => (1 : Int)).map V.int := by
     intro vs
     induction vs with
     | nil =>
      intro ys qs h e
      cases h
      have := List.eq_nil_of_length_eq_zero e.symm
      subst this
      rfl
     | cons v vs ih =>
      intro ys qs h e
      cases h with
      | cons h t =>
       cases qs with
       | nil => simp at e
       | cons q qs =>
        rw [h, ih t (by simpa using e)]
        rfl
    exact go p1 hl
   subst e
   have s3 : Same H (upd H2 q (.lst ((qs.map fun _ => (1 : Int)).map V.int))) := (s1.trans s2).trans (ak hq)
   have q3 : upd H2 q (.lst ((qs.map fun _ => (1 : Int)).map V.int)) q = some (.lst ((qs.map fun _ => (1 : Int)).map V.int)) := aq
   generalize upd H2 q (.lst ((qs.map fun _ => (1 : Int)).map V.int)) = H3 at s3 q3 ⊢
   refine ⟨_, rfl, q, a, _, qs, rfl, q3, hW.mono s3, g, fun x hx => ?_, fun p H4 nw => ?_⟩
   ·obtain ⟨_, _, rfl⟩ := List.mem_map.mp hx
    show (1 : Int).natAbs < 2 ^ 9
    decide
   ·refine ⟨(by show 2 <= sizeLine; decide), fun r hr' => ?_⟩
    refine ⟨_, _, bT (ak hr' _ _ nw.is), bT aq, rfl, (by show 1 <= 40; decide), ?_⟩
    rw [fO]
    have e : dD qs n = decide (((aZ (qs.map fun _ => 1) qs).1, (aZ (qs.map fun _ => 1) qs).2) = (1, 1)) := by
     unfold dD aZ
     rw [m5, decide_eq_true hn]
     have : (qs.all fun q => decide (0 <= q.1)) = true := by
      rw [List.all_eq_true]
      exact fun q hq => decide_eq_true (hnn q hq)
     rw [this]
     rfl
    rw [e] at k
    exact k _ ((s3.trans nw.same).trans (ak hr'))
theorem yU {qs : List (Int × Int)} {n : Nat} (h : dD qs n = true) : qs.length = n := by
 unfold dD at h
 simp only [Bool.and_eq_true, decide_eq_true_eq] at h
 exact h.1.1
theorem gK {α : Type} {l : List α} {i : Nat} {x : α} (h : l[i]? = some x) : l.take (i + 1) = l.take i ++ [x] := by rw [List.take_add_one, h]; rfl
theorem ig {α β : Type} {F : α -> β -> Prop} : ∀ {l : List α} {r : List β} (i : Nat), Paired F l r -> Paired F (l.take i) (r.take i)
 | _, _, _, .nil => by simpa using Paired.nil
 | _, _, 0, .cons _ _ => .nil
 | _, _, i + 1, .cons h t => .cons h (ig i t)
theorem g_ {α β : Type} {F : α -> β -> Prop} : ∀ {l : List α} {r : List β} (i : Nat), Paired F l r -> Paired F (l.drop i) (r.drop i)
 | _, _, _, .nil => by simpa using Paired.nil
 | _, _, 0, .cons h t => .cons h t
 | _, _, i + 1, .cons _ t => g_ i t
theorem int_at {r : List Int} {i : Nat} {x : V} (h : (r.map V.int)[i]? = some x) : x = V.int (r.getD i 0) /\ i < r.length := by
 rw [List.getElem?_map] at h
 cases e : r[i]? with
 | none => rw [e] at h; cases h
 | some z =>
  rw [e] at h
  refine ⟨?_, (List.getElem?_eq_some_iff.mp e).1⟩
  cases h
  rw [List.getD_eq_getElem?_getD, e]
  rfl
theorem Bx {p q : Int × Int} (h : ltQ p q = false) : leQ q p := by
 unfold ltQ at h
 have := of_decide_eq_false h
 unfold leQ
 omega
theorem Ca {p q : Int × Int} (h : leQ q p) : ltQ p q = false := by
 unfold leQ at h
 unfold ltQ
 exact decide_eq_false (by omega)
theorem yP {p q : Int × Int} (hp : Pq p) (hq : Pq q) (h1 : leQ p q) (h2 : leQ q p) : p = q := by
 rw [<- hp.mk_eq, <- hq.mk_eq]
 unfold leQ at *
 exact Fr.mk_cross hp.pos hq.pos (by omega)
def pX : Sp := fun vs H Q _ => ∃ (a : Addr) (gs : List (Int × Int)), vs = [.ref a] /\ IsFrs H a gs /\ gs ≠ [] /\ (∀ q ∈ gs, Pq q /\ Sz 1000 q.1 /\ Sz 1000 q.2) /\ ∀ p q, H p = some (.tup [.int q.1, .int q.2]) -> q ∈ gs -> (∀ q' ∈ gs, leQ q' q) -> Q (.ref p) H
abbrev mV : Stmt := top 12
theorem zz : FnScope ["values", "most", "value"] ["values"] (aC mV) := ⟨rfl, rfl, rfl, by decide +kernel, rfl, by decide +kernel, by decide +kernel⟩
theorem zK (F : FunM K mg "greatest" mV ["values"]) (T : Blt mg) (cU : Def P w K mg base "below" ["one", "other"] 1 (eH K)) : Def P w K mg base "greatest" ["values"] 2 pX := by
 have S := zz
 refine Def.of F S (fun vs H Q E h => ?_) (fun f cdv A outer s H vs Q E hr h => ?_)
 ·obtain ⟨a, gs, rfl, _⟩ := h
  rfl
 ·obtain ⟨a, gs, rfl, hX, hne, hz, k⟩ := h
  obtain ⟨vs, ha, pr⟩ := id hX
  have hl : vs.length = gs.length := pr.length
  have h0 : 0 < vs.length := by rw [hl]; exact List.length_pos_iff.mpr hne
  obtain ⟨q0, e0, b0, eb0, hb0⟩ := pr.get2 (List.getElem?_eq_getElem h0)
  refine ⟨_, (aA (aO (i := 1) S.nd rfl (Or.inl rfl) (aP (ixL K) (pv 0) au (fun _ _ => rfl)))
   (aA (bU PassesOwn.never rfl (piL K (pv 0)) (aG (i := 2) S.nd rfl (Or.inl rfl))
    (aB (bB (bG (aF cU (hr.mono (by decide)) rfl (aa (pv 1) (aa (pv 2) ao aj) aj) (he := aj)))
    (aB (aO (i := 1) S.nd rfl (Or.inl rfl) (pv 2))) aY)))
   (aB (aN (pv 1))))), ?_⟩
  refine ⟨_, rfl, a, vs, 0, _, rfl, rfl, SqL.of ha, eQ h0, ?_⟩
  rw [eb0]
  refine ⟨_, rfl, a, rfl, ⟨_, SqL.of ha⟩, cM (K := K) (a := a) (xs := vs) (fun i σ H' => ∃ (p : Addr) (q : Int × Int) (o : Option V), σ = [some (.ref a), some (.ref p), o] /\ H' = H /\ H p = some (.tup [.int q.1, .int q.2]) /\ q ∈ gs /\ ∀ q' ∈ gs.take i, leQ q' q)
   ⟨b0, q0, _, rfl, rfl, hb0, List.mem_of_getElem? e0, fun x hx => by simp at hx⟩ ?_ ?_ ?_⟩
  ·rintro i σ H' _ ⟨_, _, _, _, rfl, _⟩
   exact SqL.of ha
  ·rintro i x σ H' hi ⟨p, q, o, rfl, rfl, hp, hM, hle⟩
   obtain ⟨y, hy, b, rfl, hb⟩ := pr.get2 hi
   have my := List.mem_of_getElem? hy
   obtain ⟨q1, q2, q3⟩ := hz q hM
   obtain ⟨y1, y2, y3⟩ := hz y my
   have et : gs.take (i + 1) = gs.take i ++ [y] := by rw [List.take_add_one, hy]; rfl
   refine ⟨_, rfl, _, rfl, p, b, _, _, _, _, rfl, SqT.of hp, SqT.of hb, q2, q3, y2, y3, _, rfl, ?_⟩
   by_cases hlt : q.1 * y.2 < y.1 * q.2
   ·refine ifP (decide_eq_true hlt) ?_
    refine ⟨_, rfl, b, y, _, rfl, rfl, hb, my, fun x hx => ?_⟩
    rw [et] at hx
    rcases List.mem_append.mp hx with h | h
    ·exact vm (hz x (List.mem_of_mem_take h)).1.pos q1.pos y1.pos (hle x h) (Int.le_of_lt hlt)
    ·rw [List.mem_singleton.mp h]; exact Int.le_refl _
   ·refine ifN (by simpa using hlt) ?_
    refine ⟨p, q, _, rfl, rfl, hp, hM, fun x hx => ?_⟩
    rw [et] at hx
    rcases List.mem_append.mp hx with h | h
    ·exact hle x h
    ·rw [List.mem_singleton.mp h]
     unfold leQ
     omega
  ·rintro σ H' ⟨p, q, o, rfl, rfl, hp, hM, hle⟩
   rw [hl, List.take_length] at hle
   exact ⟨_, rfl, k p q hp hM hle⟩
def plQ (gs : List (Int × Int)) (mx : Int × Int) (i : Nat) : List Int := ((List.range i).filter fun j => decide (gs.getD j (0, 0) = mx)).map fun (j : Nat) => (j : Int)
theorem HF {gs : List (Int × Int)} {mx : Int × Int} {m i : Nat} : (i : Int) ∈ plQ gs mx m ↔ i < m /\ gs.getD i (0, 0) = mx := by
 unfold plQ
 simp only [List.mem_map, List.mem_filter, List.mem_range, decide_eq_true_eq]
 constructor
 ·rintro ⟨j, ⟨hj, hz⟩, e⟩
  have : j = i := by omega
  subst this
  exact ⟨hj, hz⟩
 ·rintro ⟨h1, h2⟩
  exact ⟨i, ⟨h1, h2⟩, rfl⟩
def pW : Sp := fun vs H Q _ => ∃ (a c : Addr) (U : List (List Int)) (m n : Nat) (qs : List (Int × Int)), vs = [.ref a, .ref c] /\ IsTab H a U /\ Gd U m n /\ IsFrs H c qs /\ GQ qs /\
 ∀ l p q (mx : Int × Int) H', Same H H' -> H l = none -> H' l = some (.lst ((plQ (U.map fun r => aZ r qs) mx m).map V.int)) -> mx ∈ U.map (fun r => aZ r qs) -> (∀ g ∈ U.map (fun r => aZ r qs), leQ g mx) -> H' q = some (.tup [.ref l, .ref p]) -> Q (.ref q) H'
abbrev j9 : Stmt := top 36
theorem yD : FnScope ["table", "theirs", "gains", "most"] ["table", "theirs"] (aC j9) := ⟨rfl, rfl, rfl, by decide +kernel, rfl, by decide +kernel, by decide +kernel⟩
theorem wI (F : FunM K mg "best_rows" j9 ["table", "theirs"]) (T : Blt mg) (fQ : Def P w K mg base "all_get" ["rows", "mixture"] 6 oV) (m8 : Def P w K mg base "greatest" ["values"] 2 pX) : Def P w K mg base "best_rows" ["table", "theirs"] 7 pW := by
 have S := yD
 refine Def.of F S (fun vs H Q E h => ?_) (fun f cdv A outer s H vs Q E hr h => ?_)
 ·obtain ⟨a, c, U, m, n, qs, rfl, _⟩ := h
  rfl
 ·obtain ⟨a, c, U, m, n, qs, rfl, hU, g, hC, gc, k⟩ := h
  have m4 := g.m4
  have m1 := g.m1
  refine ⟨_, (aA (aO (i := 2) S.nd rfl (Or.inl rfl) (aF fQ (hr.mono (by decide)) rfl (aa (pv 0) (aa (pv 1) ao aj) aj) (he := aj)))
   (aA (aO (i := 3) S.nd rfl (Or.inr rfl) (aF m8 (hr.mono (by decide)) rfl (aa (pv 2) ao aj) (he := aj)))
   (aB (aN (bz (aa (aX rfl (N' := ["place", "gain", "most"]) (src := [none, none, some 3]) rfl (wV K rfl T.enumerate_ (aa (pv 2) ao aj)) (fun _ _ _ _ _ => (pgT K (n := 2) (a_ (aG (i := 0) (show (["place", "gain", "most"] : List Str).Nodup from by decide +kernel) rfl (Or.inl rfl)) (a_ (aG (i := 1) (show (["place", "gain", "most"] : List Str).Nodup from by decide +kernel) rfl (Or.inl rfl)) cH)))) (fun _ _ _ _ _ => (uv (bh (qH K hr.units) (pv 1) (pv 2) (bf _)))) (fun _ _ _ _ _ => (pv 0))) (aa (pv 3) ao aj) aU)))))), ?_⟩
  refine ⟨_, rfl, _, rfl, a, c, U, m, n, qs, rfl, hU, g, hC, gc, fun p H5 sz hpn hP => ?_⟩
  obtain ⟨ys, hys, pr⟩ := id hP
  have yl : ys.length = m := by rw [pr.length, List.length_map, g.rows]
  have zg : ∀ q ∈ U.map (fun r => aZ r qs), Pq q /\ Sz 1000 q.1 /\ Sz 1000 q.2 := fun q hq => by
   obtain ⟨r, hr', rfl⟩ := List.mem_map.mp hq
   exact ⟨ph (g.sz hr') gc, (gP (g.sz hr') gc).mono (by decide), (gY (g.sz hr') gc).mono (by decide)⟩
  refine ⟨_, rfl, p, _, rfl, hP, fun e => by have := congrArg List.length e; rw [List.length_map, g.rows] at this; simp at this; omega, zg, fun t mx ht hmx hle => ?_⟩
  refine ⟨_, rfl, p, ys, rfl, hys, nG (K := K) (xs := ys) (fun i zs H' => zs = (plQ (U.map fun r => aZ r qs) mx i).map V.int /\ Same H5 H') ⟨rfl, Same.refl _⟩ ?_ (by rw [yl]; exact Nat.le_of_lt (aJ (by omega))) ?_ ?_⟩
  ·rintro i zs H' ⟨rfl, s5⟩
   refine ⟨SqL.of (s5 _ _ hys), ?_⟩
   rw [List.length_map]
   unfold plQ
   rw [List.length_map]
   exact Nat.le_trans (List.length_filter_le _ _) (by rw [List.length_range]; exact Nat.le_refl _)
  ·rintro i x q zs H' hi hq ⟨rfl, s5⟩
   obtain ⟨y, hy, b, rfl, hb⟩ := pr.get2 hi
   have eu : (U.map fun r => aZ r qs).getD i (0, 0) = y := dm hy
   have s6 := s5.trans (ak (o := .tup [.int i, .ref b]) hq)
   refine ⟨q, _, rfl, SqT.of aq, rfl, _, _, rfl, _, _, rfl, rfl, ?_⟩
   refine ⟨_, rfl, _, rfl, _, _, bT (s6 _ _ hb), bT (s6 _ _ ht), rfl, (by show 1 <= 40; decide), _, rfl, ?_⟩
   rw [fO]
   have ei : plQ (U.map fun r => aZ r qs) mx (i + 1) = plQ (U.map fun r => aZ r qs) mx i ++ (if y = mx then [(i : Int)] else []) := by
    unfold plQ
    rw [List.range_succ, List.filter_append, List.map_append]
    congr 1
    by_cases e : y = mx
    ·rw [List.filter_cons_of_pos (by rw [eu]; exact decide_eq_true e), if_pos e]
     rfl
    ·rw [List.filter_cons_of_neg (by rw [eu]; simp [e]), if_neg e]
     rfl
   by_cases e : y = mx
   ·refine ifP (by rw [e]; exact decide_eq_true rfl) ?_
    refine ⟨_, rfl, ?_, s6⟩
    rw [ei, if_pos e, List.map_append]
    rfl
   ·refine ifN (by rw [decide_eq_false (fun z => e (Prod.ext (congrArg Prod.fst z) (congrArg Prod.snd z)))]; decide) ?_
    refine ⟨?_, s6⟩
    rw [ei, if_neg e, List.append_nil]
  ·rintro zs H' ⟨rfl, s5⟩ l hl'
   refine ⟨_, rfl, (by show 2 <= sizeLine; decide), fun q hq => ?_⟩
   rw [yl] at hq ⊢
   have s6 := s5.trans (ak (o := .lst ((plQ (U.map fun r => aZ r qs) mx m).map V.int)) hl')
   exact k l t q mx _ ((sz.trans s6).trans (ak hq)) (sz.free (s5.free hl')) (ak hq _ _ aq) hmx hle aq
theorem Af {U : List (List Int)} {m n row : Nat} {qs : List (Int × Int)} {mx : Int × Int} (g : Gd U m n) (gq : GQ qs) (hr : row < m) (hmx : mx ∈ U.map fun r => aZ r qs) (hle : ∀ x ∈ U.map (fun r => aZ r qs), leQ x mx) :
  decide ((row : Int) ∈ plQ (U.map fun r => aZ r qs) mx m) = !(U.any fun r => ltQ (aZ (U.getD row []) qs) (aZ r qs)) := by
 have hrow := g.row hr
 have eg : (U.map fun r => aZ r qs).getD row (0, 0) = aZ (U.getD row []) qs := map_getD (fun r => aZ r qs) U (0, 0) (by rw [g.rows]; exact hr)
 have pr := ph (g.sz hrow.1) gq
 have pm : Pq mx := by
  obtain ⟨r, hr', rfl⟩ := List.mem_map.mp hmx
  exact ph (g.sz hr') gq
 rw [Bool.eq_iff_iff, decide_eq_true_iff, HF, eg, Bool.not_eq_true', List.any_eq_false]
 constructor
 ·rintro ⟨_, e⟩ r hr'
  rw [e, Ca (hle _ (List.mem_map.mpr ⟨r, hr', rfl⟩))]
  decide
 ·intro h
  refine ⟨hr, yP pr pm (hle _ (List.mem_map.mpr ⟨_, hrow.1, rfl⟩)) ?_⟩
  obtain ⟨r, hr', rfl⟩ := List.mem_map.mp hmx
  have := h r hr'
  exact Bx (by simpa using this)
def mZ (l : Addr) : List (Str × V) := cj "mixture" (.ref l) []
theorem yc (l : Addr) : (mZ l).lookup ("mixture" : Str) = some (.ref l) := by
 unfold mZ
 rw [bJ, if_pos rfl]
def mQ (C : Addr) : Sp := fun vs H Q _ => ∃ (p dx b : Addr) (xs : List V), vs = [.ref p, .ref b] /\ H p = some (.ins C dx []) /\ H b = some (.lst xs) /\
 ∀ l H', H l = none -> H' l = some (.lst xs) -> H' p = some (.ins C dx (mZ l)) -> (∀ q o, H q = some o -> q ≠ p -> H' q = some o) -> Q .non H'
abbrev jd : Stmt := inClass (top 46) 0
theorem um : FnScope ["self", "mixture"] ["self", "mixture"] (aC jd) := ⟨rfl, rfl, rfl, by decide +kernel, rfl, by decide +kernel, by decide +kernel⟩
theorem uo {C : Addr} (F : FunC K C "__init__" "Beaten.__init__" jd ["self", "mixture"]) (T : Blt mg) (C_Beaten : Cl K mg "Beaten" ["mixture"] [] C) : DefC P w K mg base C "__init__" ["self", "mixture"] 1 (mQ C) := by
 have S := um
 refine DefC.of F S (fun vs H Q E h => ?_) (fun f cdv A outer s H vs Q E hr h => ?_)
 ·obtain ⟨p, dx, b, xs, rfl, _⟩ := h
  rfl
 ·obtain ⟨p, dx, b, xs, rfl, hp, hb, k⟩ := h
  refine ⟨_, (aB (jC (pv 0) (dI (fW K) (by rfl) T.list_ dj (aa (pv 1) ao aj) (he := aj)) rfl)), ?_⟩
  refine ⟨_, rfl, b, xs, rfl, .inl (SqL.of hb), fun l h1 => ?_⟩
  have np1 : p ≠ l := aV hp h1
  refine ⟨_, rfl, p, C, dx, [], rfl, ak h1 _ _ hp, C_Beaten.cl, C_Beaten.no _ (by simp), (by show 0 < 1000; decide), ?_⟩
  refine k l _ h1 (by rw [aH np1.symm, aq]) aq fun q o e nq => ?_
  rw [aH nq, aH (aV e h1)]
  exact e
abbrev kj : Stmt := inClass (top 47) 0
theorem wC : FnScope ["self", "mixture"] ["self", "mixture"] (aC kj) := ⟨rfl, rfl, rfl, by decide +kernel, rfl, by decide +kernel, by decide +kernel⟩
theorem ym {C : Addr} (F : FunC K C "__init__" "Best.__init__" kj ["self", "mixture"]) (T : Blt mg) (C_Best : Cl K mg "Best" ["mixture"] [] C) : DefC P w K mg base C "__init__" ["self", "mixture"] 1 (mQ C) := by
 have S := wC
 refine DefC.of F S (fun vs H Q E h => ?_) (fun f cdv A outer s H vs Q E hr h => ?_)
 ·obtain ⟨p, dx, b, xs, rfl, _⟩ := h
  rfl
 ·obtain ⟨p, dx, b, xs, rfl, hp, hb, k⟩ := h
  refine ⟨_, (aB (jC (pv 0) (dI (fW K) (by rfl) T.list_ dj (aa (pv 1) ao aj) (he := aj)) rfl)), ?_⟩
  refine ⟨_, rfl, b, xs, rfl, .inl (SqL.of hb), fun l h1 => ?_⟩
  have np1 : p ≠ l := aV hp h1
  refine ⟨_, rfl, p, C, dx, [], rfl, ak h1 _ _ hp, C_Best.cl, C_Best.no _ (by simp), (by show 0 < 1000; decide), ?_⟩
  refine k l _ h1 (by rw [aH np1.symm, aq]) aq fun q o e nq => ?_
  rw [aH nq, aH (aV e h1)]
  exact e
def eV (U : List (List Int)) (m n row : Nat) (qs : List (Int × Int)) : Bool := dD qs m && decide (qs.getD row (0, 0) = (0, 1)) && ((cols U n).all fun c => ltQ (c.getD row 0, 1) (aZ c qs))
def gj (U : List (List Int)) (n row : Nat) (qs : List (Int × Int)) : Bool := dD qs n && !(U.any fun r => ltQ (aZ (U.getD row []) qs) (aZ r qs))
def ldM (U : List (List Int)) (row : Nat) : List (List Int) := (U.take row ++ U.drop (row + 1)).map fun r => List.zipWith (fun x y => x - y) r (U.getD row [])
theorem Ar {U : List (List Int)} {row : Nat} (h : row < U.length) : (ldM U row).length = U.length - 1 := by
 unfold ldM
 rw [List.length_map, List.length_append, List.length_take, List.length_drop]
 omega
theorem jn {U : List (List Int)} {row : Nat} {r : List Int} (h : r ∈ U.take row ++ U.drop (row + 1)) : r ∈ U := by
 rcases List.mem_append.mp h with h | h
 ·exact List.mem_of_mem_take h
 ·exact List.mem_of_mem_drop h
theorem Fy {r k : List Int} {z : Int} (h : z ∈ List.zipWith (fun x y => x - y) r k) : ∃ x ∈ r, ∃ y ∈ k, z = x - y := by
 induction r generalizing k with
 | nil => simp at h
 | cons x r ih =>
  cases k with
  | nil => simp at h
  | cons y k =>
   rcases List.mem_cons.mp h with e | h
   ·exact ⟨x, List.mem_cons_self, y, List.mem_cons_self, e⟩
   ·obtain ⟨x', hx, y', hy, e⟩ := ih h
    exact ⟨x', List.mem_cons_of_mem _ hx, y', List.mem_cons_of_mem _ hy, e⟩
theorem Jf {U : List (List Int)} {m n row : Nat} (g : Good U m n) (h : row < m) (h2 : 2 <= m) : Gd (ldM U row) (m - 1) n := by
 have gd := bH g
 have hr := gd.row h
 have m4 := g.m4
 refine ⟨by omega, by omega, g.n1, g.n4, by rw [Ar (by rw [g.rows]; exact h), g.rows], fun r hr' => ?_, fun r hr' z hz => ?_⟩
 ·obtain ⟨r0, h0, rfl⟩ := List.mem_map.mp hr'
  rw [List.length_zipWith, g.cols r0 (jn h0), hr.2]
  omega
 ·obtain ⟨r0, h0, rfl⟩ := List.mem_map.mp hr'
  obtain ⟨x, hx, y, hy, rfl⟩ := Fy hz
  have a1 := g.num r0 (jn h0) x hx
  have a2 := g.num _ hr.1 y hy
  omega
theorem wz : ∀ (r k ys : List Int), r.length = ys.length -> k.length = ys.length -> Fr.dot (List.zipWith (fun x y => x - y) r k) ys = Fr.dot r ys - Fr.dot k ys
 | [], [], [], _, _ => rfl
 | [], y :: k, ys, h1, h2 => by have := h1.trans h2.symm; simp at this
 | x :: r, [], ys, h1, h2 => by have := h1.trans h2.symm; simp at this
 | x :: r, y :: k, z :: ys, h1, h2 => by
  have ih := wz r k ys (by simpa using h1) (by simpa using h2)
  show (x - y) * z + Fr.dot (List.zipWith (fun x y => x - y) r k) ys = (x * z + Fr.dot r ys) - (y * z + Fr.dot k ys)
  rw [ih, Int.sub_mul]
  omega
theorem xq (k : Int) : ∀ (l xs : List Int), l.length = xs.length -> Fr.dot (l.map fun x => x - k) xs = Fr.dot l xs - k * xs.sum
 | [], [], _ => by show (0 : Int) = 0 - k * 0; omega
 | x :: l, y :: xs, h => by
  have ih := xq k l xs (by simpa using h)
  show (x - k) * y + Fr.dot (l.map fun x => x - k) xs = (x * y + Fr.dot l xs) - k * (y :: xs).sum
  rw [ih, Int.sub_mul, List.sum_cons, Int.mul_add]
  omega
theorem Bh : ∀ (row : Nat) (c xs : List Int), row < c.length -> xs.length + 1 = c.length -> Fr.dot (c.take row ++ c.drop (row + 1)) xs = Fr.dot c (xs.take row ++ 0 :: xs.drop row)
 | 0, y :: c, xs, _, _ => by
  show Fr.dot c xs = y * 0 + Fr.dot c xs
  omega
 | row + 1, y :: c, x :: xs, h1, h2 => by
  have ih := Bh row c xs (by simpa using h1) (by simpa using h2)
  show y * x + Fr.dot (c.take row ++ c.drop (row + 1)) xs = y * x + Fr.dot c (xs.take row ++ 0 :: xs.drop row)
  rw [ih]
 | row + 1, y :: c, [], h1, h2 => by have e1 : row + 1 < c.length + 1 := h1; have e2 : 0 + 1 = c.length + 1 := h2; omega
theorem Ef {r k : List Int} {n j : Nat} (h1 : r.length = n) (h2 : k.length = n) (hj : j < n) : (List.zipWith (fun x y => x - y) r k).getD j 0 = r.getD j 0 - k.getD j 0 := by
 rw [List.getD_eq_getElem?_getD, List.getD_eq_getElem?_getD, List.getD_eq_getElem?_getD, List.getElem?_zipWith, List.getElem?_eq_getElem (by omega), List.getElem?_eq_getElem (by omega)]
 rfl
def inM (xs : List Int) (row : Nat) : List Int := xs.take row ++ 0 :: xs.drop row
theorem uD {xs : List Int} {X : Int} {row : Nat} (hX : 0 < X) : (mks xs X).take row ++ [(0, 1)] ++ (mks xs X).drop row = mks (inM xs row) X := by
 unfold inM mks
 rw [List.map_append, List.map_cons, Fr.mk_zero hX, List.map_take, List.map_drop, List.append_assoc]
 rfl
theorem zV {qs rs : List (Int × Int)} (h : GQ qs) (hm : ∀ q ∈ rs, q ∈ qs \/ q = (0, 1)) (hl : rs.length <= 8) : GQ rs := by
 refine ⟨fun q hq => ?_, fun q hq => ?_, fun q hq => ?_, hl⟩
 ·rcases hm q hq with z | rfl
  ·exact h.pr q z
  ·exact ⟨by decide, by decide⟩
 ·rcases hm q hq with z | rfl
  ·exact h.s1 q z
  ·show (0 : Int).natAbs < 2 ^ 60; decide
 ·rcases hm q hq with z | rfl
  ·exact h.s2 q z
  ·show (1 : Int).natAbs < 2 ^ 60; decide
theorem Eg {xs : List Int} {X : Int} {row : Nat} (hX : 0 < X) (h : GQ (mks xs X)) (hl : xs.length <= 4) : GQ (mks (inM xs row) X) := by
 refine zV h (fun q hq => ?_) ?_
 ·rw [<- uD hX, List.append_assoc] at hq
  rcases List.mem_append.mp hq with z | z
  ·exact .inl (List.mem_of_mem_take z)
  ·rcases List.mem_append.mp z with z | z
   ·exact .inr (List.mem_singleton.mp z)
   ·exact .inl (List.mem_of_mem_drop z)
 ·rw [cQ]
  unfold inM
  rw [List.length_append, List.length_cons, List.length_take, List.length_drop]
  omega
theorem Hw {N S : Int} (hS : 0 < S) : decide (0 * (Fr.mk N S).2 < (Fr.mk N S).1 * 1) = decide (0 < N) := by
 have h := Fr.mk_lt (a := 0) (b := 1) (c := N) (d := S) (by decide) hS
 rw [Fr.mk_int] at h
 rw [Int.zero_mul, Int.mul_one] at *
 rw [Int.zero_mul] at h
 simpa using h
theorem Fb {U : List (List Int)} {m n row : Nat} {N S X : Int} {ys xs : List Int} (g : Good U m n) (hrow : row < m) (h2 : 2 <= m) (h : SolM (ldM U row) (m - 1) n N S ys X xs) (hN : 0 < N) : eV U m n row (mks (inM xs row) X) = true := by
 have gd := bH g
 have hX := h.posx
 have m4 := g.m4
 have gq := Eg (row := row) hX h.gx (by rw [h.lx]; omega)
 have xl := h.lx
 have il : (inM xs row).length = m := by
  unfold inM
  rw [List.length_append, List.length_cons, List.length_take, List.length_drop]
  omega
 have isum : (inM xs row).sum = X := by
  unfold inM
  rw [List.sum_append, List.sum_cons, Int.zero_add, <- List.sum_append, List.take_append_drop]
  exact h.sx
 have inn : ∀ x ∈ inM xs row, 0 <= x := fun x hx => by
  unfold inM at hx
  rcases List.mem_append.mp hx with z | z
  ·exact h.nx x (List.mem_of_mem_take z)
  ·rcases List.mem_cons.mp z with rfl | z
   ·exact Int.le_refl _
   ·exact h.nx x (List.mem_of_mem_drop z)
 have i0 : (mks (inM xs row) X).getD row (0, 0) = (0, 1) := by
  rw [<- uD hX, List.append_assoc]
  refine dm ?_
  have : ((mks xs X).take row).length = row := by rw [List.length_take, cQ]; omega
  rw [List.getElem?_append_right (by omega), this, Nat.sub_self]
  rfl
 unfold eV
 rw [pY hX gq il inn isum, decide_eq_true i0, Bool.true_and, Bool.true_and, List.all_eq_true]
 intro c hc
 unfold cols at hc
 obtain ⟨j, hj, rfl⟩ := List.mem_map.mp hc
 have hj := List.mem_range.mp hj
 have hc' : (ldM U row).map (fun r => r.getD j 0) ∈ cols (ldM U row) n := List.mem_map.mpr ⟨j, List.mem_range.mpr hj, rfl⟩
 have h1 := h.cls _ hc'
 have hU := gd.row hrow
 have e1 : (ldM U row).map (fun r => r.getD j 0) = (((U.map fun r => r.getD j 0).take row ++ (U.map fun r => r.getD j 0).drop (row + 1))).map fun x => x - (U.getD row []).getD j 0 := by
  unfold ldM
  rw [List.map_map, <- List.map_take, <- List.map_drop, <- List.map_append, List.map_map]
  refine List.map_congr_left fun r hr => ?_
  show (List.zipWith _ r _).getD j 0 = _
  rw [Ef (g.cols r (jn hr)) hU.2 hj]
  rfl
 have ul := g.rows
 rw [e1, xq _ _ _ (by rw [List.length_append, List.length_take, List.length_drop, List.length_map]; omega), Bh row _ _ (by rw [List.length_map]; omega) (by rw [List.length_map]; omega), h.sx] at h1
 have e2 : (U.map fun r => r.getD j 0).getD row 0 = (U.getD row []).getD j 0 := map_getD (fun r => r.getD j 0) U 0 (by rw [ul]; exact hrow)
 rw [bR hX ((gk gd).sz hc) gq, e2]
 have e3 := Fr.mk_lt (a := (U.getD row []).getD j 0) (b := 1) (c := Fr.dot (U.map fun r => r.getD j 0) (inM xs row)) (d := X) (by decide) hX
 rw [Fr.mk_int] at e3
 unfold ltQ
 rw [e3, decide_eq_true_iff]
 unfold inM
 generalize Fr.dot (U.map fun r => r.getD j 0) (xs.take row ++ 0 :: xs.drop row) = d at *
 generalize (U.getD row []).getD j 0 = k at *
 have hS := h.pos
 have h3 : 0 < N * X := Int.mul_pos hN hX
 have h4 : 0 < (d - k * X) * S := Int.lt_of_lt_of_le h3 h1
 have h5 : 0 < d - k * X := Int.pos_of_mul_pos_left h4 hS
 omega
theorem Cv {U : List (List Int)} {m n row : Nat} {N S X : Int} {ys xs : List Int} (g : Good U m n) (hrow : row < m) (h : SolM (ldM U row) (m - 1) n N S ys X xs) (hN : ¬ 0 < N) : gj U n row (mks ys S) = true := by
 have gd := bH g
 have hU := gd.row hrow
 have hS := h.pos
 unfold gj
 rw [pY hS h.gy h.ly h.ny h.sy, Bool.true_and, Bool.not_eq_true', List.any_eq_false]
 intro r hr
 rw [bR hS (gd.sz hU.1) h.gy, bR hS (gd.sz hr) h.gy]
 unfold ltQ
 rw [Fr.mk_lt hS hS, decide_eq_true_iff]
 have key : Fr.dot r ys <= Fr.dot (U.getD row []) ys := by
  obtain ⟨i, hi, e⟩ := jV hr
  by_cases hir : i = row
  ·rw [<- e, hir]; exact Int.le_refl _
  ·have hm : r ∈ U.take row ++ U.drop (row + 1) := by
    have ei : U[i]? = some r := by rw [<- e, List.getD_eq_getElem?_getD, List.getElem?_eq_getElem hi]; rfl
    by_cases hlt : i < row
    ·exact List.mem_append_left _ (List.mem_of_getElem? (i := i) (by rw [List.getElem?_take, if_pos hlt]; exact ei))
    ·refine List.mem_append_right _ (List.mem_of_getElem? (i := i - (row + 1)) ?_)
     rw [List.getElem?_drop, show row + 1 + (i - (row + 1)) = i by omega]
     exact ei
   have h1 := h.rows _ (List.mem_map.mpr ⟨r, hm, rfl⟩)
   rw [wz _ _ _ (by rw [gd.cols r hr, h.ly]) (by rw [hU.2, h.ly])] at h1
   omega
 have := Int.mul_le_mul_of_nonneg_right key (Int.le_of_lt hS)
 omega
theorem Gb {U : List (List Int)} {n : Nat} (g : Good U 1 n) : gj U n 0 (cR [(1, 1)] [0] n) = true /\ GQ (cR [(1, 1)] [0] n) := by
 have n1 := g.n1
 have n4 := g.n4
 have hU : U = [U.getD 0 []] := by
  have := g.rows
  match U, this with
  | [r], _ => rfl
 have hm : dD (cR [(1, 1)] [0] n) n = true := by
  have : n = 1 \/ n = 2 \/ n = 3 \/ n = 4 := by omega
  rcases this with rfl | rfl | rfl | rfl <;> decide +kernel
 constructor
 ·unfold gj
  rw [hm, Bool.true_and, Bool.not_eq_true', List.any_eq_false]
  intro r hr
  rw [hU] at hr
  rw [List.mem_singleton.mp hr]
  unfold ltQ
  simp
 ·have hq : ∀ q ∈ cR [(1, 1)] [0] n, q = (1, 1) \/ q = (0, 1) := by
   intro q hq
   unfold cR at hq
   have : q ∈ (List.replicate n ((0 : Int), (1 : Int))).set 0 (1, 1) := hq
   rcases List.mem_or_eq_of_mem_set this with z | z
   ·exact .inr (List.mem_replicate.mp z).2
   ·exact .inl z
  have g1 : GQ [((1 : Int), (1 : Int))] := by
   refine ⟨fun q h => ?_, fun q h => ?_, fun q h => ?_, by decide⟩ <;> rw [List.mem_singleton.mp h]
   ·exact ⟨by decide, by decide⟩
   ·show (1 : Int).natAbs < 2 ^ 60; decide
   ·show (1 : Int).natAbs < 2 ^ 60; decide
  refine zV g1 (fun q h => ?_) ?_
  ·rcases hq q h with z | z
   ·exact .inl (by rw [z]; exact List.mem_singleton.mpr rfl)
   ·exact .inr z
  ·unfold cR
   rw [ir n, List.length_replicate]
   omega
theorem HH {r k : List Int} {j : Nat} (h1 : j < r.length) (h2 : j < k.length) : (List.zipWith (fun x y => x - y) r k)[j]? = some (r.getD j 0 - k.getD j 0) := by
 rw [List.getElem?_zipWith, List.getD_eq_getElem?_getD, List.getD_eq_getElem?_getD, List.getElem?_eq_getElem h1, List.getElem?_eq_getElem h2]
 rfl
def Ai : Sp := fun vs H Q _ => ∃ (a : Addr) (U : List (List Int)) (m n row : Nat), vs = [.ref a, .int row] /\ IsTab H a U /\ Gd U m n /\ row < m /\ Q .non H
abbrev k_ : Stmt := top 54
theorem yd : FnScope ["table", "row"] ["table", "row"] (aC k_) := ⟨rfl, rfl, rfl, by decide +kernel, rfl, by decide +kernel, by decide +kernel⟩
theorem yr (F : FunM K mg "check_row" k_ ["table", "row"]) (T : Blt mg) (eY : Def P w K mg base "is_whole" ["thing"] 1 p8) : Def P w K mg base "check_row" ["table", "row"] 2 Ai := by
 have S := yd
 refine Def.of F S (fun vs H Q E h => ?_) (fun f cdv A outer s H vs Q E hr h => ?_)
 ·obtain ⟨a, U, m, n, row, rfl, _⟩ := h
  rfl
 ·obtain ⟨a, U, m, n, row, rfl, hU, g, hrow, k⟩ := h
  obtain ⟨vs, ha, pr⟩ := id hU
  have vl : vs.length = m := by rw [pr.length, g.rows]
  refine ⟨_, (aB (bB (PW.pt (fJ (cX (bG (aF eY (hr.mono (by decide)) rfl (aa (pv 1) ao aj) (he := aj)))) (fY (cX (lX mX jY au (pv 1) (aM (bK K) (by rfl) T.len_ bj (aa (pv 0) ao aj) (he := aj)))))))
    (aB qD) aY)), ?_⟩
  refine ⟨_, rfl, _, rfl, _, rfl, ?_⟩
  refine cD ?_
  refine ⟨_, rfl, _, _, rfl, rfl, _, rfl, ?_⟩
  refine ifP (decide_eq_true (by show (0 : Int) <= (row : Int); omega)) ?_
  refine ⟨_, rfl, a, vs, rfl, .inl (SqL.of ha), _, _, rfl, rfl, _, rfl, ?_⟩
  refine vR (decide_eq_true (by rw [vl]; omega)) ?_
  exact k
def wA : Sp := fun vs H Q _ => ∃ (a : Addr) (U : List (List Int)) (m n row : Nat), vs = [.ref a, .int row] /\ IsTab H a U /\ Gd U m n /\ row < m /\ ∀ p H', Same H H' -> OwnTab H H' p (ldM U row) -> Q (.ref p) H'
abbrev uz : Stmt := top 55
theorem Fe : FnScope ["table", "row", "found", "other"] ["table", "row"] (aC uz) := ⟨rfl, rfl, rfl, by decide +kernel, rfl, by decide +kernel, by decide +kernel⟩
theorem GC (F : FunM K mg "leads" uz ["table", "row"]) (T : Blt mg) : Def P w K mg base "leads" ["table", "row"] 1 wA := by
 have S := Fe
 refine Def.of F S (fun vs H Q E h => ?_) (fun f cdv A outer s H vs Q E hr h => ?_)
 ·obtain ⟨a, U, m, n, row, rfl, _⟩ := h
  rfl
 ·obtain ⟨a, U, m, n, row, rfl, hU, g, hrow, k⟩ := h
  have m4 := g.m4
  have n4 := g.n4
  obtain ⟨vs, b0, ha, h0, at0, hb0⟩ := hU.row (i := row) (by rw [g.rows]; exact hrow)
  have pr : Paired (IsRow H) vs U := by
   obtain ⟨vs', ha', hp'⟩ := id hU
   rw [ha] at ha'
   cases ha'
   exact hp'
  have vl : vs.length = m := by rw [pr.length, g.rows]
  have hrowU := g.row hrow
  refine ⟨_, (aA (aO (i := 2) S.nd rfl (Or.inl rfl) (bO ao))
   (aA (bU PassesOwn.never rfl (piL K (aQ dO (b_ (slL K) (pv 0) cI (cG (pv 1))) (b_ (slL K) (pv 0) (cG (aQ dB (pv 1) au)) cI))) (aG (i := 3) S.nd rfl (Or.inl rfl))
    (aB (cu (g8 PySem.F.plainAttrs_list PySem.F.slot_list_append PySem.F.type_list_append dH (pv 2) (aa (aX rfl (N' := ["number", "own"]) (src := [none, none]) rfl (pF K rfl T.zip_ (aa (pv 3) (aa (aP (ixL K) (pv 0) (pv 1) (fun _ _ => rfl)) ao aK) aj)) (fun _ _ _ _ _ => (pgT K (n := 2) (a_ (aG (i := 0) (show (["number", "own"] : List Str).Nodup from by decide +kernel) rfl (Or.inl rfl)) (a_ (aG (i := 1) (show (["number", "own"] : List Str).Nodup from by decide +kernel) rfl (Or.inl rfl)) cH)))) (fun _ _ _ _ _ => aW) (fun _ _ _ _ _ => (aQ lD (pv 0) (pv 1)))) ao aU)))))
   (aB (aN (pv 2))))), ?_⟩
  refine ⟨Nat.zero_le _, fun l hl => ?_⟩
  have sl := ak (o := .lst []) hl
  have hll : upd H l (.lst []) l = some (.lst []) := aq
  generalize upd H l (.lst []) = H1 at sl hll ⊢
  have k1 : bQ vs none (some (row : Int)) = vs.take row := by
   rw [gr (by omega) (by omega), Int.toNat_natCast]
  have k2 : bQ vs (some ((row : Int) + 1)) none = vs.drop (row + 1) := by
   rw [eN (by omega) (by omega), show ((row : Int) + 1).toNat = row + 1 by omega]
  refine ⟨_, rfl, _, rfl, _, rfl, a, vs, rfl, SqL.of (sl _ _ ha), fun q1 hq1 => ?_⟩
  rw [k1]
  have t2 : Same H1 (upd H1 q1 (.lst (vs.take row))) := ak hq1
  have e1 : upd H1 q1 (.lst (vs.take row)) q1 = some (.lst (vs.take row)) := aq
  generalize upd H1 q1 (.lst (vs.take row)) = H2 at t2 e1 ⊢
  refine ⟨_, rfl, _, rfl, _, _, rfl, rfl, _, rfl, a, vs, rfl, SqL.of (t2 _ _ (sl _ _ ha)), fun q2 hq2 => ?_⟩
  rw [k2]
  have t3 := t2.trans (ak (o := .lst (vs.drop (row + 1))) hq2)
  have e1' := ak (o := .lst (vs.drop (row + 1))) hq2 _ _ e1
  have e2 : upd H2 q2 (.lst (vs.drop (row + 1))) q2 = some (.lst (vs.drop (row + 1))) := aq
  generalize upd H2 q2 (.lst (vs.drop (row + 1))) = H3 at t3 e1' e2 ⊢
  refine ⟨q1, q2, _, _, rfl, rfl, e1', e2, (by rw [List.length_take, List.length_drop]; exact Nat.le_of_lt (aJ (by omega))), fun q3 hq3 => ?_⟩
  have t4 := t3.trans (ak (o := .lst (vs.take row ++ vs.drop (row + 1))) hq3)
  have e3 : upd H3 q3 (.lst (vs.take row ++ vs.drop (row + 1))) q3 = some (.lst (vs.take row ++ vs.drop (row + 1))) := aq
  have hL3 := t3 _ _ hll
  have nql : q3 ≠ l := fun e => by rw [e, hL3] at hq3; cases hq3
  generalize upd H3 q3 (.lst (vs.take row ++ vs.drop (row + 1))) = H4 at t4 e3 ⊢
  have hL4 := t4 _ _ hll
  have pO : Paired (IsRow H) (vs.take row ++ vs.drop (row + 1)) (U.take row ++ U.drop (row + 1)) := (ig row pr).app2 (g_ (row + 1) pr)
  have wl : (vs.take row ++ vs.drop (row + 1)).length = (ldM U row).length := by
   unfold ldM
   rw [pO.length, List.length_map]
  have ll : (ldM U row).length <= 4 := by
   rw [Ar (by rw [g.rows]; exact hrow), g.rows]; omega
  refine ⟨q3, rfl, ⟨_, SqL.of e3⟩, cM (K := K) (a := q3) (xs := vs.take row ++ vs.drop (row + 1)) (fun i σ H' => ∃ o2 xs, σ = [some (.ref a), some (.int row), some (.ref l), o2] /\ Same H H' /\ SameX l H4 H' /\ H' l = some (.lst xs) /\ Paired (RowX H l H') xs ((ldM U row).take i))
   ⟨_, [], rfl, sl.trans t4, SameX.refl, hL4, by simpa using Paired.nil⟩ ?_ ?_ ?_⟩
  ·rintro i σ H5 _ ⟨_, _, _, _, sx, _⟩
   exact SqL.of (sx _ _ nql e3)
  ·rintro i y σ H5 hi ⟨o2, xs, rfl, s5, sx, hL, hP⟩
   obtain ⟨r, er, b, rfl, hb⟩ := pO.get2 hi
   have hb5 := s5 _ _ hb
   have hb05 := s5 _ _ hb0
   have mr := jn (List.mem_of_getElem? er)
   have rl : r.length = n := g.cols r mr
   refine ⟨_, rfl, .inl ⟨rfl, _, SqL.of hL⟩, _, rfl, _, rfl, _, rfl, a, vs, (row : Int), _, rfl, rfl, SqL.of (s5 _ _ ha), at0, b, b0, rfl, ⟨_, SqL.of hb5⟩, ⟨_, SqL.of hb05⟩, qp (xs := r.map V.int) (ys := (U.getD row []).map V.int) (fun j zs H' => Same H5 H' /\ zs = ((List.zipWith (fun x y => x - y) r (U.getD row [])).take j).map V.int) ⟨Same.refl _, by simp⟩ ?_ (by rw [List.length_map, rl]; exact Nat.le_of_lt (aJ (by omega))) ?_ ?_⟩
   ·rintro j zs' H' ⟨s6, rfl⟩
    refine ⟨SqL.of (s6 _ _ hb5), SqL.of (s6 _ _ hb05), ?_⟩
    rw [List.length_map, List.length_take]
    omega
   ·rintro j x y' q zs' H' hx' hy hq ⟨s6, rfl⟩
    obtain ⟨rfl, hj1⟩ := int_at hx'
    obtain ⟨rfl, hj2⟩ := int_at hy
    have s7 := s6.trans (ak (o := .tup [.int (r.getD j 0), .int ((U.getD row []).getD j 0)]) hq)
    refine ⟨q, _, rfl, SqT.of aq, rfl, _, _, rfl, _, _, rfl, rfl, ?_⟩
    refine yK ?_
    refine ⟨_, rfl, _, rfl, _, _, rfl, rfl, s7, ?_⟩
    have ez : (List.zipWith (fun x y => x - y) r (U.getD row []))[j]? = some (r.getD j 0 - (U.getD row []).getD j 0) := by
     exact HH hj1 hj2
    rw [gK ez, List.map_append]
    rfl
   ·rintro zs' H6 ⟨s6, rfl⟩ q hq
    have el : ((List.zipWith (fun x y => x - y) r (U.getD row [])).take (min (r.map V.int).length ((U.getD row []).map V.int).length)) = List.zipWith (fun x y => x - y) r (U.getD row []) := List.take_of_length_le (by rw [List.length_zipWith, List.length_map, List.length_map]; exact Nat.le_refl _)
    rw [el]
    have hL6 := s6 _ _ hL
    have nq : q ≠ l := fun e => by rw [e, hL6] at hq; cases hq
    have xl : xs.length <= 4 := by rw [hP.length, List.length_take]; omega
    refine ⟨l, xs, .ref q, rfl, rfl, ak hq _ _ hL6, aJ (by omega), ?_⟩
    refine ⟨_, _, rfl, di ((s5.trans s6).trans (ak hq)) hl, ((sx.then s6).then (ak hq)).at, aq, ?_⟩
    have et : (ldM U row)[i]? = some (List.zipWith (fun x y => x - y) r (U.getD row [])) := by
     unfold ldM
     rw [List.getElem?_map, er]
     rfl
    rw [gK et]
    refine (hP.imp2 fun _ _ z => ((z.mono s6).mono (ak hq)).at).app2 (.cons ⟨q, rfl, nq, (s5.trans s6).free hq, ?_⟩ .nil)
    rw [aH nq, aq]
  ·rintro σ H5 ⟨o2, xs, rfl, s5, sx, hL, hP⟩
   rw [wl, List.take_length] at hP
   exact ⟨_, rfl, k l H5 s5 ⟨xs, hl, hL, hP.imp2 fun _ _ z => z.own⟩⟩
def wdB (b : Bool) (U : List (List Int)) (m n row : Nat) (qs : List (Int × Int)) : Bool := cond b (eV U m n row qs) (gj U n row qs)
def nH (CB CE : Addr) : Sp := fun vs H Q _ => ∃ (a : Addr) (U : List (List Int)) (m n row : Nat), vs = [.ref a, .int row] /\ IsTab H a U /\ Good U m n /\ row < m /\
 ∀ p dx l H' (b : Bool) qs, Same H H' -> H p = none -> H l = none -> H' p = some (.ins (cond b CB CE) dx (mZ l)) -> IsFrs H' l qs -> GQ qs -> wdB b U m n row qs = true -> Q (.ref p) H'
abbrev qC : Stmt := top 56
theorem CN : FnScope ["table", "row", "answer"] ["table", "row"] (aC qC) := ⟨rfl, rfl, rfl, by decide +kernel, rfl, by decide +kernel, by decide +kernel⟩
theorem CW {CB CE CS : Addr} (F : FunM K mg "beaten" qC ["table", "row"]) (T : Blt mg) (C_Beaten : Cl K mg "Beaten" ["mixture"] [] CB) (C_Best : Cl K mg "Best" ["mixture"] [] CE) (C_Solved : Cl K mg "Solved" ["value", "mine", "theirs"] [] CS)
  (cJ : Def P w K mg base "check_table" ["thing"] 4 qe) (lu : Def P w K mg base "check_row" ["table", "row"] 2 Ai) (gZ : Def P w K mg base "spread" ["shares", "places", "count"] 1 oE) (tZ : Def P w K mg base "leads" ["table", "row"] 1 wA)
  (qd : Def P w K mg base "evened" ["table"] 10 (uY CS)) (cU : Def P w K mg base "below" ["one", "other"] 1 (eH K)) (ji : DefC P w K mg base CB "__init__" ["self", "mixture"] 1 (mQ CB)) (ik : DefC P w K mg base CE "__init__" ["self", "mixture"] 1 (mQ CE)) :
  Def P w K mg base "beaten" ["table", "row"] 11 (nH CB CE) := by
 have S := CN
 refine Def.of F S (fun vs H Q E h => ?_) (fun f cdv A outer s H vs Q E hr h => ?_)
 ·obtain ⟨a, U, m, n, row, rfl, _⟩ := h
  rfl
 ·obtain ⟨a, U, m, n, row, rfl, hU, gG, hrow, k⟩ := h
  have g := bH gG
  have m4 := g.m4
  have m1 := g.m1
  have n1 := g.n1
  have n4 := g.n4
  have c0 := C_Solved.no "value" (by simp)
  have c1 := C_Solved.no "mine" (by simp)
  have c2 := C_Solved.no "theirs" (by simp)
  obtain ⟨vs, b0, ha, h0, at0, hb0⟩ := hU.row (i := 0) (by rw [g.rows]; exact g.m1)
  have hn : ((U.getD 0 []).map V.int).length = n := by rw [List.length_map, (g.row g.m1).2]
  have vl : vs.length = m := by
   obtain ⟨vs', ha', hp'⟩ := id hU
   rw [ha] at ha'
   cases ha'
   rw [hp'.length, g.rows]
  have fin : ∀ (b : Bool) (H3 : Hp) (lq x dx : Addr) (zs : List V) (qs : List (Int × Int)), Same H H3 -> H3 lq = some (.lst zs) -> Paired (IsFr H3) zs qs -> GQ qs -> wdB b U m n row qs = true -> H3 x = none -> H3 dx = none ->
    ∃ (p dx' b' : Addr) (xs : List V), ([.ref x, .ref lq] : List V) = [.ref p, .ref b'] /\ upd (upd H3 dx (.own x)) x (.ins (cond b CB CE) dx []) p = some (.ins (cond b CB CE) dx' []) /\ upd (upd H3 dx (.own x)) x (.ins (cond b CB CE) dx []) b' = some (.lst xs) /\
     ∀ l H', upd (upd H3 dx (.own x)) x (.ins (cond b CB CE) dx []) l = none -> H' l = some (.lst xs) -> H' p = some (.ins (cond b CB CE) dx' (mZ l)) -> (∀ q o, upd (upd H3 dx (.own x)) x (.ins (cond b CB CE) dx []) q = some o -> q ≠ p -> H' q = some o) -> Q (.ref x) H' := by
   intro b H3 lq x dx zs qs s3 hz pz gq hw nx ndx
   have sm0 : Same H3 (upd (upd H3 dx (.own x)) x (.ins (cond b CB CE) dx [])) := fun c o e => by
    rw [aH (aV e nx), aH (aV e ndx)]
    exact e
   refine ⟨x, dx, lq, zs, rfl, aq, sm0 _ _ hz, fun l HU nl hl hins kp => ?_⟩
   have sU : Same H3 HU := fun c o e => kp c o (sm0 c o e) (aV e nx)
   exact k x dx l HU b qs (s3.trans sU) (s3.free nx) ((s3.trans sm0).free nl) hins ⟨zs, hl, pz.imp2 fun _ _ z => z.mono sU⟩ gq hw
  refine ⟨_, (aA (cu (aF cJ (hr.mono (by decide)) rfl (aa (pv 0) ao aj) (he := aj)))
   (aA (cu (aF lu (hr.mono (by decide)) rfl (aa (pv 0) (aa (pv 1) ao aj) aj) (he := aj)))
   (aA (bB (bh fG (aM (bK K) (by rfl) T.len_ bj (aa (pv 0) ao aj) (he := aj)) au (bf _))
    (aB (aN (jQ ik C_Best (hr.mono (by decide)) rfl (aa (aF gZ (hr.mono (by decide)) rfl (aa (bO (aa (bz (aa au (aa au ao aD) aD)) ao dM)) (aa (bO (aa au ao aD)) (aa (aM (bK K) (by rfl) T.len_ bj (aa (aP (ixL K) (pv 0) au (fun _ _ => rfl)) ao aK) (he := aK)) ao aR) jw) jw) (he := jw)) ao aR) (he := aR)))) aY)
   (aA (aO (i := 2) S.nd rfl (Or.inl rfl) (aF qd (hr.mono (by decide)) rfl (aa (aF tZ (hr.mono (by decide)) rfl (aa (pv 0) (aa (pv 1) ao aj) aj) (he := aj)) ao aR) (he := aR)))
   (aA (bB (bG (aF cU (hr.mono (by decide)) rfl (aa (bz (aa au (aa au ao aD) aD)) (aa (jL (pv 2) rfl) ao eF) dM) (he := dM)))
    (aB (aN (jQ ji C_Beaten (hr.mono (by decide)) rfl (aa (aQ dO (aQ dO (b_ (slL K) (jL (pv 2) rfl) cI (cG (pv 1))) (bO (aa (bz (aa au (aa au ao aD) aD)) ao dM))) (b_ (slL K) (jL (pv 2) rfl) (cG (pv 1)) cI)) ao bA) (he := bA)))) aY)
   (aB (aN (jQ ik C_Best (hr.mono (by decide)) rfl (aa (jL (pv 2) rfl) ao eF) (he := eF))))))))), ?_⟩
  refine ⟨_, rfl, a, U, m, n, rfl, hU, gG, fun H1 s1 => ?_⟩
  refine ⟨_, rfl, _, rfl, a, U, m, n, row, rfl, hU.mono s1, g, hrow, ?_⟩
  refine ⟨_, rfl, a, vs, rfl, .inl (SqL.of (s1 _ _ ha)), rfl, _, rfl, ?_⟩
  by_cases hm1 : m = 1
  ·refine ifP (by rw [vl, hm1]; rfl) ?_
   have r0 : row = 0 := by omega
   subst hm1
   subst r0
   obtain ⟨ob, og⟩ := Gb gG
   refine ⟨(by show 2 <= sizeLine; decide), fun t ht => ⟨(by show 1 <= sizeLine; decide), fun q1 hq1 => ⟨(by show 1 <= sizeLine; decide), fun q2 hq2 => ?_⟩⟩⟩
   have s2 := (ak (o := .tup [.int 1, .int 1]) ht).trans (ak (o := .lst [.ref t]) hq1)
   have e1 : IsFrs (upd (upd H1 t (.tup [.int 1, .int 1])) q1 (.lst [.ref t])) q1 [(1, 1)] := ⟨_, aq, .cons ⟨t, rfl, ak hq1 _ _ aq⟩ .nil⟩
   generalize upd (upd H1 t (.tup [.int 1, .int 1])) q1 (.lst [.ref t]) = H2 at s2 e1 hq2 ⊢
   have s3 := s2.trans (ak (o := .lst [.int 0]) hq2)
   have e1' := e1.mono (ak (o := .lst [.int 0]) hq2)
   have e2 : upd H2 q2 (.lst [.int 0]) q2 = some (.lst [.int 0]) := aq
   generalize upd H2 q2 (.lst [.int 0]) = H3 at s3 e1' e2 ⊢
   have s13 := s1.trans s3
   refine ⟨_, rfl, a, vs, 0, _, rfl, rfl, SqL.of (s13 _ _ ha), at0, b0, _, rfl, .inl (SqL.of (s13 _ _ hb0)), q1, q2, [(1, 1)], [0], _, rfl, e1', ⟨q2, rfl, e2⟩, rfl, (fun c hc => by rw [List.mem_singleton.mp hc, hn]; exact n1), (by rw [hn]; exact n4), fun p H4 s4 hpn hF => ?_⟩
   rw [hn] at hF
   obtain ⟨zs, hz, pz⟩ := id hF
   intro x dx nx ndx nex
   obtain ⟨p', dx', b', xs', e, f1, f2, f3⟩ := fin false H4 p x dx zs _ (s13.trans s4) hz pz og ob nx ndx
   exact ⟨p', dx', b', xs', e, f1, f2, fun l H' g1 g2 g3 g4 => ⟨rfl, f3 l H' g1 g2 g3 g4⟩⟩
  refine ifN (by rw [vl]; simp; omega) ?_
  have h2 : 2 <= m := by omega
  refine ⟨_, rfl, _, rfl, a, U, m, n, row, rfl, hU.mono s1, g, hrow, fun pl H2 s2 own => ?_⟩
  refine ⟨pl, ldM U row, m - 1, n, rfl, own.tab, Jf gG hrow h2, fun x dx u l1 l2 H3 N SS ys X xs s3 nx nl1 nl2 n12 hins hu h1 hh2 sol => ?_⟩
  have s13 := (s1.trans s2).trans s3
  refine ⟨(by show 2 <= sizeLine; decide), fun t ht => ?_⟩
  have s4 := ak (o := .tup [.int 0, .int 1]) ht
  have e4 : upd H3 t (.tup [.int 0, .int 1]) t = some (.tup [.int 0, .int 1]) := aq
  generalize upd H3 t (.tup [.int 0, .int 1]) = H4 at s4 e4 ⊢
  have s14 := s13.trans s4
  have ins4 := s4 _ _ hins
  refine ⟨_, rfl, x, CS, dx, _, _, rfl, ins4, C_Solved.cl, c0, Bu u l1 l2, t, u, _, _, _, _, rfl, SqT.of e4, SqT.of (s4 _ _ hu), sz0, sz1, sol.z1, sol.z2, _, rfl, ?_⟩
  rw [Hw sol.pos]
  obtain ⟨z1, hz1, p1⟩ := h1.mono s4
  obtain ⟨z2, hz2, p2⟩ := hh2.mono s4
  have zl : z1.length = m - 1 := by rw [p1.length, cQ, sol.lx]
  by_cases hN : 0 < N
  ·refine ifP (decide_eq_true hN) ?_
   have k1 : bQ z1 none (some (row : Int)) = z1.take row := by rw [gr (by omega) (by omega), Int.toNat_natCast]
   have k2 : bQ z1 (some (row : Int)) none = z1.drop row := by rw [eN (by omega) (by omega), Int.toNat_natCast]
   refine ⟨_, rfl, x, CS, dx, _, _, rfl, ins4, C_Solved.cl, c1, uZ u l1 l2, _, rfl, _, rfl, l1, z1, rfl, SqL.of hz1, fun q1 hq1 => ?_⟩
   rw [k1]
   have s5 := ak (o := .lst (z1.take row)) hq1
   have e5 : upd H4 q1 (.lst (z1.take row)) q1 = some (.lst (z1.take row)) := aq
   generalize upd H4 q1 (.lst (z1.take row)) = H5 at s5 e5 ⊢
   refine ⟨(by show 2 <= sizeLine; decide), fun t2 ht2 => ⟨(by show 1 <= sizeLine; decide), fun q2 hq2 => ?_⟩⟩
   have s6 := (ak (o := .tup [.int 0, .int 1]) ht2).trans (ak (o := .lst [.ref t2]) hq2)
   have f6 : IsFr (upd (upd H5 t2 (.tup [.int 0, .int 1])) q2 (.lst [.ref t2])) (.ref t2) (0, 1) := ⟨t2, rfl, ak hq2 _ _ aq⟩
   have e6 : upd (upd H5 t2 (.tup [.int 0, .int 1])) q2 (.lst [.ref t2]) q2 = some (.lst [.ref t2]) := aq
   generalize upd (upd H5 t2 (.tup [.int 0, .int 1])) q2 (.lst [.ref t2]) = H6 at s6 f6 e6 ⊢
   refine ⟨q1, q2, _, _, rfl, rfl, s6 _ _ e5, e6, (by rw [List.length_take, List.length_singleton]; exact Nat.le_of_lt (aJ (by omega))), fun q3 hq3 => ?_⟩
   have s7 := ak (o := .lst (z1.take row ++ [.ref t2])) hq3
   have e7 : upd H6 q3 (.lst (z1.take row ++ [.ref t2])) q3 = some (.lst (z1.take row ++ [.ref t2])) := aq
   generalize upd H6 q3 (.lst (z1.take row ++ [.ref t2])) = H7 at s7 e7 ⊢
   have s47 := (s5.trans s6).trans s7
   refine ⟨_, rfl, x, CS, dx, _, _, rfl, s47 _ _ ins4, C_Solved.cl, c1, uZ u l1 l2, _, rfl, _, rfl, l1, z1, rfl, SqL.of (s47 _ _ hz1), fun q4 hq4 => ?_⟩
   rw [k2]
   have s8 := ak (o := .lst (z1.drop row)) hq4
   have e8 : upd H7 q4 (.lst (z1.drop row)) q4 = some (.lst (z1.drop row)) := aq
   generalize upd H7 q4 (.lst (z1.drop row)) = H8 at s8 e8 ⊢
   refine ⟨q3, q4, _, _, rfl, rfl, s8 _ _ e7, e8, (by rw [List.length_append, List.length_take, List.length_singleton, List.length_drop]; exact Nat.le_of_lt (aJ (by omega))), fun q5 hq5 => ?_⟩
   have s9 := ak (o := .lst (z1.take row ++ [.ref t2] ++ z1.drop row)) hq5
   have e9 : upd H8 q5 (.lst (z1.take row ++ [.ref t2] ++ z1.drop row)) q5 = some (.lst (z1.take row ++ [.ref t2] ++ z1.drop row)) := aq
   generalize upd H8 q5 (.lst (z1.take row ++ [.ref t2] ++ z1.drop row)) = H9 at s9 e9 ⊢
   have s49 := (s47.trans s8).trans s9
   have s69 := (s7.trans s8).trans s9
   have p9 := p1.imp2 fun _ _ z => z.mono s49
   have pq : Paired (IsFr H9) (z1.take row ++ [.ref t2] ++ z1.drop row) (mks (inM xs row) X) := by
    rw [<- uD sol.posx]
    exact ((ig row p9).app2 (.cons (f6.mono s69) .nil)).app2 (g_ row p9)
   intro x' dx' nx' ndx' nex'
   obtain ⟨p', dx'', b', xs', e, f1, f2, f3⟩ := fin true H9 q5 x' dx' _ _ (s14.trans s49) e9 pq (Eg sol.posx sol.gx (by rw [sol.lx]; omega)) (Fb gG hrow h2 sol hN) nx' ndx'
   exact ⟨p', dx'', b', xs', e, f1, f2, fun l H' g1 g2 g3 g4 => ⟨rfl, f3 l H' g1 g2 g3 g4⟩⟩
  ·refine ifN (by simpa using hN) ?_
   refine ⟨_, rfl, x, CS, dx, _, _, rfl, ins4, C_Solved.cl, c2, zy u l1 l2, ?_⟩
   intro x' dx' nx' ndx' nex'
   obtain ⟨p', dx'', b', xs', e, f1, f2, f3⟩ := fin false H4 l2 x' dx' _ _ s14 hz2 p2 sol.gy (Cv gG hrow sol hN) nx' ndx'
   exact ⟨p', dx'', b', xs', e, f1, f2, fun l H' g1 g2 g3 g4 => ⟨rfl, f3 l H' g1 g2 g3 g4⟩⟩
theorem rP {H : Hp} (f : List Int -> Bool) : ∀ {vs ys : List V} {T : List (List Int)}, Paired (fun x y => ∀ r, IsRow H x r -> y = V.bl (f r)) vs ys -> Paired (IsRow H) vs T -> ys = (T.map f).map V.bl := nP f
def vA : Sp := fun vs H Q _ => ∃ (a l : Addr) (U : List (List Int)) (m n row : Nat) (qs : List (Int × Int)), vs = [.ref a, .int row, .ref l] /\ IsTab H a U /\ Gd U m n /\ row < m /\ IsFrs H l qs /\ GQ qs /\ ∀ H', Same H H' -> Q (.bl (eV U m n row qs)) H'
def yu : Sp := fun vs H Q _ => ∃ (a l : Addr) (U : List (List Int)) (m n row : Nat) (qs : List (Int × Int)), vs = [.ref a, .int row, .ref l] /\ IsTab H a U /\ Gd U m n /\ row < m /\ IsFrs H l qs /\ GQ qs /\ ∀ H', Same H H' -> Q (.bl (gj U n row qs)) H'
abbrev jT : Stmt := top 71
theorem vJ : FnScope ["_law_table_here", "_law_row", "_law_mixture_here"] ["_law_table_here", "_law_row", "_law_mixture_here"] (aC jT) := ⟨rfl, rfl, rfl, by decide +kernel, rfl, by decide +kernel, by decide +kernel⟩
theorem vQ (F : FunM K mg "_law_beats" jT ["_law_table_here", "_law_row", "_law_mixture_here"]) (T : Blt mg) (cV : Def P w K mg base "_law_mixture" ["_law_mixture_here", "_law_many"] 4 xO) (dZ : Def P w K mg base "_law_less" ["_law_one", "_law_other"] 1 (eH K)) (cB : Def P w K mg base "_law_sum" ["_law_worths", "_law_shares"] 3 pA)
  (dq : Def P w K mg base "_law_across" ["_law_table_here"] 1 gU) : Def P w K mg base "_law_beats" ["_law_table_here", "_law_row", "_law_mixture_here"] 5 vA := by
 have S := vJ
 refine Def.of F S (fun vs H Q E h => ?_) (fun f cdv A outer s H vs Q E hr h => ?_)
 ·obtain ⟨a, l, U, m, n, row, qs, rfl, _⟩ := h
  rfl
 ·obtain ⟨a, l, U, m, n, row, qs, rfl, hU, g, hrow, hl, gq, k⟩ := h
  have m4 := g.m4
  have n4 := g.n4
  obtain ⟨vs, ha, hp'⟩ := id hU
  have hm : vs.length = m := by rw [hp'.length, g.rows]
  obtain ⟨zs, hz, pz⟩ := id hl
  refine ⟨_, (aA (bB (PW.pt (fJ (cX (bG (aF cV (hr.mono (by decide)) rfl (aa (pv 2) (aa (aM (bK K) (by rfl) T.len_ bj (aa (pv 0) ao aj) (he := aj)) ao aR) aj) (he := aj)))) (fY (bh (wH K hr.units) (aP (ixL K) (pv 2) (pv 1) (fun _ _ => rfl)) (bz (aa au (aa au ao aD) aD)) (bf _)))))
    (aB (aN fu)) aY)
   (aB (aN (aM (uE K) (by rfl) T.all_ lA (aa (aX rfl (N' := ["_law_column", "_law_row", "_law_mixture_here"]) (src := [none, some 1, some 2]) rfl (piL K (aF dq (hr.mono (by decide)) rfl (aa (pv 0) ao aj) (he := aj))) (fun _ _ _ _ _ => (aG (i := 0) (show (["_law_column", "_law_row", "_law_mixture_here"] : List Str).Nodup from by decide +kernel) rfl (Or.inl rfl))) (fun _ _ _ _ _ => aW) (fun _ _ _ _ _ => (aF dZ (hr.mono (by decide)) rfl (aa (bz (aa (aP (ixL K) (pv 0) (pv 1) (fun _ _ => rfl)) (aa au ao aD) aK)) (aa (aF cB (hr.mono (by decide)) rfl (aa (pv 0) (aa (pv 2) ao aj) aj) (he := aj)) ao aR) dM) (he := dM)))) ao aU) (he := aU))))), ?_⟩
  refine ⟨_, rfl, _, rfl, a, vs, rfl, .inl (SqL.of ha), l, qs, vs.length, rfl, hl, gq, fun H1 s1 => ⟨_, rfl, ?_⟩⟩
  rw [hm]
  cases hx : dD qs m with
  | false =>
   refine d_ ?_
   have e : eV U m n row qs = false := by unfold eV; rw [hx]; rfl
   rw [e] at k
   exact k H1 s1
  | true =>
  refine cD ?_
  have ql := yU hx
  have hzl : row < zs.length := by rw [pz.length, ql]; exact hrow
  obtain ⟨y, ey, b, eb, hb⟩ := pz.get2 (List.getElem?_eq_getElem hzl)
  have az : atI zs (row : Int) = some (.ref b) := gR (by rw [List.getElem?_eq_getElem hzl, eb])
  have gy : qs.getD row (0, 0) = y := dm ey
  refine ⟨_, rfl, _, rfl, l, zs, (row : Int), _, rfl, rfl, SqL.of (s1 _ _ hz), az, (by show 2 <= sizeLine; decide), fun t ht => ?_⟩
  have st := s1.trans (ak (o := .tup [.int 0, .int 1]) ht)
  have ht1 : upd H1 t (.tup [.int 0, .int 1]) t = some (.tup [.int 0, .int 1]) := aq
  generalize upd H1 t (.tup [.int 0, .int 1]) = H2 at st ht1 ⊢
  refine ⟨_, _, bT (st _ _ hb), bT ht1, rfl, (by show 1 <= 40; decide), _, rfl, ?_⟩
  rw [fO]
  by_cases e01 : y = (0, 1)
  rotate_left
  ·refine ifP (by rw [decide_eq_false (fun z => e01 (Prod.ext (congrArg Prod.fst z) (congrArg Prod.snd z)))]; rfl) ?_
   have e : eV U m n row qs = false := by unfold eV; rw [hx, gy, decide_eq_false e01]; rfl
   rw [e] at k
   exact k H2 st
  refine ifN (by rw [e01]; decide) ?_
  refine ⟨_, rfl, a, U, m, n, rfl, hU.mono st, g, fun pc H4 s4 own => ?_⟩
  have s14 := st.trans s4
  obtain ⟨cv, hcv, prc⟩ := own.tab
  have cl : cv.length = n := by rw [prc.length, jM]
  refine ⟨pc, rfl, ⟨_, SqL.of hcv⟩, bu (xs := cv) (fun x y _ => ∀ r, IsRow H4 x r -> y = .bl (ltQ (r.getD row 0, 1) (aZ r qs))) (fun _ _ _ _ _ h => h) (SqL.of hcv) (by rw [cl]; exact Nat.le_of_lt (aJ (by omega))) ?_ ?_⟩
  ·intro x hx' H5 s5 Q' q
   obtain ⟨r, hr5, hrw⟩ := prc.mem2 hx'
   obtain ⟨b, rfl, hb⟩ := id hrw
   have s15 := s14.trans s5
   have szr := (gk g).sz hr5
   have rl : row < r.length := by rw [jO hr5, g.rows]; exact hrow
   refine ⟨_, rfl, _, rfl, b, _, (row : Int), _, rfl, rfl, SqL.of (s5 _ _ hb), fV rl, (by show 2 <= sizeLine; decide), fun t5 ht5 => ?_⟩
   have s6 := ak (o := .tup [.int (r.getD row 0), .int 1]) ht5
   have e6 : upd H5 t5 (.tup [.int (r.getD row 0), .int 1]) t5 = some (.tup [.int (r.getD row 0), .int 1]) := aq
   generalize upd H5 t5 (.tup [.int (r.getD row 0), .int 1]) = H6 at s6 e6 ⊢
   refine ⟨_, rfl, _, rfl, b, l, r, qs, rfl, s6 _ _ (s5 _ _ hb), hl.mono (s15.trans s6), gq, szr, fun p7 H7 nw => ?_⟩
   exact ⟨t5, p7, _, _, _, _, rfl, SqT.of (nw.same _ _ e6), SqT.of nw.is, (ue szr row).mono (by decide), sz1, (gP szr gq).mono (by decide), (gY szr gq).mono (by decide), q _ H7 (s6.trans nw.same) fun r' h' => by rw [hrw.inj h']; rfl⟩
  intro ys H5 s5 prb qb hqb
  have eb := rP (fun r => ltQ (r.getD row 0, 1) (aZ r qs)) prb prc
  subst eb
  refine ⟨qb, _, rfl, SqL.of aq, ?_⟩
  have e : eV U m n row qs = ((cols U n).map fun c => ltQ (c.getD row 0, 1) (aZ c qs)).all id := by
   unfold eV
   rw [hx, gy, e01, List.all_map]
   rfl
  rw [e] at k
  exact k _ ((s14.trans s5).trans (ak hqb))
abbrev gw : Stmt := top 72
theorem rD : FnScope ["_law_table_here", "_law_row", "_law_mixture_here", "_law_mine"] ["_law_table_here", "_law_row", "_law_mixture_here"] (aC gw) := ⟨rfl, rfl, rfl, by decide +kernel, rfl, by decide +kernel, by decide +kernel⟩
theorem rM (F : FunM K mg "_law_answers" gw ["_law_table_here", "_law_row", "_law_mixture_here"]) (T : Blt mg) (cV : Def P w K mg base "_law_mixture" ["_law_mixture_here", "_law_many"] 4 xO) (dZ : Def P w K mg base "_law_less" ["_law_one", "_law_other"] 1 (eH K)) (cB : Def P w K mg base "_law_sum" ["_law_worths", "_law_shares"] 3 pA) : Def P w K mg base "_law_answers" ["_law_table_here", "_law_row", "_law_mixture_here"] 5 yu := by
 have S := rD
 refine Def.of F S (fun vs H Q E h => ?_) (fun f cdv A outer s H vs Q E hr h => ?_)
 ·obtain ⟨a, l, U, m, n, row, qs, rfl, _⟩ := h
  rfl
 ·obtain ⟨a, l, U, m, n, row, qs, rfl, hU, g, hrow, hl, gq, k⟩ := h
  have m4 := g.m4
  have n4 := g.n4
  obtain ⟨vs, b0, ha, h0, at0, hb0⟩ := hU.row (i := 0) (by rw [g.rows]; exact g.m1)
  obtain ⟨vs', b1, ha', h1, at1, hb1⟩ := hU.row (i := row) (by rw [g.rows]; exact hrow)
  have hn : ((U.getD 0 []).map V.int).length = n := by rw [List.length_map, (g.row g.m1).2]
  have hrowU := g.row hrow
  refine ⟨_, (aA (bB (cX (bG (aF cV (hr.mono (by decide)) rfl (aa (pv 2) (aa (aM (bK K) (by rfl) T.len_ bj (aa (aP (ixL K) (pv 0) au (fun _ _ => rfl)) ao aK) (he := aK)) ao aR) aj) (he := aj))))
    (aB (aN fu)) aY)
   (aA (aO (i := 3) S.nd rfl (Or.inr rfl) (aF cB (hr.mono (by decide)) rfl (aa (aP (ixL K) (pv 0) (pv 1) (fun _ _ => rfl)) (aa (pv 2) ao aj) aK) (he := aK)))
   (aB (aN (rm (aM (yS K) (by rfl) T.any_ nR (aa (aX rfl (N' := ["_law_other", "_law_mine", "_law_mixture_here"]) (src := [none, some 3, some 2]) rfl (piL K (pv 0)) (fun _ _ _ _ _ => (aG (i := 0) (show (["_law_other", "_law_mine", "_law_mixture_here"] : List Str).Nodup from by decide +kernel) rfl (Or.inl rfl))) (fun _ _ _ _ _ => aW) (fun _ _ _ _ _ => (aF dZ (hr.mono (by decide)) rfl (aa (pv 1) (aa (aF cB (hr.mono (by decide)) rfl (aa (pv 0) (aa (pv 2) ao aj) aj) (he := aj)) ao aR) aj) (he := aj)))) ao aU) (he := aU))))))), ?_⟩
  refine ⟨_, rfl, _, rfl, a, vs, 0, _, rfl, rfl, SqL.of ha, at0, b0, _, rfl, .inl (SqL.of hb0), l, qs, _, rfl, hl, gq, fun H1 s1 => ⟨_, rfl, ?_⟩⟩
  rw [hn]
  cases hx : dD qs n with
  | false =>
   refine d_ ?_
   have e : gj U n row qs = false := by unfold gj; rw [hx]; rfl
   rw [e] at k
   exact k H1 s1
  | true =>
  refine cD ?_
  refine ⟨_, rfl, _, rfl, a, vs', (row : Int), _, rfl, rfl, SqL.of (s1 _ _ ha'), at1, _, rfl, b1, l, U.getD row [], qs, rfl, s1 _ _ hb1, hl.mono s1, gq, g.sz hrowU.1, fun p2 H2 nw => ?_⟩
  have s2 := s1.trans nw.same
  have szo := g.sz hrowU.1
  obtain ⟨rv, hrv, prr⟩ := hU.mono s2
  have rl : rv.length = m := by rw [prr.length, g.rows]
  refine ⟨_, rfl, a, rfl, ⟨_, SqL.of hrv⟩, bu (xs := rv) (fun x y _ => ∀ r, IsRow H2 x r -> y = .bl (ltQ (aZ (U.getD row []) qs) (aZ r qs))) (fun _ _ _ _ _ h => h) (SqL.of hrv) (by rw [rl]; exact Nat.le_of_lt (aJ (by omega))) ?_ ?_⟩
  ·intro x hx' H3 s3 Q' q
   obtain ⟨r, hr3, hrw⟩ := prr.mem2 hx'
   obtain ⟨b, rfl, hb⟩ := id hrw
   have szr := g.sz hr3
   refine ⟨_, rfl, _, rfl, _, rfl, b, l, r, qs, rfl, s3 _ _ hb, hl.mono (s2.trans s3), gq, szr, fun p4 H4 nw4 => ?_⟩
   exact ⟨p2, p4, _, _, _, _, rfl, SqT.of (nw4.same _ _ (s3 _ _ nw.is)), SqT.of nw4.is, (gP szo gq).mono (by decide), (gY szo gq).mono (by decide), (gP szr gq).mono (by decide), (gY szr gq).mono (by decide), q _ H4 nw4.same fun r' h' => by rw [hrw.inj h']; rfl⟩
  intro ys H3 s3 prb qb hqb
  have eb := rP (fun r => ltQ (aZ (U.getD row []) qs) (aZ r qs)) prb prr
  subst eb
  refine ⟨qb, _, rfl, SqL.of aq, ?_⟩
  have ea : (U.map fun r => ltQ (aZ (U.getD row []) qs) (aZ r qs)).any id = U.any fun r => ltQ (aZ (U.getD row []) qs) (aZ r qs) := by rw [List.any_map]; rfl
  rw [ea]
  refine ⟨_, rfl, ?_⟩
  have e : gj U n row qs = !(U.any fun r => ltQ (aZ (U.getD row []) qs) (aZ r qs)) := by unfold gj; rw [hx]; rfl
  rw [e] at k
  exact k _ ((s2.trans s3).trans (ak hqb))
def shQ (qs : List (Int × Int)) (i : Nat) : List Int := ((List.range i).filter fun j => decide (qs.getD j (0, 0) ≠ (0, 1))).map fun (j : Nat) => (j : Int)
def u6 : Sp := fun vs H Q _ => ∃ (a : Addr) (qs : List (Int × Int)), vs = [.ref a] /\ IsFrs H a qs /\ qs.length <= 1000 /\ ∀ p H', New H H' p (.lst ((shQ qs qs.length).map V.int)) -> Q (.ref p) H'
theorem ud (qs : List (Int × Int)) (n : Nat) : (shQ qs n).length <= n := by
 unfold shQ
 rw [List.length_map]
 exact Nat.le_trans (List.length_filter_le _ _) (by rw [List.length_range]; exact Nat.le_refl _)
theorem mem_shQ {qs : List (Int × Int)} {n i : Nat} : (i : Int) ∈ shQ qs n ↔ i < n /\ qs.getD i (0, 0) ≠ (0, 1) := by
 unfold shQ
 simp only [List.mem_map, List.mem_filter, List.mem_range, decide_eq_true_eq]
 constructor
 ·rintro ⟨j, ⟨hj, hz⟩, e⟩
  have : j = i := by omega
  subst this
  exact ⟨hj, hz⟩
 ·rintro ⟨h1, h2⟩
  exact ⟨i, ⟨h1, h2⟩, rfl⟩
abbrev qF : Stmt := top 41
theorem Dg : FnScope ["mixture"] ["mixture"] (aC qF) := ⟨rfl, rfl, rfl, by decide +kernel, rfl, by decide +kernel, by decide +kernel⟩
theorem Df (F : FunM K mg "shared" qF ["mixture"]) (T : Blt mg) : Def P w K mg base "shared" ["mixture"] 1 u6 := by
 have S := Dg
 refine Def.of F S (fun vs H Q E h => ?_) (fun f cdv A outer s H vs Q E hr h => ?_)
 ·obtain ⟨a, qs, rfl, _⟩ := h
  rfl
 ·obtain ⟨a, qs, rfl, hW, n4, k⟩ := h
  obtain ⟨vs, ha, pr⟩ := id hW
  have hl : vs.length = qs.length := pr.length
  refine ⟨_, (aB (aN (aX rfl (N' := ["card", "share"]) (src := [none, none]) rfl (wV K rfl T.enumerate_ (aa (pv 0) ao aj)) (fun _ _ _ _ _ => (pgT K (n := 2) (a_ (aG (i := 0) (show (["card", "share"] : List Str).Nodup from by decide +kernel) rfl (Or.inl rfl)) (a_ (aG (i := 1) (show (["card", "share"] : List Str).Nodup from by decide +kernel) rfl (Or.inl rfl)) cH)))) (fun _ _ _ _ _ => (uv (bh (wH K hr.units) (pv 1) (bz (aa au (aa au ao aD) aD)) (bf _)))) (fun _ _ _ _ _ => (pv 0))))), ?_⟩
  refine ⟨_, rfl, a, vs, rfl, ha, nG (K := K) (xs := vs) (fun i zs H' => zs = (shQ qs i).map V.int /\ Same H H') ⟨rfl, Same.refl _⟩ ?_ (by rw [hl]; exact Nat.le_of_lt (aJ (by omega))) ?_ ?_⟩
  ·rintro i zs H' ⟨rfl, s5⟩
   refine ⟨SqL.of (s5 _ _ ha), ?_⟩
   rw [List.length_map]
   exact ud qs i
  ·rintro i x q zs H' hi hq ⟨rfl, s5⟩
   obtain ⟨y, hy, b, rfl, hb⟩ := pr.get2 hi
   have eu : qs.getD i (0, 0) = y := dm hy
   have s6 := s5.trans (ak (o := .tup [.int i, .ref b]) hq)
   refine ⟨q, _, rfl, SqT.of aq, rfl, _, _, rfl, _, _, rfl, rfl, ?_⟩
   refine ⟨_, rfl, (by show 2 <= sizeLine; decide), fun t ht => ?_⟩
   have s7 := s6.trans (ak (o := .tup [.int 0, .int 1]) ht)
   refine ⟨_, _, bT (s7 _ _ hb), bT aq, rfl, (by show 1 <= 40; decide), _, rfl, ?_⟩
   rw [fO]
   have ei : shQ qs (i + 1) = shQ qs i ++ (if y ≠ (0, 1) then [(i : Int)] else []) := by
    unfold shQ
    rw [List.range_succ, List.filter_append, List.map_append]
    congr 1
    by_cases e : y = (0, 1)
    ·rw [List.filter_cons_of_neg (by show ¬ decide (qs.getD i (0, 0) ≠ (0, 1)) = true; rw [eu]; simp [e]), if_neg (by simpa using e)]
     rfl
    ·rw [List.filter_cons_of_pos (by show decide (qs.getD i (0, 0) ≠ (0, 1)) = true; rw [eu]; simpa using e), if_pos e]
     rfl
   by_cases e : y = (0, 1)
   ·refine ifN (by rw [e]; decide) ?_
    refine ⟨?_, s7⟩
    rw [ei, if_neg (by simpa using e), List.append_nil]
   ·refine ifP (by rw [decide_eq_false (fun z => e (Prod.ext (congrArg Prod.fst z) (congrArg Prod.snd z)))]; rfl) ?_
    refine ⟨_, rfl, ?_, s7⟩
    rw [ei, if_pos e, List.map_append]
    rfl
  ·rintro zs H' ⟨rfl, s5⟩ l hl'
   rw [hl]
   exact k l _ (New.of s5 hl')
theorem rG (f : Int -> Bool) : ∀ {r : List Int} {ys : List V}, Paired (fun x y => ∀ i, x = V.int i -> y = V.bl (f i)) (r.map V.int) ys -> ys = (r.map f).map V.bl
 | [], _, h => by cases h; rfl
 | i :: r, _, h => by
  cases h with
  | cons h t => rw [h i rfl, rG f t]; rfl
def xM : Sp := fun vs H Q _ => ∃ (a b : Addr) (xs ys : List Int), vs = [.ref a, .ref b] /\ H a = some (.lst (xs.map V.int)) /\ H b = some (.lst (ys.map V.int)) /\ xs.length <= 1000 /\ ∀ H', Same H H' -> Q (.bl (xs.all fun x => decide (x ∈ ys))) H'
abbrev lg : Stmt := top 42
theorem yN : FnScope ["cards", "others"] ["cards", "others"] (aC lg) := ⟨rfl, rfl, rfl, by decide +kernel, rfl, by decide +kernel, by decide +kernel⟩
theorem xJ (F : FunM K mg "all_among" lg ["cards", "others"]) (T : Blt mg) : Def P w K mg base "all_among" ["cards", "others"] 1 xM := by
 have S := yN
 refine Def.of F S (fun vs H Q E h => ?_) (fun f cdv A outer s H vs Q E hr h => ?_)
 ·obtain ⟨a, b, xs, ys, rfl, _⟩ := h
  rfl
 ·obtain ⟨a, b, xs, ys, rfl, ha, hb, hl, k⟩ := h
  refine ⟨_, (aB (aN (aM (uE K) (by rfl) T.all_ lA (aa (aX rfl (N' := ["card", "others"]) (src := [none, some 1]) rfl (piL K (pv 0)) (fun _ _ _ _ _ => (aG (i := 0) (show (["card", "others"] : List Str).Nodup from by decide +kernel) rfl (Or.inl rfl))) (fun _ _ _ _ _ => aW) (fun _ _ _ _ _ => (dF (inK K) (pv 0) (pv 1) rfl))) ao aU) (he := aU)))), ?_⟩
  refine ⟨_, rfl, a, rfl, ⟨_, SqL.of ha⟩, bu (xs := xs.map V.int) (fun x y _ => ∀ i, x = V.int i -> y = .bl (decide (i ∈ ys))) (fun _ _ _ _ _ h => h) (SqL.of ha) (by rw [List.length_map]; exact Nat.le_of_lt (aJ hl)) ?_ ?_⟩
  ·intro x hx H1 s1 Q' q
   obtain ⟨i, hi, rfl⟩ := List.mem_map.mp hx
   refine ⟨_, rfl, _, rfl, b, _, rfl, .inl (SqL.of (s1 _ _ hb)), rfl, jZ ys, q _ H1 (Same.refl _) fun j e => ?_⟩
   cases e
   exact congrArg V.bl (jN i ys)
  ·intro zs H' s' pr q hq
   have e := rG (fun i => decide (i ∈ ys)) pr
   subst e
   refine ⟨q, _, rfl, SqL.of aq, ?_⟩
   rw [List.all_map]
   exact k _ (s'.trans (ak hq))
def mj (U : List (List Int)) (qs : List (Int × Int)) (i : Nat) : Bool := !(U.any fun r => ltQ (aZ (U.getD i []) qs) (aZ r qs))
def abB (U : List (List Int)) (m : Nat) (ps qs : List (Int × Int)) : Bool := (List.range m).all fun i => decide (ps.getD i (0, 0) = (0, 1)) || mj U qs i
theorem G7 {U : List (List Int)} {m n : Nat} {ps qs : List (Int × Int)} {mx : Int × Int} (g : Gd U m n) (gq : GQ qs) (hmx : mx ∈ U.map fun r => aZ r qs) (hle : ∀ x ∈ U.map (fun r => aZ r qs), leQ x mx) :
  ((shQ ps m).all fun x => decide (x ∈ plQ (U.map fun r => aZ r qs) mx m)) = abB U m ps qs := by
 rw [Bool.eq_iff_iff, List.all_eq_true]
 unfold abB
 rw [List.all_eq_true]
 constructor
 ·intro h i hi
  have hi := List.mem_range.mp hi
  by_cases e : ps.getD i (0, 0) = (0, 1)
  ·rw [decide_eq_true e]; rfl
  ·have := h i (mem_shQ.mpr ⟨hi, e⟩)
   rw [Af g gq hi hmx hle] at this
   show (_ || mj U qs i) = true
   unfold mj
   rw [this, Bool.or_true]
 ·intro h x hx
  obtain ⟨i, hi, rfl⟩ : ∃ i : Nat, i < m /\ x = (i : Int) := by
   unfold shQ at hx
   obtain ⟨j, hj, rfl⟩ := List.mem_map.mp hx
   exact ⟨j, List.mem_range.mp (List.mem_filter.mp hj).1, rfl⟩
  have h1 := h i (List.mem_range.mpr hi)
  rw [decide_eq_false (mem_shQ.mp hx).2, Bool.false_or] at h1
  rw [Af g gq hi hmx hle]
  exact h1
def ug (l1 l2 : Addr) : List (Str × V) := cj "theirs" (.ref l2) (cj "mine" (.ref l1) [])
theorem J0 : ¬ (("mine" : Str) = "theirs") := by decide +kernel
theorem DK (l1 l2 : Addr) : (ug l1 l2).lookup ("mine" : Str) = some (.ref l1) := by
 unfold ug
 rw [bJ, if_neg J0, bJ, if_pos rfl]
theorem yX (l1 l2 : Addr) : (ug l1 l2).lookup ("theirs" : Str) = some (.ref l2) := by
 unfold ug
 rw [bJ, if_pos rfl]
def wK (C : Addr) : Sp := fun vs H Q _ => ∃ (p dx b c : Addr) (xs ys : List V), vs = [.ref p, .ref b, .ref c] /\ H p = some (.ins C dx []) /\ H b = some (.lst xs) /\ H c = some (.lst ys) /\
 ∀ l1 l2 H', H l1 = none -> H l2 = none -> l1 ≠ l2 -> H' l1 = some (.lst xs) -> H' l2 = some (.lst ys) -> H' p = some (.ins C dx (ug l1 l2)) -> (∀ q o, H q = some o -> q ≠ p -> H' q = some o) -> Q .non H'
abbrev gC : Stmt := inClass (top 45) 0
theorem rz : FnScope ["self", "mine", "theirs"] ["self", "mine", "theirs"] (aC gC) := ⟨rfl, rfl, rfl, by decide +kernel, rfl, by decide +kernel, by decide +kernel⟩
theorem rN {C : Addr} (F : FunC K C "__init__" "Settled.__init__" gC ["self", "mine", "theirs"]) (T : Blt mg) (C_Settled : Cl K mg "Settled" ["mine", "theirs"] [] C) : DefC P w K mg base C "__init__" ["self", "mine", "theirs"] 1 (wK C) := by
 have S := rz
 refine DefC.of F S (fun vs H Q E h => ?_) (fun f cdv A outer s H vs Q E hr h => ?_)
 ·obtain ⟨p, dx, b, c, xs, ys, rfl, _⟩ := h
  rfl
 ·obtain ⟨p, dx, b, c, xs, ys, rfl, hp, hb, hc, k⟩ := h
  have nbp : b ≠ p := jj hb hp (by intro z; cases z)
  have ncp : c ≠ p := jj hc hp (by intro z; cases z)
  refine ⟨_, (aA (jC (pv 0) (dI (fW K) (by rfl) T.list_ dj (aa (pv 1) ao aj) (he := aj)) rfl)
   (aB (jC (pv 0) (dI (fW K) (by rfl) T.list_ dj (aa (pv 2) ao aj) (he := aj)) rfl))), ?_⟩
  refine ⟨_, rfl, b, xs, rfl, .inl (SqL.of hb), fun l1 h1 => ?_⟩
  have np1 : p ≠ l1 := aV hp h1
  have nc1 : c ≠ l1 := aV hc h1
  refine ⟨_, rfl, p, C, dx, [], rfl, ak h1 _ _ hp, C_Settled.cl, C_Settled.no _ (by simp), (by show 0 < 1000; decide), ?_⟩
  refine ⟨_, rfl, c, ys, rfl, .inl (SqL.of (by rw [aH ncp, aH nc1]; exact hc)), fun l2 h2 => ?_⟩
  have np2 : p ≠ l2 := fun e => by rw [<- e, aq] at h2; cases h2
  have n12 : l1 ≠ l2 := fun e => by rw [<- e, aH np1.symm, aq] at h2; cases h2
  have h2' : H l2 = none := by rw [aH np2.symm, aH n12.symm] at h2; exact h2
  refine ⟨_, rfl, p, C, dx, _, rfl, (by rw [aH np2, aq]), C_Settled.cl, C_Settled.no _ (by simp), (by show 1 < 1000; decide), ?_⟩
  refine k l1 l2 _ h1 h2' n12 ?_ ?_ aq fun q o e nq => ?_
  ·rw [aH np1.symm, aH n12, aH np1.symm, aq]
  ·rw [aH np2.symm, aq]
  ·rw [aH nq, aH (aV e h2'), aH nq, aH (aV e h1)]
   exact e
def zQ : Sp := fun vs H Q _ => ∃ (a b : Addr) (U W : List (List Int)) (m n m' n' : Nat), vs = [.ref a, .ref b] /\ IsTab H a U /\ Good U m n /\ IsTab H b W /\ Good W m' n' /\ Q (.bl (decide (m = m') && decide (n = n'))) H
abbrev fP : Stmt := top 34
theorem pJ : FnScope ["one", "other"] ["one", "other"] (aC fP) := ⟨rfl, rfl, rfl, by decide +kernel, rfl, by decide +kernel, by decide +kernel⟩
theorem pK (F : FunM K mg "of_same_counts" fP ["one", "other"]) (T : Blt mg) : Def P w K mg base "of_same_counts" ["one", "other"] 1 zQ := by
 have S := pJ
 refine Def.of F S (fun vs H Q E h => ?_) (fun f cdv A outer s H vs Q E hr h => ?_)
 ·obtain ⟨a, b, U, W, m, n, m', n', rfl, _⟩ := h
  rfl
 ·obtain ⟨a, b, U, W, m, n, m', n', rfl, hU, g, hW, g', k⟩ := h
  obtain ⟨vs, b0, ha, h0, at0, hb0⟩ := hU.row (i := 0) (by rw [g.rows]; exact g.m1)
  obtain ⟨ws, c0, hb, k0, bt0, hc0⟩ := hW.row (i := 0) (by rw [g'.rows]; exact g'.m1)
  have el : vs.length = m := by
   obtain ⟨vs', ha', hp⟩ := id hU
   rw [ha] at ha'
   cases ha'
   rw [hp.length, g.rows]
  have fl : ws.length = m' := by
   obtain ⟨vs', ha', hp⟩ := id hW
   rw [hb] at ha'
   cases ha'
   rw [hp.length, g'.rows]
  have rl : ((U.getD 0 []).map V.int).length = n := by rw [List.length_map, (g.row g.m1).2]
  have tl : ((W.getD 0 []).map V.int).length = n' := by rw [List.length_map, (g'.row g'.m1).2]
  refine ⟨_, (aB (aN (oh (dF fG (aM (bK K) (by rfl) T.len_ bj (aa (pv 0) ao aj) (he := aj)) (aM (bK K) (by rfl) T.len_ bj (aa (pv 1) ao aj) (he := aj)) (bf _)) (lF (dF fG (aM (bK K) (by rfl) T.len_ bj (aa (aP (ixL K) (pv 0) au (fun _ _ => rfl)) ao aK) (he := aK)) (aM (bK K) (by rfl) T.len_ bj (aa (aP (ixL K) (pv 1) au (fun _ _ => rfl)) ao aK) (he := aK)) (bf _)))))), ?_⟩
  refine ⟨_, rfl, a, vs, rfl, .inl (SqL.of ha), _, rfl, b, ws, rfl, .inl (SqL.of hb), rfl, _, rfl, ?_⟩
  by_cases e : m = m'
  ·refine ifP (by rw [gA, el, fl]; exact decide_eq_true e) ?_
   refine ⟨_, rfl, a, vs, 0, _, rfl, rfl, SqL.of ha, at0, b0, _, rfl, .inl (SqL.of hb0), _, rfl, b, ws, 0, _, rfl, rfl, SqL.of hb, bt0, c0, _, rfl, .inl (SqL.of hc0), rfl, ?_⟩
   rw [gA, rl, tl]
   rw [decide_eq_true e, Bool.true_and] at k
   exact k
  ·have e1 : decide (V.int (vs.length : Int) = V.int (ws.length : Int)) = false := by rw [gA, el, fl]; exact decide_eq_false e
   rw [e1]
   refine cD ?_
   rw [decide_eq_false e, Bool.false_and] at k
   exact k
def qj : Sp := fun vs H Q _ => ∃ (a b : Addr) (U W : List (List Int)) (m n : Nat), vs = [.ref a, .ref b] /\ IsTab H a U /\ Good U m n /\ IsTab H b W /\ Good W m n /\ ∀ H', Same H H' -> Q .non H'
abbrev iM : Stmt := top 35
theorem uI : FnScope ["one", "other"] ["one", "other"] (aC iM) := ⟨rfl, rfl, rfl, by decide +kernel, rfl, by decide +kernel, by decide +kernel⟩
theorem tE (F : FunM K mg "check_alike" iM ["one", "other"]) (T : Blt mg) (cJ : Def P w K mg base "check_table" ["thing"] 4 qe) (fM : Def P w K mg base "of_same_counts" ["one", "other"] 1 zQ) : Def P w K mg base "check_alike" ["one", "other"] 5 qj := by
 have S := uI
 refine Def.of F S (fun vs H Q E h => ?_) (fun f cdv A outer s H vs Q E hr h => ?_)
 ·obtain ⟨a, b, U, W, m, n, rfl, _⟩ := h
  rfl
 ·obtain ⟨a, b, U, W, m, n, rfl, hU, g, hW, g', k⟩ := h
  refine ⟨_, (aA (cu (aF cJ (hr.mono (by decide)) rfl (aa (pv 0) ao aj) (he := aj)))
   (aA (cu (aF cJ (hr.mono (by decide)) rfl (aa (pv 1) ao aj) (he := aj)))
   (aB (bB (cX (bG (aF fM (hr.mono (by decide)) rfl (aa (pv 0) (aa (pv 1) ao aj) aj) (he := aj))))
    (aB qD) aY)))), ?_⟩
  refine ⟨_, rfl, a, U, m, n, rfl, hU, g, fun H1 s1 => ?_⟩
  refine ⟨_, rfl, b, W, m, n, rfl, hW.mono s1, g', fun H2 s2 => ?_⟩
  have s12 := s1.trans s2
  refine ⟨_, rfl, _, rfl, a, b, U, W, m, n, m, n, rfl, hU.mono s12, g, hW.mono s12, g', ⟨_, rfl, ?_⟩⟩
  refine ifN (by simp) ?_
  exact k H2 s12
def stB (U V : List (List Int)) (m n : Nat) (ps qs : List (Int × Int)) : Bool := dD ps m && dD qs n && abB U m ps qs && abB (cols V n) n qs ps
def IsAc (U : List (List Int)) (m n : Nat) (H : Hp) (v : V) (q : cO) : Prop := ∃ t k s b mx, v = .ref t /\ H t = some (.tup [.ref k, .ref s, .ref b]) /\ IsFrs H k q.1 /\ H s = some (.lst ((shQ q.1 n).map V.int)) /\
 H b = some (.lst ((plQ (U.map fun r => aZ r q.1) mx m).map V.int)) /\ mx ∈ U.map (fun r => aZ r q.1) /\ ∀ g ∈ U.map (fun r => aZ r q.1), leQ g mx
theorem IsAc.mono {U : List (List Int)} {m n : Nat} {H H' : Hp} {v : V} {q : cO} (s : Same H H') (h : IsAc U m n H v q) : IsAc U m n H' v q :=
 let ⟨t, k, a, b, mx, e, h1, h2, h3, h4, h5⟩ := h
 ⟨t, k, a, b, mx, e, s _ _ h1, h2.mono s, s _ _ h3, s _ _ h4, h5⟩
def CP : Sp := fun vs H Q _ => ∃ (a : Addr) (U : List (List Int)) (m n : Nat), vs = [.ref a] /\ IsTab H a U /\ Gd U m n /\ ∀ l zs Ls H', Same H H' -> H' l = some (.lst zs) -> Paired (IsAc U m n H') zs Ls -> Cors U m n Ls -> Q (.ref l) H'
theorem xF {U : List (List Int)} {m n : Nat} {Ls : List cO} (g : Gd U m n) (hC : Cors U m n Ls) {q : cO} (hq : q ∈ Ls) : GQ q.1 /\ q.1.length = n := by
 obtain ⟨R, C, g2, k, rfl⟩ := hC.of q hq
 exact ⟨(iz g g2 k.ne k.pos).2.2, by show (mks _ _).length = n; rw [cQ, jt]⟩
theorem rZ {α : Type} {F : V -> α -> Prop} {G : V -> α -> Prop} : ∀ {zs ys : List V} {Ls : List α}, Paired (fun x y => ∀ q ∈ Ls, F x q -> G y q) zs ys -> Paired F zs Ls -> Paired G ys Ls := by
 have go : ∀ {zs ys : List V} {Ls Ms : List α}, (∀ q ∈ Ls, q ∈ Ms) -> Paired (fun x y => ∀ q ∈ Ms, F x q -> G y q) zs ys -> Paired F zs Ls -> Paired G ys Ls := by
  intro zs ys Ls Ms hs h1 h2
  induction h2 generalizing ys with
  | nil => cases h1; exact .nil
  | cons h t ih =>
   cases h1 with
   | cons a b => exact .cons (a _ (hs _ List.mem_cons_self) h) (ih (fun q hq => hs q (List.mem_cons_of_mem _ hq)) b)
 intro zs ys Ls h1 h2
 exact go (fun _ h => h) h1 h2
abbrev eG : Stmt := top 51
theorem nF : FnScope ["table", "mixtures"] ["table"] (aC eG) := ⟨rfl, rfl, rfl, by decide +kernel, rfl, by decide +kernel, by decide +kernel⟩
theorem nj (F : FunM K mg "answered_corners" eG ["table"]) (T : Blt mg) (cW : Def P w K mg base "corners_of" ["table"] 9 tY) (qO : Def P w K mg base "shared" ["mixture"] 1 u6) (kZ : Def P w K mg base "best_rows" ["table", "theirs"] 7 pW) :
  Def P w K mg base "answered_corners" ["table"] 10 CP := by
 have S := nF
 refine Def.of F S (fun vs H Q E h => ?_) (fun f cdv A outer s H vs Q E hr h => ?_)
 ·obtain ⟨a, U, m, n, rfl, _⟩ := h
  rfl
 ·obtain ⟨a, U, m, n, rfl, hU, g, k⟩ := h
  have n4 := g.n4
  refine ⟨_, (aA (pI (i := 1) rfl S.nd rfl rfl (N' := ["place"]) (src := [none]) rfl (piL K (aF cW (hr.mono (by decide)) rfl (aa (pv 0) ao aj) (he := aj))) (fun _ _ _ _ _ => (aG (i := 0) (show (["place"] : List Str).Nodup from by decide +kernel) rfl (Or.inl rfl))) (fun _ _ _ _ _ => aW) (fun _ _ _ _ _ => (aP (ixT K) (pv 0) au (fun _ _ => rfl))))
   (aB (aN (aX rfl (N' := ["mixture", "table"]) (src := [none, some 0]) rfl (piL K (pv 1)) (fun _ _ _ _ _ => (aG (i := 0) (show (["mixture", "table"] : List Str).Nodup from by decide +kernel) rfl (Or.inl rfl))) (fun _ _ _ _ _ => aW) (fun _ _ _ _ _ => (bz (aa (pv 0) (aa (aF qO (hr.mono (by decide)) rfl (aa (pv 0) ao aj) (he := aj)) (aa (aP (ixT K) (aF kZ (hr.mono (by decide)) rfl (aa (pv 1) (aa (pv 0) ao aj) aj) (he := aj)) au (fun _ _ => rfl)) ao aK) aR) aj))))))), ?_⟩
  refine ⟨_, rfl, a, U, m, n, rfl, hU, g, fun l zs Ls H1 s1 hl pz hC zl => ?_⟩
  refine ⟨l, rfl, ⟨_, SqL.of hl⟩, bu (xs := zs) (fun x y H' => ∀ q ∈ Ls, IsCor l H1 x q -> ∃ k, y = .ref k /\ IsFrs H' k q.1) (fun _ _ _ _ s h q hq hc => let ⟨k, e, z⟩ := h q hq hc; ⟨k, e, z.mono s⟩) (SqL.of hl) (Nat.le_of_lt (aJ zl)) ?_ ?_⟩
  ·intro x hx H2 s2 Q' q
   obtain ⟨c, hc, t, kk, u, rfl, t1, _, hF, t2⟩ := pz.mem2 hx
   refine ⟨_, rfl, t, _, 0, _, rfl, rfl, SqT.of (s2 _ _ t1), rfl, q _ H2 (Same.refl _) fun q' _ hc' => ?_⟩
   obtain ⟨t', k', u', e, t1', _, hF', _⟩ := hc'
   cases e
   rw [t1] at t1'
   cases t1'
   exact ⟨_, rfl, hF'.mono s2⟩
  intro ys H2 s2 pr pm hpm
  have pf : Paired (fun y (q : cO) => ∃ k, y = .ref k /\ IsFrs H2 k q.1) ys Ls := rZ pr pz
  have yl : ys.length <= 1000 := by rw [pf.length, <- pz.length]; exact zl
  have s3 := (s1.trans s2).trans (ak (o := .lst ys) hpm)
  have s23 : Same H2 (upd H2 pm (.lst ys)) := ak hpm
  have e3 : upd H2 pm (.lst ys) pm = some (.lst ys) := aq
  generalize upd H2 pm (.lst ys) = H3 at s3 s23 e3 ⊢
  refine ⟨_, rfl, pm, rfl, ⟨_, SqL.of e3⟩, bu (xs := ys) (fun x y H' => ∀ q ∈ Ls, (∃ k, x = .ref k /\ IsFrs H2 k q.1) -> IsAc U m n H' y q) (fun _ _ _ _ s h q hq hc => (h q hq hc).mono s) (SqL.of e3) (Nat.le_of_lt (aJ yl)) ?_ ?_⟩
  ·intro x hx H4 s4 Q' q
   obtain ⟨c, hc, kk, rfl, hF⟩ := pf.mem2 hx
   obtain ⟨gc, cl⟩ := xF g hC hc
   have hF4 := (hF.mono s23).mono s4
   refine ⟨_, rfl, _, rfl, kk, c.1, rfl, hF4, by omega, fun ps H5 nw => ?_⟩
   have s45 := nw.same
   refine ⟨_, rfl, _, rfl, a, kk, U, m, n, c.1, rfl, ((hU.mono s3).mono s4).mono s45, g, hF4.mono s45, gc, fun bl bp bq mx H6 s6 hbn hbl hmx hle hbq => ?_⟩
   refine ⟨bq, _, 0, _, rfl, rfl, SqT.of hbq, rfl, (by show 3 <= sizeLine; decide), fun tt htt => ?_⟩
   have s67 := ak (o := .tup [.ref kk, .ref ps, .ref bl]) htt
   refine q _ _ ((s45.trans s6).trans s67) fun q' hq' hc' => ?_
   obtain ⟨k', e, hF'⟩ := hc'
   cases e
   have eq : q'.1 = c.1 := by
    obtain ⟨z1, a1, p1⟩ := hF
    obtain ⟨z2, a2, p2⟩ := hF'
    rw [a1] at a2
    cases a2
    have go : ∀ {zs : List V} {as bs : List (Int × Int)}, Paired (IsFr H2) zs as -> Paired (IsFr H2) zs bs -> as = bs := by
     intro zs as bs h1
     induction h1 generalizing bs with
     | nil => intro h; cases h; rfl
     | cons h t ih => intro h'; cases h' with
      | cons h2 t2 => rw [h.inj h2, ih t2]
    exact go p2 p1
   have hps := s67 _ _ (s6 _ _ nw.is)
   rw [cl] at hps
   refine ⟨tt, kk, ps, bl, mx, rfl, aq, ?_, ?_, ?_, ?_, ?_⟩
   ·rw [eq]; exact ((hF4.mono s45).mono s6).mono s67
   ·rw [eq]; exact hps
   ·rw [eq]; exact s67 _ _ hbl
   ·rw [eq]; exact hmx
   ·rw [eq]; exact hle
  ·intro ws H4 s4 pr2 pl hpl
   have pa : Paired (IsAc U m n H4) ws Ls := rZ pr2 pf
   exact k pl ws Ls _ ((s3.trans s4).trans (ak hpl)) aq (pa.imp2 fun _ _ z => z.mono (ak hpl)) hC
def okQ (U V : List (List Int)) (m n : Nat) (p q : cO) : Bool := abB U m p.1 q.1 && abB V n q.1 p.1
theorem Ht {U V : List (List Int)} {m n : Nat} {R C R' C' : List Nat} (g : Gd U m n) (g' : Gd V n m) (h : Gm.Sett U V m n R C R' C') : okQ U V m n (bC V m R' C') (bC U n R C) = true := by
 have one : ∀ {U V : List (List Int)} {m n : Nat} {R C R' C' : List Nat}, Gd U m n -> Gd V n m -> Gm.Good2 m n R C -> Gm.Corner U m n R C -> Gm.Good2 n m R' C' -> Gm.Corner V n m R' C' ->
   (∀ i, i < m -> Gm.yOf C' (Gm.shM V R' C') i = 0 \/ Gm.gain U n (Gm.yOf C (Gm.shM U R C)) i = Gm.gain U n (Gm.yOf C (Gm.shM U R C)) (R.headD 0)) -> abB U m (mks (wsM V m R' C') (Gm.smM V R' C')) (mks (wsM U n R C) (Gm.smM U R C)) = true := by
  intro U V m n R C R' C' g g' g2 k g2' k' hr
  have hS : 0 < Gm.smM U R C := Gm.sgn_pos k.ne
  have hX : 0 < Gm.smM V R' C' := Gm.sgn_pos k'.ne
  obtain ⟨_, _, gq⟩ := iz g g2 k.ne k.pos
  unfold abB
  rw [List.all_eq_true]
  intro i hi
  have hi := List.mem_range.mp hi
  rcases hr i hi with h | h
  ·have e : (mks (wsM V m R' C') (Gm.smM V R' C')).getD i (0, 0) = (0, 1) := by
    refine dm ?_
    unfold mks wsM
    rw [List.map_map, List.getElem?_map, List.getElem?_range hi]
    show some (Fr.mk (Gm.yOf C' (Gm.shM V R' C') i) _) = _
    rw [h, Fr.mk_zero hX]
   rw [decide_eq_true e]
   rfl
  ·have e : mj U (mks (wsM U n R C) (Gm.smM U R C)) i = true := by
    unfold mj
    rw [Bool.not_eq_true', List.any_eq_false]
    intro r hr'
    obtain ⟨j, hj, rfl⟩ := jV hr'
    rw [g.rows] at hj
    rw [bR hS (g.sz (g.row hi).1) gq, bR hS (g.sz (g.row hj).1) gq]
    unfold ltQ
    rw [gO hS, decide_eq_true_iff]
    have e1 : Fr.dot (U.getD i []) (wsM U n R C) = _ := d9 g hi (Gm.yOf C (Gm.shM U R C))
    have e2 : Fr.dot (U.getD j []) (wsM U n R C) = _ := d9 g hj (Gm.yOf C (Gm.shM U R C))
    have := k.le j hj
    omega
   rw [e, Bool.or_true]
 unfold okQ
 rw [show abB U m (bC V m R' C').1 (bC U n R C).1 = true from one g g' h.g h.k h.g' h.k' h.rows, show abB V n (bC U n R C).1 (bC V m R' C').1 = true from one g' g h.g' h.k' h.g h.k h.cols]
 rfl
def rO (CT : Addr) : Sp := fun vs H Q _ => ∃ (a b : Addr) (U V : List (List Int)) (m n : Nat), vs = [.ref a, .ref b] /\ IsTab H a U /\ Good U m n /\ IsTab H b V /\ Good V m n /\
 ∀ p dx l1 l2 H' R C R' C', Same H H' -> H p = none -> H l1 = none -> H l2 = none -> l1 ≠ l2 -> H' p = some (.ins CT dx (ug l1 l2)) -> IsFrs H' l1 (bC (cols V n) m R' C').1 -> IsFrs H' l2 (bC U n R C).1 ->
  Gm.Good2 m n R C -> Gm.Corner U m n R C -> Gm.Good2 n m R' C' -> Gm.Corner (cols V n) n m R' C' -> okQ U (cols V n) m n (bC (cols V n) m R' C') (bC U n R C) = true -> Q (.ref p) H'
theorem Ae {U : List (List Int)} {m n : Nat} (g : Gd U m n) {i j : Nat} (hi : i < m) (hj : j < n) : -200 <= Gm.cell U i j := by
 have h1 := g.row hi
 refine (g.num _ h1.1 _ ?_).1
 show (U.getD i []).getD j 0 ∈ U.getD i []
 rw [List.getD_eq_getElem?_getD (l := U.getD i []), List.getElem?_eq_getElem (by rw [h1.2]; exact hj)]
 exact List.getElem_mem _
abbrev oG : Stmt := top 52
theorem Cg : FnScope ["one", "other", "by_columns", "mine", "rows", "columns_best", "theirs", "columns", "rows_best"] ["one", "other"] (aC oG) := ⟨rfl, rfl, rfl, by decide +kernel, rfl, by decide +kernel, by decide +kernel⟩
theorem BW {CT : Addr} (F : FunM K mg "settled" oG ["one", "other"]) (T : Blt mg) (C_Settled : Cl K mg "Settled" ["mine", "theirs"] [] CT) (cZ : Def P w K mg base "check_alike" ["one", "other"] 5 qj) (dz : Def P w K mg base "answered_corners" ["table"] 10 CP)
  (bZ : Def P w K mg base "columns_of" ["table"] 2 gU) (ie : Def P w K mg base "all_among" ["cards", "others"] 1 xM) (gJ : DefC P w K mg base CT "__init__" ["self", "mine", "theirs"] 1 (wK CT)) : Def P w K mg base "settled" ["one", "other"] 11 (rO CT) := by
 have S := Cg
 refine Def.of F S (fun vs H Q E h => ?_) (fun f cdv A outer s H vs Q E hr h => ?_)
 ·obtain ⟨a, b, U, Z, m, n, rfl, _⟩ := h
  rfl
 ·obtain ⟨a, b, U, Z, m, n, rfl, hU, gG, hV, gG', k⟩ := h
  have g := bH gG
  have gV := gk (bH gG')
  have m4 := g.m4
  have n4 := g.n4
  refine ⟨_, (aA (cu (aF cZ (hr.mono (by decide)) rfl (aa (pv 0) (aa (pv 1) ao aj) aj) (he := aj)))
   (aA (aO (i := 2) S.nd rfl (Or.inl rfl) (aF dz (hr.mono (by decide)) rfl (aa (pv 0) ao aj) (he := aj)))
   (aB (bU PassesOwn.never rfl (piL K (aF dz (hr.mono (by decide)) rfl (aa (aF bZ (hr.mono (by decide)) rfl (aa (pv 1) ao aj) (he := aj)) ao aR) (he := aR))) (pgT K (n := 3) (a_ (aG (i := 3) S.nd rfl (Or.inl rfl)) (a_ (aG (i := 4) S.nd rfl (Or.inl rfl)) (a_ (aG (i := 5) S.nd rfl (Or.inl rfl)) cH))))
    (aB (bU PassesOwn.never rfl (piL K (pv 2)) (pgT K (n := 3) (a_ (aG (i := 6) S.nd rfl (Or.inl rfl)) (a_ (aG (i := 7) S.nd rfl (Or.inl rfl)) (a_ (aG (i := 8) S.nd rfl (Or.inl rfl)) cH))))
    (aB (bB (PW.pt (lG (bG (aF ie (hr.mono (by decide)) rfl (aa (pv 4) (aa (pv 8) ao aj) aj) (he := aj))) (ju (bG (aF ie (hr.mono (by decide)) rfl (aa (pv 7) (aa (pv 5) ao aj) aj) (he := aj))))))
    (aB (aN (jQ gJ C_Settled (hr.mono (by decide)) rfl (aa (pv 3) (aa (pv 6) ao aj) aj) (he := aj)))) aY)))))))), ?_⟩
  refine ⟨_, rfl, _, rfl, a, b, U, Z, m, n, rfl, hU, gG, hV, gG', fun H1 s1 => ?_⟩
  refine ⟨_, rfl, a, U, m, n, rfl, hU.mono s1, g, fun by_ zs Ls H2 s2 hz pz hC => ?_⟩
  have s12 := s1.trans s2
  refine ⟨_, rfl, b, Z, m, n, rfl, hV.mono s12, bH gG', fun pc H3 s3 own => ?_⟩
  refine ⟨pc, cols Z n, n, m, rfl, own.tab, gV, fun q zs' Ls' H4 s4 hz' pz' hC' => ?_⟩
  have s14 := (s12.trans s3).trans s4
  have s24 := s3.trans s4
  refine ⟨q, rfl, ⟨_, SqL.of hz'⟩, cM (K := K) (a := q) (xs := zs') (fun i σ H' => ∃ (o3 o4 o5 o6 o7 o8 : Option V), σ = [some (.ref a), some (.ref b), some (.ref by_), o3, o4, o5, o6, o7, o8] /\ Same H4 H' /\ ∀ p' ∈ Ls'.take i, ∀ p ∈ Ls, okQ U (cols Z n) m n p' p = false)
   ⟨_, _, _, _, _, _, rfl, Same.refl _, fun p' h => by simp at h⟩ ?_ ?_ ?_⟩
  ·rintro i σ H5 _ ⟨_, _, _, _, _, _, _, s5, _⟩
   exact SqL.of (s5 _ _ hz')
  ·rintro i x σ H5 hi ⟨o3, o4, o5, o6, o7, o8, rfl, s5, hno⟩
   obtain ⟨p', ep', t, kk, ss, bb, mx, rfl, ht, hk, hs, hb, hmx, hle⟩ := pz'.get2 hi
   have mp' := List.mem_of_getElem? ep'
   obtain ⟨gp', pl'⟩ := xF gV hC' mp'
   refine ⟨t, _, rfl, SqT.of (s5 _ _ ht), rfl, _, _, rfl, _, _, rfl, _, _, rfl, rfl, ?_⟩
   have hz5 := (s24.trans s5) _ _ hz
   refine ⟨_, rfl, by_, rfl, ⟨_, SqL.of hz5⟩, cM (K := K) (a := by_) (xs := zs) (fun j σ H' => ∃ (o6 o7 o8 : Option V), σ = [some (.ref a), some (.ref b), some (.ref by_), some (.ref kk), some (.ref ss), some (.ref bb), o6, o7, o8] /\ Same H5 H' /\ ∀ p ∈ Ls.take j, okQ U (cols Z n) m n p' p = false)
    ⟨_, _, _, rfl, Same.refl _, fun p h => by simp at h⟩ ?_ ?_ ?_⟩
   ·rintro j σ H6 _ ⟨_, _, _, _, s6, _⟩
    exact SqL.of (s6 _ _ hz5)
   ·rintro j x σ H6 hj ⟨o6, o7, o8, rfl, s6, hno6⟩
    obtain ⟨p, ep, t2, k2, ss2, bb2, mx2, rfl, ht2, hk2, hs2, hb2, hmx2, hle2⟩ := pz.get2 hj
    have mp := List.mem_of_getElem? ep
    obtain ⟨gp, pl⟩ := xF g hC mp
    have s26 := (s24.trans s5).trans s6
    have s46 := s5.trans s6
    refine ⟨t2, _, rfl, SqT.of (s26 _ _ ht2), rfl, _, _, rfl, _, _, rfl, _, _, rfl, rfl, ?_⟩
    have ea : ((shQ p'.1 m).all fun x => decide (x ∈ plQ (U.map fun r => aZ r p.1) mx2 m)) = abB U m p'.1 p.1 := G7 g gp hmx2 hle2
    have eb : ((shQ p.1 n).all fun x => decide (x ∈ plQ ((cols Z n).map fun r => aZ r p'.1) mx n)) = abB (cols Z n) n p.1 p'.1 := G7 gV gp' hmx hle
    have step : okQ U (cols Z n) m n p' p = false -> ∀ p1 ∈ Ls.take (j + 1), okQ U (cols Z n) m n p' p1 = false := fun h p1 h1 => by
     rw [gK ep] at h1
     rcases List.mem_append.mp h1 with z | z
     ·exact hno6 p1 z
     ·rw [List.mem_singleton.mp z]; exact h
    refine ⟨_, rfl, _, rfl, ss, bb2, _, _, rfl, s46 _ _ hs, s26 _ _ hb2, Nat.le_trans (ud _ _) (by omega), fun H7 s7 => ⟨_, rfl, ?_⟩⟩
    rw [ea]
    cases h1 : abB U m p'.1 p.1 with
    | false =>
     refine cD ?_
     exact ⟨_, _, _, rfl, s6.trans s7, step (by unfold okQ; rw [h1]; rfl)⟩
    | true =>
    refine d_ ?_
    have s27 := s26.trans s7
    have s47 := s46.trans s7
    refine ⟨_, rfl, _, rfl, ss2, bb, _, _, rfl, s27 _ _ hs2, s47 _ _ hb, Nat.le_trans (ud _ _) (by omega), fun H8 s8 => ⟨_, rfl, ?_⟩⟩
    rw [eb]
    cases h2 : abB (cols Z n) n p.1 p'.1 with
    | false =>
     refine cD ?_
     exact ⟨_, _, _, rfl, (s6.trans s7).trans s8, step (by unfold okQ; rw [h1, h2]; rfl)⟩
    | true =>
    refine d_ ?_
    have s28 := s27.trans s8
    have s48 := s47.trans s8
    have s18 := s14.trans s48
    obtain ⟨vs1, e1, pr1⟩ := hk.mono s48
    obtain ⟨vs2, e2, pr2⟩ := hk2.mono s28
    refine ⟨_, rfl, _, rfl, ?_⟩
    intro x dx nx ndx nex
    have sm0 : Same H8 (upd (upd H8 dx (.own x)) x (.ins CT dx [])) := fun c o e => by
     rw [aH (aV e nx), aH (aV e ndx)]
     exact e
    refine ⟨x, dx, kk, k2, vs1, vs2, rfl, aq, sm0 _ _ e1, sm0 _ _ e2, fun l1 l2 HU n1' n2' n12 hl1 hl2 hins kp => ⟨rfl, ?_⟩⟩
    have sU : Same H8 HU := fun c o e => kp c o (sm0 c o e) (aV e nx)
    have sm1 := s18.trans sm0
    obtain ⟨R, C, g2, hk', rfl⟩ := hC.of p mp
    obtain ⟨R', C', g2', hk'', rfl⟩ := hC'.of p' mp'
    exact k x dx l1 l2 HU R C R' C' (s18.trans sU) (s18.free nx) (sm1.free n1') (sm1.free n2') n12 hins ⟨vs1, hl1, pr1.imp2 fun _ _ z => z.mono sU⟩ ⟨vs2, hl2, pr2.imp2 fun _ _ z => z.mono sU⟩ g2 hk' g2' hk'' (by unfold okQ; rw [h1, h2]; rfl)
   ·rintro σ H6 ⟨o6, o7, o8, rfl, s6, hno6⟩
    rw [pz.length, List.take_length] at hno6
    refine ⟨_, _, _, _, _, _, rfl, s5.trans s6, fun p1 h1 => ?_⟩
    rw [gK ep'] at h1
    rcases List.mem_append.mp h1 with z | z
    ·exact hno p1 z
    ·rw [List.mem_singleton.mp z]; exact hno6
  ·rintro σ H5 ⟨o3, o4, o5, o6, o7, o8, rfl, s5, hno⟩
   rw [pz'.length, List.take_length] at hno
   obtain ⟨R, C, R', C', hs⟩ := Gm.sett (U := U) (V := cols Z n) (m := m) (n := n) g.m1 g.n1 m4 n4 (fun i j hi hj => Ae g hi hj) (fun i j hi hj => Ae gV hj hi)
   have := hno _ (hC'.all R' C' hs.g' hs.k') _ (hC.all R C hs.g hs.k)
   rw [Ht g gV hs] at this
   cases this
theorem Be {U : List (List Int)} {m n : Nat} {R C : List Nat} (g : Gd U m n) (g2 : Gm.Good2 m n R C) (k : Gm.Corner U m n R C) : dD (bC U n R C).1 n = true /\ GQ (bC U n R C).1 := by
 have hS : 0 < Gm.smM U R C := Gm.sgn_pos k.ne
 obtain ⟨a1, a2, a3⟩ := iz g g2 k.ne k.pos
 exact ⟨pY hS a3 (jt ..) a1 a2, a3⟩
theorem Hv {U V : List (List Int)} {m n : Nat} {R C R' C' : List Nat} (g : Gd U m n) (g' : Gd V m n) (g2 : Gm.Good2 m n R C) (k : Gm.Corner U m n R C) (g2' : Gm.Good2 n m R' C') (k' : Gm.Corner (cols V n) n m R' C') (h : okQ U (cols V n) m n (bC (cols V n) m R' C') (bC U n R C) = true) :
  stB U V m n (bC (cols V n) m R' C').1 (bC U n R C).1 = true := by
 unfold okQ at h
 rw [Bool.and_eq_true] at h
 unfold stB
 rw [(Be (gk g') g2' k').1, (Be g g2 k).1, h.1, h.2]
 rfl
structure Mx (xs : List Int) (X : Int) (m : Nat) : Prop where
 pos : 0 < X
 gq : GQ (mks xs X)
 len : xs.length = m
 nn : ∀ x ∈ xs, 0 <= x
 sum : xs.sum = X
def fx (xs : List Int) : Nat -> Int := fun i => xs.getD i 0
theorem Ea {U : List (List Int)} {m n : Nat} {R C : List Nat} (g : Gd U m n) (g2 : Gm.Good2 m n R C) (k : Gm.Corner U m n R C) : Mx (wsM U n R C) (Gm.smM U R C) n := by
 obtain ⟨a1, a2, a3⟩ := iz g g2 k.ne k.pos
 exact ⟨Gm.sgn_pos k.ne, a3, jt .., a1, a2⟩
theorem zU {xs : List Int} {m : Nat} (h : xs.length = m) : xs = (List.range m).map (fx xs) := by
 rw [<- h]
 exact (range_getD 0 xs).symm
theorem Jd : ∀ (xs : List Int), xs.sum = Gm.sm xs.length (fx xs) := by
 intro xs
 have h := mF xs
 have e : xs.map (fun _ => (1 : Int)) = xs.map fun _ => 1 := rfl
 have h2 := wQ xs.length (xs.map fun _ => 1) (fx xs) (List.length_map ..)
 rw [<- zU rfl, h] at h2
 rw [h2]
 refine Gm.sm_congr fun j hj => ?_
 have : (xs.map fun _ => (1 : Int)).getD j 0 = 1 := by
  rw [List.getD_eq_getElem?_getD, List.getElem?_map, List.getElem?_eq_getElem hj]
  rfl
 rw [this, Int.one_mul]
theorem Mx.sm {xs : List Int} {X : Int} {m : Nat} (h : Mx xs X m) : Gm.sm m (fx xs) = X := by
 rw [<- h.sum, Jd, h.len]
theorem Mx.fn {xs : List Int} {X : Int} {m : Nat} (h : Mx xs X m) {i : Nat} (hi : i < m) : 0 <= fx xs i := h.nn _ (by
 unfold fx
 rw [List.getD_eq_getElem?_getD, List.getElem?_eq_getElem (by rw [h.len]; exact hi)]
 exact List.getElem_mem _)
theorem jA {U : List (List Int)} {m n : Nat} (g : Gd U m n) {i : Nat} (hi : i < m) {ys : List Int} (hy : ys.length = n) : Fr.dot (U.getD i []) ys = Gm.sm n fun j => Gm.cell U i j * fx ys j := by
 have := d9 g hi (fx ys)
 rw [<- zU hy] at this
 exact this
theorem Br {xs : List Int} {X : Int} {m i : Nat} (h : Mx xs X m) (hi : i < m) : (mks xs X).getD i (0, 0) = (0, 1) ↔ fx xs i = 0 := by
 have e : (mks xs X).getD i (0, 0) = Fr.mk (fx xs i) X := by
  refine dm ?_
  unfold mks
  rw [List.getElem?_map, List.getElem?_eq_getElem (by rw [h.len]; exact hi)]
  unfold fx
  rw [List.getD_eq_getElem?_getD, List.getElem?_eq_getElem (by rw [h.len]; exact hi)]
  rfl
 rw [e]
 constructor
 ·intro z
  have := Fr.mk_ratio (a := fx xs i) h.pos
  rw [z] at this
  simp at this
  exact this.symm
 ·intro z
  rw [z, Fr.mk_zero h.pos]
theorem Ej {U : List (List Int)} {m n : Nat} {xs ys : List Int} {X S : Int} (g : Gd U m n) (hx : Mx xs X m) (hy : Mx ys S n) :
  abB U m (mks xs X) (mks ys S) = true ↔ ∀ i, i < m -> fx xs i = 0 \/ ∀ i', i' < m -> Gm.sm n (fun j => Gm.cell U i' j * fx ys j) <= Gm.sm n (fun j => Gm.cell U i j * fx ys j) := by
 unfold abB
 rw [List.all_eq_true]
 have best : ∀ i, i < m -> (mj U (mks ys S) i = true ↔ ∀ i', i' < m -> Gm.sm n (fun j => Gm.cell U i' j * fx ys j) <= Gm.sm n (fun j => Gm.cell U i j * fx ys j)) := fun i hi => by
  unfold mj
  rw [Bool.not_eq_true', List.any_eq_false]
  constructor
  ·intro h i' hi'
   have := h _ (g.row hi').1
   rw [bR hy.pos (g.sz (g.row hi).1) hy.gq, bR hy.pos (g.sz (g.row hi').1) hy.gq] at this
   unfold ltQ at this
   rw [gO hy.pos, decide_eq_true_iff, jA g hi hy.len, jA g hi' hy.len] at this
   omega
  ·intro h r hr'
   obtain ⟨i', hi', rfl⟩ := jV hr'
   rw [g.rows] at hi'
   rw [bR hy.pos (g.sz (g.row hi).1) hy.gq, bR hy.pos (g.sz (g.row hi').1) hy.gq]
   unfold ltQ
   rw [gO hy.pos, decide_eq_true_iff, jA g hi hy.len, jA g hi' hy.len]
   have := h i' hi'
   omega
 constructor
 ·intro h i hi
  have := h i (List.mem_range.mpr hi)
  rw [Bool.or_eq_true, decide_eq_true_iff] at this
  rcases this with z | z
  ·exact .inl ((Br hx hi).mp z)
  ·exact .inr ((best i hi).mp z)
 ·intro h i hi
  have hi := List.mem_range.mp hi
  rw [Bool.or_eq_true, decide_eq_true_iff]
  rcases h i hi with z | z
  ·exact .inl ((Br hx hi).mpr z)
  ·exact .inr ((best i hi).mpr z)
theorem n6 {U : List (List Int)} {m n i j : Nat} (g : Gd U m n) (hi : i < m) (hj : j < n) : Gm.cell (cols U n) j i = Gm.cell U i j := by
 show ((cols U n).getD j []).getD i 0 = (U.getD i []).getD j 0
 have e : (cols U n).getD j [] = U.map fun r => r.getD j 0 := by
  refine dm ?_
  unfold cols
  rw [List.getElem?_map, List.getElem?_range hj]
  rfl
 rw [e]
 exact map_getD (fun r => r.getD j 0) U 0 (by rw [g.rows]; exact hi)
def nI (R : List Nat) : List Int := R.map fun (i : Nat) => (i : Int)
theorem cC (R : List Nat) : (nI R).length = R.length := List.length_map ..
theorem rQ : ∀ {R R' : List Nat}, nI R = nI R' -> R = R'
 | [], [], _ => rfl
 | [], _ :: _, h => by cases h
 | _ :: _, [], h => by cases h
 | a :: R, b :: R', h => by
  have h' : ((a : Int) :: nI R) = (b : Int) :: nI R' := h
  injection h' with h1 h2
  have : a = b := by omega
  rw [this, rQ h2]
theorem yR {R : List Nat} {i : Nat} (h : i < R.length) : (nI R)[i]? = some ((R.getD i 0 : Nat) : Int) := by
 unfold nI
 rw [List.getElem?_map, List.getElem?_eq_getElem h, List.getD_eq_getElem?_getD, List.getElem?_eq_getElem h]
 rfl
theorem mem_nI {R : List Nat} {i : Nat} : (i : Int) ∈ nI R ↔ i ∈ R := by
 unfold nI
 rw [List.mem_map]
 constructor
 ·rintro ⟨j, hj, e⟩
  have : j = i := by omega
  rw [<- this]; exact hj
 ·exact fun h => ⟨i, h, rfl⟩
theorem Ab {R : List Nat} {i : Nat} (h : i ∈ R) : ∃ k, k < R.length /\ R.getD k 0 = i := by
 obtain ⟨k, hk, e⟩ := List.getElem_of_mem h
 exact ⟨k, hk, by rw [List.getD_eq_getElem?_getD, List.getElem?_eq_getElem hk, e]; rfl⟩
theorem iw {α β : Type} (f : α -> β) (l : List α) (d : α) (e : β) {i : Nat} (h : i < l.length) : (l.map f).getD i e = f (l.getD i d) := by
 rw [List.getD_eq_getElem?_getD, List.getD_eq_getElem?_getD, List.getElem?_map, List.getElem?_eq_getElem h]
 rfl
def bN (U : List (List Int)) (R C : List Nat) : List (List Int) := R.map fun i => C.map fun j => Gm.cell U i j
theorem tX (U : List (List Int)) (R C : List Nat) : (bN U R C).length = R.length := List.length_map ..
theorem qJ {U : List (List Int)} {R C : List Nat} {i j : Nat} (hi : i < R.length) (hj : j < C.length) : Gm.cell (bN U R C) i j = Gm.cell U (R.getD i 0) (C.getD j 0) := by
 show ((bN U R C).getD i []).getD j 0 = _
 rw [show (bN U R C).getD i [] = C.map fun j => Gm.cell U (R.getD i 0) j from iw (fun i => C.map fun j => Gm.cell U i j) R 0 [] hi, iw _ C 0 0 hj]
structure Pl (m n : Nat) (R C : List Nat) : Prop where
 r : ∀ i ∈ R, i < m
 c : ∀ j ∈ C, j < n
 rn : R ≠ []
 cn : C ≠ []
 rd : R.Nodup
 cd : C.Nodup
 rl : R.length <= 4
 cl : C.length <= 4
theorem Pl.swap {m n : Nat} {R C : List Nat} (h : Pl m n R C) : Pl n m C R := ⟨h.c, h.r, h.cn, h.rn, h.cd, h.rd, h.cl, h.rl⟩
theorem yM {A B : Nat -> Nat -> Int} {m n : Nat} {R C : List Nat} (m1 : 1 <= m) (m4 : m <= 4) (n1 : 1 <= n) (n4 : n <= 4) (h : Gm.Str A B m n R C) : Pl m n R C := by
 have l1 : R.length <= m := by
  obtain ⟨p, rfl⟩ := h.form
  exact Nat.le_trans (List.length_filter_le _ _) (by rw [List.length_range]; exact Nat.le_refl _)
 have l2 : C.length <= n := by
  obtain ⟨p, rfl⟩ := h.swap.form
  exact Nat.le_trans (List.length_filter_le _ _) (by rw [List.length_range]; exact Nat.le_refl _)
 exact ⟨h.lt, h.swap.lt, h.ne1 m1, h.ne2 n1, h.nodup, h.swap.nodup, by omega, by omega⟩
theorem FP {U : List (List Int)} {m n : Nat} (g : Gd U m n) {i j : Nat} (hi : i < m) (hj : j < n) : Gm.cell U i j ∈ U.getD i [] := by
 show (U.getD i []).getD j 0 ∈ U.getD i []
 rw [List.getD_eq_getElem?_getD (l := U.getD i []), List.getElem?_eq_getElem (by rw [(g.row hi).2]; exact hj)]
 exact List.getElem_mem _
theorem gf {U : List (List Int)} {m n : Nat} {R C : List Nat} (gG : Good U m n) (h : Pl m n R C) : Good (bN U R C) R.length C.length := by
 refine ⟨List.length_pos_iff.mpr h.rn, h.rl, List.length_pos_iff.mpr h.cn, h.cl, tX .., fun r hr => ?_, fun r hr x hx => ?_⟩
 ·obtain ⟨i, _, rfl⟩ := List.mem_map.mp hr
  exact List.length_map ..
 ·obtain ⟨i, hi, rfl⟩ := List.mem_map.mp hr
  obtain ⟨j, hj, rfl⟩ := List.mem_map.mp hx
  exact gG.num _ ((bH gG).row (h.r i hi)).1 _ (FP (bH gG) (h.r i hi) (h.c j hj))
theorem vD {U : List (List Int)} {m n : Nat} (gG : Good U m n) : Good (cols U n) n m := by
 have g := bH gG
 refine ⟨g.n1, g.n4, g.m1, g.m4, jM U n, fun r hr => by rw [jO hr, g.rows], fun r hr x hx => ?_⟩
 unfold cols at hr
 obtain ⟨j, hj, rfl⟩ := List.mem_map.mp hr
 obtain ⟨r, hr', rfl⟩ := List.mem_map.mp hx
 have hj' : j < r.length := by rw [g.cols r hr']; exact List.mem_range.mp hj
 exact gG.num r hr' (r.getD j 0) (by rw [List.getD_eq_getElem?_getD, List.getElem?_eq_getElem hj']; exact List.getElem_mem hj')
theorem yj {W : List (List Int)} {m n : Nat} {R C : List Nat} (g : Gd W m n) (h : Pl m n R C) : cols (bN W R C) C.length = bN (cols W n) C R := by
 have e : bN (cols W n) C R = (List.range C.length).map fun l => R.map fun i => Gm.cell (cols W n) (C.getD l 0) i := by
  unfold bN
  have := range_getD 0 C
  exact (congrArg (List.map fun j => R.map fun i => Gm.cell (cols W n) j i) this.symm).trans (List.map_map ..)
 rw [e]
 unfold cols
 refine List.map_congr_left fun l hl => ?_
 have hl := List.mem_range.mp hl
 unfold bN
 rw [List.map_map]
 refine List.map_congr_left fun i hi => ?_
 show (C.map fun j => Gm.cell W i j).getD l 0 = _
 rw [iw _ C 0 0 hl]
 exact (n6 g (h.r i hi) (h.c _ (Gm.getD_mem hl))).symm
theorem Dr : ∀ (qs : List (Int × Int)), (∀ q ∈ qs, Pq q) -> ∃ (ws : List Int) (S : Int), 0 < S /\ qs = mks ws S
 | [], _ => ⟨[], 1, by decide, rfl⟩
 | q :: qs, h => by
  obtain ⟨ws, S, hS, e⟩ := Dr qs fun x hx => h x (by simp [hx])
  have hq := h q (by simp)
  refine ⟨(q.1 * S) :: ws.map fun w => q.2 * w, q.2 * S, Int.mul_pos hq.pos hS, ?_⟩
  show q :: qs = Fr.mk (q.1 * S) (q.2 * S) :: mks (ws.map fun w => q.2 * w) (q.2 * S)
  have e1 : Fr.mk (q.1 * S) (q.2 * S) = q := by
   exact (Fr.mk_cross (c := q.1) (d := q.2) (Int.mul_pos hq.pos hS) hq.pos (by grind)).trans hq.mk_eq
  have e2 : mks (ws.map fun w => q.2 * w) (q.2 * S) = mks ws S := by
   unfold mks
   rw [List.map_map]
   exact List.map_congr_left fun w _ => Fr.mk_cross (Int.mul_pos hq.pos hS) hS (by grind)
  rw [e1, e2, e]
theorem G3 {qs : List (Int × Int)} {n : Nat} (g : GQ qs) (h : dD qs n = true) : ∃ (ws : List Int) (S : Int), qs = mks ws S /\ Mx ws S n := by
 obtain ⟨ws, S, hS, rfl⟩ := Dr qs g.pr
 refine ⟨ws, S, rfl, ?_⟩
 have hl := yU h
 unfold dD at h
 simp only [Bool.and_eq_true, decide_eq_true_eq] at h
 obtain ⟨⟨_, h2⟩, h3⟩ := h
 have e := bR (r := ws.map fun _ => 1) hS (fun x hx => by obtain ⟨_, _, rfl⟩ := List.mem_map.mp hx; unfold Sz; decide) g
 have e0 : aZ (ws.map fun _ => (1 : Int)) (mks ws S) = Fr.mk (acc (ones (mks ws S))).1 (acc (ones (mks ws S))).2 := by
  unfold aZ
  rw [<- m5, show (ws.map fun _ => (1 : Int)) = (mks ws S).map fun _ => (1 : Int) by unfold mks; rw [List.map_map]; rfl]
 rw [e0, h3, mF] at e
 refine ⟨hS, g, by rw [<- hl, cQ], fun x hx => ?_, ?_⟩
 ·have hx' : Fr.mk x S ∈ mks ws S := List.mem_map_of_mem hx
  have h4 := List.all_eq_true.mp h2 _ hx'
  have h5 := of_decide_eq_true h4
  have h6 := Fr.mk_ratio (a := x) hS
  have h7 := Fr.mk_pos (a := x) hS
  refine Decidable.byContradiction fun hc => ?_
  have h8 := Int.mul_nonneg h5 (Int.le_of_lt hS)
  have h9 : x * (Fr.mk x S).2 < 0 := Int.mul_neg_of_neg_of_pos (by omega) h7
  omega
 ·have h6 := Fr.mk_ratio (a := ws.sum) hS
  rw [<- e] at h6
  simp at h6
  exact h6.symm
theorem Hk {x d S : Int} (hS : 0 < S) (h : ltQ (x, 1) (Fr.mk d S) = true) : x * S < d := by
 unfold ltQ at h
 have h := of_decide_eq_true h
 have h' : x * (Fr.mk d S).2 < (Fr.mk d S).1 * 1 := h
 have h6 := Fr.mk_ratio (a := d) hS
 have h7 := Fr.mk_pos (a := d) hS
 have h8 := Int.mul_lt_mul_of_pos_right h' hS
 refine Int.lt_of_mul_lt_mul_right (a := (Fr.mk d S).2) ?_ (Int.le_of_lt h7)
 grind
theorem Eu {R : List Nat} (h : R.Nodup) {i j : Nat} (hi : i < R.length) (hj : j < R.length) (e : R.getD i 0 = R.getD j 0) : i = j := by
 rw [List.getD_eq_getElem?_getD, List.getD_eq_getElem?_getD, List.getElem?_eq_getElem hi, List.getElem?_eq_getElem hj] at e
 have e' : R[i] = R[j] := e
 refine Decidable.byContradiction fun hne => ?_
 have hp := List.pairwise_iff_getElem.mp h
 rcases Nat.lt_or_gt_of_ne hne with z | z
 ·exact hp i j hi hj z e'
 ·exact hp j i hj hi z e'.symm
theorem Hy {U : List (List Int)} {m n k : Nat} {R C : List Nat} {qs : List (Int × Int)} (gG : Good U m n) (pl : Pl m n R C) (hk : k < R.length) (gq : GQ qs) (h : eV (bN U R C) R.length C.length k qs = true) : Gm.Bt (Gm.cell U) m R C (R.getD k 0) := by
 have g' := bH (gf gG pl)
 have gc := gk g'
 unfold eV at h
 rw [Bool.and_eq_true, Bool.and_eq_true] at h
 obtain ⟨⟨h1, h2⟩, h3⟩ := h
 obtain ⟨ws, S, rfl, mx⟩ := G3 gq h1
 have hz := (Br mx hk).mp (of_decide_eq_true h2)
 refine Gm.Bt.of (fx ws) pl.r (fun k hk => mx.fn hk) (fun k' hk' e => ?_) (by rw [mx.sm]; exact mx.pos) fun j hj => ?_
 ·rw [Eu pl.rd hk' hk e]; exact hz
 ·obtain ⟨l, hl, rfl⟩ := Ab hj
  have h4 := List.all_eq_true.mp h3 _ (gc.row hl).1
  rw [bR mx.pos (gc.sz (gc.row hl).1) mx.gq, jA gc hl mx.len] at h4
  have h5 := Hk mx.pos h4
  have e1 : ((cols (bN U R C) C.length).getD l []).getD k 0 = Gm.cell U (R.getD k 0) (C.getD l 0) := (n6 g' hk hl).trans (qJ hk hl)
  rw [e1] at h5
  rw [mx.sm]
  rw [Gm.sm_congr (g := fun i => fx ws i * Gm.cell U (R.getD i 0) (C.getD l 0)) fun i hi => by rw [n6 g' hi hl, qJ hi hl, Int.mul_comm]] at h5
  exact h5
theorem Gy {U : List (List Int)} {m n k : Nat} {R C : List Nat} {qs : List (Int × Int)} (gG : Good U m n) (pl : Pl m n R C) (hk : k < R.length) (gq : GQ qs) (h : gj (bN U R C) C.length k qs = true) : ¬ Gm.Bt (Gm.cell U) m R C (R.getD k 0) := by
 have g' := bH (gf gG pl)
 unfold gj at h
 rw [Bool.and_eq_true] at h
 obtain ⟨h1, h2⟩ := h
 obtain ⟨ws, S, rfl, mx⟩ := G3 gq h1
 rw [Bool.not_eq_true', List.any_eq_false] at h2
 refine Gm.Bt.not (fx ws) (fun l hl => mx.fn hl) (by rw [mx.sm]; exact mx.pos) fun i hi => ?_
 obtain ⟨k', hk', rfl⟩ := Ab hi
 have := h2 _ (g'.row hk').1
 rw [bR mx.pos (g'.sz (g'.row hk).1) mx.gq, bR mx.pos (g'.sz (g'.row hk').1) mx.gq] at this
 unfold ltQ at this
 rw [gO mx.pos, decide_eq_true_iff, jA g' hk mx.len, jA g' hk' mx.len] at this
 have e : ∀ k, k < R.length -> (Gm.sm C.length fun j => Gm.cell (bN U R C) k j * fx ws j) = Gm.sm C.length fun l => Gm.cell U (R.getD k 0) (C.getD l 0) * fx ws l := fun k hk => Gm.sm_congr fun l hl => by rw [qJ hk hl]
 rw [e k hk, e k' hk'] at this
 omega
noncomputable def ubB (U : List (List Int)) (m : Nat) (R C : List Nat) (r : Nat) : Bool := @decide (¬ Gm.Bt (Gm.cell U) m R C r) (Classical.propDecidable _)
theorem Gn {U : List (List Int)} {m r : Nat} {R C : List Nat} (h : ubB U m R C r = false) : Gm.Bt (Gm.cell U) m R C r := Classical.not_not.mp (@of_decide_eq_false _ (Classical.propDecidable _) h)
theorem Gh {U : List (List Int)} {m r : Nat} {R C : List Nat} (h : ubB U m R C r = true) : ¬ Gm.Bt (Gm.cell U) m R C r := @of_decide_eq_true _ (Classical.propDecidable _) h
theorem G9 {U : List (List Int)} {m n k : Nat} {R C : List Nat} {qs : List (Int × Int)} {b : Bool} (gG : Good U m n) (pl : Pl m n R C) (hk : k < R.length) (gq : GQ qs) (h : wdB b (bN U R C) R.length C.length k qs = true) : ubB U m R C (R.getD k 0) = !b := by
 cases b with
 | true => exact @decide_eq_false _ (Classical.propDecidable _) (fun z => z (Hy gG pl hk gq h))
 | false => exact @decide_eq_true _ (Classical.propDecidable _) (Gy gG pl hk gq h)
def tR : Sp := fun vs H Q _ => ∃ (a lr lc : Addr) (U : List (List Int)) (m n : Nat) (R C : List Nat), vs = [.ref a, .ref lr, .ref lc] /\ IsTab H a U /\ Gd U m n /\ H lr = some (.lst ((nI R).map V.int)) /\ H lc = some (.lst ((nI C).map V.int)) /\ Pl m n R C /\
 ∀ p H', Same H H' -> OwnTab H H' p (bN U R C) -> Q (.ref p) H'
theorem Aq {U : List (List Int)} (i : Nat) (C : List Nat) : (nI C).map (fun c => Gm.cell U i c.toNat) = C.map fun j => Gm.cell U i j := by
 unfold nI
 rw [List.map_map]
 exact List.map_congr_left fun j _ => rfl
abbrev wG : Stmt := top 57
theorem Hi : FnScope ["table", "rows", "columns", "found", "row"] ["table", "rows", "columns"] (aC wG) := ⟨rfl, rfl, rfl, by decide +kernel, rfl, by decide +kernel, by decide +kernel⟩
theorem HB (F : FunM K mg "part" wG ["table", "rows", "columns"]) (T : Blt mg) : Def P w K mg base "part" ["table", "rows", "columns"] 1 tR := by
 have S := Hi
 refine Def.of F S (fun vs H Q E h => ?_) (fun f cdv A outer s H vs Q E hr h => ?_)
 ·obtain ⟨a, lr, lc, U, m, n, R, C, rfl, _⟩ := h
  rfl
 ·obtain ⟨a, lr, lc, U, m, n, R, C, rfl, hU, g, hlr, hlc, pl, k⟩ := h
  have rl := pl.rl
  have cl := pl.cl
  refine ⟨_, (aA (aO (i := 3) S.nd rfl (Or.inl rfl) (bO ao))
   (aA (bU PassesOwn.never rfl (piL K (pv 1)) (aG (i := 4) S.nd rfl (Or.inr rfl))
    (aB (cu (g8 PySem.F.plainAttrs_list PySem.F.slot_list_append PySem.F.type_list_append dH (pv 3) (aa (aX rfl (N' := ["column", "table", "row"]) (src := [none, some 0, some 4]) rfl (piL K (pv 2)) (fun _ _ _ _ _ => (aG (i := 0) (show (["column", "table", "row"] : List Str).Nodup from by decide +kernel) rfl (Or.inl rfl))) (fun _ _ _ _ _ => aW) (fun _ _ _ _ _ => (aP (ixL K) (aP (ixL K) (pv 1) (pv 2) (fun _ _ => rfl)) (pv 0) (fun _ _ => rfl)))) ao aU)))))
   (aB (aN (pv 3))))), ?_⟩
  refine ⟨Nat.zero_le _, fun l hl => ?_⟩
  have sl := ak (o := .lst []) hl
  have hll : upd H l (.lst []) l = some (.lst []) := aq
  have nl : lr ≠ l := fun e => by rw [e, hl] at hlr; cases hlr
  generalize upd H l (.lst []) = H1 at sl hll ⊢
  refine ⟨_, rfl, lr, rfl, ⟨_, SqL.of (sl _ _ hlr)⟩, cM (K := K) (a := lr) (xs := (nI R).map V.int) (fun i σ H' => ∃ o4 xs, σ = [some (.ref a), some (.ref lr), some (.ref lc), some (.ref l), o4] /\ Same H H' /\ H' l = some (.lst xs) /\ Paired (RowX H l H') xs ((bN U R C).take i))
   ⟨_, [], rfl, sl, hll, by simpa using Paired.nil⟩ ?_ ?_ ?_⟩
  ·rintro i σ H5 _ ⟨_, _, _, s5, _⟩
   exact SqL.of (s5 _ _ hlr)
  ·rintro i y σ H5 hi ⟨o4, xs, rfl, s5, hL, hP⟩
   obtain ⟨rfl, hi'⟩ := int_at hi
   rw [cC] at hi'
   have ei : (nI R).getD i 0 = ((R.getD i 0 : Nat) : Int) := dm (yR hi')
   rw [ei]
   have him := pl.r _ (Gm.getD_mem hi')
   obtain ⟨vs, b, ha, h0, at0, hb⟩ := hU.row (i := R.getD i 0) (by rw [g.rows]; exact him)
   have hlc5 := s5 _ _ hlc
   refine ⟨_, rfl, .inl ⟨rfl, _, SqL.of hL⟩, _, rfl, lc, rfl, ⟨_, SqL.of hlc5⟩, iu (fun c => Gm.cell U (R.getD i 0) c.toNat) (SqL.of hlc5) (by rw [cC]; omega) ?_ ?_⟩
   ·intro c hc H6 s6 Q' q
    obtain ⟨j, hj, rfl⟩ := List.mem_map.mp hc
    have s56 := s5.trans s6
    refine ⟨_, rfl, _, rfl, a, vs, ((R.getD i 0 : Nat) : Int), _, rfl, rfl, SqL.of (s56 _ _ ha), at0, _, rfl, b, _, (j : Int), _, rfl, rfl, SqL.of (s56 _ _ hb), fV (by rw [(g.row him).2]; exact pl.c j hj), q H6 (Same.refl _)⟩
   ·intro H6 s6 q hq
    rw [Aq]
    have hL6 := s6 _ _ hL
    have nq : q ≠ l := fun e => by rw [e, hL6] at hq; cases hq
    have xl : xs.length <= 4 := by rw [hP.length, List.length_take, tX]; omega
    refine ⟨l, xs, .ref q, rfl, rfl, ak hq _ _ hL6, aJ (by omega), ?_⟩
    refine ⟨_, _, rfl, di ((s5.trans s6).trans (ak hq)) hl, aq, ?_⟩
    have et : (bN U R C)[i]? = some (C.map fun j => Gm.cell U (R.getD i 0) j) := by
     unfold bN
     rw [List.getElem?_map, Aw 0 hi']
     rfl
    rw [gK et]
    refine (hP.imp2 fun _ _ z => ((z.mono s6).mono (ak hq)).at).app2 (.cons ⟨q, rfl, nq, (s5.trans s6).free hq, ?_⟩ .nil)
    rw [aH nq, aq]
  ·rintro σ H5 ⟨o4, xs, rfl, s5, hL, hP⟩
   rw [List.length_map, cC, <- tX U R C, List.take_length] at hP
   exact ⟨_, rfl, k l H5 s5 ⟨xs, hl, hL, hP.imp2 fun _ _ z => z.own⟩⟩
noncomputable def sp_unbeaten : Sp := fun vs H Q _ => ∃ (a l : Addr) (U : List (List Int)) (m n : Nat) (R C : List Nat), vs = [.ref a, .ref l] /\ IsTab H a (bN U R C) /\ Good U m n /\ H l = some (.lst ((nI R).map V.int)) /\ Pl m n R C /\
 ∀ p H', New H H' p (.lst ((nI (R.filter (ubB U m R C))).map V.int)) -> Q (.ref p) H'
abbrev lN : Stmt := top 58
theorem zm : FnScope ["table", "places"] ["table", "places"] (aC lN) := ⟨rfl, rfl, rfl, by decide +kernel, rfl, by decide +kernel, by decide +kernel⟩
theorem zp {CB CE : Addr} (F : FunM K mg "unbeaten" lN ["table", "places"]) (T : Blt mg) (C_Beaten : Cl K mg "Beaten" ["mixture"] [] CB) (C_Best : Cl K mg "Best" ["mixture"] [] CE) (I_Beaten : Isi K CB) (I_Best : Isi K CE)
  (iR : PySem.W.kitOne K (.ref CB) (.ref CE) = some false) (dY : PySem.W.kitOne K (.ref CE) (.ref CE) = some true) (gH : Def P w K mg base "beaten" ["table", "row"] 11 (nH CB CE)) : Def P w K mg base "unbeaten" ["table", "places"] 12 sp_unbeaten := by
 have S := zm
 refine Def.of F S (fun vs H Q E h => ?_) (fun f cdv A outer s H vs Q E hr h => ?_)
 ·obtain ⟨a, l, U, m, n, R, C, rfl, _⟩ := h
  rfl
 ·obtain ⟨a, l, U, m, n, R, C, rfl, hT, gG, hl, pl, k⟩ := h
  have rl := pl.rl
  have gs := gf gG pl
  refine ⟨_, (aB (aN (aX rfl (N' := ["row", "place", "table"]) (src := [none, none, some 0]) rfl (wV K rfl T.enumerate_ (aa (pv 1) ao aj)) (fun _ _ _ _ _ => (pgT K (n := 2) (a_ (aG (i := 0) (show (["row", "place", "table"] : List Str).Nodup from by decide +kernel) rfl (Or.inl rfl)) (a_ (aG (i := 1) (show (["row", "place", "table"] : List Str).Nodup from by decide +kernel) rfl (Or.inl rfl)) cH)))) (fun _ _ _ _ _ => (uv (bG (aM (Bq K) (by rfl) T.isinstance_ bD (aa (aF gH (hr.mono (by decide)) rfl (aa (pv 2) (aa (pv 0) ao aj) aj) (he := aj)) (aa (peC C_Best.mg_ rfl) ao aj) aR) (he := aR))))) (fun _ _ _ _ _ => (pv 1))))), ?_⟩
  refine ⟨_, rfl, l, _, rfl, hl, nG (K := K) (xs := (nI R).map V.int) (fun i zs H' => zs = (nI ((R.take i).filter (ubB U m R C))).map V.int /\ Same H H') ⟨rfl, Same.refl _⟩ ?_ (by rw [List.length_map, cC]; exact Nat.le_of_lt (aJ (by omega))) ?_ ?_⟩
  ·rintro i zs H' ⟨rfl, s5⟩
   refine ⟨SqL.of (s5 _ _ hl), ?_⟩
   rw [List.length_map, cC]
   refine Nat.le_trans (List.length_filter_le _ _) ?_
   rw [List.length_take]
   omega
  ·rintro i x q zs H' hi hq ⟨rfl, s5⟩
   obtain ⟨rfl, hi'⟩ := int_at hi
   rw [cC] at hi'
   have ei : (nI R).getD i 0 = ((R.getD i 0 : Nat) : Int) := dm (yR hi')
   rw [ei]
   have s6 := s5.trans (ak (o := .tup [.int i, .int ((R.getD i 0 : Nat) : Int)]) hq)
   have et : R.take (i + 1) = R.take i ++ [R.getD i 0] := gK (Aw 0 hi')
   refine ⟨q, _, rfl, SqT.of aq, rfl, _, _, rfl, _, _, rfl, rfl, ?_⟩
   refine ⟨_, rfl, _, rfl, a, bN U R C, R.length, C.length, i, rfl, hT.mono s6, gs, hi', fun p dx l' H7 b qs s7 np nl hins hl' gq hw => ?_⟩
   have ub := G9 gG pl hi' gq hw
   cases b with
   | true =>
    have hins : H7 p = some (.ins CB dx (mZ l')) := hins
    refine ⟨_, _, _, _, rfl, I_Beaten.ty C_Beaten.cl hins, iR, _, rfl, ?_⟩
    refine cD ?_
    refine ⟨?_, s6.trans s7⟩
    rw [et, List.filter_append, List.filter_cons_of_neg (by rw [ub]; decide), List.filter_nil, List.append_nil]
   | false =>
    have hins : H7 p = some (.ins CE dx (mZ l')) := hins
    refine ⟨_, _, _, _, rfl, I_Best.ty C_Best.cl hins, dY, _, rfl, ?_⟩
    refine d_ ?_
    refine ⟨_, rfl, ?_, s6.trans s7⟩
    rw [et, List.filter_append, List.filter_cons_of_pos (by rw [ub]; rfl), List.filter_nil]
    unfold nI
    rw [List.map_append, List.map_append]
    rfl
  ·rintro zs H' ⟨rfl, s5⟩ l' hl'
   rw [List.length_map, cC, List.take_length]
   exact k l' _ (New.of s5 hl')
def IK (U W : List (List Int)) (m n : Nat) (R C : List Nat) : Prop := Gm.Str (Gm.cell U) (Gm.cell (cols W n)) m n R C /\ Gm.End (Gm.cell U) (Gm.cell (cols W n)) m n R C
def vB : Sp := fun vs H Q _ => ∃ (a b : Addr) (U W : List (List Int)) (m n : Nat), vs = [.ref a, .ref b] /\ IsTab H a U /\ Good U m n /\ IsTab H b W /\ Good W m n /\
 ∀ p lr lc R C H', Same H H' -> H lr = none -> H lc = none -> lr ≠ lc -> H' p = some (.tup [.ref lr, .ref lc]) -> H' lr = some (.lst ((nI R).map V.int)) -> H' lc = some (.lst ((nI C).map V.int)) -> IK U W m n R C -> Q (.ref p) H'
def stW (H : Hp) (a b : Addr) (U W : List (List Int)) (m n k : Nat) (σ : St) (H' : Hp) : Prop := ∃ (lr lc : Addr) (R C : List Nat) (o4 o5 : Option V), k = R.length + C.length /\ σ = [some (.ref a), some (.ref b), some (.ref lr), some (.ref lc), o4, o5] /\ Same H H' /\ H lr = none /\ H lc = none /\ lr ≠ lc /\
 H' lr = some (.lst ((nI R).map V.int)) /\ H' lc = some (.lst ((nI C).map V.int)) /\ Gm.Str (Gm.cell U) (Gm.cell (cols W n)) m n R C
theorem lZ (m : Nat) : ((List.range m).map fun (i : Nat) => V.int i) = (nI (List.range m)).map V.int := by
 unfold nI
 rw [List.map_map]
 rfl
theorem fU {H : Hp} {a : Addr} {r : List Int} (h : H a = some (.lst (r.map V.int))) : Rep K H (bY r) (.ref a) := by
 unfold bY Rep
 exact ⟨a, _, rfl, SqL.of h, oR r⟩
theorem qi {r t : List Int} (h : eqD (bY r) (bY t) = true) : r = t := by
 have e := rT h
 unfold bY at e
 injection e with e
 have inj : ∀ {r t : List Int}, r.map D.int = t.map D.int -> r = t := by
  intro r
  induction r with
  | nil => intro t h; cases t with
   | nil => rfl
   | cons => cases h
  | cons x r ih => intro t h; cases t with
   | nil => cases h
   | cons y t =>
    injection h with h1 h2
    injection h1 with h1
    rw [h1, ih h2]
 exact inj e
theorem wg {R : List Nat} {f : Nat -> Bool} (h : R.filter f ≠ R) : (R.filter f).length < R.length := by
 have h1 := List.length_filter_le f R
 refine Decidable.byContradiction fun hc => h ?_
 have h2 : (R.filter f).length = R.length := by omega
 exact List.filter_eq_self.mpr (List.length_filter_eq_length_iff.mp h2)
theorem wX {R : List Nat} {f : Nat -> Bool} (h : R.filter f = R) : ∀ r ∈ R, f r = true := List.filter_eq_self.mp h
abbrev qK : Stmt := top 59
theorem CV : FnScope ["one", "other", "rows", "columns", "rows_left", "columns_left"] ["one", "other"] (aC qK) := ⟨rfl, rfl, rfl, by decide +kernel, rfl, by decide +kernel, by decide +kernel⟩
theorem Cy (F : FunM K mg "struck" qK ["one", "other"]) (T : Blt mg) (cZ : Def P w K mg base "check_alike" ["one", "other"] 5 qj) (qX : Def P w K mg base "part" ["table", "rows", "columns"] 1 tR) (jo : Def P w K mg base "unbeaten" ["table", "places"] 12 sp_unbeaten)
  (bZ : Def P w K mg base "columns_of" ["table"] 2 gU) : Def P w K mg base "struck" ["one", "other"] 13 vB := by
 have S := CV
 refine Def.of F S (fun vs H Q E h => ?_) (fun f cdv A outer s H vs Q E hr h => ?_)
 ·obtain ⟨a, b, U, W, m, n, rfl, _⟩ := h
  rfl
 ·obtain ⟨a, b, U, W, m, n, rfl, hU, gG, hW, gW, k⟩ := h
  have g := bH gG
  have g' := bH gW
  have m1 := g.m1
  have m4 := g.m4
  have n1 := g.n1
  have n4 := g.n4
  obtain ⟨vs, b0, ha, h0, at0, hb0⟩ := hU.row (i := 0) (by rw [g.rows]; exact g.m1)
  have hn : ((U.getD 0 []).map V.int).length = n := by rw [List.length_map, (g.row g.m1).2]
  have vl : vs.length = m := by
   obtain ⟨vs', ha', hp'⟩ := id hU
   rw [ha] at ha'
   cases ha'
   rw [hp'.length, g.rows]
  refine ⟨_, (aA (cu (aF cZ (hr.mono (by decide)) rfl (aa (pv 0) (aa (pv 1) ao aj) aj) (he := aj)))
   (aA (aO (i := 2) S.nd rfl (Or.inl rfl) (j4 rfl (by rfl) T.list_ (by rfl) T.range_ (aa (aM (bK K) (by rfl) T.len_ bj (aa (pv 0) ao aj) (he := aj)) ao aR)))
   (aA (aO (i := 3) S.nd rfl (Or.inl rfl) (j4 rfl (by rfl) T.list_ (by rfl) T.range_ (aa (aM (bK K) (by rfl) T.len_ bj (aa (aP (ixL K) (pv 0) au (fun _ _ => rfl)) ao aK) (he := aK)) ao aR)))
   (aB (qm PassesOwn.never (bG fu)
    (aA (aO (i := 4) S.nd rfl (Or.inl rfl) (aF jo (hr.mono (by decide)) rfl (aa (aF qX (hr.mono (by decide)) rfl (aa (pv 0) (aa (pv 2) (aa (pv 3) ao aj) aj) aj) (he := aj)) (aa (pv 2) ao aj) aR) (he := aR)))
   (aA (aO (i := 5) S.nd rfl (Or.inl rfl) (aF jo (hr.mono (by decide)) rfl (aa (aF bZ (hr.mono (by decide)) rfl (aa (aF qX (hr.mono (by decide)) rfl (aa (pv 1) (aa (pv 2) (aa (pv 3) ao aj) aj) aj) (he := aj)) ao aR) (he := aR)) (aa (pv 3) ao aj) aR) (he := aR)))
   (aA (bB (PW.pt (lG (bh (qH K hr.units) (pv 4) (pv 2) (bf _)) (ju (bh (qH K hr.units) (pv 5) (pv 3) (bf _)))))
    (aB (aN (bz (aa (pv 2) (aa (pv 3) ao aj) aj)))) aY)
   (aA (aO (i := 2) S.nd rfl (Or.inl rfl) (pv 4))
   (aB (aO (i := 3) S.nd rfl (Or.inl rfl) (pv 5)))))))))))), ?_⟩
  refine ⟨_, rfl, _, rfl, a, b, U, W, m, n, rfl, hU, gG, hW, gW, fun H1 s1 => ?_⟩
  refine ⟨_, rfl, a, vs, rfl, .inl (SqL.of (s1 _ _ ha)), vs.length, rfl, by omega, fun lr hlr => ?_⟩
  rw [vl, lZ]
  have s2 := s1.trans (ak (o := .lst ((nI (List.range m)).map V.int)) hlr)
  have hlr' := s1.free hlr
  have e2 : upd H1 lr (.lst ((nI (List.range m)).map V.int)) lr = some (.lst ((nI (List.range m)).map V.int)) := aq
  generalize upd H1 lr (.lst ((nI (List.range m)).map V.int)) = H2 at s2 e2 ⊢
  refine ⟨_, rfl, a, vs, 0, _, rfl, rfl, SqL.of (s2 _ _ ha), at0, b0, _, rfl, .inl (SqL.of (s2 _ _ hb0)), _, rfl, by omega, fun lc hlc => ?_⟩
  rw [hn, lZ]
  have s3 := s2.trans (ak (o := .lst ((nI (List.range n)).map V.int)) hlc)
  have hlc' := s2.free hlc
  have nrc : lr ≠ lc := fun e => by rw [<- e, e2] at hlc; cases hlc
  have e2' := ak (o := .lst ((nI (List.range n)).map V.int)) hlc _ _ e2
  have e3 : upd H2 lc (.lst ((nI (List.range n)).map V.int)) lc = some (.lst ((nI (List.range n)).map V.int)) := aq
  generalize upd H2 lc (.lst ((nI (List.range n)).map V.int)) = H3 at s3 e2' e3 ⊢
  refine ⟨stW H a b U W m n, ⟨_, lr, lc, List.range m, List.range n, _, _, rfl, rfl, s3, hlr', hlc', nrc, e2', e3, .start⟩, ?_⟩
  clear nrc e2' e3 s3 hlc hlc' hlr' hlr e2 s2 s1
  rintro kk σ' H4 ⟨lr, lc, R, C, o4, o5, rfl, rfl, s4, nr, nc, nrc, hR, hC, st⟩
  have pl := yM m1 m4 n1 n4 st
  refine ⟨_, rfl, ?_⟩
  refine d_ ?_
  refine ⟨fun σ2 H2 => ∃ k', k' < R.length + C.length /\ stW H a b U W m n k' σ2 H2, fun _ _ h => h, ?_⟩
  refine ⟨_, rfl, _, rfl, _, rfl, a, lr, lc, U, m, n, R, C, rfl, hU.mono s4, g, hR, hC, pl, fun p1 H5 s5 own1 => ?_⟩
  refine ⟨_, rfl, p1, lr, U, m, n, R, C, rfl, own1.tab, gG, s5 _ _ hR, pl, fun q1 H6 nw1 => ?_⟩
  have s46 := s5.trans nw1.same
  refine ⟨_, rfl, _, rfl, _, rfl, b, lr, lc, W, m, n, R, C, rfl, hW.mono (s4.trans s46), g', s46 _ _ hR, s46 _ _ hC, pl, fun p2 H7 s7 own2 => ?_⟩
  refine ⟨p2, bN W R C, R.length, C.length, rfl, own2.tab, bH (gf gW pl), fun p3 H8 s8 own3 => ?_⟩
  rw [yj g' pl] at own3
  have s48 := (s46.trans s7).trans s8
  refine ⟨_, rfl, p3, lc, cols W n, n, m, C, R, rfl, own3.tab, vD gW, s48 _ _ hC, pl.swap, fun q2 H9 nw2 => ?_⟩
  have s49 := s48.trans nw2.same
  have s69 := (s7.trans s8).trans nw2.same
  have eq1 := s69 _ _ nw1.is
  have eq2 := nw2.is
  have hR9 := s49 _ _ hR
  have hC9 := s49 _ _ hC
  have f1 := ((s4.trans s5).free nw1.new)
  have f2 := ((s4.trans s48).free nw2.new)
  have q12 : q1 ≠ q2 := fun e => by
   have z := nw2.new
   rw [<- e, (s7.trans s8) _ _ nw1.is] at z
   cases z
  have both := st.both m1 n1 (ubB U m R C) (ubB (cols W n) n C R) (fun r _ h => Gn h) (fun c _ h => Gn h)
  refine iG ?_
  refine dR (fun σ' H' => σ' = [some (.ref a), some (.ref b), some (.ref lr), some (.ref lc), some (.ref q1), some (.ref q2)] /\ H' = H9 /\ ¬ (R.filter (ubB U m R C) = R /\ C.filter (ubB (cols W n) n C R) = C)) (fun R0 hR0 => ?_) ?_
  ·refine ⟨_, rfl, _, rfl, _, _, fU eq1, fU hR9, jU _ _, (by rw [jx]; decide), _, rfl, ?_⟩
   by_cases e1 : R.filter (ubB U m R C) = R
   rotate_left
   ·refine ifN (fun z => e1 (rQ (qi z))) ?_
    refine cD ?_
    exact hR0 _ _ ⟨rfl, rfl, fun z => e1 z.1⟩
   refine ifP (by rw [e1]; exact gM _) ?_
   refine ⟨_, rfl, _, rfl, _, _, fU eq2, fU hC9, jU _ _, (by rw [jx]; decide), _, rfl, ?_⟩
   by_cases e2 : C.filter (ubB (cols W n) n C R) = C
   rotate_left
   ·refine ifN (fun z => e2 (rQ (qi z))) ?_
    exact hR0 _ _ ⟨rfl, rfl, fun z => e2 z.2⟩
   refine ifP (by rw [e2]; exact gM _) ?_
   refine ⟨_, rfl, _, rfl, (by show 2 <= sizeLine; decide), fun p hp => ?_⟩
   have sp := ak (o := .tup [.ref lr, .ref lc]) hp
   exact k p lr lc R C _ ((s4.trans s49).trans sp) nr nc nrc aq (sp _ _ hR9) (sp _ _ hC9) ⟨st, fun r hr => Gh (wX e1 r hr), fun c hc => Gh (wX e2 c hc)⟩
  rintro σ' H' ⟨rfl, rfl, hne⟩
  refine ⟨_, rfl, _, rfl, ?_⟩
  refine ⟨_, ?_, q1, q2, _, _, _, _, rfl, rfl, s4.trans s49, f1, f2, q12, eq1, eq2, both⟩
  have l1 := List.length_filter_le (ubB U m R C) R
  have l2 := List.length_filter_le (ubB (cols W n) n C R) C
  by_cases e1 : R.filter (ubB U m R C) = R
  ·have := wg fun e2 => hne ⟨e1, e2⟩
   omega
  ·have := wg e1
   omega
def wF : Sp := tR
theorem yH {H H' : Hp} (f : Nat -> List Int) : ∀ {R : List Nat} {ys : List V}, Paired (fun x y => ∀ i : Nat, x = V.int i -> OwnRow H H' y (f i)) ((nI R).map V.int) ys -> Paired (OwnRow H H') ys (R.map f)
 | [], _, h => by cases h; exact .nil
 | i :: R, _, h => by
  cases h with
  | cons h t => exact .cons (h i rfl) (yH f t)
abbrev j7 : Stmt := top 73
theorem xW : FnScope ["_law_table_here", "_law_rows", "_law_columns"] ["_law_table_here", "_law_rows", "_law_columns"] (aC j7) := ⟨rfl, rfl, rfl, by decide +kernel, rfl, by decide +kernel, by decide +kernel⟩
theorem xu (F : FunM K mg "_law_part" j7 ["_law_table_here", "_law_rows", "_law_columns"]) (T : Blt mg) : Def P w K mg base "_law_part" ["_law_table_here", "_law_rows", "_law_columns"] 1 wF := by
 have S := xW
 refine Def.of F S (fun vs H Q E h => ?_) (fun f cdv A outer s H vs Q E hr h => ?_)
 ·obtain ⟨a, lr, lc, U, m, n, R, C, rfl, _⟩ := h
  rfl
 ·obtain ⟨a, lr, lc, U, m, n, R, C, rfl, hU, g, hlr, hlc, pl, k⟩ := h
  have rl := pl.rl
  have cl := pl.cl
  refine ⟨_, (aB (aN (aX rfl (N' := ["_law_row", "_law_columns", "_law_table_here"]) (src := [none, some 2, some 0]) rfl (piL K (pv 1)) (fun _ _ _ _ _ => (aG (i := 0) (show (["_law_row", "_law_columns", "_law_table_here"] : List Str).Nodup from by decide +kernel) rfl (Or.inr rfl))) (fun _ _ _ _ _ => aW) (fun _ _ _ _ _ => (aX rfl (N' := ["_law_column", "_law_table_here", "_law_row"]) (src := [none, some 2, some 0]) rfl (piL K (pv 1)) (fun _ _ _ _ _ => (aG (i := 0) (show (["_law_column", "_law_table_here", "_law_row"] : List Str).Nodup from by decide +kernel) rfl (Or.inl rfl))) (fun _ _ _ _ _ => aW) (fun _ _ _ _ _ => (aP (ixL K) (aP (ixL K) (pv 1) (pv 2) (fun _ _ => rfl)) (pv 0) (fun _ _ => rfl)))))))), ?_⟩
  refine ⟨_, rfl, lr, rfl, ⟨_, SqL.of hlr⟩, bu (xs := (nI R).map V.int) (fun x y H' => ∀ i : Nat, x = V.int i -> OwnRow H H' y (C.map fun j => Gm.cell U i j)) (fun _ _ _ _ s h i e => (h i e).mono s) (SqL.of hlr) (by rw [List.length_map, cC]; exact Nat.le_of_lt (aJ (by omega))) ?_ ?_⟩
  ·intro x hx H1 s1 Q' q
   obtain ⟨x', hx', rfl⟩ := List.mem_map.mp hx
   obtain ⟨i, hi, rfl⟩ := List.mem_map.mp hx'
   have him := pl.r i hi
   obtain ⟨vs, b, ha, h0, at0, hb⟩ := hU.row (i := i) (by rw [g.rows]; exact him)
   have hlc1 := s1 _ _ hlc
   refine ⟨_, rfl, lc, rfl, ⟨_, SqL.of hlc1⟩, iu (fun c => Gm.cell U i c.toNat) (SqL.of hlc1) (by rw [cC]; omega) ?_ ?_⟩
   ·intro c hc H2 s2 Q2 q2
    obtain ⟨j, hj, rfl⟩ := List.mem_map.mp hc
    have s12 := s1.trans s2
    exact ⟨_, rfl, _, rfl, a, vs, (i : Int), _, rfl, rfl, SqL.of (s12 _ _ ha), at0, _, rfl, b, _, (j : Int), _, rfl, rfl, SqL.of (s12 _ _ hb), fV (by rw [(g.row him).2]; exact pl.c j hj), q2 H2 (Same.refl _)⟩
   ·intro H2 s2 l hl
    rw [Aq]
    refine q _ _ (s2.trans (ak hl)) fun i' e => ?_
    have : i = i' := by
     injection e with e
     omega
    subst this
    exact ⟨l, rfl, (s1.trans s2).free hl, aq⟩
  ·intro ys H1 s1 pr l hl
   exact k l _ (s1.trans (ak hl)) (OwnTab.lay s1 hl (yH (fun i => C.map fun j => Gm.cell U i j) pr))
noncomputable def sp_lbtn : Sp := fun vs H Q _ => ∃ (a : Addr) (U : List (List Int)) (m n k : Nat) (R C : List Nat), vs = [.ref a, .int k] /\ IsTab H a (bN U R C) /\ Good U m n /\ Pl m n R C /\ k < R.length /\ ∀ H', Same H H' -> Q (.int (cond (ubB U m R C (R.getD k 0)) 0 1)) H'
abbrev iK : Stmt := top 74
theorem uH : FnScope ["_law_table_here", "_law_row", "_law_found"] ["_law_table_here", "_law_row"] (aC iK) := ⟨rfl, rfl, rfl, by decide +kernel, rfl, by decide +kernel, by decide +kernel⟩
theorem t_ {CB CE : Addr} (F : FunM K mg "_law_beaten" iK ["_law_table_here", "_law_row"]) (T : Blt mg) (C_Beaten : Cl K mg "Beaten" ["mixture"] [] CB) (C_Best : Cl K mg "Best" ["mixture"] [] CE) (I_Beaten : Isi K CB) (I_Best : Isi K CE)
  (f9 : PySem.W.kitOne K (.ref CB) (.ref CB) = some true) (iU : PySem.W.kitOne K (.ref CE) (.ref CB) = some false) (dY : PySem.W.kitOne K (.ref CE) (.ref CE) = some true) (gH : Def P w K mg base "beaten" ["table", "row"] 11 (nH CB CE))
  (jz : Def P w K mg base "_law_beats" ["_law_table_here", "_law_row", "_law_mixture_here"] 5 vA) (gB : Def P w K mg base "_law_answers" ["_law_table_here", "_law_row", "_law_mixture_here"] 5 yu) : Def P w K mg base "_law_beaten" ["_law_table_here", "_law_row"] 12 sp_lbtn := by
 have S := uH
 refine Def.of F S (fun vs H Q E h => ?_) (fun f cdv A outer s H vs Q E hr h => ?_)
 ·obtain ⟨a, U, m, n, k, R, C, rfl, _⟩ := h
  rfl
 ·obtain ⟨a, U, m, n, kk, R, C, rfl, hT, gG, pl, hk, k⟩ := h
  have gs := gf gG pl
  refine ⟨_, (aA (aO (i := 2) S.nd rfl (Or.inl rfl) (aF gH (hr.mono (by decide)) rfl (aa (pv 0) (aa (pv 1) ao aj) aj) (he := aj)))
   (aA (bB (bG (aM (Bq K) (by rfl) T.isinstance_ bD (aa (pv 2) (aa (peC C_Beaten.mg_ rfl) ao aj) aj) (he := aj)))
    (aB (aN (qg (bG (aF jz (hr.mono (by decide)) rfl (aa (pv 0) (aa (pv 1) (aa (jL (pv 2) rfl) ao eF) aj) aj) (he := aj))) au (pB lw au)))) aY)
   (aB (aN (qg (PW.pt (lG (bG (aM (Bq K) (by rfl) T.isinstance_ bD (aa (pv 2) (aa (peC C_Best.mg_ rfl) ao aj) aj) (he := aj))) (ju (bG (aF gB (hr.mono (by decide)) rfl (aa (pv 0) (aa (pv 1) (aa (jL (pv 2) rfl) ao eF) aj) aj) (he := aj)))))) au (pB lw au)))))), ?_⟩
  refine ⟨_, rfl, _, rfl, a, bN U R C, R.length, C.length, kk, rfl, hT, gs, hk, fun p dx l H1 b qs s1 np nl hins hl gq hw => ?_⟩
  have ub := G9 gG pl hk gq hw
  rw [ub] at k
  cases b with
  | true =>
   have hins : H1 p = some (.ins CB dx (mZ l)) := hins
   have c0 := C_Beaten.no "mixture" (by simp)
   have hw : eV (bN U R C) R.length C.length kk qs = true := hw
   refine ⟨_, rfl, _, _, _, _, rfl, I_Beaten.ty C_Beaten.cl hins, f9, _, rfl, ?_⟩
   refine d_ ?_
   refine ⟨_, rfl, _, rfl, _, rfl, p, CB, dx, _, _, rfl, hins, C_Beaten.cl, c0, yc l, a, l, bN U R C, R.length, C.length, kk, qs, rfl, hT.mono s1, bH gs, hk, hl, gq, fun H2 s2 => ⟨_, rfl, ?_⟩⟩
   rw [hw]
   refine d_ ?_
   exact k H2 (s1.trans s2)
  | false =>
   have hins : H1 p = some (.ins CE dx (mZ l)) := hins
   have c0 := C_Best.no "mixture" (by simp)
   have hw : gj (bN U R C) C.length kk qs = true := hw
   refine ⟨_, rfl, _, _, _, _, rfl, I_Best.ty C_Best.cl hins, iU, _, rfl, ?_⟩
   refine cD ?_
   refine ⟨_, rfl, _, _, _, _, rfl, I_Best.ty C_Best.cl hins, dY, _, rfl, ?_⟩
   refine d_ ?_
   refine ⟨_, rfl, _, rfl, _, rfl, p, CE, dx, _, _, rfl, hins, C_Best.cl, c0, yc l, a, l, bN U R C, R.length, C.length, kk, qs, rfl, hT.mono s1, bH gs, hk, hl, gq, fun H2 s2 => ⟨_, rfl, ?_⟩⟩
   rw [hw]
   refine d_ ?_
   exact k H2 (s1.trans s2)
def vY (m n : Nat) (cs : List (Nat × Nat)) : Prop := cs.length = m + n /\ (∀ i, i < m -> (0, i) ∈ cs) /\ (∀ j, j < n -> (1, j) ∈ cs) /\ ∀ p ∈ cs, (p.1 = 0 /\ p.2 < m) \/ (p.1 = 1 /\ p.2 < n)
theorem yO (m n : Nat) : vY m n (((List.range m).map fun i => (0, i)) ++ (List.range n).map fun j => (1, j)) := by
 refine ⟨by simp, fun i hi => List.mem_append_left _ (List.mem_map.mpr ⟨i, List.mem_range.mpr hi, rfl⟩), fun j hj => List.mem_append_right _ (List.mem_map.mpr ⟨j, List.mem_range.mpr hj, rfl⟩), fun p hp => ?_⟩
 rcases List.mem_append.mp hp with h | h
 ·obtain ⟨i, hi, rfl⟩ := List.mem_map.mp h
  exact .inl ⟨rfl, List.mem_range.mp hi⟩
 ·obtain ⟨i, hi, rfl⟩ := List.mem_map.mp h
  exact .inr ⟨rfl, List.mem_range.mp hi⟩
theorem mem_turn {α : Type} {cs : List α} {d : Nat} {x : α} : x ∈ cs.drop d ++ cs.take d ↔ x ∈ cs := by
 rw [List.mem_append]
 constructor
 ·rintro (h | h)
  ·exact List.mem_of_mem_drop h
  ·exact List.mem_of_mem_take h
 ·intro h
  rw [<- List.take_append_drop d cs] at h
  rcases List.mem_append.mp h with h | h
  ·exact .inr h
  ·exact .inl h
theorem HJ {m n d : Nat} {cs : List (Nat × Nat)} (h : vY m n cs) : vY m n (cs.drop d ++ cs.take d) := by
 obtain ⟨h1, h2, h3, h4⟩ := h
 refine ⟨?_, fun i hi => mem_turn.mpr (h2 i hi), fun j hj => mem_turn.mpr (h3 j hj), fun p hp => h4 p (mem_turn.mp hp)⟩
 rw [List.length_append, List.length_drop, List.length_take]
 omega
theorem ux {H : Hp} (s : Nat) : ∀ {R : List Nat} {ys : List V}, Paired (fun x y => ∀ i : Nat, x = V.int i -> IsPl H y (s, i)) ((nI R).map V.int) ys -> Paired (IsPl H) ys (R.map fun i => (s, i))
 | [], _, h => by cases h; exact .nil
 | i :: R, _, h => by
  cases h with
  | cons h t => exact .cons (h i rfl) (ux s t)
theorem zR {R : List Nat} {r : Nat} (h : r ∈ R) : (nI R).idxOf (r : Int) < R.length /\ R.getD ((nI R).idxOf (r : Int)) 0 = r := by
 have h1 : (nI R).idxOf (r : Int) < (nI R).length := List.idxOf_lt_length_iff.mpr (mem_nI.mpr h)
 have h2 := List.getElem_idxOf h1
 rw [cC] at h1
 refine ⟨h1, ?_⟩
 have h3 := yR h1
 rw [List.getElem?_eq_getElem (by rw [cC]; exact h1), h2] at h3
 have := Option.some.inj h3
 omega
theorem qU {r : Nat} : ∀ {R : List Nat}, R.Nodup -> r ∈ R -> ((nI R).map V.int).eraseIdx ((nI R).idxOf (r : Int)) = (nI (R.filter fun i => decide (i ≠ r))).map V.int
 | [], _, h => by cases h
 | x :: R, nd, h => by
  have nd' := List.nodup_cons.mp nd
  have eI : (nI (x :: R)).idxOf (r : Int) = if x = r then 0 else (nI R).idxOf (r : Int) + 1 := by
   show ((x : Int) :: nI R).idxOf (r : Int) = _
   rw [List.idxOf_cons]
   by_cases e : x = r
   ·simp [e]
   ·have : ((x : Int) == (r : Int)) = false := by
     rw [beq_eq_false_iff_ne]; omega
    rw [this, if_neg e]; rfl
  rw [eI]
  by_cases e : x = r
  ·have nr : r ∉ R := e ▸ nd'.1
   have ef : (R.filter fun i => decide (i ≠ r)) = R := List.filter_eq_self.mpr fun i hi => decide_eq_true fun (z : i = r) => nr (z ▸ hi)
   rw [if_pos e, List.filter_cons_of_neg (by simp [e]), ef]
   rfl
  ·rw [if_neg e, List.filter_cons_of_pos (by simpa using e)]
   have hr : r ∈ R := by
    rcases List.mem_cons.mp h with z | z
    ·exact absurd z.symm e
    ·exact z
   show (V.int (x : Int)) :: ((nI R).map V.int).eraseIdx ((nI R).idxOf (r : Int)) = V.int (x : Int) :: (nI (R.filter fun i => decide (i ≠ r))).map V.int
   rw [qU nd'.2 hr]
theorem Do {R : List Nat} {r : Nat} (nd : R.Nodup) (h : r ∈ R) : (R.filter fun i => decide (i ≠ r)).length + 1 = R.length := by
 have e := congrArg List.length (qU nd h)
 have hi := (zR h).1
 rw [List.length_eraseIdx, List.length_map, List.length_map, cC, cC, if_pos hi] at e
 omega
def BtC (U W : List (List Int)) (m n : Nat) (R C : List Nat) (p : Nat × Nat) : Prop := (p.1 = 0 /\ p.2 ∈ R /\ Gm.Bt (Gm.cell U) m R C p.2) \/ (p.1 = 1 /\ p.2 ∈ C /\ Gm.Bt (Gm.cell (cols W n)) n C R p.2)
theorem Hl {U W : List (List Int)} {m n : Nat} {R C : List Nat} {cs : List (Nat × Nat)} (pl : Pl m n R C) (cd : vY m n cs) (h : ∀ p ∈ cs, ¬ BtC U W m n R C p) : Gm.End (Gm.cell U) (Gm.cell (cols W n)) m n R C :=
 ⟨fun r hr hb => h (0, r) (cd.2.1 r (pl.r r hr)) (.inl ⟨rfl, hr, hb⟩), fun c hc hb => h (1, c) (cd.2.2.1 c (pl.c c hc)) (.inr ⟨rfl, hc, hb⟩)⟩
def rE : Sp := fun vs H Q _ => ∃ (a b : Addr) (c : Int) (U W : List (List Int)) (m n : Nat), vs = [.ref a, .ref b, .int c] /\ IsTab H a U /\ Good U m n /\ IsTab H b W /\ Good W m n /\
 ∀ p lr lc R C H', Same H H' -> H lr = none -> H lc = none -> lr ≠ lc -> H' p = some (.tup [.ref lr, .ref lc]) -> H' lr = some (.lst ((nI R).map V.int)) -> H' lc = some (.lst ((nI C).map V.int)) -> IK U W m n R C -> Q (.ref p) H'
abbrev iQ : Stmt := top 75
theorem uq : FnScope ["_law_one", "_law_other", "_law_cell", "_law_rows", "_law_columns", "_law_cards", "_law_turn", "_law_at", "_law_gone", "_law_side", "_law_card", "_law_mine", "_law_table_here", "_law_told"] ["_law_one", "_law_other", "_law_cell"] (aC iQ) := ⟨rfl, rfl, rfl, by decide +kernel, rfl, by decide +kernel, by decide +kernel⟩
theorem uG (F : FunM K mg "_law_struck" iQ ["_law_one", "_law_other", "_law_cell"]) (T : Blt mg) (cz : Def P w K mg base "_law_draw" ["_law_cell", "_law_k", "_law_many"] 1 uy) (h_ : Def P w K mg base "_law_part" ["_law_table_here", "_law_rows", "_law_columns"] 1 wF) (dq : Def P w K mg base "_law_across" ["_law_table_here"] 1 gU)
  (je : Def P w K mg base "_law_beaten" ["_law_table_here", "_law_row"] 12 sp_lbtn) : Def P w K mg base "_law_struck" ["_law_one", "_law_other", "_law_cell"] 13 rE := by
 have S := uq
 refine Def.of F S (fun vs H Q E h => ?_) (fun f cdv A outer s H vs Q E hr h => ?_)
 ·obtain ⟨a, b, c, U, W, m, n, rfl, _⟩ := h
  rfl
 ·obtain ⟨a, b, c, U, W, m, n, rfl, hU, gG, hW, gW, k⟩ := h
  have g := bH gG
  have g' := bH gW
  have m1 := g.m1
  have m4 := g.m4
  have n1 := g.n1
  have n4 := g.n4
  obtain ⟨vs, b0, ha, h0, at0, hb0⟩ := hU.row (i := 0) (by rw [g.rows]; exact g.m1)
  have hn : ((U.getD 0 []).map V.int).length = n := by rw [List.length_map, (g.row g.m1).2]
  have vl : vs.length = m := by
   obtain ⟨vs', ha', hp'⟩ := id hU
   rw [ha] at ha'
   cases ha'
   rw [hp'.length, g.rows]
  refine ⟨_, (aA (aO (i := 3) S.nd rfl (Or.inl rfl) (j4 rfl (by rfl) T.list_ (by rfl) T.range_ (aa (aM (bK K) (by rfl) T.len_ bj (aa (pv 0) ao aj) (he := aj)) ao aR)))
   (aA (aO (i := 4) S.nd rfl (Or.inl rfl) (j4 rfl (by rfl) T.list_ (by rfl) T.range_ (aa (aM (bK K) (by rfl) T.len_ bj (aa (aP (ixL K) (pv 0) au (fun _ _ => rfl)) ao aK) (he := aK)) ao aR)))
   (aA (aO (i := 5) S.nd rfl (Or.inl rfl) (aQ dO (aX rfl (N' := ["_law_row"]) (src := [none]) rfl (piL K (pv 3)) (fun _ _ _ _ _ => (aG (i := 0) (show (["_law_row"] : List Str).Nodup from by decide +kernel) rfl (Or.inl rfl))) (fun _ _ _ _ _ => aW) (fun _ _ _ _ _ => (bz (aa au (aa (pv 0) ao aj) aD)))) (aX rfl (N' := ["_law_column"]) (src := [none]) rfl (piL K (pv 4)) (fun _ _ _ _ _ => (aG (i := 0) (show (["_law_column"] : List Str).Nodup from by decide +kernel) rfl (Or.inl rfl))) (fun _ _ _ _ _ => aW) (fun _ _ _ _ _ => (bz (aa au (aa (pv 0) ao aj) aD))))))
   (aA (bU PassesOwn.never rfl (cg rfl T.range_ (aa (aM (bK K) (by rfl) T.len_ bj (aa (pv 5) ao aj) (he := aj)) ao aR)) (aG (i := 6) S.nd rfl (Or.inl rfl))
    (aA (aO (i := 7) S.nd rfl (Or.inl rfl) (aF cz (hr.mono (by decide)) rfl (aa (pv 2) (aa (pv 6) (aa (aM (bK K) (by rfl) T.len_ bj (aa (pv 5) ao aj) (he := aj)) ao aR) aj) aj) (he := aj)))
   (aA (aO (i := 5) S.nd rfl (Or.inl rfl) (aQ dO (b_ (slL K) (pv 5) (cG (pv 7)) cI) (b_ (slL K) (pv 5) cI (cG (pv 7)))))
   (aA (aO (i := 8) S.nd rfl (Or.inl rfl) (bz (aa au (aa au ao aD) aD)))
   (aA (bU PassesOwn.never rfl (piL K (pv 5)) (pgT K (n := 2) (a_ (aG (i := 9) S.nd rfl (Or.inl rfl)) (a_ (aG (i := 10) S.nd rfl (Or.inl rfl)) cH)))
    (aA (aO (i := 11) S.nd rfl (Or.inl rfl) (aP (ixT K) (bz (aa (pv 3) (aa (pv 4) ao aj) aj)) (pv 9) (fun _ _ => rfl)))
   (aB (bB (PW.pt (lG (bh (qH K hr.units) (pv 8) (bz (aa au (aa au ao aD) aD)) (bf _)) (ju (bh (inK K) (pv 10) (pv 11) rfl))))
    (aA (aO (i := 12) S.nd rfl (Or.inl rfl) (aF h_ (hr.mono (by decide)) rfl (aa (pv 0) (aa (pv 3) (aa (pv 4) ao aj) aj) aj) (he := aj)))
   (aA (bB (bh fG (pv 9) au (bf _))
    (aB (aO (i := 12) S.nd rfl (Or.inl rfl) (aF dq (hr.mono (by decide)) rfl (aa (aF h_ (hr.mono (by decide)) rfl (aa (pv 1) (aa (pv 3) (aa (pv 4) ao aj) aj) aj) (he := aj)) ao aR) (he := aR)))) aY)
   (aA (aO (i := 13) S.nd rfl (Or.inl rfl) (aF je (hr.mono (by decide)) rfl (aa (pv 12) (aa (g8 PySem.F.plainAttrs_list PySem.F.slot_list_index PySem.F.type_list_index Gu (pv 11) (aa (pv 10) ao aj)) ao aR) aj) (he := aj)))
   (aA (bB (bh jY (pv 13) au (bf _))
    (aB (aN (bz (aa (bO ao) (aa (bO ao) ao jw) jw)))) aY)
   (aB (bB (bh pG (pv 13) au (bf _))
    (aB (aO (i := 8) S.nd rfl (Or.inl rfl) (bz (aa (pv 9) (aa (pv 10) ao aj) aj)))) aY)))))) aY))))
   (aA (bB (bh (qH K hr.units) (pv 8) (bz (aa au (aa au ao aD) aD)) (bf _))
    (aB (aN (bz (aa (pv 3) (aa (pv 4) ao aj) aj)))) aY)
   (aB (cu (g8 PySem.F.plainAttrs_list PySem.F.slot_list_remove PySem.F.type_list_remove CJ (aP (ixT K) (bz (aa (pv 3) (aa (pv 4) ao aj) aj)) (aP (ixT K) (pv 8) au (fun _ _ => rfl)) (fun _ _ => rfl)) (aa (aP (ixT K) (pv 8) au (fun _ _ => rfl)) ao aK))))))))))
   (aB (aN (bz (aa (pv 3) (aa (pv 4) ao aj) aj)))))))), ?_⟩
  refine ⟨_, rfl, a, vs, rfl, .inl (SqL.of ha), vs.length, rfl, by omega, fun lr hlr => ?_⟩
  rw [vl, lZ]
  have s2 := ak (o := .lst ((nI (List.range m)).map V.int)) hlr
  have e2 : upd H lr (.lst ((nI (List.range m)).map V.int)) lr = some (.lst ((nI (List.range m)).map V.int)) := aq
  generalize upd H lr (.lst ((nI (List.range m)).map V.int)) = H2 at s2 e2 ⊢
  refine ⟨_, rfl, a, vs, 0, _, rfl, rfl, SqL.of (s2 _ _ ha), at0, b0, _, rfl, .inl (SqL.of (s2 _ _ hb0)), _, rfl, by omega, fun lc hlc => ?_⟩
  rw [hn, lZ]
  have s3 := s2.trans (ak (o := .lst ((nI (List.range n)).map V.int)) hlc)
  have hlc' := s2.free hlc
  have nrc : lr ≠ lc := fun e => by rw [<- e, e2] at hlc; cases hlc
  have e2' := ak (o := .lst ((nI (List.range n)).map V.int)) hlc _ _ e2
  have e3 : upd H2 lc (.lst ((nI (List.range n)).map V.int)) lc = some (.lst ((nI (List.range n)).map V.int)) := aq
  generalize upd H2 lc (.lst ((nI (List.range n)).map V.int)) = H3 at s3 e2' e3 ⊢
  clear e2 s2 hlc
  refine iG ?_
  refine dR (fun σ' H' => ∃ (lcd : Addr) (zs : List V), σ' = [some (.ref a), some (.ref b), some (.int c), some (.ref lr), some (.ref lc), some (.ref lcd), none, none, none, none, none, none, none, none] /\ Same H3 H' /\ H3 lcd = none /\ H' lcd = some (.lst zs) /\ Paired (IsPl H') zs (((List.range m).map fun i => (0, i)) ++ (List.range n).map fun j => (1, j))) (fun R0 hR0 => ?_) ?_
  ·refine ⟨_, rfl, lr, rfl, ⟨_, SqL.of e2'⟩, bu (xs := (nI (List.range m)).map V.int) (fun x y H' => ∀ i : Nat, x = V.int i -> IsPl H' y (0, i)) (fun _ _ _ _ s h i e => (h i e).mono s) (SqL.of e2') (by rw [List.length_map, cC, List.length_range]; exact Nat.le_of_lt (aJ (by omega))) ?_ ?_⟩
   ·intro x hx H4 s4 Q' q
    obtain ⟨x', hx', rfl⟩ := List.mem_map.mp hx
    obtain ⟨i, hi, rfl⟩ := List.mem_map.mp hx'
    refine ⟨_, rfl, (by show 2 <= sizeLine; decide), fun t ht => q _ _ (ak ht) fun i' e => ?_⟩
    have : i = i' := by injection e with e; omega
    subst this
    exact ⟨t, rfl, aq⟩
   intro ys1 H4 s4 pr1 q1 hq1
   have p1 := ux 0 pr1
   have t4 := s4.trans (ak (o := .lst ys1) hq1)
   have p1' := p1.imp2 fun _ _ z => z.mono (ak (o := .lst ys1) hq1)
   have eq1 : upd H4 q1 (.lst ys1) q1 = some (.lst ys1) := aq
   generalize upd H4 q1 (.lst ys1) = H5 at t4 p1' eq1 ⊢
   have e35 := t4 _ _ e3
   refine ⟨_, rfl, lc, rfl, ⟨_, SqL.of e35⟩, bu (xs := (nI (List.range n)).map V.int) (fun x y H' => ∀ i : Nat, x = V.int i -> IsPl H' y (1, i)) (fun _ _ _ _ s h i e => (h i e).mono s) (SqL.of e35) (by rw [List.length_map, cC, List.length_range]; exact Nat.le_of_lt (aJ (by omega))) ?_ ?_⟩
   ·intro x hx H6 s6 Q' q
    obtain ⟨x', hx', rfl⟩ := List.mem_map.mp hx
    obtain ⟨i, hi, rfl⟩ := List.mem_map.mp hx'
    refine ⟨_, rfl, (by show 2 <= sizeLine; decide), fun t ht => q _ _ (ak ht) fun i' e => ?_⟩
    have : i = i' := by injection e with e; omega
    subst this
    exact ⟨t, rfl, aq⟩
   intro ys2 H6 s6 pr2 q2 hq2
   have p2 := ux 1 pr2
   have t6 := s6.trans (ak (o := .lst ys2) hq2)
   have p2' := p2.imp2 fun _ _ z => z.mono (ak (o := .lst ys2) hq2)
   have eq2 : upd H6 q2 (.lst ys2) q2 = some (.lst ys2) := aq
   generalize upd H6 q2 (.lst ys2) = H7 at t6 p2' eq2 ⊢
   have l1 := p1.length
   have l2 := p2.length
   rw [List.length_map, List.length_range] at l1 l2
   refine ⟨q1, q2, _, _, rfl, rfl, t6 _ _ eq1, eq2, Nat.le_of_lt (aJ (by omega)), fun q3 hq3 => ?_⟩
   have s7 := ak (o := .lst (ys1 ++ ys2)) hq3
   exact hR0 _ _ ⟨q3, _, rfl, (t4.trans t6).trans s7, (t4.trans t6).free hq3, aq, ((p1'.imp2 fun _ _ z => z.mono t6).app2 p2').imp2 fun _ _ z => z.mono s7⟩
  rintro σ' H4 ⟨lcd, zs, rfl, s4, ncd, hcd, pcd⟩
  have ncr : lcd ≠ lr := fun e => by rw [e, e2'] at ncd; cases ncd
  have ncc : lcd ≠ lc := fun e => by rw [e, e3] at ncd; cases ncd
  have hlr4 := s4 _ _ e2'
  have hlc4 := s4 _ _ e3
  have zl : zs.length = m + n := by rw [pcd.length]; exact (yO m n).1
  have cd0 := yO m n
  generalize ((List.range m).map fun i => (0, i)) ++ (List.range n).map (fun j => (1, j)) = cs at pcd cd0
  have s04 := s3.trans s4
  have st0 : Gm.Str (Gm.cell U) (Gm.cell (cols W n)) m n (List.range m) (List.range n) := .start
  have len0 : (List.range m).length + (List.range n).length + 0 = m + n := by rw [List.length_range, List.length_range]; omega
  generalize List.range m = Rs at st0 len0 hlr4
  generalize List.range n = Cs at st0 len0 hlc4
  refine ⟨_, rfl, lcd, zs, rfl, .inl (SqL.of hcd), _, rfl, by omega, by omega, iH (n := zs.length) (fun t σ H' => ∃ (lcd : Addr) (zs : List V) (cs : List (Nat × Nat)) (R C : List Nat) (o6 o7 o8 o9 o10 o11 o12 o13 : Option V), σ = [some (.ref a), some (.ref b), some (.int c), some (.ref lr), some (.ref lc), some (.ref lcd), o6, o7, o8, o9, o10, o11, o12, o13] /\ Same H H' /\
    H' lr = some (.lst ((nI R).map V.int)) /\ H' lc = some (.lst ((nI C).map V.int)) /\ H' lcd = some (.lst zs) /\ lcd ≠ lr /\ lcd ≠ lc /\ Paired (IsPl H') zs cs /\ vY m n cs /\ Gm.Str (Gm.cell U) (Gm.cell (cols W n)) m n R C /\ R.length + C.length + t = m + n)
   ⟨lcd, zs, cs, _, _, _, _, _, _, _, _, _, _, rfl, s04, hlr4, hlc4, hcd, ncr, ncc, pcd, cd0, st0, len0⟩ ?_ ?_⟩
  rotate_left
  ·rintro σ H5 ⟨lcd, zs', cs, R, C, o6, o7, o8, o9, o10, o11, o12, o13, rfl, s5, hR, hC, hcd, ncr, ncc, pcd, cd, st, len⟩
   exfalso
   have h1 := List.length_pos_iff.mpr (st.ne1 m1)
   omega
  clear hcd ncr ncc pcd cd0 st0 len0 hlr4 hlc4 s04 ncd s4 e3 e2' s3
  rintro t σ H5 ht ⟨lcd, zs, cs, R, C, o6, o7, o8, o9, o10, o11, o12, o13, rfl, s5, hR, hC, hcd, ncr, ncc, pcd, cd, st, len⟩
  have zl2 : zs.length = m + n := by rw [pcd.length]; exact cd.1
  have pl := yM m1 m4 n1 n4 st
  refine ⟨_, rfl, _, rfl, _, rfl, lcd, zs, rfl, .inl (SqL.of hcd), c, _, _, rfl, (by omega), ?_⟩
  have d1 := Fr.draw_nn c (0 + (t : Int)) (show (0 : Int) < (zs.length : Int) by omega)
  have d2 := Fr.draw_lt c (0 + (t : Int)) (show (0 : Int) < (zs.length : Int) by omega)
  obtain ⟨d, hd⟩ : ∃ d : Nat, Fr.draw c (0 + (t : Int)) (zs.length : Int) = (d : Int) := ⟨_, (Int.toNat_of_nonneg d1).symm⟩
  rw [hd]
  have dl : d < zs.length := by omega
  have k1 : bQ zs (some (d : Int)) none = zs.drop d := by rw [eN (by omega) (by omega), Int.toNat_natCast]
  have k2 : bQ zs none (some (d : Int)) = zs.take d := by rw [gr (by omega) (by omega), Int.toNat_natCast]
  refine iG ?_
  refine dR (fun σ' H' => ∃ (l3 : Addr), σ' = [some (.ref a), some (.ref b), some (.int c), some (.ref lr), some (.ref lc), some (.ref l3), some (.int (0 + (t : Int))), some (.int d), o8, o9, o10, o11, o12, o13] /\ Same H5 H' /\ H5 l3 = none /\ H' l3 = some (.lst (zs.drop d ++ zs.take d))) (fun R0 hR0 => ?_) ?_
  ·refine ⟨_, rfl, _, rfl, _, rfl, lcd, zs, rfl, SqL.of hcd, fun q1 hq1 => ?_⟩
   rw [k1]
   have t2 := ak (o := .lst (zs.drop d)) hq1
   have e1 : upd H5 q1 (.lst (zs.drop d)) q1 = some (.lst (zs.drop d)) := aq
   generalize upd H5 q1 (.lst (zs.drop d)) = H6 at t2 e1 ⊢
   refine ⟨_, rfl, _, rfl, _, rfl, lcd, zs, rfl, SqL.of (t2 _ _ hcd), fun q2 hq2 => ?_⟩
   rw [k2]
   have t3 := t2.trans (ak (o := .lst (zs.take d)) hq2)
   have e1' := ak (o := .lst (zs.take d)) hq2 _ _ e1
   have e2 : upd H6 q2 (.lst (zs.take d)) q2 = some (.lst (zs.take d)) := aq
   generalize upd H6 q2 (.lst (zs.take d)) = H7 at t3 e1' e2 ⊢
   refine ⟨q1, q2, _, _, rfl, rfl, e1', e2, (by rw [List.length_take, List.length_drop]; exact Nat.le_of_lt (aJ (by omega))), fun q3 hq3 => ?_⟩
   exact hR0 _ _ ⟨q3, rfl, t3.trans (ak hq3), t3.free hq3, aq⟩
  rintro σ' H6 ⟨l3, rfl, s6, nl3, hl3⟩
  have n3r : l3 ≠ lr := fun e => by rw [e, hR] at nl3; cases nl3
  have n3c : l3 ≠ lc := fun e => by rw [e, hC] at nl3; cases nl3
  have pc6 : Paired (IsPl H6) (zs.drop d ++ zs.take d) (cs.drop d ++ cs.take d) := (g_ d (pcd.imp2 fun _ _ z => z.mono s6)).app2 (ig d (pcd.imp2 fun _ _ z => z.mono s6))
  have cd6 := HJ (d := d) cd
  generalize zs.drop d ++ zs.take d = zs6 at pc6 hl3
  generalize cs.drop d ++ cs.take d = cs6 at pc6 cd6
  refine ⟨(by show 2 <= sizeLine; decide), fun tg0 htg0 => ?_⟩
  have s7 := s6.trans (ak (o := .tup [.int 2, .int 0]) htg0)
  have pc7 := pc6.imp2 fun _ _ z => z.mono (ak (o := .tup [.int 2, .int 0]) htg0)
  have hl37 := ak (o := .tup [.int 2, .int 0]) htg0 _ _ hl3
  have htg : upd H6 tg0 (.tup [.int 2, .int 0]) tg0 = some (.tup [.int ((2 : Nat) : Int), .int ((0 : Nat) : Int)]) := aq
  generalize upd H6 tg0 (.tup [.int 2, .int 0]) = H7 at s7 pc7 hl37 htg ⊢
  have hR7 := s7 _ _ hR
  have hC7 := s7 _ _ hC
  have s07 := s5.trans s7
  clear pc6 hl3 s6 pcd hcd hR hC
  refine iG ?_
  refine dR (fun σ' H' => ∃ (tg : Addr) (gp : Nat × Nat) (o9 o10 o11 o12 o13 : Option V), σ' = [some (.ref a), some (.ref b), some (.int c), some (.ref lr), some (.ref lc), some (.ref l3), some (.int (0 + (t : Int))), some (.int d), some (.ref tg), o9, o10, o11, o12, o13] /\ Same H7 H' /\ H' tg = some (.tup [.int gp.1, .int gp.2]) /\ ((gp = (2, 0) /\ ∀ p ∈ cs6, ¬ BtC U W m n R C p) \/ BtC U W m n R C gp)) (fun R0 hR0 => ?_) ?_
  ·refine ⟨_, rfl, l3, rfl, ⟨_, SqL.of hl37⟩, cM (K := K) (a := l3) (xs := zs6) (fun i σ H' => ∃ (tg : Addr) (gp : Nat × Nat) (o9 o10 o11 o12 o13 : Option V), σ = [some (.ref a), some (.ref b), some (.int c), some (.ref lr), some (.ref lc), some (.ref l3), some (.int (0 + (t : Int))), some (.int d), some (.ref tg), o9, o10, o11, o12, o13] /\ Same H7 H' /\ H' tg = some (.tup [.int gp.1, .int gp.2]) /\ ((gp = (2, 0) /\ ∀ p ∈ cs6.take i, ¬ BtC U W m n R C p) \/ BtC U W m n R C gp))
    ⟨tg0, (2, 0), _, _, _, _, _, rfl, Same.refl _, htg, .inl ⟨rfl, fun p hp => by simp at hp⟩⟩ ?_ ?_ ?_⟩
   ·rintro i σ H' _ ⟨_, _, _, _, _, _, _, _, s', _⟩
    exact SqL.of (s' _ _ hl37)
   rotate_left
   ·rintro σ H' ⟨tg, gp, o9, o10, o11, o12, o13, rfl, s', htg', hg⟩
    rw [pc7.length, List.take_length] at hg
    exact hR0 _ _ ⟨tg, gp, _, _, _, _, _, rfl, s', htg', hg⟩
   rintro i v σ H8 hi ⟨tg, gp, o9, o10, o11, o12, o13, rfl, s8, htg8, hg⟩
   obtain ⟨p, hp, bp, rfl, hbp⟩ := pc7.get2 hi
   have etk : cs6.take (i + 1) = cs6.take i ++ [p] := gK hp
   refine ⟨bp, _, rfl, SqT.of (s8 _ _ hbp), rfl, _, _, rfl, _, _, rfl, rfl, ?_⟩
   have hR8 := s8 _ _ hR7
   have hC8 := s8 _ _ hC7
   have side : ∃ (lm : Addr) (T : List (List Int)) (mm nn : Nat) (R0 C0 : List Nat), atI ([.ref lr, .ref lc] : List V) (p.1 : Int) = some (.ref lm) /\ H8 lm = some (.lst ((nI R0).map V.int)) /\ Good T mm nn /\ Pl mm nn R0 C0 /\ (BtC U W m n R C p ↔ p.2 ∈ R0 /\ Gm.Bt (Gm.cell T) mm R0 C0 p.2) /\
     ((p.1 = 0 /\ bN T R0 C0 = bN U R C) \/ (p.1 = 1 /\ bN T R0 C0 = bN (cols W n) C R)) := by
    rcases cd6.2.2.2 p (List.mem_of_getElem? hp) with ⟨e0, _⟩ | ⟨e0, _⟩
    ·refine ⟨lr, U, m, n, R, C, by rw [e0]; rfl, hR8, gG, pl, ?_, .inl ⟨e0, rfl⟩⟩
     unfold BtC
     rw [e0]
     simp
    ·refine ⟨lc, cols W n, n, m, C, R, by rw [e0]; rfl, hC8, vD gW, pl.swap, ?_, .inr ⟨e0, rfl⟩⟩
     unfold BtC
     rw [e0]
     simp
   obtain ⟨lm, T, mm, nn, R1, C1, hat, hm8, gT, plT, hbt, hsel⟩ := side
   refine ⟨_, rfl, _, rfl, (by show 2 <= sizeLine; decide), fun tt htt => ?_⟩
   have s9 := s8.trans (ak (o := .tup [.ref lr, .ref lc]) htt)
   have hm9 := ak (o := .tup [.ref lr, .ref lc]) htt _ _ hm8
   have htg9 := ak (o := .tup [.ref lr, .ref lc]) htt _ _ htg8
   have ett : upd H8 tt (.tup [.ref lr, .ref lc]) tt = some (.tup [.ref lr, .ref lc]) := aq
   generalize upd H8 tt (.tup [.ref lr, .ref lc]) = H9 at s9 hm9 htg9 ett ⊢
   refine ⟨_, rfl, tt, _, (p.1 : Int), _, rfl, rfl, SqT.of ett, hat, ?_⟩
   clear hm8 htg8 s8 hR8 hC8
   refine ⟨_, rfl, (by show 2 <= sizeLine; decide), fun t2 ht2 => ?_⟩
   have s10 := s9.trans (ak (o := .tup [.int 2, .int 0]) ht2)
   have hm10 := ak (o := .tup [.int 2, .int 0]) ht2 _ _ hm9
   have htg10 := ak (o := .tup [.int 2, .int 0]) ht2 _ _ htg9
   have et2 : upd H9 t2 (.tup [.int 2, .int 0]) t2 = some (.tup [.int 2, .int 0]) := aq
   generalize upd H9 t2 (.tup [.int 2, .int 0]) = H10 at s10 hm10 htg10 et2 ⊢
   refine ⟨_, _, bT htg10, bT et2, rfl, (by show 1 <= 40; decide), _, rfl, ?_⟩
   rw [fO]
   rcases hg with ⟨rfl, hno⟩ | hb
   rotate_left
   ·have ne : ¬ ((((gp.1 : Nat) : Int), ((gp.2 : Nat) : Int)) = (2, 0)) := fun z => by
     have z1 : ((gp.1 : Nat) : Int) = 2 := congrArg Prod.fst z
     rcases hb with ⟨e, _⟩ | ⟨e, _⟩ <;> omega
    refine ifN (by simpa using ne) ?_
    refine cD ?_
    exact ⟨tg, gp, _, _, _, _, _, rfl, s10, htg10, .inr hb⟩
   refine ifP (decide_eq_true rfl) ?_
   refine ⟨_, rfl, _, rfl, lm, _, rfl, .inl (SqL.of hm10), rfl, jZ _, _, rfl, ?_⟩
   have keep : ¬ BtC U W m n R C p -> ∀ q ∈ cs6.take (i + 1), ¬ BtC U W m n R C q := fun hnb q hq => by
    rw [etk] at hq
    rcases List.mem_append.mp hq with z | z
    ·exact hno q z
    ·rw [List.mem_singleton.mp z]; exact hnb
   refine mY (fun hin => ?_) (fun hin => ?_)
   rotate_left
   ·have hin' : ¬ p.2 ∈ R1 := fun z => hin ((jN _ _).trans (decide_eq_true (mem_nI.mpr z)))
    exact ⟨tg, (2, 0), _, _, _, _, _, rfl, s10, htg10, .inl ⟨rfl, keep fun z => hin' (hbt.mp z).1⟩⟩
   have hin' : p.2 ∈ R1 := mem_nI.mp (of_decide_eq_true ((jN _ _).symm.trans hin))
   have s010 := s07.trans s10
   have hR10 := s10 _ _ hR7
   have hC10 := s10 _ _ hC7
   refine ⟨_, rfl, _, rfl, _, rfl, a, lr, lc, U, m, n, R, C, rfl, hU.mono s010, g, hR10, hC10, pl, fun q1 H11 s11 own1 => ?_⟩
   refine iG ?_
   refine dR (fun σ' H' => ∃ (th : Addr), σ' = [some (.ref a), some (.ref b), some (.int c), some (.ref lr), some (.ref lc), some (.ref l3), some (.int (0 + (t : Int))), some (.int d), some (.ref tg), some (.int (p.1 : Int)), some (.int (p.2 : Int)), some (.ref lm), some (.ref th), o13] /\ Same H10 H' /\ IsTab H' th (bN T R1 C1)) (fun R2 hR2 => ?_) ?_
   ·refine ⟨_, rfl, rfl, _, rfl, ?_⟩
    rcases hsel with ⟨e0, es⟩ | ⟨e0, es⟩
    ·refine ifN (by rw [e0]; decide) ?_
     exact hR2 _ _ ⟨q1, rfl, s11, by rw [es]; exact own1.tab⟩
    ·refine ifP (by rw [e0]; decide) ?_
     refine ⟨_, rfl, _, rfl, _, rfl, b, lr, lc, W, m, n, R, C, rfl, hW.mono (s010.trans s11), g', s11 _ _ hR10, s11 _ _ hC10, pl, fun q2 H12 s12 own2 => ?_⟩
     refine ⟨q2, bN W R C, R.length, C.length, rfl, own2.tab, bH (gf gW pl), fun q3 H13 s13 own3 => ?_⟩
     rw [yj g' pl] at own3
     exact hR2 _ _ ⟨q3, rfl, (s11.trans s12).trans s13, by rw [es]; exact own3.tab⟩
   rintro σ' H12 ⟨th, rfl, s12, hth⟩
   have s712 := s10.trans s12
   obtain ⟨hk1, hk2⟩ := zR hin'
   refine ⟨_, rfl, _, rfl, .inl ⟨rfl, _, SqL.of (s12 _ _ hm10)⟩, _, rfl, lm, nI R1, (p.2 : Int), rfl, rfl, s12 _ _ hm10, mem_nI.mpr hin', th, T, mm, nn, (nI R1).idxOf (p.2 : Int), R1, C1, rfl, hth, gT, plT, hk1, fun H13 s13 => ?_⟩
   rw [hk2]
   have s713 := s712.trans s13
   have htg13 := (s12.trans s13) _ _ htg10
   cases hub : ubB T mm R1 C1 p.2 with
   | true =>
    refine ⟨_, rfl, _, _, rfl, rfl, _, rfl, ?_⟩
    refine ifN (by decide) ?_
    refine ⟨_, rfl, _, _, rfl, rfl, _, rfl, ?_⟩
    refine ifN (by decide) ?_
    exact ⟨tg, (2, 0), _, _, _, _, _, rfl, s713, htg13, .inl ⟨rfl, keep fun z => Gh hub (hbt.mp z).2⟩⟩
   | false =>
    refine ⟨_, rfl, _, _, rfl, rfl, _, rfl, ?_⟩
    refine ifN (by decide) ?_
    refine ⟨_, rfl, _, _, rfl, rfl, _, rfl, ?_⟩
    refine ifP (by decide) ?_
    exact ⟨_, rfl, _, rfl, (by show 2 <= sizeLine; decide), fun t5 ht5 => ⟨t5, p, _, _, _, _, _, rfl, s713.trans (ak ht5), aq, .inr (hbt.mpr ⟨hin', Gn hub⟩)⟩⟩
  rintro σ' H8 ⟨tg, gp, o9, o10, o11, o12, o13, rfl, s8, htg8, hg⟩
  have hR8 := s8 _ _ hR7
  have hC8 := s8 _ _ hC7
  have s08 := s07.trans s8
  refine dR (fun σ' H' => σ' = [some (.ref a), some (.ref b), some (.int c), some (.ref lr), some (.ref lc), some (.ref l3), some (.int (0 + (t : Int))), some (.int d), some (.ref tg), o9, o10, o11, o12, o13] /\ Same H8 H' /\ BtC U W m n R C gp) (fun R2 hR2 => ?_) ?_
  ·refine ⟨_, rfl, (by show 2 <= sizeLine; decide), fun t2 ht2 => ?_⟩
   have s9 := ak (o := .tup [.int 2, .int 0]) ht2
   have et2 : upd H8 t2 (.tup [.int 2, .int 0]) t2 = some (.tup [.int 2, .int 0]) := aq
   generalize upd H8 t2 (.tup [.int 2, .int 0]) = H9 at s9 et2 ⊢
   refine ⟨_, _, bT (s9 _ _ htg8), bT et2, rfl, (by show 1 <= 40; decide), _, rfl, ?_⟩
   rw [fO]
   rcases hg with ⟨rfl, hno⟩ | hb
   rotate_left
   ·have ne : ¬ ((((gp.1 : Nat) : Int), ((gp.2 : Nat) : Int)) = (2, 0)) := fun z => by
     have z1 : ((gp.1 : Nat) : Int) = 2 := congrArg Prod.fst z
     rcases hb with ⟨e, _⟩ | ⟨e, _⟩ <;> omega
    refine ifN (by simpa using ne) ?_
    exact hR2 _ _ ⟨rfl, s9, hb⟩
   refine ifP (decide_eq_true rfl) ?_
   refine ⟨_, rfl, _, rfl, (by show 2 <= sizeLine; decide), fun p hp => ?_⟩
   have sp := ak (o := .tup [.ref lr, .ref lc]) hp
   exact k p lr lc R C _ ((s08.trans s9).trans sp) hlr hlc' nrc aq (sp _ _ (s9 _ _ hR8)) (sp _ _ (s9 _ _ hC8)) ⟨st, Hl pl cd6 hno⟩
  rintro σ' H9 ⟨rfl, s9, hb⟩
  have hR9 := s9 _ _ hR8
  have hC9 := s9 _ _ hC8
  have htg9 := s9 _ _ htg8
  have hl39 := (s8.trans s9) _ _ hl37
  have pc9 := pc7.imp2 fun _ _ z => (z.mono s8).mono s9
  have s09 := s08.trans s9
  refine ⟨_, rfl, _, rfl, (by show 2 <= sizeLine; decide), fun tt htt => ?_⟩
  have sA := ak (o := .tup [.ref lr, .ref lc]) htt
  have ett : upd H9 tt (.tup [.ref lr, .ref lc]) tt = some (.tup [.ref lr, .ref lc]) := aq
  generalize upd H9 tt (.tup [.ref lr, .ref lc]) = HA at sA ett ⊢
  have htgA := sA _ _ htg9
  have hRA := sA _ _ hR9
  have hCA := sA _ _ hC9
  have pcA := pc9.imp2 fun _ _ z => z.mono sA
  have hl3A := sA _ _ hl39
  rcases hb with ⟨e0, hin, hbt⟩ | ⟨e0, hin, hbt⟩
  ·refine ⟨_, rfl, tg, _, 0, _, rfl, rfl, SqT.of htgA, rfl, tt, _, _, .ref lr, rfl, rfl, SqT.of ett, (by rw [e0]; rfl), .inl ⟨rfl, _, SqL.of hRA⟩, _, rfl, tg, _, 1, _, rfl, rfl, SqT.of htgA, rfl, lr, nI R, (gp.2 : Int), rfl, rfl, hRA, mem_nI.mpr hin, ?_⟩
   rw [qU pl.rd hin]
   have el := Do pl.rd hin
   refine ⟨l3, zs6, cs6, _, _, _, _, _, _, _, _, _, _, rfl, di (s09.trans sA) hlr, aq, by rw [aH nrc.symm]; exact hCA, by rw [aH n3r]; exact hl3A, n3r, n3c, pcA.imp2 fun _ _ z => z.at hRA, cd6, .row st hin hbt, by omega⟩
  ·refine ⟨_, rfl, tg, _, 0, _, rfl, rfl, SqT.of htgA, rfl, tt, _, _, .ref lc, rfl, rfl, SqT.of ett, (by rw [e0]; rfl), .inl ⟨rfl, _, SqL.of hCA⟩, _, rfl, tg, _, 1, _, rfl, rfl, SqT.of htgA, rfl, lc, nI C, (gp.2 : Int), rfl, rfl, hCA, mem_nI.mpr hin, ?_⟩
   rw [qU pl.cd hin]
   have el := Do pl.cd hin
   refine ⟨l3, zs6, cs6, _, _, _, _, _, _, _, _, _, _, rfl, di (s09.trans sA) hlc', by rw [aH nrc]; exact hRA, aq, by rw [aH n3c]; exact hl3A, n3r, n3c, pcA.imp2 fun _ _ z => z.at hCA, cd6, .col st hin hbt, by omega⟩
theorem Fx {U : List (List Int)} {m n : Nat} (g : Good U m n) : Good (U.map fun r => r.map fun x => -x) m n := by
 refine ⟨g.m1, g.m4, g.n1, g.n4, by rw [List.length_map, g.rows], fun r hr => ?_, fun r hr x hx => ?_⟩
 ·obtain ⟨r0, h0, rfl⟩ := List.mem_map.mp hr
  rw [List.length_map, g.cols r0 h0]
 ·obtain ⟨r0, h0, rfl⟩ := List.mem_map.mp hr
  obtain ⟨y, hy, rfl⟩ := List.mem_map.mp hx
  have := g.num r0 h0 y hy
  omega
theorem wO {H : Hp} {q a b : Addr} {U V : List (List Int)} (hq : H q = some (.lst [.ref a, .ref b])) (hU : IsTab H a U) (hV : IsTab H b V) : Rep K H (.lst [dG U, dG V]) (.ref q) := by
 unfold Rep
 refine ⟨q, _, rfl, SqL.of hq, ?_⟩
 unfold Reps
 refine ⟨_, _, rfl, hU.rep, ?_⟩
 unfold Reps
 exact ⟨_, _, rfl, hV.rep, by simp [Reps]⟩
theorem Gr (U V : List (List Int)) : bL (.lst [dG U, dG V]) (.lst [dG U, dG V]) = true := by
 show (bL (dG U) (dG U) && (bL (dG V) (dG V) && true)) = true
 rw [wL, wL]
 rfl
theorem Hx (U V : List (List Int)) : bW (.lst [dG U, dG V]) <= 40 := by
 rw [iy]
 show max (bW (dG U)) (max (bW (dG V)) 0) + 1 <= 40
 have h1 := Az U
 have h2 := Az V
 omega
theorem zZ {H : Hp} {p lr lc : Addr} {r c : List Int} (hp : H p = some (.tup [.ref lr, .ref lc])) (hr : H lr = some (.lst (r.map V.int))) (hc : H lc = some (.lst (c.map V.int))) : Rep K H (.tup [bY r, bY c]) (.ref p) := by
 unfold Rep
 refine ⟨p, _, rfl, SqT.of hp, ?_⟩
 unfold Reps
 refine ⟨_, _, rfl, fU hr, ?_⟩
 unfold Reps
 exact ⟨_, _, rfl, fU hc, by simp [Reps]⟩
theorem HR (r c : List Int) : bL (.tup [bY r, bY c]) (.tup [bY r, bY c]) = true := by
 show (bL (bY r) (bY r) && (bL (bY c) (bY c) && true)) = true
 rw [jU, jU]
 rfl
theorem JN (r c : List Int) : bW (.tup [bY r, bY c]) <= 40 := by
 rw [lB]
 show max (bW (bY r)) (max (bW (bY c)) 0) + 1 <= 40
 rw [jx, jx]
 decide
theorem Bg {x X : Int} (hX : 0 < X) (h : 0 < (Fr.mk x X).1) : x ≠ 0 := fun e => by
 rw [e, Fr.mk_zero hX] at h
 exact absurd h (by decide)
theorem u5 (k : Nat) : (List.replicate k false).any id = false := by
 induction k with
 | zero => rfl
 | succ k ih => rw [List.replicate_succ, List.any_cons, ih]; rfl
abbrev jl : Stmt := top 76
theorem JH : FnScope ["_law_script", "_law_rows", "_law_columns", "_law_one", "_law_other", "_law_due", "_law_handed", "_law_again", "_law_found", "_law_both"] ["_law_script"] (aC jl) := ⟨rfl, rfl, rfl, by decide +kernel, rfl, by decide +kernel, by decide +kernel⟩
theorem Ju {f CT : Addr} {fd : FuncData} (F : Fun K "law" "law" jl f fd) (T : Blt mg) (C_Settled : Cl K mg "Settled" ["mine", "theirs"] [] CT)
  (bM : Def P w K mg base "_law_cell_at" ["_law_script", "_law_k"] 1 (A_ K)) (fZ : Def P w K mg base "_law_table" ["_law_cell", "_law_rows", "_law_columns"] 2 vz) (jc : Def P w K mg base "_law_struck" ["_law_one", "_law_other", "_law_cell"] 13 rE) (qw : Def P w K mg base "struck" ["one", "other"] 13 vB)
  (ou : Def P w K mg base "settled" ["one", "other"] 11 (rO CT)) : FnOk P w K mg base CX0 15 f fd ["_law_script"] (qZ K) := by
 have S := JH
 refine F.ok S (fun vs H Q E h => ?_) (fun cdv A outer s H vs Q E hr h => ?_)
 ·obtain ⟨a, ns, rfl, _⟩ := h
  rfl
 ·obtain ⟨a, ns, rfl, hS, hlen, k⟩ := h
  have c1 := C_Settled.no "mine" (by simp)
  have c2 := C_Settled.no "theirs" (by simp)
  refine ⟨_, (aA (DQ (i := 1) (j := 2) rfl S.nd rfl rfl (by decide) rfl rfl (aa (aQ dB au (aQ dN (aF bM (hr.mono (by decide)) rfl (aa (pv 0) (aa au ao aD) aj) (he := aj)) au)) (aa (aQ dB au (aQ dN (aQ o_ (aF bM (hr.mono (by decide)) rfl (aa (pv 0) (aa au ao aD) aj) (he := aj)) au) au)) ao bA) bA) rfl)
   (aA (bB (bh fG (aQ dN (aQ o_ (aF bM (hr.mono (by decide)) rfl (aa (pv 0) (aa au ao aD) aj) (he := aj)) au) au) au (bf _))
    (aB (rC (bz (aa au (aa au ao aD) aD)) (pgT K (n := 2) (a_ (aG (i := 1) S.nd rfl (Or.inl rfl)) (a_ (aG (i := 2) S.nd rfl (Or.inl rfl)) cH))))) aY)
   (aA (aO (i := 3) S.nd rfl (Or.inl rfl) (aF fZ (hr.mono (by decide)) rfl (aa (aF bM (hr.mono (by decide)) rfl (aa (pv 0) (aa au ao aD) aj) (he := aj)) (aa (pv 1) (aa (pv 2) ao aj) aj) aR) (he := aR)))
   (aA (aO (i := 4) S.nd rfl (Or.inl rfl) (aF fZ (hr.mono (by decide)) rfl (aa (aF bM (hr.mono (by decide)) rfl (aa (pv 0) (aa au ao aD) aj) (he := aj)) (aa (pv 1) (aa (pv 2) ao aj) aj) aR) (he := aR)))
   (aA (bB (bh fG (aQ dN (aF bM (hr.mono (by decide)) rfl (aa (pv 0) (aa au ao aD) aj) (he := aj)) au) au (bf _))
    (aB (pI (i := 4) rfl S.nd rfl rfl (N' := ["_law_row"]) (src := [none]) rfl (piL K (pv 3)) (fun _ _ _ _ _ => (aG (i := 0) (show (["_law_row"] : List Str).Nodup from by decide +kernel) rfl (Or.inl rfl))) (fun _ _ _ _ _ => aW) (fun _ _ _ _ _ => (aX rfl (N' := ["_law_worth"]) (src := [none]) rfl (piL K (pv 0)) (fun _ _ _ _ _ => (aG (i := 0) (show (["_law_worth"] : List Str).Nodup from by decide +kernel) rfl (Or.inl rfl))) (fun _ _ _ _ _ => aW) (fun _ _ _ _ _ => (pB lw (pv 0))))))) aY)
   (aA (aO (i := 5) S.nd rfl (Or.inr rfl) (aF jc (hr.mono (by decide)) rfl (aa (pv 3) (aa (pv 4) (aa (aF bM (hr.mono (by decide)) rfl (aa (pv 0) (aa au ao aD) aj) (he := aj)) ao aR) aj) aj) (he := aj)))
   (aA (aO (i := 6) S.nd rfl (Or.inl rfl) (bO (aa (aX rfl (N' := ["_law_row"]) (src := [none]) rfl (piL K (pv 3)) (fun _ _ _ _ _ => (aG (i := 0) (show (["_law_row"] : List Str).Nodup from by decide +kernel) rfl (Or.inl rfl))) (fun _ _ _ _ _ => aW) (fun _ _ _ _ _ => (dI (fW K) (by rfl) T.list_ dj (aa (pv 0) ao aj) (he := aj)))) (aa (aX rfl (N' := ["_law_row"]) (src := [none]) rfl (piL K (pv 4)) (fun _ _ _ _ _ => (aG (i := 0) (show (["_law_row"] : List Str).Nodup from by decide +kernel) rfl (Or.inl rfl))) (fun _ _ _ _ _ => aW) (fun _ _ _ _ _ => (dI (fW K) (by rfl) T.list_ dj (aa (pv 0) ao aj) (he := aj)))) ao aU) aU)))
   (aA (bU PassesOwn.never rfl (cg rfl T.range_ (aa au ao aD)) (aG (i := 7) S.nd rfl (Or.inl rfl))
    (aA (aO (i := 8) S.nd rfl (Or.inl rfl) (aF qw (hr.mono (by decide)) rfl (aa (aP (ixL K) (pv 6) au (fun _ _ => rfl)) (aa (aP (ixL K) (pv 6) au (fun _ _ => rfl)) ao aK) aK) (he := aK)))
   (aA (bB (PW.pt (fJ (cX (bG (aM (mJ K) (by rfl) T.isinstance_ bD (aa (pv 8) (aa (eU (v := .ty "tuple") rfl T.tuple_ wB rfl) ao aj) aj) (he := aj)))) (fJ (bh (wH K hr.units) (pv 8) (pv 5) (bf _)) (fJ (bh (qH K hr.units) (aP (ixT K) (pv 5) au (fun _ _ => rfl)) (bO ao) (bf _)) (fY (bh (wH K hr.units) (pv 6) (bO (aa (pv 3) (aa (pv 4) ao aj) aj)) (bf _)))))))
    (aB (aN fu)) aY)
   (aA (cu (g8 PySem.F.plainAttrs_list PySem.F.slot_list_append PySem.F.type_list_append dH (aP (ixT K) (pv 8) au (fun _ _ => rfl)) (aa au ao aD)))
   (aB (cu (g8 PySem.F.plainAttrs_list PySem.F.slot_list_append PySem.F.type_list_append dH (aP (ixT K) (pv 8) au (fun _ _ => rfl)) (aa au ao aD))))))))
   (aA (aO (i := 9) S.nd rfl (Or.inr rfl) (aF ou (hr.mono (by decide)) rfl (aa (pv 3) (aa (pv 4) ao aj) aj) (he := aj)))
   (aA (bB (bG (aM (yS K) (by rfl) T.any_ nR (aa (aX rfl (N' := ["_law_row", "_law_both", "_law_due"]) (src := [none, some 9, some 5]) rfl (cg rfl T.range_ (aa (pv 1) ao aj)) (fun _ _ _ _ _ => (aG (i := 0) (show (["_law_row", "_law_both", "_law_due"] : List Str).Nodup from by decide +kernel) rfl (Or.inl rfl))) (fun _ _ _ _ _ => aW) (fun _ _ _ _ _ => (oh (dF pG (aP (ixT K) (aP (ixL K) (peF K (pv 1) rfl) (pv 0) (fun _ _ => rfl)) au (fun _ _ => rfl)) au (bf _)) (lF (dF (Jb K) (pv 0) (aP (ixT K) (pv 2) au (fun _ _ => rfl)) rfl))))) ao aU) (he := aU)))
    (aB (aN fu)) aY)
   (aB (aN (rm (aM (yS K) (by rfl) T.any_ nR (aa (aX rfl (N' := ["_law_column", "_law_both", "_law_due"]) (src := [none, some 9, some 5]) rfl (cg rfl T.range_ (aa (pv 2) ao aj)) (fun _ _ _ _ _ => (aG (i := 0) (show (["_law_column", "_law_both", "_law_due"] : List Str).Nodup from by decide +kernel) rfl (Or.inl rfl))) (fun _ _ _ _ _ => aW) (fun _ _ _ _ _ => (oh (dF pG (aP (ixT K) (aP (ixL K) (peF K (pv 1) rfl) (pv 0) (fun _ _ => rfl)) au (fun _ _ => rfl)) au (bf _)) (lF (dF (Jb K) (pv 0) (aP (ixT K) (pv 2) au (fun _ _ => rfl)) rfl))))) ao aU) (he := aU))))))))))))))), ?_⟩
  refine dR (fun σ' H' => ∃ m n : Nat, σ' = [some (.ref a), some (.int m), some (.int n), none, none, none, none, none, none, none] /\ Same H H' /\ 1 <= m /\ m <= 4 /\ 1 <= n /\ n <= 4) (fun R hR => ?_) ?_
  ·refine ⟨_, rfl, a, ns, 0, rfl, hS, by decide, _, _, rfl, rfl, (by show (0 : Int) < 3; decide), _, _, rfl, rfl, _, rfl, a, ns, 0, rfl, hS, by decide, _, _, rfl, rfl, ⟨by decide, by decide⟩, _, _, rfl, rfl, (by show (0 : Int) < 3; decide), _, _, rfl, rfl, _, _, rfl, ?_⟩
   generalize ns.getD (0 : Int).toNat 0 = c
   have a1 := Int.emod_nonneg c (show (3 : Int) ≠ 0 by decide)
   have a2 := Int.emod_lt_of_pos c (show (0 : Int) < 3 by decide)
   have b1 := Int.emod_nonneg (c / 3) (show (3 : Int) ≠ 0 by decide)
   have b2 := Int.emod_lt_of_pos (c / 3) (show (0 : Int) < 3 by decide)
   obtain ⟨m, hm⟩ : ∃ m : Nat, 1 + c % 3 = (m : Int) := ⟨(1 + c % 3).toNat, by omega⟩
   obtain ⟨n, hn⟩ : ∃ n : Nat, 1 + c / 3 % 3 = (n : Int) := ⟨(1 + c / 3 % 3).toNat, by omega⟩
   refine hR _ _ ⟨m, n, ?_, Same.refl _, by omega, by omega, by omega, by omega⟩
   rw [<- hm, <- hn]
   rfl
  rintro σ' H0 ⟨m, n, rfl, s0, m1, m4, n1, n4⟩
  have hS0 := s0.seq hS
  refine dR (fun σ' H' => ∃ m n : Nat, σ' = [some (.ref a), some (.int m), some (.int n), none, none, none, none, none, none, none] /\ Same H H' /\ 1 <= m /\ m <= 4 /\ 1 <= n /\ n <= 4) (fun R hR => ?_) ?_
  ·refine ⟨_, rfl, a, ns, 0, rfl, hS0, by decide, _, _, rfl, rfl, ⟨by decide, by decide⟩, _, _, rfl, rfl, (by show (0 : Int) < 27; decide), rfl, _, rfl, ?_⟩
   refine mY (fun _ => ?_) (fun _ => hR _ _ ⟨m, n, rfl, s0, m1, m4, n1, n4⟩)
   refine ⟨(by show 2 <= sizeLine; decide), fun t ht => ⟨t, _, rfl, SqT.of aq, rfl, _, _, rfl, _, _, rfl, rfl, ?_⟩⟩
   exact hR _ _ ⟨4, 4, rfl, s0.trans (ak ht), by decide, by decide, by decide, by decide⟩
  clear hS0 s0 m1 m4 n1 n4
  rintro σ' H0 ⟨m, n, rfl, s0, m1, m4, n1, n4⟩
  have hS0 := s0.seq hS
  refine ⟨_, rfl, a, ns, 1, rfl, hS0, by decide, _, rfl, _, rfl, _, m, n, rfl, m1, m4, n1, n4, fun t U H1 s1 hU gG => ?_⟩
  refine ⟨_, rfl, a, ns, 2, rfl, s1.seq hS0, by decide, _, rfl, _, rfl, _, m, n, rfl, m1, m4, n1, n4, fun t' W0 H2 s2 hW0 gW0 => ?_⟩
  have g := bH gG
  have hU2 := hU.mono s2
  have hS2 := (s1.trans s2).seq hS0
  refine iG ?_
  refine dR (fun σ' H' => ∃ (w2 : Addr) (W : List (List Int)), σ' = [some (.ref a), some (.int m), some (.int n), some (.ref t), some (.ref w2), none, none, none, none, none] /\ Same H2 H' /\ IsTab H' w2 W /\ Good W m n) (fun R hR => ?_) ?_
  ·refine ⟨_, rfl, a, ns, 3, rfl, hS2, by decide, _, _, rfl, rfl, (by show (0 : Int) < 3; decide), rfl, _, rfl, ?_⟩
   refine mY (fun _ => ?_) (fun _ => hR _ _ ⟨t', W0, rfl, Same.refl _, hW0, gW0⟩)
   obtain ⟨vs, ht, _⟩ := id hU2
   refine ⟨_, rfl, t, rfl, ⟨_, SqL.of ht⟩, jm (fun r => r.map fun x => -x) hU2 (by rw [g.rows]; omega) ?_ ?_⟩
   ·intro r hr' b hb H5 s5 Q' q
    refine ⟨_, rfl, b, rfl, ⟨_, SqL.of (s5 _ _ hb)⟩, iu (fun x => -x) (SqL.of (s5 _ _ hb)) (by rw [g.cols r hr']; omega) ?_ ?_⟩
    ·intro x hx H6 s6 Q2 q2
     exact ⟨_, rfl, _, rfl, q2 H6 (Same.refl _)⟩
    ·intro H6 s6 l hl
     exact q _ _ (s6.trans (ak hl)) ⟨l, rfl, (s5.trans s6).free hl, aq⟩
   intro ys H5 s5 pr hd hhd
   exact hR _ _ ⟨hd, _, rfl, s5.trans (ak hhd), (OwnTab.lay s5 hhd pr).tab, Fx gG⟩
  rintro σ' H4 ⟨w2, W, rfl, s4, hW, gW⟩
  have g' := bH gW
  have hU4 := hU2.mono s4
  have hS4 := s4.seq hS2
  clear hU hU2 hW0 gW0
  refine ⟨_, rfl, _, rfl, _, rfl, a, ns, 4, rfl, hS4, by decide, t, w2, _, U, W, m, n, rfl, hU4, gG, hW, gW, fun pd lr lc R C H5 s5 nr nc nrc epd elr elc en => ?_⟩
  have hU5 := hU4.mono s5
  have hW5 := hW.mono s5
  obtain ⟨vs, ht, _⟩ := id hU5
  refine ⟨_, rfl, t, rfl, ⟨_, SqL.of ht⟩, jm (fun r => r) hU5 (by rw [g.rows]; omega) ?_ ?_⟩
  ·intro r hr' b hb H6 s6 Q' q
   exact ⟨_, rfl, b, _, rfl, .inl (SqL.of (s6 _ _ hb)), fun l hl => q _ _ (ak hl) ⟨l, rfl, s6.free hl, aq⟩⟩
  intro ys H6 s6 pr h1 hh1
  rw [List.map_id'] at pr
  have t1 := (OwnTab.lay s6 hh1 pr).tab
  have s7 : Same H5 (upd H6 h1 (.lst ys)) := s6.trans (ak hh1)
  generalize upd H6 h1 (.lst ys) = H7 at t1 s7 ⊢
  obtain ⟨vs2, hw2, _⟩ := id (hW5.mono s7)
  refine ⟨_, rfl, w2, rfl, ⟨_, SqL.of hw2⟩, jm (fun r => r) (hW5.mono s7) (by rw [g'.rows]; omega) ?_ ?_⟩
  ·intro r hr' b hb H8 s8 Q' q
   exact ⟨_, rfl, b, _, rfl, .inl (SqL.of (s8 _ _ hb)), fun l hl => q _ _ (ak hl) ⟨l, rfl, s8.free hl, aq⟩⟩
  intro ys2 H8 s8 pr2 h2 hh2
  rw [List.map_id'] at pr2
  have t2 := (OwnTab.lay s8 hh2 pr2).tab
  have s9 : Same H7 (upd H8 h2 (.lst ys2)) := s8.trans (ak hh2)
  generalize upd H8 h2 (.lst ys2) = H9 at t2 s9 ⊢
  refine ⟨(by show 2 <= sizeLine; decide), fun hd hhd => ?_⟩
  have sA := ak (o := .lst [.ref h1, .ref h2]) hhd
  have ehd : upd H9 hd (.lst [.ref h1, .ref h2]) hd = some (.lst [.ref h1, .ref h2]) := aq
  generalize upd H9 hd (.lst [.ref h1, .ref h2]) = H10 at sA ehd ⊢
  have T1 := (t1.mono s9).mono sA
  have T2 := t2.mono sA
  have s5A := (s7.trans s9).trans sA
  have hUA := hU5.mono s5A
  have hWA := hW5.mono s5A
  have epdA := s5A _ _ epd
  have elrA := s5A _ _ elr
  have elcA := s5A _ _ elc
  have pl := yM m1 m4 n1 n4 en.1
  have rl := pl.rl
  have cl := pl.cl
  refine ⟨_, rfl, by decide, by decide, iH (n := 2) (fun i σ H' => ∃ (o7 o8 : Option V), σ = [some (.ref a), some (.int m), some (.int n), some (.ref t), some (.ref w2), some (.ref pd), some (.ref hd), o7, o8, none] /\ Same H10 H')
   ⟨_, _, rfl, Same.refl _⟩ ?_ ?_⟩
  ·rintro i σ H11 hi ⟨o7, o8, rfl, s11⟩
   have hdB := s11 _ _ ehd
   refine ⟨_, rfl, hd, _, 0, _, rfl, rfl, SqL.of hdB, rfl, _, rfl, hd, _, 1, _, rfl, rfl, SqL.of hdB, rfl, h1, h2, U, W, m, n, rfl, T1.mono s11, gG, T2.mono s11, gW, fun pf fr fc R' C' H12 s12 nfr nfc nfrc epf efr efc en' => ?_⟩
   obtain ⟨eR, eC⟩ := en'.1.uniq m1 n1 en'.2 en.1 en.2
   subst eR
   subst eC
   have s1C := s11.trans s12
   refine ⟨_, rfl, _, _, _, _, rfl, TyOf.tup epf, rfl, _, rfl, ?_⟩
   refine cD ?_
   refine ⟨_, rfl, _, rfl, _, _, zZ epf efr efc, zZ (s1C _ _ epdA) (s1C _ _ elrA) (s1C _ _ elcA), HR _ _, JN _ _, _, rfl, ?_⟩
   refine vR (gM _) ?_
   refine ⟨_, rfl, pd, _, 0, _, rfl, rfl, SqT.of (s1C _ _ epdA), rfl, Nat.zero_le _, fun q0 hq0 => ?_⟩
   have sD := ak (o := .lst []) hq0
   have eq0 : upd H12 q0 (.lst []) q0 = some (.lst (([] : List Int).map V.int)) := aq
   generalize upd H12 q0 (.lst []) = H13 at sD eq0 ⊢
   refine ⟨_, _, fU ((s1C.trans sD) _ _ elrA), fU eq0, jU _ _, (by rw [jx]; decide), _, rfl, ?_⟩
   refine ifN (fun z => pl.rn (rQ (qi z : nI _ = nI []))) ?_
   refine ⟨_, rfl, _, rfl, _, rfl, (by show 2 <= sizeLine; decide), fun q2 hq2 => ?_⟩
   have sE := ak (o := .lst [.ref t, .ref w2]) hq2
   have eq2 : upd H13 q2 (.lst [.ref t, .ref w2]) q2 = some (.lst [.ref t, .ref w2]) := aq
   generalize upd H13 q2 (.lst [.ref t, .ref w2]) = H14 at sE eq2 ⊢
   have s1E := (s1C.trans sD).trans sE
   refine ⟨_, _, wO (s1E _ _ ehd) (T1.mono s1E) (T2.mono s1E), wO eq2 (hUA.mono s1E) (hWA.mono s1E), Gr U W, Hx U W, _, rfl, ?_⟩
   refine vR (gM _) ?_
   have sCE := sD.trans sE
   have epfE := sCE _ _ epf
   have efrE := sCE _ _ efr
   have efcE := sCE _ _ efc
   refine ⟨_, rfl, pf, _, 0, _, rfl, rfl, SqT.of epfE, rfl, .inl ⟨rfl, _, SqL.of efrE⟩, fr, _, .int 0, rfl, rfl, efrE, aJ (by rw [List.length_map, cC]; omega), ?_⟩
   have sF : Same H11 (upd H14 fr (.lst ((nI R').map V.int ++ [.int 0]))) := di (s12.trans sCE) nfr
   have npf : pf ≠ fr := jj epfE efrE (by intro z; cases z)
   have epfF : upd H14 fr (.lst ((nI R').map V.int ++ [.int 0])) pf = some (.tup [.ref fr, .ref fc]) := by rw [aH npf]; exact epfE
   have efcF : upd H14 fr (.lst ((nI R').map V.int ++ [.int 0])) fc = some (.lst ((nI C').map V.int)) := by rw [aH nfrc.symm]; exact efcE
   generalize upd H14 fr (.lst ((nI R').map V.int ++ [.int 0])) = H15 at sF epfF efcF ⊢
   refine ⟨_, rfl, pf, _, 1, _, rfl, rfl, SqT.of epfF, rfl, .inl ⟨rfl, _, SqL.of efcF⟩, fc, _, .int 0, rfl, rfl, efcF, aJ (by rw [List.length_map, cC]; omega), ?_⟩
   exact ⟨_, _, rfl, s11.trans (di sF nfc)⟩
  rintro σ H11 ⟨o7, o8, rfl, s11⟩
  refine ⟨_, rfl, _, rfl, t, w2, U, W, m, n, rfl, hUA.mono s11, gG, hWA.mono s11, gW, fun x dx l1 l2 H12 R2 C2 R2' C2' s12 nx nl1 nl2 n12 hins f1 f2 g2 kc g2' kc' hok => ?_⟩
  have mx1 := Ea (gk g') g2' kc'
  have mx2 := Ea g g2 kc
  have st := Hv g g' g2 kc g2' kc' hok
  have f1 : IsFrs H12 l1 (mks (wsM (cols W n) m R2' C2') (Gm.smM (cols W n) R2' C2')) := f1
  have f2 : IsFrs H12 l2 (mks (wsM U n R2 C2) (Gm.smM U R2 C2)) := f2
  have st : stB U W m n (mks (wsM (cols W n) m R2' C2') (Gm.smM (cols W n) R2' C2')) (mks (wsM U n R2 C2) (Gm.smM U R2 C2)) = true := st
  generalize wsM (cols W n) m R2' C2' = xs at mx1 f1 st
  generalize Gm.smM (cols W n) R2' C2' = X at mx1 f1 st
  generalize wsM U n R2 C2 = zs at mx2 f2 st
  generalize Gm.smM U R2 C2 = Z at mx2 f2 st
  unfold stB at st
  rw [Bool.and_eq_true, Bool.and_eq_true] at st
  have sup := en.1.supp (fun j hj => mx2.fn hj) (fun i hi => mx1.fn hi) (by rw [mx2.sm]; exact mx2.pos) (by rw [mx1.sm]; exact mx1.pos) ((Ej g mx1 mx2).mp st.1.2) ((Ej (gk g') mx2 mx1).mp st.2)
  have sAC := s11.trans s12
  have epdC := sAC _ _ epdA
  have elrC := sAC _ _ elrA
  have elcC := sAC _ _ elcA
  refine iG ?_
  refine dR (fun σ' H' => σ' = [some (.ref a), some (.int m), some (.int n), some (.ref t), some (.ref w2), some (.ref pd), some (.ref hd), o7, o8, some (.ref x)] /\ Same H12 H') (fun R0 hR0 => ?_) ?_
  ·refine ⟨_, rfl, _, rfl, by omega, by omega, cP (n := m) (fun _ y _ => y = .bl false) (fun _ _ _ _ _ h => h) (Nat.le_of_lt (aJ (by omega))) ?_ ?_⟩
   ·intro i hi H13 s13 Q' q
    obtain ⟨v1, e1, p1⟩ := f1.mono s13
    have hzl : i < v1.length := by rw [p1.length, cQ, mx1.len]; exact hi
    obtain ⟨y, ey, b, eb, hb⟩ := p1.get2 (List.getElem?_eq_getElem hzl)
    have az : atI v1 (i : Int) = some (.ref b) := gR (by rw [List.getElem?_eq_getElem hzl, eb])
    refine ⟨_, rfl, x, CT, dx, _, _, rfl, s13 _ _ hins, C_Settled.cl, c1, DK l1 l2, _, rfl, l1, v1, (i : Int), _, rfl, rfl, SqL.of e1, az, b, _, 0, _, rfl, rfl, SqT.of hb, rfl, _, _, rfl, rfl, _, rfl, ?_⟩
    refine mY (fun hpos => ?_) (fun _ => q _ H13 (Same.refl _) rfl)
    have hy : 0 < y.1 := of_decide_eq_true hpos
    have em : y = Fr.mk (fx xs i) X := by
     have := dm (d := (0, 0)) ey
     rw [<- this]
     unfold mks fx
     exact iw (fun w => Fr.mk w X) xs 0 (0, 0) (by rw [mx1.len]; exact hi)
    have hin := sup.1 i hi (Bg mx1.pos (by rw [<- em]; exact hy))
    refine ⟨_, rfl, _, rfl, pd, _, 0, _, rfl, rfl, SqT.of (s13 _ _ epdC), rfl, lr, _, rfl, .inl (SqL.of (s13 _ _ elrC)), rfl, jZ _, q _ H13 (Same.refl _) ?_⟩
    have : inV (.int (i : Int)) ((nI R).map V.int) = true := (jN _ _).trans (decide_eq_true (mem_nI.mpr hin))
    show V.bl (!inV (.int (i : Int)) ((nI R).map V.int)) = V.bl false
    rw [this]
    rfl
   intro ys H13 s13 prb qb hqb
   have eb := jq prb
   subst eb
   refine ⟨qb, _, rfl, SqL.of aq, _, rfl, ?_⟩
   rw [u5]
   refine cD ?_
   exact hR0 _ _ ⟨rfl, s13.trans (ak hqb)⟩
  rintro σ' H13 ⟨rfl, s13⟩
  have f2' := f2.mono s13
  have ins13 := s13 _ _ hins
  have epdD := s13 _ _ epdC
  have elcD := s13 _ _ elcC
  refine ⟨_, rfl, _, rfl, by omega, by omega, cP (n := n) (fun _ y _ => y = .bl false) (fun _ _ _ _ _ h => h) (Nat.le_of_lt (aJ (by omega))) ?_ ?_⟩
  ·intro i hi H14 s14 Q' q
   obtain ⟨v1, e1, p1⟩ := f2'.mono s14
   have hzl : i < v1.length := by rw [p1.length, cQ, mx2.len]; exact hi
   obtain ⟨y, ey, b, eb, hb⟩ := p1.get2 (List.getElem?_eq_getElem hzl)
   have az : atI v1 (i : Int) = some (.ref b) := gR (by rw [List.getElem?_eq_getElem hzl, eb])
   refine ⟨_, rfl, x, CT, dx, _, _, rfl, s14 _ _ ins13, C_Settled.cl, c2, yX l1 l2, _, rfl, l2, v1, (i : Int), _, rfl, rfl, SqL.of e1, az, b, _, 0, _, rfl, rfl, SqT.of hb, rfl, _, _, rfl, rfl, _, rfl, ?_⟩
   refine mY (fun hpos => ?_) (fun _ => q _ H14 (Same.refl _) rfl)
   have hy : 0 < y.1 := of_decide_eq_true hpos
   have em : y = Fr.mk (fx zs i) Z := by
    have := dm (d := (0, 0)) ey
    rw [<- this]
    unfold mks fx
    exact iw (fun w => Fr.mk w Z) zs 0 (0, 0) (by rw [mx2.len]; exact hi)
   have hin := sup.2 i hi (Bg mx2.pos (by rw [<- em]; exact hy))
   refine ⟨_, rfl, _, rfl, pd, _, 1, _, rfl, rfl, SqT.of (s14 _ _ epdD), rfl, lc, _, rfl, .inl (SqL.of (s14 _ _ elcD)), rfl, jZ _, q _ H14 (Same.refl _) ?_⟩
   have : inV (.int (i : Int)) ((nI C).map V.int) = true := (jN _ _).trans (decide_eq_true (mem_nI.mpr hin))
   show V.bl (!inV (.int (i : Int)) ((nI C).map V.int)) = V.bl false
   rw [this]
   rfl
  intro ys H14 s14 prb qb hqb
  have eb := jq prb
  subst eb
  refine ⟨qb, _, rfl, SqL.of aq, _, rfl, ?_⟩
  rw [u5]
  exact k _
end
theorem all_mk {l : PySem.W.OpenLaw} {w : World} {K : PySem.W.Frag} {h : Heap} {mg : Str -> Option Value} {fa fL A_Solved A_Beaten A_Best A_Settled : Addr} (X : K.In h) (G : h.Ns mainGlobals mg) (hfa : mg "law" = some (.ref fa))
  {od an : Option Addr} {sl : Array (Option Value)} {oc kV dc pm cd ct : Value}
  (F0 : FunM K mg "is_whole" mK ["thing"])
  (F1 : FunM K mg "is_within" km ["number"])
  (F2 : FunM K mg "is_row" p_ ["thing"])
  (F3 : FunM K mg "is_table" m_ ["thing"])
  (F4 : FunM K mg "check_table" i_ ["thing"])
  (F5 : FunM K mg "_law_cell_at" gQ ["_law_script", "_law_k"])
  (F6 : FunM K mg "_law_draw" j8 ["_law_cell", "_law_k", "_law_many"])
  (F7 : FunM K mg "_law_table" jG ["_law_cell", "_law_rows", "_law_columns"])
  (F8 : FunM K mg "greatest_divisor" eO ["a", "b"])
  (F9 : FunM K mg "made" xH ["a", "b"])
  (F10 : FunM K mg "plus" yJ ["one", "other"])
  (F11 : FunM K mg "times" uJ ["one", "other"])
  (F12 : FunM K mg "below" uC ["one", "other"])
  (F13 : FunM K mg "_law_common" iZ ["_law_one", "_law_other"])
  (F14 : FunM K mg "weighed" nO ["values", "mixture"])
  (F15 : FunM K mg "row_gets" mC ["row", "mixture"])
  (F16 : FunM K mg "all_get" nM ["rows", "mixture"])
  (F17 : FunM K mg "column_of" kE ["table", "column"])
  (F18 : FunM K mg "columns_of" jK ["table"])
  (F19 : FunM K mg "from_other_side" e_ ["table"])
  (F20 : FunM K mg "determinant" fB ["square"])
  (F21 : FunM K mg "with_column" iV ["square", "column", "numbers"])
  (F22 : FunM K mg "solution" mW ["square", "numbers"])
  (F23 : FunM K mg "choices" nT ["count"])
  (F24 : FunM K mg "spread" qI ["shares", "places", "count"])
  (F25 : FunM K mg "level" tD ["table", "rows", "columns"])
  (F26 : FunM K mg "corner" qz ["table", "rows", "columns"])
  (F27 : FunM K mg "corners_of" jB ["table"])
  (F28 : FunM K mg "lowest" pZ ["corners"])
  (F29 : FunC K A_Solved "__init__" "Solved.__init__" jb ["self", "value", "mine", "theirs"])
  (F30 : FunM K mg "evened" qu ["table"])
  (F31 : FunM K mg "_law_made" kh ["_law_a", "_law_b"])
  (F32 : FunM K mg "_law_less" kI ["_law_one", "_law_other"])
  (F33 : FunM K mg "_law_sum" mz ["_law_worths", "_law_shares"])
  (F34 : FunM K mg "_law_across" jg ["_law_table_here"])
  (F35 : FunM K mg "_law_mixture" gh ["_law_mixture_here", "_law_many"])
  (F36 : FunM K mg "greatest" mV ["values"])
  (F37 : FunM K mg "best_rows" j9 ["table", "theirs"])
  (F38 : FunC K A_Beaten "__init__" "Beaten.__init__" jd ["self", "mixture"])
  (F39 : FunC K A_Best "__init__" "Best.__init__" kj ["self", "mixture"])
  (F40 : FunM K mg "check_row" k_ ["table", "row"])
  (F41 : FunM K mg "leads" uz ["table", "row"])
  (F42 : FunM K mg "beaten" qC ["table", "row"])
  (F43 : FunM K mg "_law_beats" jT ["_law_table_here", "_law_row", "_law_mixture_here"])
  (F44 : FunM K mg "_law_answers" gw ["_law_table_here", "_law_row", "_law_mixture_here"])
  (F45 : FunM K mg "shared" qF ["mixture"])
  (F46 : FunM K mg "all_among" lg ["cards", "others"])
  (F47 : FunC K A_Settled "__init__" "Settled.__init__" gC ["self", "mine", "theirs"])
  (F48 : FunM K mg "of_same_counts" fP ["one", "other"])
  (F49 : FunM K mg "check_alike" iM ["one", "other"])
  (F50 : FunM K mg "answered_corners" eG ["table"])
  (F51 : FunM K mg "settled" oG ["one", "other"])
  (F52 : FunM K mg "part" wG ["table", "rows", "columns"])
  (F53 : FunM K mg "unbeaten" lN ["table", "places"])
  (F54 : FunM K mg "struck" qK ["one", "other"])
  (F55 : FunM K mg "_law_part" j7 ["_law_table_here", "_law_rows", "_law_columns"])
  (F56 : FunM K mg "_law_beaten" iK ["_law_table_here", "_law_row"])
  (F57 : FunM K mg "_law_struck" iQ ["_law_one", "_law_other", "_law_cell"])
  (aL : PySem.W.nsIn K mainGlobals "law" = some (some (.ref fL))) (lL : K.lookup fL = some ⟨oc, od, .func (PySem.W.fnOf "law" "law" (dW jl) (cT jl) (aC jl) .none kV dc pm an cd ct), sl⟩) (cL : PySem.W.codeIn K cd "law" = true) (kL : PySem.W.keepIn K (.ref fL) = true)
  (aC_Solved : PySem.W.nsIn K mainGlobals "Solved" = some (some (.ref A_Solved))) (pg_Solved : PySem.W.plainGet K A_Solved Str.empty = true) (hd_Solved : PySem.W.hasDictIn K A_Solved = true) (po_Solved : PySem.W.plainOver K A_Solved = true) (sa_Solved : PySem.W.findIn K (.ref A_Solved) "__setattr__" = some (some (.builtin "object.__setattr__"))) (mk_Solved : PySem.W.makesIn K A_Solved = true) (kc_Solved : PySem.W.keepIn K (.ref A_Solved) = true)
  (no_Solved_value : PySem.W.findIn K (.ref A_Solved) "value" = some none)
  (no_Solved_mine : PySem.W.findIn K (.ref A_Solved) "mine" = some none)
  (no_Solved_theirs : PySem.W.findIn K (.ref A_Solved) "theirs" = some none)
  (aC_Beaten : PySem.W.nsIn K mainGlobals "Beaten" = some (some (.ref A_Beaten))) (pg_Beaten : PySem.W.plainGet K A_Beaten Str.empty = true) (hd_Beaten : PySem.W.hasDictIn K A_Beaten = true) (po_Beaten : PySem.W.plainOver K A_Beaten = true) (sa_Beaten : PySem.W.findIn K (.ref A_Beaten) "__setattr__" = some (some (.builtin "object.__setattr__"))) (mk_Beaten : PySem.W.makesIn K A_Beaten = true) (kc_Beaten : PySem.W.keepIn K (.ref A_Beaten) = true)
  (no_Beaten_mixture : PySem.W.findIn K (.ref A_Beaten) "mixture" = some none)
  (aC_Best : PySem.W.nsIn K mainGlobals "Best" = some (some (.ref A_Best))) (pg_Best : PySem.W.plainGet K A_Best Str.empty = true) (hd_Best : PySem.W.hasDictIn K A_Best = true) (po_Best : PySem.W.plainOver K A_Best = true) (sa_Best : PySem.W.findIn K (.ref A_Best) "__setattr__" = some (some (.builtin "object.__setattr__"))) (mk_Best : PySem.W.makesIn K A_Best = true) (kc_Best : PySem.W.keepIn K (.ref A_Best) = true)
  (no_Best_mixture : PySem.W.findIn K (.ref A_Best) "mixture" = some none)
  (aC_Settled : PySem.W.nsIn K mainGlobals "Settled" = some (some (.ref A_Settled))) (pg_Settled : PySem.W.plainGet K A_Settled Str.empty = true) (hd_Settled : PySem.W.hasDictIn K A_Settled = true) (po_Settled : PySem.W.plainOver K A_Settled = true) (sa_Settled : PySem.W.findIn K (.ref A_Settled) "__setattr__" = some (some (.builtin "object.__setattr__"))) (mk_Settled : PySem.W.makesIn K A_Settled = true) (kc_Settled : PySem.W.keepIn K (.ref A_Settled) = true)
  (no_Settled_mine : PySem.W.findIn K (.ref A_Settled) "mine" = some none)
  (no_Settled_theirs : PySem.W.findIn K (.ref A_Settled) "theirs" = some none)
  (ia_Beaten : PySem.W.findIn K (.ref A_Beaten) "__class__" = some (some (.builtin "object.__class__"))) (ib_Beaten : PySem.W.specialIn K (.builtin "object.__class__") "__get__" = some (some (.builtin "getset_descriptor.__get__"))) (ic_Beaten : PySem.W.takesIn K (.builtin "object.__class__") = some true) (id_Beaten : PySem.W.mroIn K A_Beaten (.type "object") = some true)
  (ia_Best : PySem.W.findIn K (.ref A_Best) "__class__" = some (some (.builtin "object.__class__"))) (ib_Best : PySem.W.specialIn K (.builtin "object.__class__") "__get__" = some (some (.builtin "getset_descriptor.__get__"))) (ic_Best : PySem.W.takesIn K (.builtin "object.__class__") = some true) (id_Best : PySem.W.mroIn K A_Best (.type "object") = some true)
  (j_Beaten_Best : PySem.W.kitOne K (.ref A_Beaten) (.ref A_Best) = some false)
  (j_Best_Best : PySem.W.kitOne K (.ref A_Best) (.ref A_Best) = some true)
  (j_Beaten_Beaten : PySem.W.kitOne K (.ref A_Beaten) (.ref A_Beaten) = some true)
  (j_Best_Beaten : PySem.W.kitOne K (.ref A_Best) (.ref A_Beaten) = some false)
  (z0 : PySem.W.nsIn K mainGlobals "abs" = some none)
  (z1 : PySem.W.nsIn K mainGlobals "all" = some none)
  (z2 : PySem.W.nsIn K mainGlobals "any" = some none)
  (z3 : PySem.W.nsIn K mainGlobals "bool" = some none)
  (z4 : PySem.W.nsIn K mainGlobals "enumerate" = some none)
  (z5 : PySem.W.nsIn K mainGlobals "int" = some none)
  (z6 : PySem.W.nsIn K mainGlobals "isinstance" = some none)
  (z7 : PySem.W.nsIn K mainGlobals "len" = some none)
  (z8 : PySem.W.nsIn K mainGlobals "list" = some none)
  (z9 : PySem.W.nsIn K mainGlobals "range" = some none)
  (z10 : PySem.W.nsIn K mainGlobals "tuple" = some none)
  (z11 : PySem.W.nsIn K mainGlobals "zip" = some none)
  {ti0 : Tok} (y0 : PySem.W.nsIn K mainGlobals "LEAST_NUMBER" = some (some (.int (-100) ti0)))
  {ti1 : Tok} (y1 : PySem.W.nsIn K mainGlobals "MOST_CARDS" = some (some (.int (4) ti1)))
  {ti2 : Tok} (y2 : PySem.W.nsIn K mainGlobals "MOST_NUMBER" = some (some (.int (100) ti2)))
  : ∃ fd : FuncData, (∀ (s : Shared) (v : Value), BindsTo s fd ⟨[v], []⟩ [("_law_script", v)]) /\ ∀ base : Heap, K.In base -> base.Ns mainGlobals mg -> FnOk l.prog w K mg base CX0 15 fa fd ["_law_script"] (qZ K) := by
 have e := hfa.symm.trans (PySem.W.mg_of X G aL)
 cases e
 have T : Blt mg := { abs_ := PySem.W.mg_none_of X G z0, all_ := PySem.W.mg_none_of X G z1, any_ := PySem.W.mg_none_of X G z2, bool_ := PySem.W.mg_none_of X G z3, enumerate_ := PySem.W.mg_none_of X G z4, int_ := PySem.W.mg_none_of X G z5, isinstance_ := PySem.W.mg_none_of X G z6, len_ := PySem.W.mg_none_of X G z7, list_ := PySem.W.mg_none_of X G z8, range_ := PySem.W.mg_none_of X G z9, tuple_ := PySem.W.mg_none_of X G z10, zip_ := PySem.W.mg_none_of X G z11, LEAST_NUMBER := ⟨_, PySem.W.mg_of X G y0⟩, MOST_CARDS := ⟨_, PySem.W.mg_of X G y1⟩, MOST_NUMBER := ⟨_, PySem.W.mg_of X G y2⟩ }
 have I_Beaten : Isi K A_Beaten := ⟨ia_Beaten, ib_Beaten, ic_Beaten, id_Beaten⟩
 have I_Best : Isi K A_Best := ⟨ia_Best, ib_Best, ic_Best, id_Best⟩
 have iR := j_Beaten_Best
 have dY := j_Best_Best
 have f9 := j_Beaten_Beaten
 have iU := j_Best_Beaten
 have C_Solved : Cl K mg "Solved" ["value", "mine", "theirs"] [] A_Solved := ⟨⟨pg_Solved, hd_Solved, po_Solved, sa_Solved⟩, (fun f hf => by rcases List.mem_cons.mp hf with e | hf; (rw [e]; exact no_Solved_value); rcases List.mem_cons.mp hf with e | hf; (rw [e]; exact no_Solved_mine); rcases List.mem_cons.mp hf with e | hf; (rw [e]; exact no_Solved_theirs); cases hf), PySem.W.mg_of X G aC_Solved, mk_Solved, kc_Solved⟩
 have C_Beaten : Cl K mg "Beaten" ["mixture"] [] A_Beaten := ⟨⟨pg_Beaten, hd_Beaten, po_Beaten, sa_Beaten⟩, (fun f hf => by rcases List.mem_cons.mp hf with e | hf; (rw [e]; exact no_Beaten_mixture); cases hf), PySem.W.mg_of X G aC_Beaten, mk_Beaten, kc_Beaten⟩
 have C_Best : Cl K mg "Best" ["mixture"] [] A_Best := ⟨⟨pg_Best, hd_Best, po_Best, sa_Best⟩, (fun f hf => by rcases List.mem_cons.mp hf with e | hf; (rw [e]; exact no_Best_mixture); cases hf), PySem.W.mg_of X G aC_Best, mk_Best, kc_Best⟩
 have C_Settled : Cl K mg "Settled" ["mine", "theirs"] [] A_Settled := ⟨⟨pg_Settled, hd_Settled, po_Settled, sa_Settled⟩, (fun f hf => by rcases List.mem_cons.mp hf with e | hf; (rw [e]; exact no_Settled_mine); rcases List.mem_cons.mp hf with e | hf; (rw [e]; exact no_Settled_theirs); cases hf), PySem.W.mg_of X G aC_Settled, mk_Settled, kc_Settled⟩
 have FL := ww (st := jl) lL cL kL
 refine ⟨PySem.W.fnOf "law" "law" (dW jl) (cT jl) (aC jl) .none kV dc pm an cd ct, fun s v => .of_eq rfl, fun base _ _ => ?_⟩
 have eY := zN (P := l.prog) (w := w) (base := base) F0 T
 have kW := xx (P := l.prog) (w := w) (base := base) F1 T
 have qy := D_ (P := l.prog) (w := w) (base := base) F2 T eY kW
 have m6 := zj (P := l.prog) (w := w) (base := base) F3 T qy
 have cJ := uA (P := l.prog) (w := w) (base := base) F4 T m6
 have bM := sH (P := l.prog) (w := w) (base := base) F5 T
 have cz := yV (P := l.prog) (w := w) (base := base) F6 T
 have fZ := vM (P := l.prog) (w := w) (base := base) F7 T cz
 have eE := nC (P := l.prog) (w := w) (base := base) F8 T
 have gb := HQ (P := l.prog) (w := w) (base := base) F9 T eE
 have wN := Ib (P := l.prog) (w := w) (base := base) F10 T gb
 have uB := Fi (P := l.prog) (w := w) (base := base) F11 T gb
 have cU := Fg (P := l.prog) (w := w) (base := base) F12 T
 have jh := uF (P := l.prog) (w := w) (base := base) F13 T
 have oH := Bl (P := l.prog) (w := w) (base := base) F14 T wN uB
 have lR := y_ (P := l.prog) (w := w) (base := base) F15 T oH
 have fQ := Cj (P := l.prog) (w := w) (base := base) F16 T lR
 have j_ := wM (P := l.prog) (w := w) (base := base) F17 T
 have bZ := vN (P := l.prog) (w := w) (base := base) F18 T j_
 have fj := n_ (P := l.prog) (w := w) (base := base) F19 T bZ
 have dg := t8 (P := l.prog) (w := w) (base := base) F20 T
 have iY := tG (P := l.prog) (w := w) (base := base) F21 T
 have mG := zB (P := l.prog) (w := w) (base := base) F22 T dg iY gb
 have jX := BX (P := l.prog) (w := w) (base := base) F23 T
 have gZ := Ek (P := l.prog) (w := w) (base := base) F24 T
 have tH := FJ (P := l.prog) (w := w) (base := base) F25 T mG
 have qt := CK (P := l.prog) (w := w) (base := base) F26 T tH cU gZ fQ
 have cW := vI (P := l.prog) (w := w) (base := base) F27 T jX qt
 have l_ := Dp (P := l.prog) (w := w) (base := base) F28 T cU
 have jf := tV (P := l.prog) (w := w) (base := base) F29 T C_Solved
 have qd := Eb (P := l.prog) (w := w) (base := base) F30 T C_Solved l_ cW fj jf
 have dU := xm (P := l.prog) (w := w) (base := base) F31 T jh
 have dZ := yL (P := l.prog) (w := w) (base := base) F32 T
 have cB := zF (P := l.prog) (w := w) (base := base) F33 T dU
 have dq := ur (P := l.prog) (w := w) (base := base) F34 T
 have cV := sW (P := l.prog) (w := w) (base := base) F35 T dU cB
 have m8 := zK (P := l.prog) (w := w) (base := base) F36 T cU
 have kZ := wI (P := l.prog) (w := w) (base := base) F37 T fQ m8
 have ji := uo (P := l.prog) (w := w) (base := base) F38 T C_Beaten
 have ik := ym (P := l.prog) (w := w) (base := base) F39 T C_Best
 have lu := yr (P := l.prog) (w := w) (base := base) F40 T eY
 have tZ := GC (P := l.prog) (w := w) (base := base) F41 T
 have gH := CW (P := l.prog) (w := w) (base := base) F42 T C_Beaten C_Best C_Solved cJ lu gZ tZ qd cU ji ik
 have jz := vQ (P := l.prog) (w := w) (base := base) F43 T cV dZ cB dq
 have gB := rM (P := l.prog) (w := w) (base := base) F44 T cV dZ cB
 have qO := Df (P := l.prog) (w := w) (base := base) F45 T
 have ie := xJ (P := l.prog) (w := w) (base := base) F46 T
 have gJ := rN (P := l.prog) (w := w) (base := base) F47 T C_Settled
 have fM := pK (P := l.prog) (w := w) (base := base) F48 T
 have cZ := tE (P := l.prog) (w := w) (base := base) F49 T cJ fM
 have dz := nj (P := l.prog) (w := w) (base := base) F50 T cW qO kZ
 have ou := BW (P := l.prog) (w := w) (base := base) F51 T C_Settled cZ dz bZ ie gJ
 have qX := HB (P := l.prog) (w := w) (base := base) F52 T
 have jo := zp (P := l.prog) (w := w) (base := base) F53 T C_Beaten C_Best I_Beaten I_Best iR dY gH
 have qw := Cy (P := l.prog) (w := w) (base := base) F54 T cZ qX jo bZ
 have h_ := xu (P := l.prog) (w := w) (base := base) F55 T
 have je := t_ (P := l.prog) (w := w) (base := base) F56 T C_Beaten C_Best I_Beaten I_Best f9 iU dY gH jz gB
 have jc := uG (P := l.prog) (w := w) (base := base) F57 T cz h_ dq je
 exact Ju FL T C_Settled bM fZ jc qw ou
theorem walk {l : PySem.W.OpenLaw} {q : Program} {loose : List Str} {XP : (Str -> Option Value) -> Heap -> Prop} {YP : World -> Heap -> Prop} {d : DefRec} {K : Params -> PySem.W.Frag} (hn : l.most = some 63) (hdf : d.params.defaults = [])
  (hY : ∀ (w : World) (h : Heap), YP w h -> (K w.params).In h)
  (F : ∀ (w : World) (mg : Str -> Option Value) (fa : Addr) (h : Heap), (K w.params).In h -> h.Ns mainGlobals mg -> mg d.name = some (.ref fa) ->
   ∃ fd : FuncData, (∀ (s : Shared) (u : Value), BindsTo s fd ⟨[u], []⟩ [("_law_script", u)]) /\ ∀ base : Heap, (K w.params).In base -> base.Ns mainGlobals mg -> FnOk l.prog w (K w.params) mg base CX0 15 fa fd ["_law_script"] (qZ (K w.params))) :
  PySem.W.WalkO q loose XP YP l.row.toRowW d [] (fun f vs => PySem.call f vs) :=
 L2.walk_of (n := 63) (k := 15) (x := "_law_script") (CX := fun _ => CX0) (sp := fun w => qZ (K w.params)) hn (by decide) hdf ⟨rfl, by decide, by decide⟩ hY F (fun _ _ a ns hl _ hS => ⟨a, ns, rfl, hS, hl, fun _ => rfl⟩) fun _ _ _ _ _ z => z
end K10
namespace PySem.W.Fast
def tw7753590474983392527:=0
def tw10930943218460138656:=0
def tw2772273453499376895:=0
def tw11554348185400912667:=0
def tw12710333163369283738:=0
def tw11920872411061228806:=0
def tw14065569829064088087:=0
def tw4207162527876959870:=0
def tw1222479441287686702:=0
def tw13260401507595728630:=0
def tw14381909100526705432:=0
def tw11097975942859549391:=0
def tw6898395610537973507:=0
def tw7956855307549246049:=0
def tw8917907291920151284:=0
def tw17035748306468083023:=0
def tw5077639821325441995:=0
def tw3735394710688796568:=0
def tw7872024000813855534:=0
def tw6272541841305530245:=0
def tw6888090206373118714:=0
def tw3950924033597929824:=0
def tw10162470999804922782:=0
def tw5356955798016385865:=0
def tw8839134915538122660:=0
def tw9657403951751110130:=0
def tw5138429672790186078:=0
def tw291990693945532128:=0
def tw5580733013887092122:=0
def tw1710356722918884800:=0
def tw10803993193819384107:=0
def tw2880192696142593000:=0
def tw5345692395011715576:=0
def tw1381778763854471132:=0
def tw17253085068970986062:=0
def tw11574528834668996118:=0
def tw14618095236952616684:=0
def tw16093447067092380796:=0
def tw11424577616727137939:=0
def tw14915159454537819624:=0
def tw11579151677560285527:=0
def tw16121629803324789472:=0
def tw3158521588702868955:=0
def tw637268145468955575:=0
def tw3570331870516387261:=0
def tw8006984588393079915:=0
def tw1895179820581047663:=0
def tw209397351217170233:=0
def tw2111261314725569768:=0
def tw9599548145023477084:=0
def tw1744479775702319254:=0
def tw12673041173582336902:=0
def tw7803350896727974404:=0
def tw3457277203998691217:=0
def tw2235057957094469766:=0
def tw12646866136045480577:=0
def tw4714283357370218493:=0
def tw1998143032809619309:=0
def tw2846325286275852160:=0
def tw8160093785041000580:=0
def tw12045524341295673723:=0
def tw14237568039251992591:=0
def tw17838561347235122160:=0
def tw17514970466071015364:=0
def tw6305824979818615795:=0
def tw16424420352022845799:=0
def tw4765550215112963331:=0
def tw12536832233098453369:=0
def tw9439015524420133908:=0
def tw18155661843285164861:=0
def tw17693820031274363488:=0
def tw2255494653003492964:=0
def tw3797697190118951976:=0
def tw11485338479274338138:=0
def tw16563566505352284003:=0
def tw3699244701793271557:=0
def tw13543931477065299174:=0
def tw14785633069303377991:=0
def tw15621583603868394782:=0
def tw1985395340716304863:=0
def tw4134647242410338365:=0
def tw5297180719182827311:=0
def tw710840435990027434:=0
def tw4887380087833291549:=0
def tw9269653273205160218:=0
def tw4401262701493582851:=0
def tw14972533623850720319:=0
def tw14225779613475302520:=0
def tw11162302570145942726:=0
def tw8885534980344829594:=0
def tw4955730451874466697:=0
def tw6029543443601574635:=0
def tw17074760512775000781:=0
def tw2972298521748054264:=0
def tw2633562758779055034:=0
def tw4918095712247202150:=0
def tw9364780962287697960:=0
def tw7647105058462384838:=0
def tw1566895131578792711:=0
def tw7357372769717388622:=0
def tw11067093622714826134:=0
def tw12739534689736812875:=0
def tw13635747355363218906:=0
def tw4414247647215875338:=0
def tw1849007426846833976:=0
def tw4573608617284091351:=0
def tw6777300100521058522:=0
def tw7182039463911396236:=0
def tw6669917120869090820:=0
def tw2174055718672898035:=0
def tw16640313310091219836:=0
def tw10875246672796533050:=0
def tw1067570331697013148:=0
def tw5856126503559209694:=0
def tw9074535446789480176:=0
def tw6840202294415802824:=0
def tw7171519674314992897:=0
def tw8203447966047137090:=0
def tw11968994187869850838:=0
def tw16208809394085975272:=0
def tw10580868856785027045:=0
def tw16671146041585083293:=0
def tw37346795211300550:=0
def tw17414882884568202982:=0
def tw14472254733902835537:=0
def tw2642579781430695968:=0
def tw13918430371295945232:=0
def tw9939713295954770040:=0
def tw1396787112139690734:=0
def tw10589859114353120789:=0
def tw2298235644850796751:=0
def tw16282543936485989754:=0
def tw15456265078401022861:=0
def tw6191311687662841817:=0
def tw9066355536053048798:=0
def tw18049923281354994151:=0
def tw3733204362814598904:=0
def tw5694881853928474339:=0
def tw8918380707026080628:=0
def tw6287783500722854703:=0
def tw12626200505211129167:=0
def tw6647547691182674167:=0
def tw223374425319694579:=0
def tw14125862926007616541:=0
def tw263449346115144089:=0
def tw10328184258002475830:=0
def tw9047516816248553576:=0
def tw14646839278314992792:=0
def tw7525340319496128556:=0
def tw8832554737474417742:=0
def tw6322317242482082897:=0
def tw9924550082874619618:=0
def tw9863491809960887497:=0
def tw2729721209779972658:=0
def tw15570290997021893730:=0
def tw2495870311657383702:=0
def tw4833312091731356663:=0
def tw2740158814008326502:=0
def tw10580693156128269403:=0
def tw618791372337833113:=0
def tw10368913257024780430:=0
def tw16370801080076042137:=0
def tw7537247725577825675:=0
def tw16442866850118925728:=0
def tw3361576418890556637:=0
def tw16560438345935456122:=0
def tw14404557716039699978:=0
def tw2375857902012265005:=0
def tw6990123546312277847:=0
def tw16062713079126278732:=0
def tw9660074082356754248:=0
def tw2153840205621978354:=0
def tw13434231672519332698:=0
def tw9848107995103393212:=0
def tw2902939963979048519:=0
def tw1846176071801476607:=0
def tw9058016578542246660:=0
def tw12089554691029646127:=0
def tw14351835540420801495:=0
def tw18407604199864606345:=0
def tw16414279614983129780:=0
def tw4265398167052113001:=0
def tw18100636096930233603:=0
def tw7605030016272013029:=0
def tw103970690035976887:=0
def tw13282020259258004387:=0
def tw5913016038612893919:=0
def tw4753718909500779025:=0
def tw1607258928185085836:=0
def tw1133075022857323482:=0
def tw8830729060180260048:=0
def tw2755595537303968575:=0
def tw9911559076394475244:=0
def tw4076720815455371358:=0
def tw8245792901161357800:=0
def tw13519989578989406452:=0
def tw3481314064975989953:=0
def tw11160178094775879939:=0
def tw13134951805151559587:=0
def tw17807374522627683583:=0
def tw4173359965184006940:=0
def tw12772207918807144158:=0
def tw11214286366278364939:=0
def tw9885416444220503781:=0
def tw17672301917846742109:=0
def tw7284457992687097920:=0
def tw15549339103775984420:=0
def tw13965683954002898170:=0
def tw7288580004885610661:=0
def tw16241723461740640161:=0
def tw11817790367983009479:=0
def tw9541247605853719191:=0
def tw1319168281224068972:=0
def tw14698615496391066978:=0
def tw7018006848299975212:=0
def tw9403649813171669961:=0
def tw6769465672355686984:=0
def tw12565125481738419079:=0
def tw12473808847655888025:=0
def tw18025177749122687637:=0
def tw14925961862168270915:=0
def tw4946614892291034481:=0
def tw6502602934015909761:=0
def tw16651989713108896955:=0
def tw15611793075798363011:=0
def tw15670123787988038610:=0
def tw14020756818820344137:=0
def tw9669302299417023466:=0
def tw18082878739479136100:=0
def tw6729162202390074973:=0
def tw18113314135460885923:=0
def tw2692721012603066637:=0
def tw8635573354823648975:=0
def tw3725015768513366746:=0
def tw10954726463880699241:=0
def tw7908234027811379798:=0
def tw17487097547067187262:=0
def tw10069706638226648887:=0
def tw3117476168109369496:=0
def tw6580818150929244267:=0
def tw17201831560408463227:=0
def tw16234018450969747463:=0
def tw13892649240996728145:=0
def tw17593128285524864828:=0
def tw326182423380477167:=0
def tw2605124585424642415:=0
def tw13926037055108635566:=0
def tw518131841355866002:=0
def tw6380804999418419568:=0
def tw7180360795757917183:=0
def tw17618138244229351161:=0
def tw6761335109344919787:=0
def tw1235651248936778609:=0
def tw9039612544472692452:=0
def tw11060197358186812769:=0
def tw7891293905112563584:=0
def tw7496962259755666143:=0
def tw15032396101132661490:=0
def tw11863901833137402329:=0
def tw14710013160399128761:=0
def tw770012062458215087:=0
def tw5219689347456907485:=0
def tw6026855879492382269:=0
def tw16385397679781406919:=0
def tw7041018950558705639:=0
def tw11043361998245668130:=0
def tw17789026796401578516:=0
def tw14622544354404180102:=0
def tw4135588680461367246:=0
def tw10252796615974951222:=0
def tw8145615717680094094:=0
def tw13205895348699637288:=0
def tw5526123936673519466:=0
def tw2105396751104479471:=0
def tw13047920633031776607:=0
def tw2548303147355673318:=0
def tw11288203168635917771:=0
def tw14338269637505529581:=0
def tw17291042797590831171:=0
def tw10549080866867908789:=0
def tw8237274125756382420:=0
def tw8257792893938373606:=0
def tw9581042917293725566:=0
def tw17492063227060509167:=0
def tw14249755890528084745:=0
def tw11265361357602556781:=0
def tw9995375379134577083:=0
def tw6895348453552553190:=0
def tw5519991851117569640:=0
def tw2645861293716083448:=0
def tw11161832018479971437:=0
def tw16393540819720394166:=0
def tw13328250959834983260:=0
def tw6493927884794713950:=0
def tw80742668878781809:=0
def tw15363974147474326430:=0
def tw5048709926288737996:=0
def tw15055203168524856079:=0
def tw9506609758910898400:=0
def tw11441088933337988523:=0
def tw4740854783804368782:=0
def tw17012574591155050474:=0
def tw12735750513858467377:=0
def tw13071618188786717607:=0
def tw15287958803601265828:=0
def tw16826666502341623623:=0
def tw12897426022942918632:=0
def tw13260483882172736433:=0
def tw6070127467265451333:=0
def tw16543816434340131713:=0
def tw18288818894249489676:=0
def tw1931155029832663738:=0
def tw7429758143202381145:=0
def tw17544781414803347921:=0
def tw10836522162368022082:=0
def tw4161580810200510857:=0
def tw1265493106730884987:=0
def tw16063645651156934672:=0
def tw13608299854131863003:=0
def tw10410855350225416553:=0
def tw165140068040343707:=0
def tw14888472550663728755:=0
def tw2136774205414890551:=0
def tw1581898352339827423:=0
def tw466881727206185441:=0
def tw17826685929409521335:=0
def tw7287633159831867663:=0
def tw597020825948788681:=0
def tw11441403874056286586:=0
def tw14689031175907528304:=0
def tw5891255855295099332:=0
def tw4877675145755392877:=0
def tw7539646832082957646:=0
def tw12767528310494904782:=0
def tw11651539260953393717:=0
def tw14391632838774359879:=0
def tw2381990141227620558:=0
def tw16769131067648033161:=0
def tw10588352951750838482:=0
def tw6448644918223546958:=0
def tw4884938762393940314:=0
def tw5595520796477792442:=0
def tw9440335405280198229:=0
def tw8378231245683476903:=0
def tw10307134274338136820:=0
def tw4084551016298287798:=0
def tw9579146990612826809:=0
def tw17513849169302139035:=0
def tw16195317634938093362:=0
def tw7555012231568281045:=0
def tw13216139593689798910:=0
def tw12309656161061245519:=0
def tw1914151710469823739:=0
def tw16080900185711923162:=0
def tw15238565112256441570:=0
def tw3571994433651745812:=0
def tw10488082347274083009:=0
def tw11592444023857619719:=0
def tw4336888583276008148:=0
def tw8598880633114748988:=0
def tw2498936752891653641:=0
def tw17419157420404185636:=0
def tw2454047821115811365:=0
def tw7737468101229812054:=0
def tw15380361825650202479:=0
def tw6499591948932175725:=0
def tw4325093230586620397:=0
def tw8813403025162221689:=0
def tw5344261188662112203:=0
def tw2320901809368448499:=0
def tw10485165830066000213:=0
def tw14815739100064004862:=0
def tw11204849204459143218:=0
def tw5112765021185522673:=0
def tw9983271713861509099:=0
def tw17704803861638876864:=0
def tw7046991123882514390:=0
def tw4384851023878228480:=0
def tw4787196506726181715:=0
def tw18146446635176080206:=0
def tw181728298170125298:=0
def tw3832146419540023989:=0
def tw1131599753163054096:=0
def tw8385395964972105076:=0
def tw15594565538828444650:=0
def tw7769115171257635576:=0
def tw16195760959381734958:=0
def tw8496431423654830382:=0
def tw3491436575899102473:=0
def tw11086285952085776383:=0
def tw1897954457992529305:=0
def tw17775092944018396905:=0
def tw11186147512357698277:=0
def tw5396893915990735031:=0
def tw12483640932574615829:=0
def tw13110550412388462986:=0
def tw14269544667069434408:=0
def tw4048175650236130004:=0
def tw3404707425112826666:=0
def tw4912150724146642685:=0
def tw14993443716038398398:=0
def tw1656046372536721084:=0
def tw15730406278053836716:=0
def tw14248758647280790361:=0
def tw3112685840084569315:=0
def tw1188309394309710831:=0
def tw1731742416752026673:=0
def tw10577292842399953386:=0
def tw9624368564861680230:=0
def tw9154203459935168872:=0
def tw6321414746040831975:=0
def tw7828616985531038093:=0
def tw11179846490942935113:=0
def tw7330614788255274301:=0
def tw17124862945884586978:=0
def tw3952557269140785847:=0
def tw14067550969824162815:=0
def tw10588150852500339033:=0
def tw3107076643888917063:=0
def tw12545769637393546294:=0
def tw2064448213648632220:=0
def tw16292689754106936398:=0
def tw17038400860068214531:=0
def tw1433926119169265341:=0
def tw3385130864047436542:=0
def tw15366966793480960457:=0
def tw5037964811935852959:=0
def tw14263705712748269966:=0
def tw7803412266162026768:=0
def tw16305666840698419011:=0
def tw13641616416490304673:=0
def tw18065835191639944774:=0
def tw11844487967479663463:=0
def tw11477219466823241912:=0
def tw13406173504619004298:=0
def tw13307965340464987257:=0
def tw17245821055371656993:=0
def tw16981392121226692989:=0
def tw15726062643791586658:=0
def tw386698056090874786:=0
def tw2970248002078421836:=0
def tw12481671408813480494:=0
def tw6009326054245831949:=0
def tw5275640019497702928:=0
def tw16263602799808549629:=0
def tw176628346813743599:=0
def tw7060405161649720214:=0
def tw9760028787768977283:=0
def tw1711391544469877359:=0
def tw11195499164567434880:=0
def tw2034993188241820951:=0
def tw15286171918495545310:=0
def tw14860138806320756211:=0
def tw17971847059245728322:=0
def tw6427719504282796537:=0
def tw221532559697393620:=0
def tw10933263917690879282:=0
def tw13164318436856805160:=0
def tw5048212168566523765:=0
def tw3904837280223185015:=0
def tw16819784645687808381:=0
def tw11702204697652370079:=0
def tw3915388083950407023:=0
def tw4824562217650906314:=0
def tw17713978724454580707:=0
def tw1131989095731772291:=0
def tw14255123138743824796:=0
def tw2000657704623542195:=0
def tw2285442918016501961:=0
def tw2041836032732089308:=0
def tw6967098818839430724:=0
def tw16190616798847508180:=0
def tw1647678113019507225:=0
def tw17409587913508016177:=0
def tw507907693058628847:=0
def tw1909079030897530304:=0
def tw14375861670969297908:=0
def tw4487329902175229961:=0
def tw18164056843226289014:=0
def tw6821662819662494658:=0
def tw18186315539235022774:=0
def tw8673082271576599588:=0
def tw4674290388269216335:=0
def tw849618562563708770:=0
def tw2133833909370295018:=0
def tw16538099372892412178:=0
def tw7877665225456929032:=0
def tw13857090273403192445:=0
def tw6705086880700290418:=0
def tw10224770622787114634:=0
end PySem.W.Fast
open PySem PySem.W PyProof.Rows
set_option maxRecDepth 100000 in
set_option maxHeartbeats 0 in
theorem PySem.Challenge.cw_unseen_k10_whole_struck_holds : PySem.Challenge.rw_unseen_k10_whole_struck.Holds := by
 w_on; o_law; k_head; (case hw => w_witness2)
 k_fill
 refine K10.walk (l := PySem.Challenge.rw_unseen_k10_whole_struck) rfl rfl (fun w h Y => PySem.W.kIn_of Y) ?F
 case F =>
  intro w mg fa h KX G hmg
  refine' K10.all_mk KX G hmg (L2.fun_m KX G ?_ ?_ ?_ ?_ (fun _ _ _ _ _ _ us hl => match us, hl with | [_], _ => rfl)) (L2.fun_m KX G ?_ ?_ ?_ ?_ (fun _ _ _ _ _ _ us hl => match us, hl with | [_], _ => rfl)) (L2.fun_m KX G ?_ ?_ ?_ ?_ (fun _ _ _ _ _ _ us hl => match us, hl with | [_], _ => rfl)) (L2.fun_m KX G ?_ ?_ ?_ ?_ (fun _ _ _ _ _ _ us hl => match us, hl with | [_], _ => rfl)) (L2.fun_m KX G ?_ ?_ ?_ ?_ (fun _ _ _ _ _ _ us hl => match us, hl with | [_], _ => rfl)) (L2.fun_m KX G ?_ ?_ ?_ ?_ (fun _ _ _ _ _ _ us hl => match us, hl with | [_, _], _ => rfl)) (L2.fun_m KX G ?_ ?_ ?_ ?_ (fun _ _ _ _ _ _ us hl => match us, hl with | [_, _, _], _ => rfl)) (L2.fun_m KX G ?_ ?_ ?_ ?_ (fun _ _ _ _ _ _ us hl => match us, hl with | [_, _, _], _ => rfl)) (L2.fun_m KX G ?_ ?_ ?_ ?_ (fun _ _ _ _ _ _ us hl => match us, hl with | [_, _], _ => rfl)) (L2.fun_m KX G ?_ ?_ ?_ ?_ (fun _ _ _ _ _ _ us hl => match us, hl with | [_, _], _ => rfl)) (L2.fun_m KX G ?_ ?_ ?_ ?_ (fun _ _ _ _ _ _ us hl => match us, hl with | [_, _], _ => rfl)) (L2.fun_m KX G ?_ ?_ ?_ ?_ (fun _ _ _ _ _ _ us hl => match us, hl with | [_, _], _ => rfl)) (L2.fun_m KX G ?_ ?_ ?_ ?_ (fun _ _ _ _ _ _ us hl => match us, hl with | [_, _], _ => rfl)) (L2.fun_m KX G ?_ ?_ ?_ ?_ (fun _ _ _ _ _ _ us hl => match us, hl with | [_, _], _ => rfl)) (L2.fun_m KX G ?_ ?_ ?_ ?_ (fun _ _ _ _ _ _ us hl => match us, hl with | [_, _], _ => rfl)) (L2.fun_m KX G ?_ ?_ ?_ ?_ (fun _ _ _ _ _ _ us hl => match us, hl with | [_, _], _ => rfl)) (L2.fun_m KX G ?_ ?_ ?_ ?_ (fun _ _ _ _ _ _ us hl => match us, hl with | [_, _], _ => rfl)) (L2.fun_m KX G ?_ ?_ ?_ ?_ (fun _ _ _ _ _ _ us hl => match us, hl with | [_, _], _ => rfl)) (L2.fun_m KX G ?_ ?_ ?_ ?_ (fun _ _ _ _ _ _ us hl => match us, hl with | [_], _ => rfl)) (L2.fun_m KX G ?_ ?_ ?_ ?_ (fun _ _ _ _ _ _ us hl => match us, hl with | [_], _ => rfl)) (L2.fun_m KX G ?_ ?_ ?_ ?_ (fun _ _ _ _ _ _ us hl => match us, hl with | [_], _ => rfl)) (L2.fun_m KX G ?_ ?_ ?_ ?_ (fun _ _ _ _ _ _ us hl => match us, hl with | [_, _, _], _ => rfl)) (L2.fun_m KX G ?_ ?_ ?_ ?_ (fun _ _ _ _ _ _ us hl => match us, hl with | [_, _], _ => rfl)) (L2.fun_m KX G ?_ ?_ ?_ ?_ (fun _ _ _ _ _ _ us hl => match us, hl with | [_], _ => rfl)) (L2.fun_m KX G ?_ ?_ ?_ ?_ (fun _ _ _ _ _ _ us hl => match us, hl with | [_, _, _], _ => rfl)) (L2.fun_m KX G ?_ ?_ ?_ ?_ (fun _ _ _ _ _ _ us hl => match us, hl with | [_, _, _], _ => rfl)) (L2.fun_m KX G ?_ ?_ ?_ ?_ (fun _ _ _ _ _ _ us hl => match us, hl with | [_, _, _], _ => rfl)) (L2.fun_m KX G ?_ ?_ ?_ ?_ (fun _ _ _ _ _ _ us hl => match us, hl with | [_], _ => rfl)) (L2.fun_m KX G ?_ ?_ ?_ ?_ (fun _ _ _ _ _ _ us hl => match us, hl with | [_], _ => rfl)) (L2.fun_c ?_ ?_ ?_ ?_ ?_ (fun _ _ _ _ _ _ us hl => match us, hl with | [_, _, _, _], _ => rfl)) (L2.fun_m KX G ?_ ?_ ?_ ?_ (fun _ _ _ _ _ _ us hl => match us, hl with | [_], _ => rfl)) (L2.fun_m KX G ?_ ?_ ?_ ?_ (fun _ _ _ _ _ _ us hl => match us, hl with | [_, _], _ => rfl)) (L2.fun_m KX G ?_ ?_ ?_ ?_ (fun _ _ _ _ _ _ us hl => match us, hl with | [_, _], _ => rfl)) (L2.fun_m KX G ?_ ?_ ?_ ?_ (fun _ _ _ _ _ _ us hl => match us, hl with | [_, _], _ => rfl)) (L2.fun_m KX G ?_ ?_ ?_ ?_ (fun _ _ _ _ _ _ us hl => match us, hl with | [_], _ => rfl)) (L2.fun_m KX G ?_ ?_ ?_ ?_ (fun _ _ _ _ _ _ us hl => match us, hl with | [_, _], _ => rfl)) (L2.fun_m KX G ?_ ?_ ?_ ?_ (fun _ _ _ _ _ _ us hl => match us, hl with | [_], _ => rfl)) (L2.fun_m KX G ?_ ?_ ?_ ?_ (fun _ _ _ _ _ _ us hl => match us, hl with | [_, _], _ => rfl)) (L2.fun_c ?_ ?_ ?_ ?_ ?_ (fun _ _ _ _ _ _ us hl => match us, hl with | [_, _], _ => rfl)) (L2.fun_c ?_ ?_ ?_ ?_ ?_ (fun _ _ _ _ _ _ us hl => match us, hl with | [_, _], _ => rfl)) (L2.fun_m KX G ?_ ?_ ?_ ?_ (fun _ _ _ _ _ _ us hl => match us, hl with | [_, _], _ => rfl)) (L2.fun_m KX G ?_ ?_ ?_ ?_ (fun _ _ _ _ _ _ us hl => match us, hl with | [_, _], _ => rfl)) (L2.fun_m KX G ?_ ?_ ?_ ?_ (fun _ _ _ _ _ _ us hl => match us, hl with | [_, _], _ => rfl)) (L2.fun_m KX G ?_ ?_ ?_ ?_ (fun _ _ _ _ _ _ us hl => match us, hl with | [_, _, _], _ => rfl)) (L2.fun_m KX G ?_ ?_ ?_ ?_ (fun _ _ _ _ _ _ us hl => match us, hl with | [_, _, _], _ => rfl)) (L2.fun_m KX G ?_ ?_ ?_ ?_ (fun _ _ _ _ _ _ us hl => match us, hl with | [_], _ => rfl)) (L2.fun_m KX G ?_ ?_ ?_ ?_ (fun _ _ _ _ _ _ us hl => match us, hl with | [_, _], _ => rfl)) (L2.fun_c ?_ ?_ ?_ ?_ ?_ (fun _ _ _ _ _ _ us hl => match us, hl with | [_, _, _], _ => rfl)) (L2.fun_m KX G ?_ ?_ ?_ ?_ (fun _ _ _ _ _ _ us hl => match us, hl with | [_, _], _ => rfl)) (L2.fun_m KX G ?_ ?_ ?_ ?_ (fun _ _ _ _ _ _ us hl => match us, hl with | [_, _], _ => rfl)) (L2.fun_m KX G ?_ ?_ ?_ ?_ (fun _ _ _ _ _ _ us hl => match us, hl with | [_], _ => rfl)) (L2.fun_m KX G ?_ ?_ ?_ ?_ (fun _ _ _ _ _ _ us hl => match us, hl with | [_, _], _ => rfl)) (L2.fun_m KX G ?_ ?_ ?_ ?_ (fun _ _ _ _ _ _ us hl => match us, hl with | [_, _, _], _ => rfl)) (L2.fun_m KX G ?_ ?_ ?_ ?_ (fun _ _ _ _ _ _ us hl => match us, hl with | [_, _], _ => rfl)) (L2.fun_m KX G ?_ ?_ ?_ ?_ (fun _ _ _ _ _ _ us hl => match us, hl with | [_, _], _ => rfl)) (L2.fun_m KX G ?_ ?_ ?_ ?_ (fun _ _ _ _ _ _ us hl => match us, hl with | [_, _, _], _ => rfl)) (L2.fun_m KX G ?_ ?_ ?_ ?_ (fun _ _ _ _ _ _ us hl => match us, hl with | [_, _], _ => rfl)) (L2.fun_m KX G ?_ ?_ ?_ ?_ (fun _ _ _ _ _ _ us hl => match us, hl with | [_, _, _], _ => rfl)) ?_ ?_ ?_ ?_ ?aC_Solved ?_ ?_ ?_ ?_ ?_ ?_ ?_ ?_ ?_ ?aC_Beaten ?_ ?_ ?_ ?_ ?_ ?_ ?_ ?aC_Best ?_ ?_ ?_ ?_ ?_ ?_ ?_ ?aC_Settled ?_ ?_ ?_ ?_ ?_ ?_ ?_ ?_ ?_ ?_ ?_ ?_ ?_ ?_ ?_ ?_ ?_ ?_ ?_ ?_ ?_ ?_ ?_ ?_ ?_ ?_ ?_ ?_ ?_ ?_ ?_ ?_ ?_ ?_ ?_
  (case aC_Solved => k_is)
  (case aC_Beaten => k_is)
  (case aC_Best => k_is)
  (case aC_Settled => k_is)
  all_goals (try (first | k_is | kit_is))
#print axioms PySem.Challenge.cw_unseen_k10_whole_struck_holds
